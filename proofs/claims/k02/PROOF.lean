import PyProof.Rows.All
import Wide.All
import OpenK.AllK
import Wide.FinOn
import PySem.Challenge.RW_partclones_k02_edits_refused
import HandS.ForMost
import HandS.Evl
import HandS.Flow
import HandS.Style
import HandS.RevRange
import HandS.Conv
import HandS.More
import HandS.IsInst
import HandS.Iter
import PyProof.AutoSeq1
import HandS.TupAny
import HandS.HotCalls
import HandS.ForSpec
import HandS.ExcIs
set_option Elab.async false
set_option linter.all false
set_option maxRecDepth 100000
set_option maxHeartbeats 4000000
namespace HL
open PySem PySem.Spec PyProof.Rows L2
open Evl (Ex)

abbrev Sta := L2.St
def keyD : Key → PyData
  | .inl i => .int i
  | .inr x => .str x
mutual
inductive Dn (H : Hp) : V → PyData → Prop
  | non : Dn H .non .none
  | bl (b : Bool) : Dn H (.bl b) (.bool b)
  | int (i : Int) : Dn H (.int i) (.int i)
  | str (x : Str) : Dn H (.str x) (.str x)
  | lst {a : Addr} {xs : List V} {ds : List PyData} : H a = some (.lst xs) → DnA H xs ds → Dn H (.ref a) (.list ds)
  | tup {a : Addr} {xs : List V} {ds : List PyData} : H a = some (.tup xs) → DnA H xs ds → Dn H (.ref a) (.tuple ds)
  | dct {a : Addr} {xs : List (Key × V)} {ds : List (PyData × PyData)} : H a = some (.dK xs) → DnK H xs ds → Dn H (.ref a) (.dict ds)
inductive DnA (H : Hp) : List V → List PyData → Prop
  | nil : DnA H [] []
  | cons {v : V} {d : PyData} {vs : List V} {ds : List PyData} : Dn H v d → DnA H vs ds → DnA H (v :: vs) (d :: ds)
inductive DnK (H : Hp) : List (Key × V) → List (PyData × PyData) → Prop
  | nil : DnK H [] []
  | cons {k : Key} {v : V} {d : PyData} {vs : List (Key × V)} {ds : List (PyData × PyData)} : Dn H v d → DnK H vs ds → DnK H ((k, v) :: vs) ((keyD k, d) :: ds)
end
mutual
theorem Dn.mono {H H' : Hp} (e : Ex H H') : ∀ {v : V} {d : PyData}, Dn H v d → Dn H' v d
  | _, _, .non => .non
  | _, _, .bl b => .bl b
  | _, _, .int i => .int i
  | _, _, .str x => .str x
  | _, _, .lst h r => .lst (e _ _ h) (DnA.mono e r)
  | _, _, .tup h r => .tup (e _ _ h) (DnA.mono e r)
  | _, _, .dct h r => .dct (e _ _ h) (DnK.mono e r)
theorem DnA.mono {H H' : Hp} (e : Ex H H') : ∀ {vs : List V} {ds : List PyData}, DnA H vs ds → DnA H' vs ds
  | _, _, .nil => .nil
  | _, _, .cons h r => .cons (Dn.mono e h) (DnA.mono e r)
theorem DnK.mono {H H' : Hp} (e : Ex H H') : ∀ {vs : List (Key × V)} {ds : List (PyData × PyData)}, DnK H vs ds → DnK H' vs ds
  | _, _, .nil => .nil
  | _, _, .cons h r => .cons (Dn.mono e h) (DnK.mono e r)
end
mutual
def flatD : PyData → Bool
  | .dict _ => false
  | .list ds => flatDs ds
  | .tuple ds => flatDs ds
  | _ => true
def flatDs : List PyData → Bool
  | [] => true
  | d :: ds => flatD d && flatDs ds
end
mutual
/-- data without dicts, in the layer's own words -/
theorem Dn.dp {K : PySem.W.Frag} {H : Hp} : ∀ {v : V} {d : PyData}, Dn H v d → flatD d = true → Dp K H v d
  | _, _, .non, _ => .non
  | _, _, .bl b, _ => .bl b
  | _, _, .int i, _ => .int i
  | _, _, .str x, _ => .str x
  | _, _, .lst h r, e => .lst (Or.inl (Or.inl h)) (DnA.dp r (by simpa [flatD] using e))
  | _, _, .tup h r, e => .tup (Or.inl (Or.inl h)) (DnA.dp r (by simpa [flatD] using e))
theorem DnA.dp {K : PySem.W.Frag} {H : Hp} : ∀ {vs : List V} {ds : List PyData}, DnA H vs ds → flatDs ds = true → DpAll K H vs ds
  | _, _, .nil, _ => .nil
  | _, _, .cons h r, e => .cons (Dn.dp h (by simp [flatDs] at e; exact e.1)) (DnA.dp r (by simp [flatDs] at e; exact e.2))
end
theorem DnA.length {H : Hp} : ∀ {vs : List V} {ds : List PyData}, DnA H vs ds → vs.length = ds.length
  | _, _, .nil => rfl
  | _, _, .cons _ r => by simp [DnA.length r]
theorem DnA.get {H : Hp} : ∀ {vs : List V} {ds : List PyData} {i : Nat} {d : PyData}, DnA H vs ds → ds[i]? = some d → ∃ v, vs[i]? = some v ∧ Dn H v d
  | _, _, _, _, .nil, e => by simp at e
  | _, _, 0, _, .cons h r, e => by simp at e; subst e; exact ⟨_, rfl, h⟩
  | _, _, i + 1, d, .cons h r, e => by
    obtain ⟨v, h1, h2⟩ := DnA.get (i := i) (d := d) r (by simpa using e)
    exact ⟨v, by simpa using h1, h2⟩
theorem DnA.get' {H : Hp} : ∀ {vs : List V} {ds : List PyData} {i : Nat} {v : V}, DnA H vs ds → vs[i]? = some v → ∃ d, ds[i]? = some d ∧ Dn H v d
  | _, _, _, _, .nil, e => by simp at e
  | _, _, 0, _, .cons h r, e => by simp at e; subst e; exact ⟨_, rfl, h⟩
  | _, _, i + 1, d, .cons h r, e => by
    obtain ⟨v, h1, h2⟩ := DnA.get' (i := i) (v := d) r (by simpa using e)
    exact ⟨v, by simpa using h1, h2⟩
theorem DnA.append {H : Hp} : ∀ {vs ws : List V} {ds es : List PyData}, DnA H vs ds → DnA H ws es → DnA H (vs ++ ws) (ds ++ es)
  | _, _, _, _, .nil, s => s
  | _, _, _, _, .cons h r, s => .cons h (DnA.append r s)
theorem DnA.one {H : Hp} {v : V} {d : PyData} (h : Dn H v d) : DnA H [v] [d] := .cons h .nil
theorem DnA.drop {H : Hp} : ∀ {vs : List V} {ds : List PyData} (n : Nat), DnA H vs ds → DnA H (vs.drop n) (ds.drop n)
  | _, _, 0, h => h
  | _, _, _ + 1, .nil => .nil
  | _, _, n + 1, .cons _ r => DnA.drop n r
theorem DnA.take {H : Hp} : ∀ {vs : List V} {ds : List PyData} (n : Nat), DnA H vs ds → DnA H (vs.take n) (ds.take n)
  | _, _, 0, _ => .nil
  | _, _, _ + 1, .nil => .nil
  | _, _, n + 1, .cons h r => .cons h (DnA.take n r)
theorem DnA.reverse {H : Hp} : ∀ {vs : List V} {ds : List PyData}, DnA H vs ds → DnA H vs.reverse ds.reverse
  | _, _, .nil => .nil
  | _, _, .cons h r => by simpa using DnA.append (DnA.reverse r) (.one h)
theorem DnA.set {H : Hp} {v : V} {d : PyData} (h : Dn H v d) : ∀ {vs : List V} {ds : List PyData} (i : Nat), DnA H vs ds → DnA H (vs.set i v) (ds.set i d)
  | _, _, _, .nil => .nil
  | _, _, 0, .cons _ r => .cons h r
  | _, _, i + 1, .cons h' r => .cons h' (DnA.set h i r)
theorem DnA.replicate {H : Hp} {v : V} {d : PyData} (h : Dn H v d) : ∀ n : Nat, DnA H (List.replicate n v) (List.replicate n d)
  | 0 => .nil
  | n + 1 => .cons h (DnA.replicate h n)
theorem DnA.flatten_rep {H : Hp} {vs : List V} {ds : List PyData} (h : DnA H vs ds) : ∀ n : Nat, DnA H (List.replicate n vs).flatten (List.replicate n ds).flatten
  | 0 => .nil
  | n + 1 => by
    rw [List.replicate_succ, List.replicate_succ, List.flatten_cons, List.flatten_cons]
    exact h.append (DnA.flatten_rep h n)
theorem DnA.eraseIdx {H : Hp} : ∀ {vs : List V} {ds : List PyData} (i : Nat), DnA H vs ds → DnA H (vs.eraseIdx i) (ds.eraseIdx i)
  | _, _, _, .nil => .nil
  | _, _, 0, .cons _ r => r
  | _, _, i + 1, .cons h' r => .cons h' (DnA.eraseIdx i r)
theorem DnA.strs {H : Hp} : ∀ {vs : List V} {xs : List Str}, DnA H vs (xs.map .str) → vs = xs.map .str
  | _, [], .nil => rfl
  | _, x :: xs, .cons h r => by cases h; simp [DnA.strs r]
theorem DnA.ints {H : Hp} : ∀ {vs : List V} {xs : List Int}, DnA H vs (xs.map .int) → vs = xs.map .int
  | _, [], .nil => rfl
  | _, x :: xs, .cons h r => by cases h; simp [DnA.ints r]
theorem DnA.of_strs {H : Hp} : ∀ (xs : List Str), DnA H (xs.map .str) (xs.map .str)
  | [] => .nil
  | x :: xs => .cons (.str x) (DnA.of_strs xs)
theorem DnA.of_ints {H : Hp} : ∀ (xs : List Int), DnA H (xs.map .int) (xs.map .int)
  | [] => .nil
  | x :: xs => .cons (.int x) (DnA.of_ints xs)

/-! ### heaps with some addresses hidden -/
abbrev Hd := Addr → Prop
open Classical in
noncomputable def hid (o : Hd) (H : Hp) : Hp := fun b => if o b then none else H b
theorem hid_at {o : Hd} {H : Hp} {b : Addr} (h : ¬ o b) : hid o H b = H b := by unfold hid; rw [if_neg h]
theorem hid_in {o : Hd} {H : Hp} {b : Addr} (h : o b) : hid o H b = none := by unfold hid; rw [if_pos h]
theorem hid_ex {o : Hd} {H : Hp} : Ex (hid o H) H := fun a u h => by
  unfold hid at h
  split at h
  · cases h
  · exact h
theorem hid_of {o : Hd} {H : Hp} {a : Addr} {u : HO} (h : hid o H a = some u) : ¬ o a ∧ H a = some u := by
  unfold hid at h
  split at h
  · cases h
  · exact ⟨by assumption, h⟩
theorem hid_mono {o : Hd} {H H' : Hp} (e : Ex H H') : Ex (hid o H) (hid o H') := fun a u h => by
  obtain ⟨h1, h2⟩ := hid_of h
  rw [hid_at h1]; exact e _ _ h2
theorem hid_sub {o o' : Hd} {H : Hp} (s : ∀ a, o' a → o a) : Ex (hid o H) (hid o' H) := fun a u h => by
  obtain ⟨h1, h2⟩ := hid_of h
  rw [hid_at fun z => h1 (s a z)]; exact h2
theorem hid_sub_mono {o o' : Hd} {H H' : Hp} (s : ∀ a, o' a → o a) (e : Ex H H') : Ex (hid o H) (hid o' H') := (hid_sub s).trans (hid_mono e)
theorem hid_none {H : Hp} : hid (fun _ => False) H = H := by funext b; exact hid_at id
def Live (o : Hd) (H : Hp) : Prop := ∀ a, o a → H a ≠ none
theorem Live.mono {o : Hd} {H H' : Hp} (l : Live o H) (e : Ex H H') : Live o H' := fun a h z => by
  cases q : H a with
  | none => exact l a h q
  | some u => rw [e a u q] at z; cases z
theorem Live.fresh {o : Hd} {H : Hp} {p : Addr} (l : Live o H) (h : H p = none) : ¬ o p := fun z => l p z h
abbrev o0 : Hd := fun _ => False
theorem live0 {H : Hp} : Live o0 H := fun _ h => h.elim
theorem Dn.up {H : Hp} {o : Hd} {v : V} {d : PyData} (h : Dn (hid o H) v d) : Dn H v d := h.mono hid_ex
theorem DnA.up {H : Hp} {o : Hd} {vs : List V} {ds : List PyData} (h : DnA (hid o H) vs ds) : DnA H vs ds := h.mono hid_ex
theorem Dn.to0 {H : Hp} {o : Hd} {v : V} {d : PyData} (h : Dn (hid o H) v d) : Dn (hid o0 H) v d := h.mono (hid_sub fun _ z => z.elim)
theorem Dn.of0 {H : Hp} {v : V} {d : PyData} (h : Dn (hid o0 H) v d) : Dn H v d := h.mono hid_ex
theorem hid_upd_new {o : Hd} {H : Hp} {p : Addr} {u : HO} (h : H p = none) : Ex (hid o H) (hid o (upd H p u)) := hid_mono (Evl.Ex.new h)
/-- a hidden object may be rewritten -/
theorem hid_upd_in {o : Hd} {H : Hp} {p : Addr} {u : HO} (h : o p) : hid o (upd H p u) = hid o H := by
  funext b
  by_cases q : o b
  · rw [hid_in q, hid_in q]
  · rw [hid_at q, hid_at q, upd_ne (fun z => q (by rw [z]; exact h))]
theorem at_new {o : Hd} {H : Hp} {p : Addr} {u : HO} (l : Live o H) (h : H p = none) : hid o (upd H p u) p = some u := by
  rw [hid_at (l.fresh h), upd_same]

/-! ### readings: which data comes out, with nothing changed -/
def Ev (o : Hd) (te : TE) (σ : Sta) (H : Hp) (d : PyData) : Prop := ∀ H1, Ex H H1 → ∀ Q : VK, (∀ v H2, Ex H1 H2 → Dn (hid o H2) v d → Q v H2) → te σ H1 Q
/-- a new list, hidden from what it holds -/
def EvN (o : Hd) (te : TE) (σ : Sta) (H : Hp) (ds : List PyData) : Prop := ∀ H1, Ex H H1 → ∀ Q : VK, (∀ p vs H2, H1 p = none → Ex H1 H2 → H2 p = some (.lst vs) → DnA (hid (fun a => o a ∨ a = p) H2) vs ds → Q (.ref p) H2) → te σ H1 Q
def EvT (tt : TT) (σ : Sta) (H : Hp) (b : Bool) : Prop := ∀ H1, Ex H H1 → ∀ Q : Bool → Hp → Prop, (∀ H2, Ex H1 H2 → Q b H2) → tt σ H1 Q
def EvA (o : Hd) (ta : TA) (σ : Sta) (H : Hp) (ds : List PyData) : Prop := ∀ H1, Ex H H1 → ∀ Q : List V → Hp → Prop, (∀ vs H2, Ex H1 H2 → DnA (hid o H2) vs ds → Q vs H2) → ta σ H1 Q
def EvO (to : TO) (σ : Sta) (H : Hp) (i : Option Int) : Prop := ∀ H1, Ex H H1 → ∀ Q : Option Int → Hp → Prop, (∀ H2, Ex H1 H2 → Q i H2) → to σ H1 Q

section
variable {K : PySem.W.Frag} {o o' : Hd} {σ : Sta} {H H' : Hp} {ta tb te tx : TE} {t u : TT} {d e : PyData} {ds es : List PyData} {r : R2}
theorem Ev.mono (x : Ex H H') (h : Ev o te σ H d) : Ev o te σ H' d := fun H1 a Q q => h H1 (x.trans a) Q q
theorem EvN.mono (x : Ex H H') (h : EvN o te σ H ds) : EvN o te σ H' ds := fun H1 a Q q => h H1 (x.trans a) Q q
theorem EvT.mono {b : Bool} (x : Ex H H') (h : EvT t σ H b) : EvT t σ H' b := fun H1 a Q q => h H1 (x.trans a) Q q
theorem EvA.mono {ta : TA} (x : Ex H H') (h : EvA o ta σ H ds) : EvA o ta σ H' ds := fun H1 a Q q => h H1 (x.trans a) Q q
theorem Ev.weak (s : ∀ a, o' a → o a) (h : Ev o te σ H d) : Ev o' te σ H d := fun H1 a Q q => h H1 a Q fun v H2 e2 hv => q v H2 e2 (hv.mono (hid_sub s))
theorem Ev.w0 (h : Ev o te σ H d) : Ev o0 te σ H d := h.weak fun _ z => z.elim
theorem Ev.is (h : Ev o te σ H d) (x : d = e) : Ev o te σ H e := x ▸ h
theorem EvN.is (h : EvN o te σ H ds) (x : ds = es) : EvN o te σ H es := x ▸ h
theorem EvT.is {a b : Bool} (h : EvT t σ H a) (x : a = b) : EvT t σ H b := x ▸ h
theorem Ev.go {Q : VK} (h : Ev o te σ H d) (k : ∀ v H2, Ex H H2 → Dn (hid o H2) v d → Q v H2) : te σ H Q := h H (Ex.refl H) Q k
/-- data without objects -/
inductive Sc : PyData → Prop
  | non : Sc .none
  | bl (b : Bool) : Sc (.bool b)
  | int (i : Int) : Sc (.int i)
  | str (x : Str) : Sc (.str x)
theorem Dn.sc (s : Sc d) {v : V} (h : Dn H v d) : Dn H' v d := by
  cases s <;> cases h <;> constructor
theorem Ev.sc (h : Ev o te σ H d) (s : Sc d) : Ev o' te σ H d := fun H1 a Q q => h H1 a Q fun v H2 e2 hv => q v H2 e2 (Dn.sc s hv)
theorem EvN.ev (l : Live o H) (h : EvN o te σ H ds) : Ev o te σ H (.list ds) := fun H1 a Q q => h H1 a Q fun p vs H2 np e2 hp hv =>
  q _ H2 e2 (.lst (by rw [hid_at ((l.mono a).fresh np)]; exact hp) (hv.mono (hid_sub fun _ z => .inl z)))
theorem EvN.ev0 (h : EvN o te σ H ds) : Ev o0 te σ H (.list ds) := fun H1 a Q q => h H1 a Q fun p vs H2 np e2 hp hv =>
  q _ H2 e2 (.lst (by rw [hid_at id]; exact hp) (hv.mono (hid_sub fun _ z => z.elim)))

/-! constants and operators -/
theorem ev_int {i : Int} : Ev o (tC (.int i)) σ H (.int i) := fun H1 _ _ q => q _ H1 (Ex.refl H1) (.int i)
theorem ev_str {x : Str} : Ev o (tC (.str x)) σ H (.str x) := fun H1 _ _ q => q _ H1 (Ex.refl H1) (.str x)
theorem ev_bl {b : Bool} : Ev o (tC (.bl b)) σ H (.bool b) := fun H1 _ _ q => q _ H1 (Ex.refl H1) (.bl b)
theorem ev_non : Ev o (tC .non) σ H .none := fun H1 _ _ q => q _ H1 (Ex.refl H1) .non
theorem ev_I0 {g : Int → Int → Int} {i j : Int} (ha : Ev o0 ta σ H (.int i)) (hb : Ev o0 tb σ H (.int j)) : Ev o (tOp (rI0 fun i j => .int (g i j)) ta tb) σ H (.int (g i j)) := fun H1 a Q q =>
  ha H1 a _ fun v H2 e2 hv => hb H2 (a.trans e2) _ fun w H3 e3 hw => by
    cases hv; cases hw
    exact ⟨i, j, rfl, rfl, q _ H3 (e2.trans e3) (.int _)⟩
theorem ev_B0 {g : Int → Int → Bool} {i j : Int} (ha : Ev o0 ta σ H (.int i)) (hb : Ev o0 tb σ H (.int j)) : Ev o (tOp (rI0 fun i j => .bl (g i j)) ta tb) σ H (.bool (g i j)) := fun H1 a Q q =>
  ha H1 a _ fun v H2 e2 hv => hb H2 (a.trans e2) _ fun w H3 e3 hw => by
    cases hv; cases hw
    exact ⟨i, j, rfl, rfl, q _ H3 (e2.trans e3) (.bl _)⟩
theorem ev_IC {C : Int → Int → Prop} {g : Int → Int → Int} {i j : Int} (ha : Ev o0 ta σ H (.int i)) (hb : Ev o0 tb σ H (.int j)) (hc : C i j) : Ev o (tOp (rI C fun i j => .int (g i j)) ta tb) σ H (.int (g i j)) := fun H1 a Q q =>
  ha H1 a _ fun v H2 e2 hv => hb H2 (a.trans e2) _ fun w H3 e3 hw => by
    cases hv; cases hw
    exact ⟨i, j, rfl, rfl, hc, q _ H3 (e2.trans e3) (.int _)⟩
theorem ev_neg {i : Int} (ha : Ev o0 ta σ H (.int i)) : Ev o (tUn (rU fun i => .int (-i)) ta) σ H (.int (-i)) := fun H1 a Q q =>
  ha H1 a _ fun v H2 e2 hv => by
    cases hv
    exact ⟨i, rfl, q _ H2 e2 (.int _)⟩
/-- == of flat values of one kind, or with None -/
def scV : PyData → V
  | .none => .non
  | .bool b => .bl b
  | .int i => .int i
  | .str x => .str x
  | _ => .non
theorem Dn.scV {v : V} (s : Sc d) (h : Dn H v d) : v = scV d := by cases s <;> cases h <;> rfl
theorem ev_eq (sd : Sc d) (se : Sc e) (ha : Ev o0 ta σ H d) (hb : Ev o0 tb σ H e) (hs : scal (scV d) (scV e) = true) : Ev o (tOp rEq ta tb) σ H (.bool (decide (scV d = scV e))) := fun H1 a Q q =>
  ha H1 a _ fun v H2 e2 hv => hb H2 (a.trans e2) _ fun w H3 e3 hw => by
    rw [hv.scV sd, hw.scV se]
    exact ⟨hs, q _ H3 (e2.trans e3) (.bl _)⟩
theorem ev_ne (sd : Sc d) (se : Sc e) (ha : Ev o0 ta σ H d) (hb : Ev o0 tb σ H e) (hs : scal (scV d) (scV e) = true) : Ev o (tOp rNe ta tb) σ H (.bool (!decide (scV d = scV e))) := fun H1 a Q q =>
  ha H1 a _ fun v H2 e2 hv => hb H2 (a.trans e2) _ fun w H3 e3 hw => by
    rw [hv.scV sd, hw.scV se]
    exact ⟨hs, q _ H3 (e2.trans e3) (.bl _)⟩
theorem ev_eqS {x y : Str} (ha : Ev o0 ta σ H (.str x)) (hb : Ev o0 tb σ H (.str y)) : Ev o (tOp rEq ta tb) σ H (.bool (decide (x = y))) :=
  (ev_eq (.str x) (.str y) ha hb rfl).is (by simp [scV])
theorem ev_neS {x y : Str} (ha : Ev o0 ta σ H (.str x)) (hb : Ev o0 tb σ H (.str y)) : Ev o (tOp rNe ta tb) σ H (.bool (!decide (x = y))) :=
  (ev_ne (.str x) (.str y) ha hb rfl).is (by simp [scV])
theorem ev_eqI {x y : Int} (ha : Ev o0 ta σ H (.int x)) (hb : Ev o0 tb σ H (.int y)) : Ev o (tOp rEq ta tb) σ H (.bool (decide (x = y))) :=
  (ev_eq (.int x) (.int y) ha hb rfl).is (by simp [scV])
theorem ev_neI {x y : Int} (ha : Ev o0 ta σ H (.int x)) (hb : Ev o0 tb σ H (.int y)) : Ev o (tOp rNe ta tb) σ H (.bool (!decide (x = y))) :=
  (ev_ne (.int x) (.int y) ha hb rfl).is (by simp [scV])
theorem ev_eqB {x y : Bool} (ha : Ev o0 ta σ H (.bool x)) (hb : Ev o0 tb σ H (.bool y)) : Ev o (tOp rEq ta tb) σ H (.bool (decide (x = y))) :=
  (ev_eq (.bl x) (.bl y) ha hb rfl).is (by simp [scV])
theorem ev_neB {x y : Bool} (ha : Ev o0 ta σ H (.bool x)) (hb : Ev o0 tb σ H (.bool y)) : Ev o (tOp rNe ta tb) σ H (.bool (!decide (x = y))) :=
  (ev_ne (.bl x) (.bl y) ha hb rfl).is (by simp [scV])
/-- x is None -/
def isNoneD : PyData → Bool
  | .none => true
  | _ => false
theorem ev_isN (ha : Ev o0 ta σ H d) : Ev o (tOp (fun x y H Q => y = .non ∧ Q (.bl (decide (x = .non))) H) ta (tC .non)) σ H (.bool (isNoneD d)) := fun H1 a Q q =>
  ha H1 a _ fun v H2 e2 hv => ⟨rfl, by
    have z : decide (v = V.non) = (isNoneD d) := by cases hv <;> rfl
    rw [z]; exact q _ H2 e2 (.bl _)⟩
theorem ev_notN (ha : Ev o0 ta σ H d) : Ev o (tOp (fun x y H Q => y = .non ∧ Q (.bl (!decide (x = .non))) H) ta (tC .non)) σ H (.bool (!(isNoneD d))) := fun H1 a Q q =>
  ha H1 a _ fun v H2 e2 hv => ⟨rfl, by
    have z : decide (v = V.non) = (isNoneD d) := by cases hv <;> rfl
    rw [z]; exact q _ H2 e2 (.bl _)⟩
/-- == of data -/
theorem ev_eqD {b : Bool} (ha : Ev o0 ta σ H d) (hb : Ev o0 tb σ H e) (fd : flatD d = true) (fe : flatD e = true) (sd : SeqAt.shaped d = true) (se : SeqAt.shaped e = true) (h : PyData.eqv d e = b) : Ev o (tOp (rEqD K) ta tb) σ H (.bool b) := fun H1 a Q q =>
  ha H1 a _ fun v H2 e2 hv => hb H2 (a.trans e2) _ fun w H3 e3 hw =>
    ⟨d, e, (hv.up.mono e3).dp fd, hw.up.dp fe, sd, se, by rw [h]; exact q _ H3 (e2.trans e3) (.bl _)⟩
theorem ev_neD {b : Bool} (ha : Ev o0 ta σ H d) (hb : Ev o0 tb σ H e) (fd : flatD d = true) (fe : flatD e = true) (sd : SeqAt.shaped d = true) (se : SeqAt.shaped e = true) (h : PyData.eqv d e = b) : Ev o (tOp (rNeD K) ta tb) σ H (.bool !b) := fun H1 a Q q =>
  ha H1 a _ fun v H2 e2 hv => hb H2 (a.trans e2) _ fun w H3 e3 hw =>
    ⟨d, e, (hv.up.mono e3).dp fd, hw.up.dp fe, sd, se, by rw [h]; exact q _ H3 (e2.trans e3) (.bl _)⟩

/-! tests -/
theorem et_test {b : Bool} (h : Ev o0 te σ H (.bool b)) : EvT (tTest te) σ H b := fun H1 a _ q => h H1 a _ fun v H2 e2 hv => by cases hv; exact ⟨b, rfl, q H2 e2⟩
theorem et_B {b : Bool} (h : Ev o0 te σ H (.bool b)) : EvT (tB te) σ H b := fun H1 a _ q => h H1 a _ fun v H2 e2 hv => by cases hv; exact ⟨b, rfl, q H2 e2⟩
theorem et_and {a b : Bool} (h1 : EvT t σ H a) (h2 : a = true → EvT u σ H b) : EvT (tAnd t u) σ H (a && b) := fun H1 x Q q => h1 H1 x _ fun H2 e2 => by
  cases a with
  | true => rw [if_pos rfl]; exact h2 rfl H2 (x.trans e2) Q fun H3 e3 => q H3 (e2.trans e3)
  | false => rw [if_neg Bool.false_ne_true]; exact q H2 e2
theorem et_or {a b : Bool} (h1 : EvT t σ H a) (h2 : a = false → EvT u σ H b) : EvT (tOr t u) σ H (a || b) := fun H1 x Q q => h1 H1 x _ fun H2 e2 => by
  cases a with
  | true => rw [if_pos rfl]; exact q H2 e2
  | false => rw [if_neg Bool.false_ne_true]; exact h2 rfl H2 (x.trans e2) Q fun H3 e3 => q H3 (e2.trans e3)
theorem et_not {a : Bool} (h1 : EvT t σ H a) : EvT (tNot t) σ H (!a) := fun H1 x _ q => h1 H1 x _ fun H2 e2 => q H2 e2
theorem ev_andV {a b : Bool} (h1 : Ev o0 ta σ H (.bool a)) (h2 : a = true → Ev o0 tb σ H (.bool b)) : Ev o (tAndV ta tb) σ H (.bool (a && b)) := fun H1 x Q q => h1 H1 x _ fun v H2 e2 hv => by
  cases hv
  refine ⟨a, rfl, ?_⟩
  cases a with
  | true => rw [if_pos rfl]; exact h2 rfl H2 (x.trans e2) Q fun w H3 e3 hw => q w H3 (e2.trans e3) (Dn.sc (.bl _) hw)
  | false => rw [if_neg Bool.false_ne_true]; exact q _ H2 e2 (.bl _)
theorem ev_orV {a b : Bool} (h1 : Ev o0 ta σ H (.bool a)) (h2 : a = false → Ev o0 tb σ H (.bool b)) : Ev o (tOrV ta tb) σ H (.bool (a || b)) := fun H1 x Q q => h1 H1 x _ fun v H2 e2 hv => by
  cases hv
  refine ⟨a, rfl, ?_⟩
  cases a with
  | true => rw [if_pos rfl]; exact q _ H2 e2 (.bl _)
  | false => rw [if_neg Bool.false_ne_true]; exact h2 rfl H2 (x.trans e2) Q fun w H3 e3 hw => q w H3 (e2.trans e3) (Dn.sc (.bl _) hw)
theorem ev_notV {a : Bool} (h1 : Ev o0 ta σ H (.bool a)) : Ev o (tNotV ta) σ H (.bool (!a)) := fun H1 x _ q => h1 H1 x _ fun v H2 e2 hv => by cases hv; exact ⟨a, rfl, q _ H2 e2 (.bl _)⟩
theorem ev_if {b : Bool} (h : EvT t σ H b) (h1 : b = true → Ev o ta σ H d) (h2 : b = false → Ev o tb σ H e) : Ev o (tIf t ta tb) σ H (if b = true then d else e) := fun H1 x Q q => h H1 x _ fun H2 e2 => by
  cases b with
  | true => rw [if_pos rfl]; rw [if_pos rfl] at q; exact h1 rfl H2 (x.trans e2) Q fun v H3 e3 hv => q v H3 (e2.trans e3) hv
  | false => rw [if_neg Bool.false_ne_true]; rw [if_neg Bool.false_ne_true] at q; exact h2 rfl H2 (x.trans e2) Q fun v H3 e3 hv => q v H3 (e2.trans e3) hv

/-! arguments, displays -/
theorem ea_nil : EvA o tNil σ H [] := fun H1 _ _ q => q _ H1 (Ex.refl H1) .nil
theorem ea_cons {tr : TA} (h : Ev o ta σ H d) (hr : EvA o tr σ H ds) : EvA o (tCons ta tr) σ H (d :: ds) := fun H1 a _ q =>
  h H1 a _ fun v H2 e2 hv => hr H2 (a.trans e2) _ fun vs H3 e3 hvs => q _ H3 (e2.trans e3) (.cons (hv.mono (hid_mono e3)) hvs)
theorem ev_tup {tr : TA} (l : Live o H) (h : EvA o tr σ H ds) (hz : ds.length ≤ 100000) : Ev o (tTup tr) σ H (.tuple ds) := fun H1 a _ q =>
  h H1 a _ fun vs H2 e2 hv => ⟨Evl.sz_of (by rw [hv.length]; exact hz), fun p np => q _ _ (e2.trans (Evl.Ex.new np)) (.tup (at_new ((l.mono a).mono e2) np) (hv.mono (hid_upd_new np)))⟩
theorem en_lst {tr : TA} (h : EvA o tr σ H ds) (hz : ds.length ≤ 100000) : EvN o (tLst tr) σ H ds := fun H1 a _ q =>
  h H1 a _ fun vs H2 e2 hv => ⟨Evl.sz_of (by rw [hv.length]; exact hz), fun p np => q p vs _ (Evl.fresh_back e2 np) (e2.trans (Evl.Ex.new np)) upd_same (hv.mono (fun b u hb => by
    obtain ⟨h1, h2⟩ := hid_of hb
    have nb : b ≠ p := ne_of_none h2 np
    rw [hid_at (fun z => z.elim h1 nb), upd_ne nb]; exact h2))⟩
end
end HL
namespace HL
open PySem PySem.Spec PyProof.Rows L2
open Evl (Ex)

/-! ### the state of a body -/
/-- what a slot holds: nothing that is known; a value (f: of the body's own making); a list that the body may change -/
inductive Ent where
  | no
  | va (f : Bool) (d : PyData)
  | ow (f : Bool) (a : Addr) (ds : List PyData)
  | rw (v : V)
def Adr (δ : List Ent) (a : Addr) : Prop := ∃ (i : Nat) (f : Bool) (ds : List PyData), δ[i]? = some (.ow f a ds)
/-- the heap at the entry; what a made value may not hold; what no value may hold -/
structure Wd where
  B : Hp
  O : Hd
  N : Hd
def Wd.hd (c : Wd) (f : Bool) (δ : List Ent) : Hd := fun a => (f = true ∧ c.O a) ∨ c.N a ∨ Adr δ a
def EntOk (c : Wd) (δ : List Ent) (H : Hp) (x : Option (Option V)) : Ent → Prop
  | .no => True
  | .va f d => ∃ v, x = some (some v) ∧ Dn (hid (c.hd f δ) H) v d
  | .ow f a ds => ∃ vs, x = some (some (.ref a)) ∧ H a = some (.lst vs) ∧ DnA (hid (c.hd f δ) H) vs ds
  | .rw v => x = some (some v)
structure Bs (c : Wd) (H : Hp) (σ : Sta) (δ : List Ent) : Prop where
  base : Ex c.B H
  liO : Live c.O H
  liN : Live c.N H
  own : ∀ a, Adr δ a → c.B a = none ∧ ¬ c.O a ∧ ¬ c.N a
  one : ∀ (i j : Nat) (f g : Bool) (a : Addr) (ds es : List PyData), δ[i]? = some (.ow f a ds) → δ[j]? = some (.ow g a es) → i = j
  len : σ.length = δ.length
  ent : ∀ (i : Nat) (e : Ent), δ[i]? = some e → EntOk c δ H σ[i]? e

section
variable {K : PySem.W.Frag} {c : Wd} {H H1 H' : Hp} {σ : Sta} {δ δ' : List Ent} {i j : Nat} {f g : Bool} {a : Addr} {d : PyData} {ds : List PyData} {ta tb te : TE}
theorem Bs.live (S : Bs c H σ δ) (f : Bool) : Live (c.hd f δ) H := fun b h z => by
  rcases h with ⟨_, h⟩ | h | ⟨i, f, ds, h⟩
  · exact S.liO b h z
  · exact S.liN b h z
  · obtain ⟨vs, _, q, _⟩ := S.ent i _ h
    rw [q] at z; cases z
theorem EntOk.mono {x : Option (Option V)} {e : Ent} (he : Ex H H') (h : EntOk c δ H x e) : EntOk c δ H' x e := by
  cases e with
  | no => trivial
  | va f d => obtain ⟨v, e, q⟩ := h; exact ⟨v, e, q.mono (hid_mono he)⟩
  | ow f a ds => obtain ⟨vs, e, q, r⟩ := h; exact ⟨vs, e, he _ _ q, r.mono (hid_mono he)⟩
  | rw v => exact h
theorem Bs.mono (he : Ex H H') (S : Bs c H σ δ) : Bs c H' σ δ :=
  ⟨S.base.trans he, S.liO.mono he, S.liN.mono he, S.own, S.one, S.len, fun i e h => (S.ent i e h).mono he⟩
/-- one entry is worth another -/
inductive Le1 : Ent → Ent → Prop
  | refl (e : Ent) : Le1 e e
  | no (e : Ent) : Le1 e .no
  | rd (d : PyData) : Le1 (.va true d) (.va false d)
  | fz (f : Bool) (a : Addr) (ds : List PyData) : Le1 (.ow f a ds) (.va f (.list ds))
  | eq {f : Bool} {d d' : PyData} (h : d = d') : Le1 (.va f d) (.va f d')
  | eqo {f : Bool} {a : Addr} {ds ds' : List PyData} (h : ds = ds') : Le1 (.ow f a ds) (.ow f a ds')
  | sc {d : PyData} (s : Sc d) : Le1 (.va false d) (.va true d)
inductive LeA : List Ent → List Ent → Prop
  | nil : LeA [] []
  | cons {e e' : Ent} {r r' : List Ent} : Le1 e e' → LeA r r' → LeA (e :: r) (e' :: r')
theorem LeA.refl : ∀ δ : List Ent, LeA δ δ
  | [] => .nil
  | e :: r => .cons (.refl e) (LeA.refl r)
theorem LeA.len : ∀ {δ δ' : List Ent}, LeA δ δ' → δ.length = δ'.length
  | _, _, .nil => rfl
  | _, _, .cons _ r => by simp [LeA.len r]
theorem LeA.get : ∀ {δ δ' : List Ent} {i : Nat} {e' : Ent}, LeA δ δ' → δ'[i]? = some e' → ∃ e, δ[i]? = some e ∧ Le1 e e'
  | _, _, _, _, .nil, h => by simp at h
  | _, _, 0, _, .cons h r, e => by simp at e; subst e; exact ⟨_, rfl, h⟩
  | _, _, i + 1, e', .cons h r, e => by
    obtain ⟨x, h1, h2⟩ := LeA.get (i := i) (e' := e') r (by simpa using e)
    exact ⟨x, by simpa using h1, h2⟩
theorem LeA.adr (l : LeA δ δ') (h : Adr δ' a) : Adr δ a := by
  obtain ⟨i, f, ds, h⟩ := h
  obtain ⟨e, h1, h2⟩ := l.get h
  cases h2 with
  | refl _ => exact ⟨i, f, ds, h1⟩
  | eqo _ => exact ⟨i, f, _, h1⟩
theorem hd_sub (l : ∀ a, Adr δ' a → Adr δ a) : ∀ a, c.hd f δ' a → c.hd f δ a := fun a h => by
  rcases h with h | h | h
  · exact .inl h
  · exact .inr (.inl h)
  · exact .inr (.inr (l a h))
theorem hd_ft : ∀ a, c.hd false δ a → c.hd true δ a := fun a h => by
  rcases h with ⟨h, _⟩ | h | h
  · cases h
  · exact .inr (.inl h)
  · exact .inr (.inr h)
theorem hd_le (h : f = true → g = true) : ∀ a, c.hd f δ a → c.hd g δ a := fun a z => by
  rcases z with ⟨z, y⟩ | z | z
  · exact .inl ⟨h z, y⟩
  · exact .inr (.inl z)
  · exact .inr (.inr z)
theorem Bs.le (S : Bs c H σ δ) (l : LeA δ δ') : Bs c H σ δ' := by
  refine ⟨S.base, S.liO, S.liN, fun a h => S.own a (l.adr h), fun i j f g a ds es h1 h2 => ?_, S.len.trans l.len, fun i e h => ?_⟩
  · have q : ∀ {i : Nat} {f : Bool} {ds : List PyData}, δ'[i]? = some (.ow f a ds) → ∃ (f : Bool) (ds : List PyData), δ[i]? = some (.ow f a ds) := fun h => by
      obtain ⟨e, h1, h2⟩ := l.get h
      cases h2 with
      | refl _ => exact ⟨_, _, h1⟩
      | eqo _ => exact ⟨_, _, h1⟩
    obtain ⟨f1, d1, q1⟩ := q h1
    obtain ⟨f2, d2, q2⟩ := q h2
    exact S.one _ _ _ _ _ _ _ q1 q2
  · obtain ⟨e0, h1, h2⟩ := l.get h
    have q := S.ent i e0 h1
    have hs : ∀ f, Ex (hid (c.hd f δ) H) (hid (c.hd f δ') H) := fun f => hid_sub (hd_sub fun a => l.adr)
    cases h2 with
    | refl _ =>
      cases e with
      | no => trivial
      | va f d => obtain ⟨v, e, q⟩ := q; exact ⟨v, e, q.mono (hs f)⟩
      | ow f a ds => obtain ⟨vs, e, q, r⟩ := q; exact ⟨vs, e, q, r.mono (hs f)⟩
      | rw v => exact q
    | no _ => trivial
    | rd d => obtain ⟨v, e, q⟩ := q; exact ⟨v, e, (q.mono (hid_sub hd_ft)).mono (hs false)⟩
    | fz f a ds =>
      obtain ⟨vs, e, q, r⟩ := q
      refine ⟨.ref a, e, .lst ?_ (r.mono (hs f))⟩
      rw [hid_at]
      · exact q
      · intro z
        obtain ⟨_, o1, o2⟩ := S.own a ⟨i, f, ds, h1⟩
        rcases z with ⟨_, z⟩ | z | z
        · exact o1 z
        · exact o2 z
        · obtain ⟨k, f2, ds2, z⟩ := z
          obtain ⟨e2, h3, h4⟩ := l.get z
          have hk : k = i := by
            cases h4 with
            | refl _ => exact S.one _ _ _ _ _ _ _ h3 h1
            | eqo _ => exact S.one _ _ _ _ _ _ _ h3 h1
          subst hk
          rw [z] at h; cases h
    | eq hh => obtain ⟨v, e, q⟩ := q; subst hh; exact ⟨v, e, q.mono (hs _)⟩
    | eqo hh => obtain ⟨vs, e, q, r⟩ := q; subst hh; exact ⟨vs, e, q, r.mono (hs _)⟩
    | sc s => obtain ⟨v, e, q⟩ := q; exact ⟨v, e, q.sc s⟩

/-! names -/
theorem ev_va (S : Bs c H σ δ) (h : δ[i]? = some (.va f d)) : Ev (c.hd f δ) (tVar i) σ H d := fun H1 x Q q => by
  obtain ⟨v, e, hv⟩ := S.ent i _ h
  exact ⟨v, e, q v H1 (Ex.refl H1) (hv.mono (hid_mono x))⟩
theorem ev_sc {o : Hd} (S : Bs c H σ δ) (h : δ[i]? = some (.va f d)) (s : Sc d) : Ev o (tVar i) σ H d := (ev_va S h).sc s
theorem ev_owR (S : Bs c H σ δ) (h : δ[i]? = some (.ow f a ds)) : Ev o0 (tVar i) σ H (.list ds) := fun H1 x Q q => by
  obtain ⟨vs, e, hq, hv⟩ := S.ent i _ h
  exact ⟨.ref a, e, q _ H1 (Ex.refl H1) (.lst (by rw [hid_at id]; exact x _ _ hq) ((hv.mono (hid_mono x)).mono (hid_sub fun _ z => z.elim)))⟩

/-! stores -/
theorem adr_set {e : Ent} (h : Adr (δ.set i e) a) : Adr δ a ∨ ∃ f ds, e = .ow f a ds := by
  obtain ⟨k, f, ds, h⟩ := h
  by_cases q : i = k
  · subst q
    rw [List.getElem?_set] at h
    simp at h
    exact .inr ⟨f, ds, h.2⟩
  · rw [List.getElem?_set_ne q] at h
    exact .inl ⟨k, f, ds, h⟩
theorem set_va (S : Bs c H σ δ) {v : V} (hv : Dn (hid (c.hd f δ) H) v d) : Bs c H (σ.set i (some v)) (δ.set i (.va f d)) := by
  have sub : ∀ b, Adr (δ.set i (.va f d)) b → Adr δ b := fun b z => by
    rcases adr_set z with z | ⟨_, _, z⟩
    · exact z
    · cases z
  have hs : ∀ f', Ex (hid (c.hd f' δ) H) (hid (c.hd f' (δ.set i (.va f d))) H) := fun f' => hid_sub (hd_sub sub)
  refine ⟨S.base, S.liO, S.liN, fun a h => S.own a (sub a h), fun x y f1 f2 a ds es h1 h2 => ?_, by simp [S.len], fun k e h => ?_⟩
  · have q : ∀ {k : Nat} {f' : Bool} {ds : List PyData}, (δ.set i (.va f d))[k]? = some (.ow f' a ds) → δ[k]? = some (.ow f' a ds) := fun {k f' ds} h => by
      by_cases z : i = k
      · subst z
        rw [List.getElem?_set] at h
        simp at h
      · rwa [List.getElem?_set_ne z] at h
    exact S.one _ _ _ _ _ _ _ (q h1) (q h2)
  · by_cases z : i = k
    · subst z
      rw [List.getElem?_set] at h
      simp at h
      obtain ⟨hl, h⟩ := h
      subst h
      exact ⟨v, by rw [List.getElem?_set]; simp [S.len, hl], hv.mono (hs f)⟩
    · rw [List.getElem?_set_ne z] at h
      rw [List.getElem?_set_ne z]
      have q := S.ent k e h
      cases e with
      | no => trivial
      | va f d => obtain ⟨v, e, q⟩ := q; exact ⟨v, e, q.mono (hs _)⟩
      | ow f a ds => obtain ⟨vs, e, q, r⟩ := q; exact ⟨vs, e, q, r.mono (hs _)⟩
      | rw v => exact q
/-- a new list of the body's own -/
theorem set_ow (S : Bs c H σ δ) (he : Ex H H') {vs : List V} (np : H a = none) (hp : H' a = some (.lst vs)) (hv : DnA (hid (fun b => c.hd f δ b ∨ b = a) H') vs ds) : Bs c H' (σ.set i (some (.ref a))) (δ.set i (.ow f a ds)) := by
  have nad : ¬ Adr δ a := fun ⟨k, f, ds, h⟩ => by
    obtain ⟨vs, _, q, _⟩ := S.ent k _ h
    rw [q] at np; cases np
  have sub : ∀ b, Adr (δ.set i (.ow f a ds)) b → Adr δ b ∨ b = a := fun b z => by
    rcases adr_set z with z | ⟨_, _, z⟩
    · exact .inl z
    · injection z with z1 z2 z3; exact .inr z2.symm
  have hsub : ∀ f' b, c.hd f' (δ.set i (.ow f a ds)) b → c.hd f' δ b ∨ b = a := fun f' b z => by
    rcases z with z | z | z
    · exact .inl (.inl z)
    · exact .inl (.inr (.inl z))
    · rcases sub b z with z | z
      · exact .inl (.inr (.inr z))
      · exact .inr z
  have hs : ∀ f', Ex (hid (c.hd f' δ) H) (hid (c.hd f' (δ.set i (.ow f a ds))) H') := fun f' b u q => by
    obtain ⟨q1, q2⟩ := hid_of q
    rw [hid_at]
    · exact he _ _ q2
    · intro z
      rcases hsub f' b z with z | z
      · exact q1 z
      · subst z; rw [q2] at np; cases np
  refine ⟨S.base.trans he, S.liO.mono he, S.liN.mono he, fun b h => ?_, fun x y f1 f2 b ds1 es h1 h2 => ?_, by simp [S.len], fun k e h => ?_⟩
  · rcases sub b h with z | z
    · exact S.own b z
    · subst z
      refine ⟨?_, S.liO.fresh np, S.liN.fresh np⟩
      cases q : c.B b with
      | none => rfl
      | some u => rw [S.base _ _ q] at np; cases np
  · by_cases zx : i = x
    · by_cases zy : i = y
      · omega
      · subst zx
        rw [List.getElem?_set] at h1
        simp at h1
        rw [List.getElem?_set_ne zy] at h2
        obtain ⟨_, _, e, _⟩ := h1
        subst e
        exact absurd ⟨y, f2, es, h2⟩ nad
    · rw [List.getElem?_set_ne zx] at h1
      by_cases zy : i = y
      · subst zy
        rw [List.getElem?_set] at h2
        simp at h2
        obtain ⟨_, _, e, _⟩ := h2
        subst e
        exact absurd ⟨x, f1, ds1, h1⟩ nad
      · rw [List.getElem?_set_ne zy] at h2
        exact S.one _ _ _ _ _ _ _ h1 h2
  · by_cases z : i = k
    · subst z
      rw [List.getElem?_set] at h
      simp at h
      obtain ⟨hl, h⟩ := h
      subst h
      exact ⟨vs, by rw [List.getElem?_set]; simp [S.len, hl], hp, hv.mono (hid_sub (hsub f))⟩
    · rw [List.getElem?_set_ne z] at h
      rw [List.getElem?_set_ne z]
      have q := S.ent k e h
      cases e with
      | no => trivial
      | va f d => obtain ⟨v, e, q⟩ := q; exact ⟨v, e, q.mono (hs _)⟩
      | ow f a ds => obtain ⟨vs, e, q, r⟩ := q; exact ⟨vs, e, he _ _ q, r.mono (hs _)⟩
      | rw v => exact q
/-- the body's own list is changed -/
theorem set_in (S : Bs c H σ δ) (h : δ[i]? = some (.ow f a ds)) {vs' : List V} {ds' : List PyData} (hv : DnA (hid (c.hd f δ) H) vs' ds') : Bs c (upd H a (.lst vs')) σ (δ.set i (.ow f a ds')) := by
  obtain ⟨vs, e1, ha, _⟩ := S.ent i _ h
  have hl : i < δ.length := by
    rw [List.getElem?_eq_some_iff] at h
    exact h.1
  obtain ⟨b1, b2, b3⟩ := S.own a ⟨i, f, ds, h⟩
  have adr : ∀ b, Adr (δ.set i (.ow f a ds')) b ↔ Adr δ b := fun b => by
    constructor
    · intro z
      rcases adr_set z with z | ⟨_, _, z⟩
      · exact z
      · injection z with _ z _; subst z; exact ⟨i, f, ds, h⟩
    · rintro ⟨k, g, es, z⟩
      by_cases q : i = k
      · subst q
        rw [h] at z
        injection z with z; injection z with z1 z2 z3
        subst z1; subst z2
        exact ⟨i, f, ds', by rw [List.getElem?_set]; simp [hl]⟩
      · exact ⟨k, g, es, by rw [List.getElem?_set_ne q]; exact z⟩
  have ehd : ∀ g, c.hd g (δ.set i (.ow f a ds')) = c.hd g δ := fun g => by
    funext b; unfold Wd.hd; rw [adr b]
  have inn : ∀ g, c.hd g δ a := fun g => .inr (.inr ⟨i, f, ds, h⟩)
  have hh : ∀ g, hid (c.hd g (δ.set i (.ow f a ds'))) (upd H a (.lst vs')) = hid (c.hd g δ) H := fun g => by
    rw [ehd g, hid_upd_in (inn g)]
  have lv : ∀ {o : Hd}, Live o H → Live o (upd H a (.lst vs')) := fun {o} l b hb z => by
    by_cases q : b = a
    · subst q; rw [upd_same] at z; cases z
    · rw [upd_ne q] at z; exact l b hb z
  refine ⟨fun b u q => ?_, lv S.liO, lv S.liN, fun b z => S.own b ((adr b).mp z), fun x y f1 f2 b ds1 es h1 h2 => ?_, by simp [S.len], fun k e q => ?_⟩
  · rw [upd_ne (fun z => by subst z; rw [b1] at q; cases q)]
    exact S.base _ _ q
  · have q : ∀ {k : Nat} {f' : Bool} {ds1 : List PyData}, (δ.set i (.ow f a ds'))[k]? = some (.ow f' b ds1) → ∃ (f' : Bool) (ds1 : List PyData), δ[k]? = some (.ow f' b ds1) := fun {k f' ds1} z => by
      by_cases w : i = k
      · subst w
        rw [List.getElem?_set] at z
        simp at z
        obtain ⟨_, _, e, _⟩ := z
        subst e
        exact ⟨f, ds, h⟩
      · rw [List.getElem?_set_ne w] at z; exact ⟨_, _, z⟩
    obtain ⟨_, _, q1⟩ := q h1
    obtain ⟨_, _, q2⟩ := q h2
    exact S.one _ _ _ _ _ _ _ q1 q2
  · by_cases z : i = k
    · subst z
      rw [List.getElem?_set] at q
      simp at q
      obtain ⟨_, q⟩ := q
      subst q
      exact ⟨vs', e1, upd_same, by rw [hh]; exact hv⟩
    · rw [List.getElem?_set_ne z] at q
      have w := S.ent k e q
      cases e with
      | no => trivial
      | va f d => obtain ⟨v, e, w⟩ := w; exact ⟨v, e, by rw [hh]; exact w⟩
      | ow g b es =>
        obtain ⟨ws, e, w, r⟩ := w
        refine ⟨ws, e, ?_, by rw [hh]; exact r⟩
        rw [upd_ne]
        · exact w
        · intro y
          subst y
          exact z (S.one _ _ _ _ _ _ _ h q)
      | rw v => exact w

/-! statements -/
variable {D : Ends} {tu tw : TS} {t : TT} {b : Bool}
theorem s_asg (S : Bs c H σ δ) (h : Ev (c.hd f δ) te σ H d) (k : ∀ σ1 H1, Bs c H1 σ1 (δ.set i (.va f d)) → D.nx σ1 H1) : tAsg te (gName i) D σ H :=
  h.go fun v H2 e2 hv => k _ _ (set_va (S.mono e2) hv)
theorem s_asgN (S : Bs c H σ δ) (h : EvN (c.hd f δ) te σ H ds) (k : ∀ a σ1 H1, Bs c H1 σ1 (δ.set i (.ow f a ds)) → D.nx σ1 H1) : tAsg te (gName i) D σ H :=
  h H (Ex.refl H) _ fun p vs H2 np e2 hp hv => k p _ _ (set_ow S e2 np hp hv)
theorem s_asg2 (S : Bs c H σ δ) (h : Ev (c.hd f δ) te σ H d) (k : ∀ σ1 H1, Bs c H1 σ1 ((δ.set i (.va f d)).set j (.va f d)) → D.nx σ1 H1) : tAsg2 te (gName i) (gName j) D σ H :=
  h.go fun v H2 e2 hv => k _ _ (set_va (set_va (S.mono e2) hv) (hv.mono (hid_sub (hd_sub fun b z => by
    rcases adr_set z with z | ⟨_, _, z⟩
    · exact z
    · cases z))))
theorem s_ret (S : Bs c H σ δ) (h : Ev (c.hd f δ) te σ H d) (k : ∀ v H1, Ex c.B H1 → Live c.O H1 → Dn (hid (c.hd f []) H1) v d → D.rt v H1) : tRet te D σ H :=
  h.go fun v H2 e2 hv => k v H2 (S.base.trans e2) (S.liO.mono e2) (hv.mono (hid_sub (hd_sub fun b ⟨i, f, ds, z⟩ => by simp at z)))
theorem s_if (S : Bs c H σ δ) (h : EvT t σ H b) (h1 : b = true → ∀ H1, Bs c H1 σ δ → tu D σ H1) (h2 : b = false → ∀ H1, Bs c H1 σ δ → tw D σ H1) : tIfS t tu tw D σ H :=
  h H (Ex.refl H) _ fun H1 e => by
    cases b with
    | true => rw [if_pos rfl]; exact h1 rfl H1 (S.mono e)
    | false => rw [if_neg Bool.false_ne_true]; exact h2 rfl H1 (S.mono e)
theorem s_drop (S : Bs c H σ δ) (h : Ev o0 te σ H d) (k : ∀ H1, Bs c H1 σ δ → D.nx σ H1) : tDrop te D σ H := h.go fun v H2 e2 _ => k H2 (S.mono e2)
theorem s_aug {x y : Int} {p : Int → Int → Int} (S : Bs c H σ δ) (hx : δ[i]? = some (.va f (.int x))) (h : Ev o0 te σ H (.int y)) (k : ∀ σ1 H1, Bs c H1 σ1 (δ.set i (.va true (.int (p x y)))) → D.nx σ1 H1) : tAug i te (ipI p) D σ H := by
  obtain ⟨v, e, hv⟩ := S.ent i _ hx
  cases hv
  refine ⟨_, e, h.go fun v H2 e2 hv => ?_⟩
  cases hv
  exact ⟨x, y, rfl, rfl, k _ _ (set_va (S.mono e2) (.int _))⟩
theorem s_app (S : Bs c H σ δ) (hx : δ[i]? = some (.ow f a ds)) (h : Ev (c.hd f δ) te σ H d) (hz : ds.length < 100000) (k : ∀ H1, Bs c H1 σ (δ.set i (.ow f a (ds ++ [d]))) → D.nx σ H1) :
    tDrop (tBM K "list" rAppend (tVar i) (tCons te tNil)) D σ H := by
  obtain ⟨vs, e, ha, hv⟩ := S.ent i _ hx
  refine ⟨.ref a, e, .inl ⟨rfl, vs, .inl (.inl ha)⟩, h.go fun v H2 e2 hd => ⟨a, vs, v, rfl, rfl, e2 _ _ ha, Evl.sz_lt (by rw [hv.length]; exact hz), k _ ?_⟩⟩
  exact set_in (S.mono e2) hx ((hv.mono (hid_mono e2)).append (.one hd))
theorem s_setI {ti : TE} {m : Int} {n : Nat} (S : Bs c H σ δ) (hx : δ[i]? = some (.ow f a ds)) (h : Ev (c.hd f δ) te σ H d) (hi : Ev o0 ti σ H (.int m)) (hm : ixN ds.length m = some n) (k : ∀ H1, Bs c H1 σ (δ.set i (.ow f a (ds.set n d))) → D.nx σ H1) :
    tAsg te (gSub (tVar i) ti rSetL) D σ H :=
  h.go fun v H2 e2 hd => by
    have S2 := S.mono e2
    obtain ⟨vs, e, ha, hv⟩ := S2.ent i _ hx
    refine ⟨.ref a, e, (hi.mono e2).go fun w H3 e3 hw => ?_⟩
    cases hw
    refine ⟨a, vs, m, n, rfl, rfl, e3 _ _ ha, by rw [hv.length]; exact hm, k _ ?_⟩
    exact set_in (S2.mono e3) hx ((hv.mono (hid_mono e3)).set (hd.mono (hid_mono e3)) n)
end
end HL
namespace HL
open PySem PySem.Spec PyProof.Rows L2
open Evl (Ex)

/-- slices of any list -/
def cutG {α : Type} (xs : List α) (lo hi : Option Int) : List α := (xs.drop (HT.sIx xs.length 0 lo)).take (HT.sIx xs.length xs.length hi - HT.sIx xs.length 0 lo)
theorem DnA.cut {H : Hp} {vs : List V} {ds : List PyData} (h : DnA H vs ds) (lo hi : Option Int) : DnA H (cutV vs lo hi) (cutG ds lo hi) := by
  unfold cutV cutG
  rw [h.length]
  exact (h.drop _).take _
theorem DnA.atI {H : Hp} {vs : List V} {ds : List PyData} {m : Int} {d : PyData} (h : DnA H vs ds) (e : L2.atI ds m = some d) : ∃ v, L2.atI vs m = some v ∧ Dn H v d := by
  unfold L2.atI at e ⊢
  rw [h.length]
  cases q : ixN ds.length m with
  | none => rw [q] at e; cases e
  | some j => rw [q] at e; exact h.get e
theorem DnA.hidNew {o : Hd} {H : Hp} {vs : List V} {ds : List PyData} {p : Addr} {u : HO} (h : DnA (hid o H) vs ds) (np : H p = none) : DnA (hid (fun a => o a ∨ a = p) (upd H p u)) vs ds := h.mono (fun b x hb => by
  obtain ⟨h1, h2⟩ := hid_of hb
  have nb : b ≠ p := ne_of_none h2 np
  rw [hid_at (fun z => z.elim h1 nb), upd_ne nb]; exact h2)

section
variable {K : PySem.W.Frag} {c : Wd} {o : Hd} {H H1 H' : Hp} {σ : Sta} {δ δ' : List Ent} {i j : Nat} {f g : Bool} {a : Addr} {d e : PyData} {ds es : List PyData} {ta tb te : TE} {tl th : TO}

/-! len, items, slices -/
theorem ev_len (ha : Ev o0 ta σ H (.list ds)) : Ev o (tCB (fun xs H Q => ∃ p ys, xs = [.ref p] ∧ (SqL K H p ys ∨ SqT K H p ys) ∧ Q (.int ys.length) H) (tCons ta tNil)) σ H (.int ds.length) := fun H1 x Q q =>
  ha H1 x _ fun v H2 e2 hv => by
    cases hv.up with
    | lst h r => exact ⟨_, _, rfl, .inl (.inl (.inl h)), by rw [r.length]; exact q _ H2 e2 (.int _)⟩
theorem ev_lenT (ha : Ev o0 ta σ H (.tuple ds)) : Ev o (tCB (fun xs H Q => ∃ p ys, xs = [.ref p] ∧ (SqL K H p ys ∨ SqT K H p ys) ∧ Q (.int ys.length) H) (tCons ta tNil)) σ H (.int ds.length) := fun H1 x Q q =>
  ha H1 x _ fun v H2 e2 hv => by
    cases hv.up with
    | tup h r => exact ⟨_, _, rfl, .inr (.inl (.inl h)), by rw [r.length]; exact q _ H2 e2 (.int _)⟩
theorem ev_lenS {z : Str} (ha : Ev o0 ta σ H (.str z)) (hz : z.length ≤ 100000) : Ev o (tCB (fun xs H Q => ∃ z, xs = [.str z] ∧ z.length ≤ sizeLine ∧ Q (.int z.length) H) (tCons ta tNil)) σ H (.int z.length) := fun H1 x Q q =>
  ha H1 x _ fun v H2 e2 hv => by
    cases hv
    exact ⟨z, rfl, Evl.sz_of hz, q _ H2 e2 (.int _)⟩
theorem ev_ixL {m : Int} (ha : Ev o ta σ H (.list ds)) (hi : Ev o0 tb σ H (.int m)) (hg : atI ds m = some d) : Ev o (tOp (rIxL K) ta tb) σ H d := fun H1 x Q q =>
  ha H1 x _ fun v H2 e2 hv => hi H2 (x.trans e2) _ fun w H3 e3 hw => by
    cases hw
    cases hv with
    | lst h r =>
      obtain ⟨y, y1, y2⟩ := (r.mono (hid_mono e3)).atI hg
      exact ⟨_, _, m, y, rfl, rfl, .inl (.inl (e3 _ _ (hid_ex _ _ h))), y1, q _ H3 (e2.trans e3) y2⟩
theorem ev_ixT {m : Int} (ha : Ev o ta σ H (.tuple ds)) (hi : Ev o0 tb σ H (.int m)) (hg : atI ds m = some d) : Ev o (tOp (rIxT K) ta tb) σ H d := fun H1 x Q q =>
  ha H1 x _ fun v H2 e2 hv => hi H2 (x.trans e2) _ fun w H3 e3 hw => by
    cases hw
    cases hv with
    | tup h r =>
      obtain ⟨y, y1, y2⟩ := (r.mono (hid_mono e3)).atI hg
      exact ⟨_, _, m, y, rfl, rfl, .inl (.inl (e3 _ _ (hid_ex _ _ h))), y1, q _ H3 (e2.trans e3) y2⟩
/-- an item of the body's own list -/
theorem ev_ixO {m : Int} (S : Bs c H σ δ) (hx : δ[i]? = some (.ow f a ds)) (hi : Ev o0 tb σ H (.int m)) (hg : atI ds m = some d) : Ev (c.hd f δ) (tOp (rIxL K) (tVar i) tb) σ H d := fun H1 x Q q => by
  obtain ⟨vs, e, ha, r⟩ := S.ent i _ hx
  refine ⟨.ref a, e, hi H1 x _ fun w H3 e3 hw => ?_⟩
  cases hw
  obtain ⟨y, y1, y2⟩ := (r.mono (hid_mono (x.trans e3))).atI hg
  exact ⟨a, vs, m, y, rfl, rfl, .inl (.inl (e3 _ _ (x _ _ ha))), y1, q _ H3 e3 y2⟩
theorem eo_none : EvO tNoPart σ H none := fun H1 _ _ q => q H1 (Ex.refl H1)
theorem eo_some {m : Int} (h : Ev o0 te σ H (.int m)) : EvO (tPart te) σ H (some m) := fun H1 x _ q => h H1 x _ fun v H2 e2 hv => by cases hv; exact ⟨m, rfl, q H2 e2⟩
theorem en_sl {lo hi : Option Int} (h : Ev o te σ H (.list ds)) (h1 : EvO tl σ H lo) (h2 : EvO th σ H hi) : EvN o (tSl (rSlL K) te tl th) σ H (cutG ds lo hi) := fun H1 x _ q =>
  h H1 x _ fun v H2 e2 hv => h1 H2 (x.trans e2) _ fun H3 e3 => h2 H3 ((x.trans e2).trans e3) _ fun H4 e4 => by
    cases hv with
    | lst h r =>
      refine ⟨_, _, rfl, .inl (.inl (e4 _ _ (e3 _ _ (hid_ex _ _ h)))), fun p np => ?_⟩
      exact q p _ _ (Evl.fresh_back (e2.trans (e3.trans e4)) np) ((e2.trans (e3.trans e4)).trans (Evl.Ex.new np)) upd_same ((((r.mono (hid_mono (e3.trans e4)))).cut lo hi).hidNew np)
theorem en_rev (h : Ev o te σ H (.list ds)) : EvN o (tRevL K te) σ H ds.reverse := fun H1 x _ q =>
  h H1 x _ fun v H2 e2 hv => by
    cases hv with
    | lst h r => exact ⟨_, _, rfl, .inl (.inl (hid_ex _ _ h)), fun p np => q p _ _ (Evl.fresh_back e2 np) (e2.trans (Evl.Ex.new np)) upd_same (r.reverse.hidNew np)⟩
theorem en_cat (ha : Ev o ta σ H (.list ds)) (hb : Ev o tb σ H (.list es)) (hz : ds.length + es.length ≤ 100000) : EvN o (tOp rCat ta tb) σ H (ds ++ es) := fun H1 x _ q =>
  ha H1 x _ fun v H2 e2 hv => hb H2 (x.trans e2) _ fun w H3 e3 hw => by
    cases hv with
    | lst h r =>
      cases hw with
      | lst h' r' =>
        exact ⟨_, _, _, _, rfl, rfl, e3 _ _ (hid_ex _ _ h), hid_ex _ _ h', Evl.sz_of (by rw [r.length, r'.length]; exact hz), fun p np =>
          q p _ _ (Evl.fresh_back (e2.trans e3) np) ((e2.trans e3).trans (Evl.Ex.new np)) upd_same (((r.mono (hid_mono e3)).append r').hidNew np)⟩
theorem en_rep {m : Int} (ha : Ev o ta σ H (.list ds)) (hb : Ev o0 tb σ H (.int m)) (h0 : -100000 ≤ m) (h1 : m ≤ 100000) (hz : ds.length * m.toNat ≤ 100000) : EvN o (tOp rRep ta tb) σ H (List.replicate m.toNat ds).flatten := fun H1 x _ q =>
  ha H1 x _ fun v H2 e2 hv => hb H2 (x.trans e2) _ fun w H3 e3 hw => by
    cases hw
    cases hv with
    | lst h r =>
      exact ⟨_, m, _, rfl, rfl, e3 _ _ (hid_ex _ _ h), by omega, by omega, Evl.sz_of (by rw [r.length]; exact hz), fun p np =>
        q p _ _ (Evl.fresh_back (e2.trans e3) np) ((e2.trans e3).trans (Evl.Ex.new np)) upd_same (((r.mono (hid_mono e3)).flatten_rep _).hidNew np)⟩
theorem en_listL (ha : Ev o ta σ H (.list ds)) : EvN o (tCB (fun xs H Q => ∃ p ys, xs = [.ref p] ∧ (SqL K H p ys ∨ SqT K H p ys) ∧ ∀ l, H l = none → Q (.ref l) (upd H l (.lst ys))) (tCons ta tNil)) σ H ds := fun H1 x _ q =>
  ha H1 x _ fun v H2 e2 hv => by
    cases hv with
    | lst h r => exact ⟨_, _, rfl, .inl (.inl (.inl (hid_ex _ _ h))), fun p np => q p _ _ (Evl.fresh_back e2 np) (e2.trans (Evl.Ex.new np)) upd_same (r.hidNew np)⟩
theorem en_listT (ha : Ev o ta σ H (.tuple ds)) : EvN o (tCB (fun xs H Q => ∃ p ys, xs = [.ref p] ∧ (SqL K H p ys ∨ SqT K H p ys) ∧ ∀ l, H l = none → Q (.ref l) (upd H l (.lst ys))) (tCons ta tNil)) σ H ds := fun H1 x _ q =>
  ha H1 x _ fun v H2 e2 hv => by
    cases hv with
    | tup h r => exact ⟨_, _, rfl, .inr (.inl (.inl (hid_ex _ _ h))), fun p np => q p _ _ (Evl.fresh_back e2 np) (e2.trans (Evl.Ex.new np)) upd_same (r.hidNew np)⟩
theorem ev_tupL (l : Live o H) (ha : Ev o ta σ H (.list ds)) : Ev o (tCB (fun xs H Q => ∃ p ys, xs = [.ref p] ∧ ((SqL K H p ys ∧ ∀ l, H l = none → Q (.ref l) (upd H l (.tup ys))) ∨ (SqT K H p ys ∧ Q (.ref p) H))) (tCons ta tNil)) σ H (.tuple ds) := fun H1 x _ q =>
  ha H1 x _ fun v H2 e2 hv => by
    cases hv with
    | lst h r => exact ⟨_, _, rfl, .inl ⟨.inl (.inl (hid_ex _ _ h)), fun p np => q _ _ (e2.trans (Evl.Ex.new np)) (.tup (at_new ((l.mono x).mono e2) np) (r.mono (hid_upd_new np)))⟩⟩
theorem ev_tupT (ha : Ev o ta σ H (.tuple ds)) : Ev o (tCB (fun xs H Q => ∃ p ys, xs = [.ref p] ∧ ((SqL K H p ys ∧ ∀ l, H l = none → Q (.ref l) (upd H l (.tup ys))) ∨ (SqT K H p ys ∧ Q (.ref p) H))) (tCons ta tNil)) σ H (.tuple ds) := fun H1 x _ q =>
  ha H1 x _ fun v H2 e2 hv => by
    cases hv with
    | tup h r => exact ⟨_, _, rfl, .inr ⟨.inl (.inl (hid_ex _ _ h)), q _ _ e2 (.tup h r)⟩⟩

/-! built-in functions of numbers -/
theorem ev_abs {m : Int} (ha : Ev o0 ta σ H (.int m)) : Ev o (tCB (fun xs H Q => ∃ i, xs = [.int i] ∧ Q (.int (if i < 0 then -i else i)) H) (tCons ta tNil)) σ H (.int (if m < 0 then -m else m)) := fun H1 x _ q =>
  ha H1 x _ fun v H2 e2 hv => by cases hv; exact ⟨m, rfl, q _ H2 e2 (.int _)⟩
theorem ev_intI {m : Int} (ha : Ev o0 ta σ H (.int m)) : Ev o (tCB (fun xs H Q => (∃ i, xs = [.int i] ∧ Q (.int i) H) ∨ ∃ k, xs = [.bl k] ∧ Q (.int (if k then 1 else 0)) H) (tCons ta tNil)) σ H (.int m) := fun H1 x _ q =>
  ha H1 x _ fun v H2 e2 hv => by cases hv; exact .inl ⟨m, rfl, q _ H2 e2 (.int _)⟩
theorem ev_max2 {m n : Int} (ha : Ev o0 ta σ H (.int m)) (hb : Ev o0 tb σ H (.int n)) : Ev o (tCB (fun xs H Q => ∃ i j, xs = [.int i, .int j] ∧ Q (.int (if j > i then j else i)) H) (tCons ta (tCons tb tNil))) σ H (.int (if n > m then n else m)) := fun H1 x _ q =>
  ha H1 x _ fun v H2 e2 hv => hb H2 (x.trans e2) _ fun w H3 e3 hw => by cases hv; cases hw; exact ⟨m, n, rfl, q _ H3 (e2.trans e3) (.int _)⟩
theorem ev_min2 {m n : Int} (ha : Ev o0 ta σ H (.int m)) (hb : Ev o0 tb σ H (.int n)) : Ev o (tCB (fun xs H Q => ∃ i j, xs = [.int i, .int j] ∧ Q (.int (if j < i then j else i)) H) (tCons ta (tCons tb tNil))) σ H (.int (if n < m then n else m)) := fun H1 x _ q =>
  ha H1 x _ fun v H2 e2 hv => hb H2 (x.trans e2) _ fun w H3 e3 hw => by cases hv; cases hw; exact ⟨m, n, rfl, q _ H3 (e2.trans e3) (.int _)⟩
/-- the greatest of whole numbers -/
def maxI : List Int → Int
  | [] => 0
  | [x] => x
  | x :: y :: r => max x (maxI (y :: r))
theorem maxI_is : ∀ (xs : List Int) (m : Int), m ∈ xs → (∀ x ∈ xs, x ≤ m) → maxI xs = m
  | [], m, h, _ => by simp at h
  | [x], m, h, _ => by simp at h; simp [maxI, h]
  | x :: y :: r, m, h, hle => by
    have h1 := hle x (by simp)
    by_cases q : m ∈ y :: r
    · have ih := maxI_is (y :: r) m q (fun z hz => hle z (by simp at hz ⊢; right; exact hz))
      simp only [maxI] at ih ⊢
      rw [ih]; omega
    · have hx : x = m := by simp at h q; rcases h with h | h | h
                            · exact h.symm
                            · exact absurd h q.1
                            · exact absurd h q.2
      subst hx
      have hb : maxI (y :: r) ≤ x := by
        have : maxI (y :: r) ∈ y :: r := by
          clear q h h1 hle
          induction r generalizing y with
          | nil => simp [maxI]
          | cons z r ih =>
            simp only [maxI]
            have := ih z
            rcases Int.le_total y (maxI (z :: r)) with q | q
            · rw [Int.max_eq_right q]; exact List.mem_cons_of_mem _ this
            · rw [Int.max_eq_left q]; simp
        exact hle _ (List.mem_cons_of_mem _ this)
      simp only [maxI]; omega
theorem ev_maxL {ns : List Int} (ha : Ev o0 ta σ H (.list (ns.map .int))) (hne : 0 < ns.length) : Ev o (tCB (rMax K) (tCons ta tNil)) σ H (.int (maxI ns)) := fun H1 x _ q =>
  ha H1 x _ fun v H2 e2 hv => by
    cases hv with
    | lst h r =>
      have er := r.ints
      subst er
      exact ⟨_, ns, rfl, .inl (.inl (hid_ex _ _ h)), hne, fun m hm hle => by rw [← maxI_is ns m hm hle]; exact q _ H2 e2 (.int _)⟩

/-! isinstance -/
def tyN : PyData → String
  | .none => "NoneType" | .bool _ => "bool" | .int _ => "int" | .str _ => "str" | .list _ => "list" | .tuple _ => "tuple" | .dict _ => "dict"
theorem Dn.ty {v : V} (h : Dn H v d) : TyX K H v (.type (tyN d)) := by
  cases h with
  | non => exact .base .non
  | bl b => exact .base (.bl b)
  | int i => exact .base (.int i)
  | str x => exact .base (.str x)
  | lst h _ => exact .base (.lst h)
  | tup h _ => exact .base (.tup h)
  | dct h _ => exact .base (.dK h)
def isAN (t T : String) : Bool := t == T || (T == "int" && t == "bool")
def isA (d : PyData) (T : String) : Bool := isAN (tyN d) T
theorem kit_all : ∀ t ∈ ["NoneType", "bool", "int", "str", "list", "tuple", "dict"], ∀ T ∈ ["list", "tuple", "int", "bool", "str", "dict"], kitB t T = some (isAN t T) := by decide +kernel
theorem tyN_mem : tyN d ∈ ["NoneType", "bool", "int", "str", "list", "tuple", "dict"] := by cases d <;> simp [tyN]
theorem kit_is {T : String} (hT : T = "list" ∨ T = "tuple" ∨ T = "int" ∨ T = "bool" ∨ T = "str" ∨ T = "dict") : PySem.W.kitOne K (.type (tyN d)) (.type T) = some (isA d T) := by
  exact kit_ty (kit_all _ tyN_mem _ (by rcases hT with rfl | rfl | rfl | rfl | rfl | rfl <;> simp))
theorem ev_isi {T : String} (hT : T = "list" ∨ T = "tuple" ∨ T = "int" ∨ T = "bool" ∨ T = "str" ∨ T = "dict") (ha : Ev o0 ta σ H d) : Ev o (tCB (rIsi K) (tCons ta (tCons (tC (.ty T)) tNil))) σ H (.bool (isA d T)) := fun H1 x _ q =>
  ha H1 x _ fun v H2 e2 hv => ⟨v, .ty T, _, _, _, rfl, .ty T, hv.up.ty, kit_is hT, q _ H2 e2 (.bl _)⟩
theorem ev_isi2 {T U : String} (hT : T = "list" ∨ T = "tuple" ∨ T = "int" ∨ T = "bool" ∨ T = "str" ∨ T = "dict") (hU : U = "list" ∨ U = "tuple" ∨ U = "int" ∨ U = "bool" ∨ U = "str" ∨ U = "dict") (ha : Ev o0 ta σ H d) :
    Ev o (tCB (rIsiT K) (tCons ta (tCons (tTup (tCons (tC (.ty T)) (tCons (tC (.ty U)) tNil))) tNil))) σ H (.bool (isA d T || isA d U)) := fun H1 x _ q =>
  ha H1 x _ fun v H2 e2 hv => ⟨by show 2 ≤ sizeLine; decide, fun p np => ⟨v, p, _, _, _, _, rfl, upd_same, .cons (.ty T) (.cons (.ty U) .nil), (hv.up.mono (Evl.Ex.new np)).ty, (by
    refine kitAny_cons (kit_is hT) (fun h => ?_) (fun h => ?_) (r := isA d T || isA d U)
    · rw [h, Bool.false_or]
      exact kitAny_cons (kit_is hU) (fun h => by rw [h]; exact kitAny_nil) (fun h => h)
    · rw [h]; rfl), q _ _ (e2.trans (Evl.Ex.new np)) (.bl _)⟩⟩

/-! ### promises of defs, calls -/
/-- all that comes back is new -/
noncomputable def new (H H' : Hp) : Hp := hid (fun a => H a ≠ none) H'
def SpF (R : List PyData → PyData → Prop) : Sp := fun vs H Q _ => ∃ ds d, DnA H vs ds ∧ R ds d ∧ ∀ v H', Ex H H' → Dn (new H H') v d → Q v H'
/-- what comes back may hold what was passed -/
def SpS (R : List PyData → PyData → Prop) : Sp := fun vs H Q _ => ∃ (o : Hd) (ds : List PyData) (d : PyData), Live o H ∧ DnA (hid o H) vs ds ∧ R ds d ∧ ∀ v H', Ex H H' → Dn (hid o H') v d → Q v H'
theorem ev_callF {R : List PyData → PyData → Prop} {E : XK} {tr : TA} (l : Live o H) (h : EvA o0 tr σ H ds) (hr : R ds d) : Ev o (tCall (SpF R) [] E tr) σ H d := fun H1 x Q q =>
  h H1 x _ fun vs H2 e2 hv => ⟨ds, d, by rw [List.append_nil]; exact hv.up, hr, fun v H3 e3 hd => q v H3 (e2.trans e3) (hd.mono (hid_sub ((l.mono x).mono e2)))⟩
theorem ev_callS {R : List PyData → PyData → Prop} {E : XK} {tr : TA} (l : Live o H) (h : EvA o tr σ H ds) (hr : R ds d) : Ev o (tCall (SpS R) [] E tr) σ H d := fun H1 x Q q =>
  h H1 x _ fun vs H2 e2 hv => ⟨o, ds, d, (l.mono x).mono e2, by rw [List.append_nil]; exact hv, hr, fun v H3 e3 hd => q v H3 (e2.trans e3) hd⟩
end

/-! the state at a def's entry -/
theorem start_get {N : List Str} {vs : List V} {k : Nat} (h : k < vs.length) (hN : vs.length ≤ N.length) : (L2.start N vs)[k]? = some (some vs[k]) := by
  unfold L2.start
  rw [List.getElem?_append_left (by simpa using h)]
  simp [h]
end HL
namespace HL
open PySem PySem.Spec PyProof.Rows L2
open Evl (Ex)

/-- while the loop runs, all that stands at its start but the body's own lists stays -/
noncomputable def Wd.at_ (c : Wd) (δ : List Ent) (H : Hp) : Wd := { c with B := hid (fun a => Adr δ a) H }
section
variable {K : PySem.W.Frag} {c : Wd} {o : Hd} {H H1 H' : Hp} {σ : Sta} {δ δ' : List Ent} {i j : Nat} {f g : Bool} {a : Addr} {d e : PyData} {ds es : List PyData} {ta tb te tl : TE} {t : TT} {ts : TS} {D : Ends} {S : Type}
theorem Bs.under (B : Bs c H σ δ) : Ex c.B (hid (fun a => Adr δ a) H) := fun a u h => by
  rw [hid_at]
  · exact B.base _ _ h
  · intro z; rw [(B.own a z).1] at h; cases h
theorem Bs.rebase (B : Bs c H σ δ) : Bs (c.at_ δ H) H σ δ := by
  refine ⟨hid_ex, B.liO, B.liN, fun a h => ⟨hid_in h, (B.own a h).2⟩, B.one, B.len, fun i e h => B.ent i e h⟩
theorem Bs.debase {B0 : Hp} (e : Ex c.B B0) (B : Bs { c with B := B0 } H σ δ) : Bs c H σ δ := by
  refine ⟨e.trans B.base, B.liO, B.liN, fun a h => ⟨?_, (B.own a h).2⟩, B.one, B.len, fun i e h => B.ent i e h⟩
  cases q : c.B a with
  | none => rfl
  | some u => have := (B.own a h).1; simp only at this; rw [e _ _ q] at this; cases this
/-- what stood at the loop's start is still to be used -/
theorem Bs.pers {B0 : Hp} {H2 : Hp} {σ2 : Sta} (B : Bs { c with B := B0 } H2 σ2 δ') (h : ∀ a u, hid (c.hd f δ) H a = some u → B0 a = some u) : Ex (hid (c.hd f δ) H) (hid (c.hd f δ') H2) := fun a u q => by
  have q0 := h a u q
  obtain ⟨q1, q2⟩ := hid_of q
  rw [hid_at]
  · exact B.base _ _ q0
  · intro z
    rcases z with z | z | z
    · exact q1 (.inl z)
    · exact q1 (.inr (.inl z))
    · have := (B.own a z).1; simp only at this; rw [q0] at this; cases this
theorem at_has {a : Addr} {u : HO} (q : hid (c.hd f δ) H a = some u) : hid (fun a => Adr δ a) H a = some u := by
  obtain ⟨q1, q2⟩ := hid_of q
  rw [hid_at]
  · exact q2
  · intro z; exact q1 (.inr (.inr z))

/-- what holds between two turns -/
def NX (c : Wd) (B0 : Hp) (S : Type) (Δ : S → List Ent) (I : Nat → S → Prop) (n : Nat) : Sta → Hp → Prop := fun σ H => ∃ s, I n s ∧ Bs { c with B := B0 } H σ (Δ s)
/-- for x in a list -/
theorem s_forL (S : Type) (I : Nat → S → Prop) (Δ : S → List Ent) (s0 : S) (B : Bs c H σ δ) (h : Ev (c.hd f δ) tl σ H (.list ds)) (w : LeA δ (Δ s0)) (i0 : I 0 s0)
    (body : ∀ (B0 : Hp), Ex c.B B0 → ∀ (n : Nat) (s : S) (d : PyData) (σ1 : Sta) (H1 : Hp), ds[n]? = some d → I n s → Bs { c with B := B0 } H1 σ1 ((Δ s).set j (.va f d)) →
      ts { D with nx := NX c B0 S Δ I (n + 1), ct := NX c B0 S Δ I (n + 1), bk := D.nx } σ1 H1)
    (done : ∀ s σ1 H1, I ds.length s → Bs c H1 σ1 (Δ s) → D.nx σ1 H1) : tFor (iList K tl) (gName j) ts D σ H := by
  refine h.go fun v H2 e2 hv => ?_
  have B2 := B.mono e2
  cases hv with
  | @lst p vs _ hp hr =>
    have u := B2.under
    have W : ∀ {H3 σ3 s}, Bs { c with B := hid (fun a => Adr δ a) H2 } H3 σ3 (Δ s) → Ex (hid (c.hd f δ) H2) (hid (c.hd f (Δ s)) H3) := fun B3 => B3.pers fun a u q => at_has q
    refine ⟨p, rfl, ⟨vs, .inl (.inl (hid_ex _ _ hp))⟩, for_list (xs := vs) (NX c _ S Δ I) ⟨s0, i0, (B2.rebase).le w⟩ (fun n σ3 H3 _ ⟨s, _, B3⟩ => ?_) (fun n x σ3 H3 hx ⟨s, hi, B3⟩ => ?_) (fun σ3 H3 ⟨s, hi, B3⟩ => ?_)⟩
    · exact .inl (.inl (hid_ex _ _ (W B3 _ _ hp)))
    · obtain ⟨d, hd, q⟩ := hr.get' hx
      exact body _ u n s d _ _ hd hi (set_va B3 (q.mono (W B3)))
    · rw [hr.length] at hi
      exact done s _ _ hi (B3.debase u)
/-- for x in a tuple -/
theorem s_forT (S : Type) (I : Nat → S → Prop) (Δ : S → List Ent) (s0 : S) (B : Bs c H σ δ) (h : Ev (c.hd f δ) tl σ H (.tuple ds)) (w : LeA δ (Δ s0)) (i0 : I 0 s0)
    (body : ∀ (B0 : Hp), Ex c.B B0 → ∀ (n : Nat) (s : S) (d : PyData) (σ1 : Sta) (H1 : Hp), ds[n]? = some d → I n s → Bs { c with B := B0 } H1 σ1 ((Δ s).set j (.va f d)) →
      ts { D with nx := NX c B0 S Δ I (n + 1), ct := NX c B0 S Δ I (n + 1), bk := D.nx } σ1 H1)
    (done : ∀ s σ1 H1, I ds.length s → Bs c H1 σ1 (Δ s) → D.nx σ1 H1) : tFor (iTup K tl) (gName j) ts D σ H := by
  refine h.go fun v H2 e2 hv => ?_
  have B2 := B.mono e2
  cases hv with
  | @tup p vs _ hp hr =>
    have u := B2.under
    have W : ∀ {H3 σ3 s}, Bs { c with B := hid (fun a => Adr δ a) H2 } H3 σ3 (Δ s) → Ex (hid (c.hd f δ) H2) (hid (c.hd f (Δ s)) H3) := fun B3 => B3.pers fun a u q => at_has q
    refine ⟨p, rfl, ⟨vs, .inl (.inl (hid_ex _ _ hp))⟩, for_tup (xs := vs) (NX c _ S Δ I) ⟨s0, i0, (B2.rebase).le w⟩ (fun n σ3 H3 _ ⟨s, _, B3⟩ => ?_) (fun n x σ3 H3 hx ⟨s, hi, B3⟩ => ?_) (fun σ3 H3 ⟨s, hi, B3⟩ => ?_)⟩
    · exact .inl (.inl (hid_ex _ _ (W B3 _ _ hp)))
    · obtain ⟨d, hd, q⟩ := hr.get' hx
      exact body _ u n s d _ _ hd hi (set_va B3 (q.mono (W B3)))
    · rw [hr.length] at hi
      exact done s _ _ hi (B3.debase u)
/-- for x in a list of the body's own, that the loop leaves as it is -/
theorem s_forO (S : Type) (I : Nat → S → Prop) (Δ : S → List Ent) (s0 : S) (B : Bs c H σ δ) (hk : ∀ s, (Δ s)[i]? = some (.ow f a ds)) (w : LeA δ (Δ s0)) (i0 : I 0 s0)
    (body : ∀ (B0 : Hp), Ex c.B B0 → ∀ (n : Nat) (s : S) (d : PyData) (σ1 : Sta) (H1 : Hp), ds[n]? = some d → I n s → Bs { c with B := B0 } H1 σ1 ((Δ s).set j (.va f d)) →
      ts { D with nx := NX c B0 S Δ I (n + 1), ct := NX c B0 S Δ I (n + 1), bk := D.nx } σ1 H1)
    (done : ∀ s σ1 H1, I ds.length s → Bs c H1 σ1 (Δ s) → D.nx σ1 H1) : tFor (iList K (tVar i)) (gName j) ts D σ H := by
  obtain ⟨vs, e, hp, hr⟩ := (B.le w).ent i _ (hk s0)
  have u := B.under
  have hl := hr.length
  refine ⟨.ref a, e, a, rfl, ⟨vs, .inl (.inl hp)⟩, ⟨fun n m σ3 H3 => m = ds.length - n ∧ n ≤ ds.length ∧ NX c (hid (fun a => Adr δ a) H) S Δ I n σ3 H3, ⟨ds.length, rfl, Nat.zero_le _, s0, i0, B.rebase.le w⟩, ?_⟩⟩
  rintro n m σ3 H3 ⟨rfl, hn, s, hi, B3⟩
  obtain ⟨vs3, e3, hp3, hr3⟩ := B3.ent i _ (hk s)
  by_cases hlt : n < ds.length
  · obtain ⟨v, hv, hd⟩ := hr3.get (List.getElem?_eq_getElem hlt)
    refine .inr ⟨⟨vs3, v, .inl (.inl hp3), hv⟩, NX c _ S Δ I (n + 1), fun σ' H' q => ⟨ds.length - (n + 1), by omega, rfl, hlt, q⟩, ?_⟩
    rintro x H' ⟨rfl, hx⟩
    have ex : v = x := Option.some.inj (hv.symm.trans (hx _ (.inl (.inl hp3))))
    subst ex
    exact body _ u n s _ _ _ (List.getElem?_eq_getElem hlt) hi (set_va B3 hd)
  · have en : n = ds.length := by omega
    subst en
    exact .inl ⟨⟨vs3, .inl (.inl hp3), by rw [hr3.length]; exact Nat.le_refl _⟩, done s _ _ hi (B3.debase u)⟩
/-- for k in range(..) -/
theorem forR_core {lo : Int} {m : Nat} (S : Type) (I : Nat → S → Prop) (Δ : S → List Ent) (s0 : S) (B : Bs c H σ δ) (w : LeA δ (Δ s0)) (i0 : I 0 s0)
    (body : ∀ (B0 : Hp), Ex c.B B0 → ∀ (n : Nat) (s : S) (σ1 : Sta) (H1 : Hp), n < m → I n s → Bs { c with B := B0 } H1 σ1 ((Δ s).set j (.va true (.int (lo + n)))) →
      ts { D with nx := NX c B0 S Δ I (n + 1), ct := NX c B0 S Δ I (n + 1), bk := D.nx } σ1 H1)
    (done : ∀ s σ1 H1, I m s → Bs c H1 σ1 (Δ s) → D.nx σ1 H1) :
    ∃ W : Nat → Nat → L2.St → Hp → Prop, (∃ m, W 0 m σ H) ∧ ∀ i k σ H, W i k σ H →
      ((Itr lo m).stop i H ∧ D.nx σ H) ∨ ((Itr lo m).go i H ∧ ∃ N : L2.St → Hp → Prop, (∀ σ' H', N σ' H' → ∃ m', m' < k ∧ W (i + 1) m' σ' H') ∧ ∀ x H', (Itr lo m).yld i H x H' → gName j x σ H' fun σ2 H2 => ts { D with nx := N, ct := N, bk := D.nx } σ2 H2) := by
  have u := B.under
  exact for_range (lo := lo) (n := m) (NX c (hid (fun a => Adr δ a) H) S Δ I) ⟨s0, i0, B.rebase.le w⟩ (fun n σ3 H3 hn ⟨s, hi, B3⟩ => body _ u n s _ _ hn hi (set_va B3 (.int _))) (fun σ3 H3 ⟨s, hi, B3⟩ => done s _ _ hi (B3.debase u))
theorem s_forR1 {m : Int} (S : Type) (I : Nat → S → Prop) (Δ : S → List Ent) (s0 : S) (B : Bs c H σ δ) (h : Ev o0 te σ H (.int m)) (hm : -1000000 ≤ m ∧ m ≤ 1000000) (w : LeA δ (Δ s0)) (i0 : I 0 s0)
    (body : ∀ (B0 : Hp), Ex c.B B0 → ∀ (n : Nat) (s : S) (σ1 : Sta) (H1 : Hp), n < m.toNat → I n s → Bs { c with B := B0 } H1 σ1 ((Δ s).set j (.va true (.int (0 + n)))) →
      ts { D with nx := NX c B0 S Δ I (n + 1), ct := NX c B0 S Δ I (n + 1), bk := D.nx } σ1 H1)
    (done : ∀ s σ1 H1, I m.toNat s → Bs c H1 σ1 (Δ s) → D.nx σ1 H1) : tFor (iRng1 (tCons te tNil)) (gName j) ts D σ H := by
  refine h.go fun v H2 e2 hv => ?_
  cases hv
  exact ⟨m, rfl, by omega, by omega, forR_core S I Δ s0 (B.mono e2) w i0 body done⟩
theorem s_forR2 {lo m : Int} (S : Type) (I : Nat → S → Prop) (Δ : S → List Ent) (s0 : S) (B : Bs c H σ δ) (h1 : Ev o0 ta σ H (.int lo)) (h2 : Ev o0 te σ H (.int m)) (hm : -1000000 ≤ lo ∧ lo ≤ 1000000 ∧ -1000000 ≤ m ∧ m ≤ 1000000) (w : LeA δ (Δ s0)) (i0 : I 0 s0)
    (body : ∀ (B0 : Hp), Ex c.B B0 → ∀ (n : Nat) (s : S) (σ1 : Sta) (H1 : Hp), n < (m - lo).toNat → I n s → Bs { c with B := B0 } H1 σ1 ((Δ s).set j (.va true (.int (lo + n)))) →
      ts { D with nx := NX c B0 S Δ I (n + 1), ct := NX c B0 S Δ I (n + 1), bk := D.nx } σ1 H1)
    (done : ∀ s σ1 H1, I (m - lo).toNat s → Bs c H1 σ1 (Δ s) → D.nx σ1 H1) : tFor (iRng2 (tCons ta (tCons te tNil))) (gName j) ts D σ H := by
  refine h1.go fun v H2 e2 hv => (h2.mono e2).go fun v' H3 e3 hv' => ?_
  cases hv; cases hv'
  exact ⟨lo, m, rfl, by omega, forR_core S I Δ s0 (B.mono (e2.trans e3)) w i0 body done⟩
/-- for k in reversed(range(m)) -/
theorem s_forRev {m : Int} (S : Type) (I : Nat → S → Prop) (Δ : S → List Ent) (s0 : S) (B : Bs c H σ δ) (h : Ev o0 te σ H (.int m)) (hm : -1000000 ≤ m ∧ m ≤ 1000000) (w : LeA δ (Δ s0)) (i0 : I 0 s0)
    (body : ∀ (B0 : Hp), Ex c.B B0 → ∀ (n : Nat) (s : S) (σ1 : Sta) (H1 : Hp), n < m.toNat → I n s → Bs { c with B := B0 } H1 σ1 ((Δ s).set j (.va true (.int (m - 1 - n)))) →
      ts { D with nx := NX c B0 S Δ I (n + 1), ct := NX c B0 S Δ I (n + 1), bk := D.nx } σ1 H1)
    (done : ∀ s σ1 H1, I m.toNat s → Bs c H1 σ1 (Δ s) → D.nx σ1 H1) : tFor (iRevR (tRg1 te)) (gName j) ts D σ H := by
  refine h.go fun v H2 e2 hv => ?_
  cases hv
  have B2 := B.mono e2
  have u := B2.under
  refine ⟨m, rfl, by omega, by omega, by omega, by omega, ?_⟩
  have em : (m - 0).toNat = m.toNat := by rw [Int.sub_zero]
  rw [em]
  refine for_rangeC (n := m.toNat) (NX c (hid (fun a => Adr δ a) H2) S Δ I) ⟨s0, i0, B2.rebase.le w⟩ (fun n σ3 H3 hn ⟨s, hi, B3⟩ => ?_) (fun σ3 H3 ⟨s, hi, B3⟩ => done s _ _ hi (B3.debase u))
  have ev : (0 + ((m.toNat : Nat) : Int) - 1 + (n : Nat) * -1) = m - 1 - n := by omega
  rw [ev]
  exact body _ u n s _ _ hn hi (set_va B3 (.int _))
/-- while: M falls -/
theorem s_while (S : Type) (I : S → Prop) (M : S → Nat) (Δ : S → List Ent) (s0 : S) (b : S → Bool) (B : Bs c H σ δ) (w : LeA δ (Δ s0)) (i0 : I s0)
    (test : ∀ (B0 : Hp), Ex c.B B0 → ∀ (s : S) (σ1 : Sta) (H1 : Hp), I s → Bs { c with B := B0 } H1 σ1 (Δ s) → EvT t σ1 H1 (b s))
    (body : ∀ (B0 : Hp), Ex c.B B0 → ∀ (s : S) (σ1 : Sta) (H1 : Hp), I s → b s = true → Bs { c with B := B0 } H1 σ1 (Δ s) →
      ts { D with nx := fun σ' H' => ∃ s', (I s' ∧ M s' < M s) ∧ Bs { c with B := B0 } H' σ' (Δ s'), ct := fun σ' H' => ∃ s', (I s' ∧ M s' < M s) ∧ Bs { c with B := B0 } H' σ' (Δ s'), bk := D.nx } σ1 H1)
    (done : ∀ s σ1 H1, I s → b s = false → Bs c H1 σ1 (Δ s) → D.nx σ1 H1) : tWhile t ts D σ H := by
  have u := B.under
  refine ⟨fun m σ' H' => ∃ s, m = M s ∧ I s ∧ Bs { c with B := hid (fun a => Adr δ a) H } H' σ' (Δ s), ⟨_, s0, rfl, i0, B.rebase.le w⟩, ?_⟩
  rintro m σ1 H1 ⟨s, rfl, hi, B1⟩
  refine test _ u s σ1 H1 hi B1 H1 (Ex.refl H1) _ fun H2 e2 => ?_
  cases q : b s with
  | true =>
    rw [if_pos rfl]
    exact ⟨_, fun σ' H' ⟨s', ⟨h1, h2⟩, h3⟩ => ⟨M s', h2, s', rfl, h1, h3⟩, body _ u s σ1 H2 hi q (B1.mono e2)⟩
  | false =>
    rw [if_neg Bool.false_ne_true]
    exact done s _ _ hi q ((B1.mono e2).debase u)

/-! comprehensions with one for, over a list -/
theorem en_lcL {α : Type} (xs : List α) (em : α → PyData) (cs : α → Bool) (e : α → PyData) (B : Bs c H σ δ) (h : Ev (c.hd f δ) tl σ H (.list (xs.map em))) (hz : xs.length ≤ 40000)
    (body : ∀ (c' : Wd) (x : α) (σ1 : Sta) (H1 : Hp), x ∈ xs → Bs c' H1 σ1 (δ.set j (.va f (em x))) → EvT t σ1 H1 (cs x) ∧ (cs x = true → Ev (c'.hd g (δ.set j (.va f (em x)))) te σ1 H1 (e x)))
    (hj : δ[j]? = some .no) : EvN (c.hd g δ) (tLc (iList K tl) (gName j) t te [j]) σ H ((xs.filter cs).map e) := fun H1 x1 Q q => by
  refine h H1 x1 _ fun v H2 e2 hv => ?_
  have B2 : Bs c H2 σ δ := B.mono (x1.trans e2)
  cases hv with
  | @lst p vs _ hp hr =>
    refine ⟨p, rfl, ⟨vs, .inl (.inl (hid_ex _ _ hp))⟩, fun C nC => ?_⟩
    -- the block's world: the new list may not be met
    let c' : Wd := { c with B := hid (fun a => Adr δ a ∨ a = C) H2, N := fun a => c.N a ∨ a = C }
    have eC : ∀ {u}, Ex H2 (upd H2 C u) := fun {u} => Evl.Ex.new nC
    have hdn : ∀ f' a, c'.hd f' δ a ↔ c.hd f' δ a ∨ a = C := fun f' a => by
      constructor
      · rintro (z | (z | z) | z)
        · exact .inl (.inl z)
        · exact .inl (.inr (.inl z))
        · exact .inr z
        · exact .inl (.inr (.inr z))
      · rintro ((z | z | z) | z)
        · exact .inl z
        · exact .inr (.inl (.inl z))
        · exact .inr (.inr z)
        · exact .inr (.inl (.inr z))
    have lift : ∀ {H3 : Hp} (f' : Bool), Ex (hid (fun a => Adr δ a ∨ a = C) H2) H3 → Ex (hid (c.hd f' δ) H2) (hid (c'.hd f' δ) H3) := fun {H3} f' e3 a u q => by
      obtain ⟨q1, q2⟩ := hid_of q
      have ha : ¬ a = C := ne_of_none q2 nC
      rw [hid_at (fun z => ((hdn f' a).mp z).elim q1 ha)]
      exact e3 a u (by rw [hid_at (fun z => z.elim (fun z => q1 (.inr (.inr z))) ha)]; exact q2)
    have mk : ∀ {H3 : Hp} {acc : List V}, Ex (hid (fun a => Adr δ a ∨ a = C) H2) H3 → (∀ a u, Adr δ a → H2 a = some u → H3 a = some u) → H3 C = some (.lst acc) → Live c.O H3 → Live c.N H3 → Bs c' H3 (wipe σ [j]) δ := fun {H3 acc} e3 eo hC lO lN => by
      refine ⟨e3, lO, fun a ha => ?_, fun a ha => ⟨(show hid (fun a => Adr δ a ∨ a = C) H2 a = none from hid_in (Or.inl ha)), (B2.own a ha).2.1, fun z => ?_⟩, B2.one, by rw [wipe_length]; exact B2.len, fun i e he => ?_⟩
      · rcases ha with ha | ha
        · exact lN a ha
        · subst ha; rw [hC]; simp
      · rcases z with z | z
        · exact (B2.own a ha).2.2 z
        · subst z
          obtain ⟨k, f, ds, ha⟩ := ha
          obtain ⟨vs, _, q, _⟩ := B2.ent k _ ha
          rw [q] at nC; cases nC
      · have w := B2.ent i e he
        have nj : ∀ f d, e = .va f d → i ≠ j := fun f d z y => by subst y; subst z; rw [hj] at he; cases he
        have nj2 : ∀ f a d, e = .ow f a d → i ≠ j := fun f a d z y => by subst y; subst z; rw [hj] at he; cases he
        have nj3 : ∀ v, e = .rw v → i ≠ j := fun v z y => by subst y; subst z; rw [hj] at he; cases he
        cases e with
        | no => trivial
        | va f' d =>
          obtain ⟨v, e, w⟩ := w
          refine ⟨v, ?_, w.mono (lift f' e3)⟩
          show ((wipe σ []).set j none)[i]? = _
          rw [List.getElem?_set_ne (fun z => nj _ _ rfl z.symm)]; exact e
        | ow f' b es =>
          obtain ⟨ws, e, w, r⟩ := w
          refine ⟨ws, ?_, eo _ _ ⟨i, f', es, he⟩ w, r.mono (lift f' e3)⟩
          show ((wipe σ []).set j none)[i]? = _
          rw [List.getElem?_set_ne (fun z => nj2 _ _ _ rfl z.symm)]; exact e
        | rw v =>
          show ((wipe σ []).set j none)[i]? = _
          rw [List.getElem?_set_ne (fun z => nj3 _ rfl z.symm)]; exact w
    refine lc_list (xs := vs) (fun n H3 => ∃ acc, Ex (hid (fun a => Adr δ a ∨ a = C) H2) H3 ∧ (∀ a u, a ≠ C → H2 a = some u → H3 a = some u) ∧ H3 C = some (.lst acc) ∧ DnA (hid (c'.hd g δ) H3) acc (((xs.take n).filter cs).map e) ∧ Live c.O H3 ∧ Live c.N H3) ?_ (fun n H3 _ ⟨acc, e3, en, _, _, _, _⟩ => ?_) (fun n x H3 hx hP => ?_) (fun H3 hP => ?_)
    · refine ⟨[], fun a u h => ?_, fun a u na h => ?_, upd_same, ?_, (B2.liO).mono eC, (B2.liN).mono eC⟩
      · obtain ⟨h1, h2⟩ := hid_of h
        rw [upd_ne (fun z => h1 (.inr z))]; exact h2
      · rw [upd_ne na]; exact h
      · simp; exact .nil
    · refine .inl (.inl (en _ _ ?_ (hid_ex _ _ hp)))
      intro z; subst z; rw [hid_ex _ _ hp] at nC; cases nC
    · obtain ⟨acc, e3, en, hC, hacc, lO, lN⟩ := hP
      obtain ⟨dd, hdd, hdv⟩ := hr.get' hx
      rw [List.getElem?_map] at hdd
      obtain ⟨y, hy, ey⟩ := Option.map_eq_some_iff.mp hdd
      subst ey
      have B3 : Bs c' H3 (wipe σ [j]) δ := mk e3 (fun a u ha h => en a u (fun z => by
        subst z
        obtain ⟨k, f, ds, ha⟩ := ha
        obtain ⟨vs, _, q, _⟩ := B2.ent k _ ha
        rw [q] at nC; cases nC) h) hC lO lN
      have B4 := set_va (i := j) B3 (hdv.mono (lift f e3))
      have hyx : y ∈ xs := List.mem_of_getElem? hy
      obtain ⟨t1, t2⟩ := body c' y _ _ hyx B4
      have hn : n < xs.length := by rw [List.getElem?_eq_some_iff] at hy; exact hy.1
      have tk : xs.take (n + 1) = xs.take n ++ [y] := by rw [List.take_add_one, hy]; rfl
      have keepAdr : ∀ {H4 : Hp}, Ex H3 H4 → Ex (hid (fun a => Adr δ a ∨ a = C) H2) H4 ∧ (∀ a u, a ≠ C → H2 a = some u → H4 a = some u) := fun e4 => ⟨e3.trans e4, fun a u na h => e4 _ _ (en a u na h)⟩
      refine ⟨?_, t1 H3 (Ex.refl H3) _ fun H4 e4 => ?_⟩
      · show ((((wipe σ []).set j none).set j (some x)).set j none) = _
        rw [List.set_set, List.set_set]; rfl
      · cases hb : cs y with
        | false =>
          rw [if_neg Bool.false_ne_true]
          refine ⟨acc, (keepAdr e4).1, (keepAdr e4).2, e4 _ _ hC, ?_, lO.mono e4, lN.mono e4⟩
          rw [tk, List.filter_append]
          simp only [List.filter_cons, hb, List.filter_nil, Bool.false_eq_true, if_false, List.append_nil]
          exact hacc.mono (hid_mono e4)
        | true =>
          rw [if_pos rfl]
          refine t2 hb H4 e4 _ fun v5 H5 e5 h5 => ?_
          have e45 := e4.trans e5
          refine ⟨acc, e45 _ _ hC, ?_, acc ++ [v5], ?_, ?_, upd_same, ?_, ?_, ?_⟩
          · refine Evl.sz_lt ?_
            rw [hacc.length, List.length_map]
            have h1 : ((xs.take n).filter cs).length ≤ (xs.take n).length := List.length_filter_le _ _
            have h2 : (xs.take n).length ≤ n := List.length_take_le _ _
            omega
          · intro a u h
            obtain ⟨h1, h2⟩ := hid_of h
            rw [upd_ne (fun z => h1 (.inr z))]
            exact (keepAdr e45).1 a u h
          · intro a u na h
            rw [upd_ne na]
            exact (keepAdr e45).2 a u na h
          · rw [hid_upd_in ((hdn g C).mpr (.inr rfl)), tk, List.filter_append, List.map_append]
            simp only [List.filter_cons, hb, List.filter_nil, if_true, List.map_cons, List.map_nil]
            refine (hacc.mono (hid_mono e45)).append (.one (h5.mono (hid_sub (hd_sub fun b z => ?_))))
            obtain ⟨k, f', ds', z⟩ := z
            exact ⟨k, f', ds', by rw [List.getElem?_set_ne (fun y => by subst y; rw [hj] at z; cases z)]; exact z⟩
          · intro b hb z
            by_cases q : b = C
            · subst q; rw [upd_same] at z; cases z
            · rw [upd_ne q] at z; exact (lO.mono e45) b hb z
          · intro b hb z
            by_cases q : b = C
            · subst q; rw [upd_same] at z; cases z
            · rw [upd_ne q] at z; exact (lN.mono e45) b hb z
    · obtain ⟨acc, e3, en, hC, hacc, lO, lN⟩ := hP
      have el : vs.length = xs.length := by rw [hr.length, List.length_map]
      rw [el, List.take_length] at hacc
      refine q C acc H3 (Evl.fresh_back e2 nC) (e2.trans fun a u h => ?_) hC (hacc.mono (hid_sub fun a z => (hdn g a).mpr z))
      exact en a u (ne_of_none h nC) h
end
end HL
namespace HL
open PySem PySem.Spec PyProof.Rows L2
open Evl (Ex)
section
variable {K : PySem.W.Frag} {c : Wd} {o : Hd} {H H1 H' : Hp} {σ : Sta} {δ δ' : List Ent} {i j : Nat} {f g : Bool} {a : Addr} {d e : PyData} {ds es : List PyData} {ta tb te tl : TE} {t : TT} {ts : TS} {D : Ends} {S : Type}
theorem it_R1 {m : Int} (h : Ev o0 te σ H (.int m)) (hm : -1000000 ≤ m ∧ m ≤ 1000000) : ∀ H1, Ex H H1 → ∀ R : It → Hp → Prop, (∀ H2, Ex H1 H2 → R (Itr 0 m.toNat) H2) → iRng1 (tCons te tNil) σ H1 R := fun H1 x R q => h H1 x _ fun v H2 e2 hv => by
  cases hv
  exact ⟨m, rfl, by omega, by omega, q H2 e2⟩
theorem it_R2 {lo m : Int} (h1 : Ev o0 ta σ H (.int lo)) (h : Ev o0 te σ H (.int m)) (hm : -1000000 ≤ lo ∧ lo ≤ 1000000 ∧ -1000000 ≤ m ∧ m ≤ 1000000) : ∀ H1, Ex H H1 → ∀ R : It → Hp → Prop, (∀ H2, Ex H1 H2 → R (Itr lo (m - lo).toNat) H2) → iRng2 (tCons ta (tCons te tNil)) σ H1 R := fun H1 x R q => h1 H1 x _ fun v H2 e2 hv => h H2 (x.trans e2) _ fun w H3 e3 hw => by
  cases hv; cases hw
  exact ⟨lo, m, rfl, by omega, q H3 (e2.trans e3)⟩
/-! the same over a range -/
theorem en_lcR {lo : Int} {m : Nat} (cs : Nat → Bool) (e : Nat → PyData) {tr : TI} (B : Bs c H σ δ) (h : ∀ H1, Ex H H1 → ∀ R : It → Hp → Prop, (∀ H2, Ex H1 H2 → R (Itr lo m) H2) → tr σ H1 R) (hz : m ≤ 40000)
    (body : ∀ (c' : Wd) (x : Nat) (σ1 : Sta) (H1 : Hp), x < m → Bs c' H1 σ1 (δ.set j (.va true (.int (lo + x)))) → EvT t σ1 H1 (cs x) ∧ (cs x = true → Ev (c'.hd g (δ.set j (.va true (.int (lo + x))))) te σ1 H1 (e x)))
    (hj : δ[j]? = some .no) : EvN (c.hd g δ) (tLc tr (gName j) t te [j]) σ H (((List.range m).filter cs).map e) := fun H1 x1 Q q => by
  refine h H1 x1 _ fun H2 e2 => ?_
  have B2 : Bs c H2 σ δ := B.mono (x1.trans e2)
  · refine fun C nC => ?_
    -- the block's world: the new list may not be met
    let c' : Wd := { c with B := hid (fun a => Adr δ a ∨ a = C) H2, N := fun a => c.N a ∨ a = C }
    have eC : ∀ {u}, Ex H2 (upd H2 C u) := fun {u} => Evl.Ex.new nC
    have hdn : ∀ f' a, c'.hd f' δ a ↔ c.hd f' δ a ∨ a = C := fun f' a => by
      constructor
      · rintro (z | (z | z) | z)
        · exact .inl (.inl z)
        · exact .inl (.inr (.inl z))
        · exact .inr z
        · exact .inl (.inr (.inr z))
      · rintro ((z | z | z) | z)
        · exact .inl z
        · exact .inr (.inl (.inl z))
        · exact .inr (.inr z)
        · exact .inr (.inl (.inr z))
    have lift : ∀ {H3 : Hp} (f' : Bool), Ex (hid (fun a => Adr δ a ∨ a = C) H2) H3 → Ex (hid (c.hd f' δ) H2) (hid (c'.hd f' δ) H3) := fun {H3} f' e3 a u q => by
      obtain ⟨q1, q2⟩ := hid_of q
      have ha : ¬ a = C := ne_of_none q2 nC
      rw [hid_at (fun z => ((hdn f' a).mp z).elim q1 ha)]
      exact e3 a u (by rw [hid_at (fun z => z.elim (fun z => q1 (.inr (.inr z))) ha)]; exact q2)
    have mk : ∀ {H3 : Hp} {acc : List V}, Ex (hid (fun a => Adr δ a ∨ a = C) H2) H3 → (∀ a u, Adr δ a → H2 a = some u → H3 a = some u) → H3 C = some (.lst acc) → Live c.O H3 → Live c.N H3 → Bs c' H3 (wipe σ [j]) δ := fun {H3 acc} e3 eo hC lO lN => by
      refine ⟨e3, lO, fun a ha => ?_, fun a ha => ⟨(show hid (fun a => Adr δ a ∨ a = C) H2 a = none from hid_in (Or.inl ha)), (B2.own a ha).2.1, fun z => ?_⟩, B2.one, by rw [wipe_length]; exact B2.len, fun i e he => ?_⟩
      · rcases ha with ha | ha
        · exact lN a ha
        · subst ha; rw [hC]; simp
      · rcases z with z | z
        · exact (B2.own a ha).2.2 z
        · subst z
          obtain ⟨k, f, ds, ha⟩ := ha
          obtain ⟨vs, _, q, _⟩ := B2.ent k _ ha
          rw [q] at nC; cases nC
      · have w := B2.ent i e he
        have nj : ∀ f d, e = .va f d → i ≠ j := fun f d z y => by subst y; subst z; rw [hj] at he; cases he
        have nj2 : ∀ f a d, e = .ow f a d → i ≠ j := fun f a d z y => by subst y; subst z; rw [hj] at he; cases he
        have nj3 : ∀ v, e = .rw v → i ≠ j := fun v z y => by subst y; subst z; rw [hj] at he; cases he
        cases e with
        | no => trivial
        | va f' d =>
          obtain ⟨v, e, w⟩ := w
          refine ⟨v, ?_, w.mono (lift f' e3)⟩
          show ((wipe σ []).set j none)[i]? = _
          rw [List.getElem?_set_ne (fun z => nj _ _ rfl z.symm)]; exact e
        | ow f' b es =>
          obtain ⟨ws, e, w, r⟩ := w
          refine ⟨ws, ?_, eo _ _ ⟨i, f', es, he⟩ w, r.mono (lift f' e3)⟩
          show ((wipe σ []).set j none)[i]? = _
          rw [List.getElem?_set_ne (fun z => nj2 _ _ _ rfl z.symm)]; exact e
        | rw v =>
          show ((wipe σ []).set j none)[i]? = _
          rw [List.getElem?_set_ne (fun z => nj3 _ rfl z.symm)]; exact w
    refine lc_range (lo := lo) (n := m) (fun n H3 => ∃ acc, Ex (hid (fun a => Adr δ a ∨ a = C) H2) H3 ∧ (∀ a u, a ≠ C → H2 a = some u → H3 a = some u) ∧ H3 C = some (.lst acc) ∧ DnA (hid (c'.hd g δ) H3) acc (((List.range n).filter cs).map e) ∧ Live c.O H3 ∧ Live c.N H3) ?_ (fun n H3 hn hP => ?_) (fun H3 hP => ?_)
    · refine ⟨[], fun a u h => ?_, fun a u na h => ?_, upd_same, ?_, (B2.liO).mono eC, (B2.liN).mono eC⟩
      · obtain ⟨h1, h2⟩ := hid_of h
        rw [upd_ne (fun z => h1 (.inr z))]; exact h2
      · rw [upd_ne na]; exact h
      · simp; exact .nil
    · obtain ⟨acc, e3, en, hC, hacc, lO, lN⟩ := hP
      have B3 : Bs c' H3 (wipe σ [j]) δ := mk e3 (fun a u ha h => en a u (fun z => by
        subst z
        obtain ⟨k, f, ds, ha⟩ := ha
        obtain ⟨vs, _, q, _⟩ := B2.ent k _ ha
        rw [q] at nC; cases nC) h) hC lO lN
      have B4 := set_va (i := j) (f := true) B3 (.int (lo + n))
      obtain ⟨t1, t2⟩ := body c' n _ _ hn B4
      have tk : List.range (n + 1) = List.range n ++ [n] := List.range_succ
      have keepAdr : ∀ {H4 : Hp}, Ex H3 H4 → Ex (hid (fun a => Adr δ a ∨ a = C) H2) H4 ∧ (∀ a u, a ≠ C → H2 a = some u → H4 a = some u) := fun e4 => ⟨e3.trans e4, fun a u na h => e4 _ _ (en a u na h)⟩
      refine ⟨?_, t1 H3 (Ex.refl H3) _ fun H4 e4 => ?_⟩
      · show ((((wipe σ []).set j none).set j (some (.int (lo + n)))).set j none) = _
        rw [List.set_set, List.set_set]; rfl
      · cases hb : cs n with
        | false =>
          rw [if_neg Bool.false_ne_true]
          refine ⟨acc, (keepAdr e4).1, (keepAdr e4).2, e4 _ _ hC, ?_, lO.mono e4, lN.mono e4⟩
          rw [tk, List.filter_append]
          simp only [List.filter_cons, hb, List.filter_nil, Bool.false_eq_true, if_false, List.append_nil]
          exact hacc.mono (hid_mono e4)
        | true =>
          rw [if_pos rfl]
          refine t2 hb H4 e4 _ fun v5 H5 e5 h5 => ?_
          have e45 := e4.trans e5
          refine ⟨acc, e45 _ _ hC, ?_, acc ++ [v5], ?_, ?_, upd_same, ?_, ?_, ?_⟩
          · refine Evl.sz_lt ?_
            rw [hacc.length, List.length_map]
            have h1 : ((List.range n).filter cs).length ≤ (List.range n).length := List.length_filter_le _ _
            rw [List.length_range] at h1
            omega
          · intro a u h
            obtain ⟨h1, h2⟩ := hid_of h
            rw [upd_ne (fun z => h1 (.inr z))]
            exact (keepAdr e45).1 a u h
          · intro a u na h
            rw [upd_ne na]
            exact (keepAdr e45).2 a u na h
          · rw [hid_upd_in ((hdn g C).mpr (.inr rfl)), tk, List.filter_append, List.map_append]
            simp only [List.filter_cons, hb, List.filter_nil, if_true, List.map_cons, List.map_nil]
            refine (hacc.mono (hid_mono e45)).append (.one (h5.mono (hid_sub (hd_sub fun b z => ?_))))
            obtain ⟨k, f', ds', z⟩ := z
            exact ⟨k, f', ds', by rw [List.getElem?_set_ne (fun y => by subst y; rw [hj] at z; cases z)]; exact z⟩
          · intro b hb z
            by_cases q : b = C
            · subst q; rw [upd_same] at z; cases z
            · rw [upd_ne q] at z; exact (lO.mono e45) b hb z
          · intro b hb z
            by_cases q : b = C
            · subst q; rw [upd_same] at z; cases z
            · rw [upd_ne q] at z; exact (lN.mono e45) b hb z
    · obtain ⟨acc, e3, en, hC, hacc, lO, lN⟩ := hP
      refine q C acc H3 (Evl.fresh_back e2 nC) (e2.trans fun a u h => ?_) hC (hacc.mono (hid_sub fun a z => (hdn g a).mpr z))
      exact en a u (ne_of_none h nC) h
end
end HL
namespace HL
open PySem PySem.Spec PyProof.Rows L2
open Evl (Ex)

/-! ### at a def's entry -/
theorem Adr_none {δ : List Ent} (h : ∀ (e : Ent), e ∈ δ → ∀ f a ds, e ≠ .ow f a ds) (a : Addr) : ¬ Adr δ a := fun ⟨i, f, ds, q⟩ => h _ (List.mem_of_getElem? q) f a ds rfl
theorem start_len {N : List Str} {vs : List V} (h : vs.length ≤ N.length) : (L2.start N vs).length = N.length := by
  unfold L2.start
  simp; omega
def args (f : Bool) (n : Nat) (ds : List PyData) : List Ent := ds.map (.va f) ++ List.replicate (n - ds.length) .no
theorem bs_start {N : List Str} {vs : List V} {ds : List PyData} {H : Hp} {o : Hd} (f : Bool) (l : Live o H) (hf : DnA (hid (fun a => f = true ∧ o a) H) vs ds) (hN : vs.length ≤ N.length) : Bs ⟨H, o, o0⟩ H (L2.start N vs) (args f N.length ds) := by
  have hl := hf.length
  have na : ∀ a, ¬ Adr (args f N.length ds) a := Adr_none (fun e he f' a ds' z => by
    subst z
    unfold args at he
    rcases List.mem_append.mp he with he | he
    · obtain ⟨d, _, q⟩ := List.mem_map.mp he; cases q
    · have := (List.mem_replicate.mp he).2; cases this)
  refine ⟨Ex.refl H, l, live0, fun a h => (na a h).elim, fun i j f1 g a d1 es h1 h2 => (na a ⟨i, f1, d1, h1⟩).elim, ?_, fun i e he => ?_⟩
  · rw [start_len hN]; unfold args; simp; omega
  · unfold args at he
    by_cases hi : i < ds.length
    · rw [List.getElem?_append_left (by simpa using hi), List.getElem?_map] at he
      obtain ⟨d, hd, q⟩ := Option.map_eq_some_iff.mp he
      subst q
      obtain ⟨v, hv, q⟩ := hf.get hd
      refine ⟨v, ?_, q.mono (hid_sub fun a z => ?_)⟩
      · rw [start_get (by rw [hl]; exact hi) hN]
        rw [List.getElem?_eq_some_iff] at hv
        rw [hv.2]
      · rcases z with z | z | z
        · exact z
        · exact z.elim
        · exact (na a z).elim
    · rw [List.getElem?_append_right (by simp; omega)] at he
      have := (List.mem_replicate.mp (List.mem_of_getElem? he)).2
      subst this
      trivial
theorem bs_F {N : List Str} {vs : List V} {ds : List PyData} {H : Hp} (h : DnA H vs ds) (hN : vs.length ≤ N.length) : Bs ⟨H, fun a => H a ≠ none, o0⟩ H (L2.start N vs) (args false N.length ds) :=
  bs_start false (fun _ h => h) (h.mono (fun a u q => by rw [hid_at (fun z => Bool.noConfusion z.1)]; exact q)) hN
theorem bs_S {N : List Str} {vs : List V} {ds : List PyData} {H : Hp} {o : Hd} (l : Live o H) (h : DnA (hid o H) vs ds) (hN : vs.length ≤ N.length) : Bs ⟨H, o, o0⟩ H (L2.start N vs) (args true N.length ds) :=
  bs_start true l (h.mono (hid_sub fun a z => z.2)) hN
theorem new_of {H H1 : Hp} {v : V} {d : PyData} (h : Dn (hid ((⟨H, fun a => H a ≠ none, o0⟩ : Wd).hd true []) H1) v d) : Dn (new H H1) v d := h.mono (hid_sub fun a z => .inl ⟨rfl, z⟩)
theorem hd_nil {c : Wd} {H1 : Hp} {v : V} {d : PyData} (h : Dn (hid (c.hd true []) H1) v d) : Dn (hid c.O H1) v d := h.mono (hid_sub fun a z => .inl ⟨rfl, z⟩)

/-! ### readings that change the body's own lists -/
def EvM (c : Wd) (te : TE) (σ : Sta) (H : Hp) (δ : List Ent) (d : PyData) (δ' : List Ent) : Prop := ∀ Q : VK, (∀ v H2, Bs c H2 σ δ' → (∀ a u, ¬ Adr δ a → H a = some u → H2 a = some u) → Dn (hid (c.hd true δ') H2) v d → Q v H2) → te σ H Q
/-- a def that changes the list that it is passed first -/
def SpM (R : List PyData → List PyData → PyData → List PyData → Prop) : Sp := fun vs H Q _ => ∃ (a : Addr) (xs vr : List V) (o : Hd) (ds rs : List PyData) (d : PyData) (ds' : List PyData), vs = .ref a :: vr ∧ Live o H ∧ o a ∧ H a = some (.lst xs) ∧ DnA (hid o H) xs ds ∧ DnA H vr rs ∧ R ds rs d ds' ∧
  ∀ v xs' H', (∀ b u, b ≠ a → H b = some u → H' b = some u) → H' a = some (.lst xs') → DnA (hid o H') xs' ds' → Dn (hid o H') v d → Q v H'
section
variable {K : PySem.W.Frag} {c : Wd} {o : Hd} {H H1 H' : Hp} {σ : Sta} {δ δ' δ'' : List Ent} {i j : Nat} {f g : Bool} {a : Addr} {d e : PyData} {ds ds' es : List PyData} {ta tb te tl : TE} {t : TT} {ts : TS} {D : Ends}
theorem Bs.exN (B : Bs c H σ δ) (e : Ex H H') : ∀ a u, ¬ Adr δ a → H a = some u → H' a = some u := fun a u _ h => e a u h
theorem em_pure (B : Bs c H σ δ) (h : Ev (c.hd true δ) te σ H d) : EvM c te σ H δ d δ := fun Q q => h.go fun v H2 e2 hv => q v H2 (B.mono e2) (B.exN e2) hv
theorem em_int {m : Int} (h : EvM c ta σ H δ (.int m) δ') : EvM c (tCB (fun xs H Q => (∃ i, xs = [.int i] ∧ Q (.int i) H) ∨ ∃ k, xs = [.bl k] ∧ Q (.int (if k then 1 else 0)) H) (tCons ta tNil)) σ H δ (.int m) δ' := fun Q q =>
  h _ fun v H2 B2 k2 hv => by cases hv; exact .inl ⟨m, rfl, q _ H2 B2 k2 (.int _)⟩
theorem em_I0 {p : Int → Int → Int} {x y : Int} (h : EvM c ta σ H δ (.int x) δ') (hb : ∀ H2, Bs c H2 σ δ' → Ev o0 tb σ H2 (.int y)) : EvM c (tOp (rI0 fun i j => .int (p i j)) ta tb) σ H δ (.int (p x y)) δ' := fun Q q =>
  h _ fun v H2 B2 k2 hv => (hb H2 B2).go fun w H3 e3 hw => by cases hv; cases hw; exact ⟨x, y, rfl, rfl, q _ H3 (B2.mono e3) (fun a u na h => e3 _ _ (k2 a u na h)) (.int _)⟩
theorem em_IC {C : Int → Int → Prop} {p : Int → Int → Int} {x y : Int} (h : EvM c ta σ H δ (.int x) δ') (hb : ∀ H2, Bs c H2 σ δ' → Ev o0 tb σ H2 (.int y)) (hc : C x y) : EvM c (tOp (rI C fun i j => .int (p i j)) ta tb) σ H δ (.int (p x y)) δ' := fun Q q =>
  h _ fun v H2 B2 k2 hv => (hb H2 B2).go fun w H3 e3 hw => by cases hv; cases hw; exact ⟨x, y, rfl, rfl, hc, q _ H3 (B2.mono e3) (fun a u na h => e3 _ _ (k2 a u na h)) (.int _)⟩
/-- an item of a list at a place that is drawn -/
theorem em_ixL {m : Int} (ha : Ev (c.hd true δ) ta σ H (.list ds)) (stay : ∀ p, Adr δ p ↔ Adr δ' p) (h : ∀ H2, Ex H H2 → EvM c tb σ H2 δ (.int m) δ') (hg : atI ds m = some d) : EvM c (tOp (rIxL K) ta tb) σ H δ d δ' := fun Q q =>
  ha.go fun v H2 e2 hv => h H2 e2 _ fun w H3 B3 k3 hw => by
    cases hw
    cases hv with
    | lst h r =>
      have up : Ex (hid (c.hd true δ) H2) (hid (c.hd true δ') H3) := fun b u q => by
        obtain ⟨q1, q2⟩ := hid_of q
        rw [hid_at (fun z => q1 (by
          rcases z with z | z | z
          · exact .inl z
          · exact .inr (.inl z)
          · exact .inr (.inr ((stay b).mpr z))))]
        exact k3 b u (fun z => q1 (.inr (.inr z))) q2
      obtain ⟨y, y1, y2⟩ := (r.mono up).atI hg
      exact ⟨_, _, m, y, rfl, rfl, .inl (.inl (hid_ex _ _ (up _ _ h))), y1, q _ H3 B3 (fun a u na h => k3 a u na (e2 _ _ h)) y2⟩
/-- the call of a def that changes the own list in slot i -/
theorem em_call {R : List PyData → List PyData → PyData → List PyData → Prop} {E : XK} {tr : TA} (B : Bs c H σ δ) (hx : δ[i]? = some (.ow true a ds)) (h : EvA o0 tr σ H es) (hr : R ds es d ds') :
    EvM c (tCall (SpM R) [] E (tCons (tVar i) tr)) σ H δ d (δ.set i (.ow true a ds')) := fun Q q => by
  obtain ⟨vs, e1, ha, hv⟩ := B.ent i _ hx
  refine ⟨.ref a, e1, h H (Ex.refl H) _ fun ws H2 e2 hw => ?_⟩
  have B2 := B.mono e2
  refine ⟨a, vs, ws, c.hd true δ, ds, es, d, ds', by rw [List.append_nil], B2.live true, .inr (.inr ⟨i, true, ds, hx⟩), e2 _ _ ha, hv.mono (hid_mono e2), hw.up, hr, fun v xs' H' hk hp hxs hvd => ?_⟩
  have ex : Ex H2 (upd H' a (.lst vs)) := fun b u qq => by
    by_cases z : b = a
    · subst z; rw [upd_same]; rw [e2 _ _ ha] at qq; exact qq
    · rw [upd_ne z]; exact hk b u z qq
  have ia : ∀ g, c.hd g δ a := fun g => .inr (.inr ⟨i, true, ds, hx⟩)
  have B3 := B2.mono ex
  have B4 := set_in (vs' := xs') (ds' := ds') B3 hx (by rw [hid_upd_in (ia true)]; exact hxs)
  have eH : upd (upd H' a (.lst vs)) a (.lst xs') = H' := by
    funext b
    by_cases z : b = a
    · subst z; rw [upd_same, hp]
    · rw [upd_ne z, upd_ne z]
  rw [eH] at B4
  have hl : i < δ.length := by rw [List.getElem?_eq_some_iff] at hx; exact hx.1
  refine q v H' B4 (fun b u nb hb => hk b u (fun z => nb ⟨i, true, ds, by rw [z] ; exact hx⟩) (e2 _ _ hb)) (hvd.mono (hid_sub (hd_sub fun b z => ?_)))
  rcases adr_set z with z | ⟨_, _, z⟩
  · exact z
  · injection z with _ z _; subst z; exact ⟨i, true, ds, hx⟩
theorem s_asgM (h : EvM c te σ H δ d δ') (k : ∀ σ1 H1, Bs c H1 σ1 (δ'.set i (.va true d)) → D.nx σ1 H1) : tAsg te (gName i) D σ H := h _ fun v H2 B2 _ hv => k _ _ (set_va B2 hv)
theorem s_retM {Q : V → Hp → Prop} (hD : D.rt = Q) (h : EvM c te σ H δ d δ') (k : ∀ v H1, Bs c H1 σ δ' → Dn (hid (c.hd true δ') H1) v d → Q v H1) : tRet te D σ H := h _ fun v H2 B2 _ hv => by rw [hD]; exact k v H2 B2 hv

/-! own lists -/
theorem s_pop0 {m : Int} {n : Nat} {x : PyData} (B : Bs c H σ δ) (hx : δ[i]? = some (.ow f a ds)) (h : Ev o0 te σ H (.int m)) (hb : -1000000 ≤ m ∧ m ≤ 1000000) (hm : ixN ds.length m = some n) (hd : ds[n]? = some x) (k : ∀ H1, Bs c H1 σ (δ.set i (.ow f a (ds.eraseIdx n))) → D.nx σ H1) :
    tDrop (tBM K "list" rPopAt (tVar i) (tCons te tNil)) D σ H := by
  obtain ⟨vs, e, ha, hv⟩ := B.ent i _ hx
  refine ⟨.ref a, e, .inl ⟨rfl, vs, .inl (.inl ha)⟩, h.go fun v H2 e2 hw => ?_⟩
  cases hw
  obtain ⟨y, hy, _⟩ := hv.get hd
  refine ⟨a, vs, m, n, y, rfl, rfl, e2 _ _ ha, by omega, by omega, ?_, hy, k _ ?_⟩
  · rw [hv.length]; exact (ixN_seq hm).1
  · exact set_in (B.mono e2) hx ((hv.mono (hid_mono e2)).eraseIdx n)
theorem s_ins0 {m : Int} (B : Bs c H σ δ) (hx : δ[i]? = some (.ow f a ds)) (h : Ev o0 te σ H (.int m)) (hb : 0 ≤ m ∧ m ≤ 1000000) (hd : Ev (c.hd f δ) ta σ H d) (hz : ds.length < 100000) (k : ∀ H1, Bs c H1 σ (δ.set i (.ow f a (ds.take m.toNat ++ [d] ++ ds.drop m.toNat))) → D.nx σ H1) :
    tDrop (tBM K "list" (fun x vs H Q => ∃ (l : Addr) (xs : List V) (i : Int) (y : V), x = .ref l ∧ vs = [.int i, y] ∧ H l = some (.lst xs) ∧ xs.length < sizeLine ∧ 0 ≤ i ∧ i < 2 ^ 63 ∧ Q .non (upd H l (.lst (xs.take i.toNat ++ [y] ++ xs.drop i.toNat)))) (tVar i) (tCons te (tCons ta tNil))) D σ H := by
  obtain ⟨vs, e, ha, hv⟩ := B.ent i _ hx
  refine ⟨.ref a, e, .inl ⟨rfl, vs, .inl (.inl ha)⟩, h.go fun v H2 e2 hw => (hd.mono e2).go fun y H3 e3 hy => ?_⟩
  cases hw
  have e23 := e2.trans e3
  refine ⟨a, vs, m, y, rfl, rfl, e23 _ _ ha, Evl.sz_lt (by rw [hv.length]; exact hz), hb.1, by omega, k _ ?_⟩
  have r := hv.mono (hid_mono e23)
  exact set_in (B.mono e23) hx (((r.take _).append (.one hy)).append (r.drop _))
end
end HL
namespace HL
open PySem PySem.Spec PyProof.Rows L2
open Evl (Ex)
section
variable {K : PySem.W.Frag} {c : Wd} {o : Hd} {H H1 H' : Hp} {σ : Sta} {δ δ' : List Ent} {i j : Nat} {f g b : Bool} {a : Addr} {d e : PyData} {ds es : List PyData} {ta tb te tl : TE} {t : TT} {ts tu tw tz : TS} {D : Ends} {S : Type}
theorem q_asg (S : Bs c H σ δ) (h : Ev (c.hd f δ) te σ H d) (k : ∀ σ1 H1, Bs c H1 σ1 (δ.set i (.va f d)) → tz D σ1 H1) :
    tSeq (tAsg te (gName i)) tz D σ H := s_asg (D := { D with nx := tz D }) S h k
theorem q_asgN (S : Bs c H σ δ) (h : EvN (c.hd f δ) te σ H ds) (k : ∀ a σ1 H1, Bs c H1 σ1 (δ.set i (.ow f a ds)) → tz D σ1 H1) :
    tSeq (tAsg te (gName i)) tz D σ H := s_asgN (D := { D with nx := tz D }) S h k
theorem q_asg2 (S : Bs c H σ δ) (h : Ev (c.hd f δ) te σ H d) (k : ∀ σ1 H1, Bs c H1 σ1 ((δ.set i (.va f d)).set j (.va f d)) → tz D σ1 H1) :
    tSeq (tAsg2 te (gName i) (gName j)) tz D σ H := s_asg2 (D := { D with nx := tz D }) S h k
theorem q_if (S : Bs c H σ δ) (h : EvT t σ H b) (h1 : b = true → ∀ H1, Bs c H1 σ δ → tu { D with nx := tz D } σ H1) (h2 : b = false → ∀ H1, Bs c H1 σ δ → tw { D with nx := tz D } σ H1) :
    tSeq (tIfS t tu tw) tz D σ H := s_if (D := { D with nx := tz D }) S h h1 h2
theorem q_drop (S : Bs c H σ δ) (h : Ev o0 te σ H d) (k : ∀ H1, Bs c H1 σ δ → tz D σ H1) :
    tSeq (tDrop te) tz D σ H := s_drop (D := { D with nx := tz D }) S h k
theorem q_aug {x y : Int} {p : Int → Int → Int} (S : Bs c H σ δ) (hx : δ[i]? = some (.va f (.int x))) (h : Ev o0 te σ H (.int y)) (k : ∀ σ1 H1, Bs c H1 σ1 (δ.set i (.va true (.int (p x y)))) → tz D σ1 H1) :
    tSeq (tAug i te (ipI p)) tz D σ H := s_aug (D := { D with nx := tz D }) S hx h k
theorem q_app (S : Bs c H σ δ) (hx : δ[i]? = some (.ow f a ds)) (h : Ev (c.hd f δ) te σ H d) (hz : ds.length < 100000) (k : ∀ H1, Bs c H1 σ (δ.set i (.ow f a (ds ++ [d]))) → tz D σ H1) :
    tSeq (tDrop (tBM K "list" rAppend (tVar i) (tCons te tNil))) tz D σ H := s_app (D := { D with nx := tz D }) S hx h hz k
theorem q_setI {ti : TE} {m : Int} {n : Nat} (S : Bs c H σ δ) (hx : δ[i]? = some (.ow f a ds)) (h : Ev (c.hd f δ) te σ H d) (hi : Ev o0 ti σ H (.int m)) (hm : ixN ds.length m = some n) (k : ∀ H1, Bs c H1 σ (δ.set i (.ow f a (ds.set n d))) → tz D σ H1) :
    tSeq (tAsg te (gSub (tVar i) ti rSetL)) tz D σ H := s_setI (D := { D with nx := tz D }) S hx h hi hm k
theorem q_forL (S : Type) (I : Nat → S → Prop) (Δ : S → List Ent) (s0 : S) (B : Bs c H σ δ) (h : Ev (c.hd f δ) tl σ H (.list ds)) (w : LeA δ (Δ s0)) (i0 : I 0 s0)
    (body : ∀ (B0 : Hp), Ex c.B B0 → ∀ (n : Nat) (s : S) (d : PyData) (σ1 : Sta) (H1 : Hp), ds[n]? = some d → I n s → Bs { c with B := B0 } H1 σ1 ((Δ s).set j (.va f d)) →
      ts { D with nx := NX c B0 S Δ I (n + 1), ct := NX c B0 S Δ I (n + 1), bk := tz D } σ1 H1)
    (done : ∀ s σ1 H1, I ds.length s → Bs c H1 σ1 (Δ s) → tz D σ1 H1) :
    tSeq (tFor (iList K tl) (gName j) ts) tz D σ H := s_forL (D := { D with nx := tz D }) S I Δ s0 B h w i0 body done
theorem q_forT (S : Type) (I : Nat → S → Prop) (Δ : S → List Ent) (s0 : S) (B : Bs c H σ δ) (h : Ev (c.hd f δ) tl σ H (.tuple ds)) (w : LeA δ (Δ s0)) (i0 : I 0 s0)
    (body : ∀ (B0 : Hp), Ex c.B B0 → ∀ (n : Nat) (s : S) (d : PyData) (σ1 : Sta) (H1 : Hp), ds[n]? = some d → I n s → Bs { c with B := B0 } H1 σ1 ((Δ s).set j (.va f d)) →
      ts { D with nx := NX c B0 S Δ I (n + 1), ct := NX c B0 S Δ I (n + 1), bk := tz D } σ1 H1)
    (done : ∀ s σ1 H1, I ds.length s → Bs c H1 σ1 (Δ s) → tz D σ1 H1) :
    tSeq (tFor (iTup K tl) (gName j) ts) tz D σ H := s_forT (D := { D with nx := tz D }) S I Δ s0 B h w i0 body done
theorem q_forO (S : Type) (I : Nat → S → Prop) (Δ : S → List Ent) (s0 : S) (B : Bs c H σ δ) (hk : ∀ s, (Δ s)[i]? = some (.ow f a ds)) (w : LeA δ (Δ s0)) (i0 : I 0 s0)
    (body : ∀ (B0 : Hp), Ex c.B B0 → ∀ (n : Nat) (s : S) (d : PyData) (σ1 : Sta) (H1 : Hp), ds[n]? = some d → I n s → Bs { c with B := B0 } H1 σ1 ((Δ s).set j (.va f d)) →
      ts { D with nx := NX c B0 S Δ I (n + 1), ct := NX c B0 S Δ I (n + 1), bk := tz D } σ1 H1)
    (done : ∀ s σ1 H1, I ds.length s → Bs c H1 σ1 (Δ s) → tz D σ1 H1) :
    tSeq (tFor (iList K (tVar i)) (gName j) ts) tz D σ H := s_forO (D := { D with nx := tz D }) S I Δ s0 B hk w i0 body done
theorem q_forR1 {m : Int} (S : Type) (I : Nat → S → Prop) (Δ : S → List Ent) (s0 : S) (B : Bs c H σ δ) (h : Ev o0 te σ H (.int m)) (hm : -1000000 ≤ m ∧ m ≤ 1000000) (w : LeA δ (Δ s0)) (i0 : I 0 s0)
    (body : ∀ (B0 : Hp), Ex c.B B0 → ∀ (n : Nat) (s : S) (σ1 : Sta) (H1 : Hp), n < m.toNat → I n s → Bs { c with B := B0 } H1 σ1 ((Δ s).set j (.va true (.int (0 + n)))) →
      ts { D with nx := NX c B0 S Δ I (n + 1), ct := NX c B0 S Δ I (n + 1), bk := tz D } σ1 H1)
    (done : ∀ s σ1 H1, I m.toNat s → Bs c H1 σ1 (Δ s) → tz D σ1 H1) :
    tSeq (tFor (iRng1 (tCons te tNil)) (gName j) ts) tz D σ H := s_forR1 (D := { D with nx := tz D }) S I Δ s0 B h hm w i0 body done
theorem q_forR2 {lo m : Int} (S : Type) (I : Nat → S → Prop) (Δ : S → List Ent) (s0 : S) (B : Bs c H σ δ) (h1 : Ev o0 ta σ H (.int lo)) (h2 : Ev o0 te σ H (.int m)) (hm : -1000000 ≤ lo ∧ lo ≤ 1000000 ∧ -1000000 ≤ m ∧ m ≤ 1000000) (w : LeA δ (Δ s0)) (i0 : I 0 s0)
    (body : ∀ (B0 : Hp), Ex c.B B0 → ∀ (n : Nat) (s : S) (σ1 : Sta) (H1 : Hp), n < (m - lo).toNat → I n s → Bs { c with B := B0 } H1 σ1 ((Δ s).set j (.va true (.int (lo + n)))) →
      ts { D with nx := NX c B0 S Δ I (n + 1), ct := NX c B0 S Δ I (n + 1), bk := tz D } σ1 H1)
    (done : ∀ s σ1 H1, I (m - lo).toNat s → Bs c H1 σ1 (Δ s) → tz D σ1 H1) :
    tSeq (tFor (iRng2 (tCons ta (tCons te tNil))) (gName j) ts) tz D σ H := s_forR2 (D := { D with nx := tz D }) S I Δ s0 B h1 h2 hm w i0 body done
theorem q_forRev {m : Int} (S : Type) (I : Nat → S → Prop) (Δ : S → List Ent) (s0 : S) (B : Bs c H σ δ) (h : Ev o0 te σ H (.int m)) (hm : -1000000 ≤ m ∧ m ≤ 1000000) (w : LeA δ (Δ s0)) (i0 : I 0 s0)
    (body : ∀ (B0 : Hp), Ex c.B B0 → ∀ (n : Nat) (s : S) (σ1 : Sta) (H1 : Hp), n < m.toNat → I n s → Bs { c with B := B0 } H1 σ1 ((Δ s).set j (.va true (.int (m - 1 - n)))) →
      ts { D with nx := NX c B0 S Δ I (n + 1), ct := NX c B0 S Δ I (n + 1), bk := tz D } σ1 H1)
    (done : ∀ s σ1 H1, I m.toNat s → Bs c H1 σ1 (Δ s) → tz D σ1 H1) :
    tSeq (tFor (iRevR (tRg1 te)) (gName j) ts) tz D σ H := s_forRev (D := { D with nx := tz D }) S I Δ s0 B h hm w i0 body done
theorem q_while (S : Type) (I : S → Prop) (M : S → Nat) (Δ : S → List Ent) (s0 : S) (b : S → Bool) (B : Bs c H σ δ) (w : LeA δ (Δ s0)) (i0 : I s0)
    (test : ∀ (B0 : Hp), Ex c.B B0 → ∀ (s : S) (σ1 : Sta) (H1 : Hp), I s → Bs { c with B := B0 } H1 σ1 (Δ s) → EvT t σ1 H1 (b s))
    (body : ∀ (B0 : Hp), Ex c.B B0 → ∀ (s : S) (σ1 : Sta) (H1 : Hp), I s → b s = true → Bs { c with B := B0 } H1 σ1 (Δ s) →
      ts { D with nx := fun σ' H' => ∃ s', (I s' ∧ M s' < M s) ∧ Bs { c with B := B0 } H' σ' (Δ s'), ct := fun σ' H' => ∃ s', (I s' ∧ M s' < M s) ∧ Bs { c with B := B0 } H' σ' (Δ s'), bk := tz D } σ1 H1)
    (done : ∀ s σ1 H1, I s → b s = false → Bs c H1 σ1 (Δ s) → tz D σ1 H1) :
    tSeq (tWhile t ts) tz D σ H := s_while (D := { D with nx := tz D }) S I M Δ s0 b B w i0 test body done
theorem q_asgM (h : EvM c te σ H δ d δ') (k : ∀ σ1 H1, Bs c H1 σ1 (δ'.set i (.va true d)) → tz D σ1 H1) :
    tSeq (tAsg te (gName i)) tz D σ H := s_asgM (D := { D with nx := tz D }) h k
theorem q_pop0 {m : Int} {n : Nat} {x : PyData} (B : Bs c H σ δ) (hx : δ[i]? = some (.ow f a ds)) (h : Ev o0 te σ H (.int m)) (hb : -1000000 ≤ m ∧ m ≤ 1000000) (hm : ixN ds.length m = some n) (hd : ds[n]? = some x) (k : ∀ H1, Bs c H1 σ (δ.set i (.ow f a (ds.eraseIdx n))) → tz D σ H1) :
    tSeq (tDrop (tBM K "list" rPopAt (tVar i) (tCons te tNil))) tz D σ H := s_pop0 (D := { D with nx := tz D }) B hx h hb hm hd k
theorem q_ins0 {m : Int} (B : Bs c H σ δ) (hx : δ[i]? = some (.ow f a ds)) (h : Ev o0 te σ H (.int m)) (hb : 0 ≤ m ∧ m ≤ 1000000) (hd : Ev (c.hd f δ) ta σ H d) (hz : ds.length < 100000) (k : ∀ H1, Bs c H1 σ (δ.set i (.ow f a (ds.take m.toNat ++ [d] ++ ds.drop m.toNat))) → tz D σ H1) :
    tSeq (tDrop (tBM K "list" (fun x vs H Q => ∃ (l : Addr) (xs : List V) (i : Int) (y : V), x = .ref l ∧ vs = [.int i, y] ∧ H l = some (.lst xs) ∧ xs.length < sizeLine ∧ 0 ≤ i ∧ i < 2 ^ 63 ∧ Q .non (upd H l (.lst (xs.take i.toNat ++ [y] ++ xs.drop i.toNat)))) (tVar i) (tCons te (tCons ta tNil)))) tz D σ H := s_ins0 (D := { D with nx := tz D }) B hx h hb hd hz k
/-- a statement and the rest, with a word between them -/
theorem q_cut {ts tz : TS} (M : Sta → Hp → Prop) (h : ts { D with nx := M } σ H) (k : ∀ σ' H', M σ' H' → tz D σ' H') (mono : ∀ D D' σ H, (∀ σ H, D.nx σ H → D'.nx σ H) → D.rt = D'.rt → D.bk = D'.bk → D.ct = D'.ct → ts D σ H → ts D' σ H) : tSeq ts tz D σ H :=
  mono { D with nx := M } { D with nx := tz D } σ H k rfl rfl rfl h
end
end HL
namespace HL
open PySem PySem.Spec PyProof.Rows L2
open Evl (Ex)
instance : Inhabited PyData := ⟨.none⟩
instance : Inhabited Str := ⟨⟨#[]⟩⟩
@[reducible] def eI (i : Int) : PyData := .int i
@[reducible] def eS (x : Str) : PyData := .str x
@[reducible] def eB (b : Bool) : PyData := .bool b
@[reducible] def eU (_ : Unit) : PyData := .none
@[reducible] def eD (d : PyData) : PyData := d
@[reducible] def eL {α : Type} (em : α → PyData) (xs : List α) : PyData := .list (xs.map em)
@[reducible] def eTu {α : Type} (em : α → PyData) (xs : List α) : PyData := .tuple (xs.map em)
@[reducible] def eT2 {α β : Type} (e1 : α → PyData) (e2 : β → PyData) (p : α × β) : PyData := .tuple [e1 p.1, e2 p.2]
@[reducible] def eT3 {α β γ : Type} (e1 : α → PyData) (e2 : β → PyData) (e3 : γ → PyData) (p : α × β × γ) : PyData := .tuple [e1 p.1, e2 p.2.1, e3 p.2.2]
@[reducible] def eT4 {α β γ δ : Type} (e1 : α → PyData) (e2 : β → PyData) (e3 : γ → PyData) (e4 : δ → PyData) (p : α × β × γ × δ) : PyData := .tuple [e1 p.1, e2 p.2.1, e3 p.2.2.1, e4 p.2.2.2]
def eO {α : Type} (em : α → PyData) : Option α → PyData
  | none => .none
  | some x => em x
/-- items by Python's places -/
def getI {α : Type} [Inhabited α] (xs : List α) (m : Int) : α := (atI xs m).getD default
def inB {α : Type} (xs : List α) (m : Int) : Prop := -(xs.length : Int) ≤ m ∧ m < xs.length
def rng (lo hi : Int) : List Int := (List.range (hi - lo).toNat).map fun (n : Nat) => lo + n
theorem rng_len (lo hi : Int) : (rng lo hi).length = (hi - lo).toNat := by simp [rng]
theorem rng_get {lo hi : Int} {n : Nat} (h : n < (hi - lo).toNat) : (rng lo hi)[n]? = some (lo + n) := by simp [rng, h]
theorem rng_mem {lo hi x : Int} : x ∈ rng lo hi ↔ lo ≤ x ∧ x < hi := by
  simp only [rng, List.mem_map, List.mem_range]
  constructor
  · rintro ⟨n, hn, rfl⟩; omega
  · intro h; exact ⟨(x - lo).toNat, by omega, by omega⟩
theorem ixN_in {n : Nat} {m : Int} (h : -(n : Int) ≤ m ∧ m < n) : ∃ j, ixN n m = some j ∧ j < n := by
  unfold ixN
  by_cases h0 : 0 ≤ m
  · rw [if_pos h0, if_pos h.2]; exact ⟨m.toNat, rfl, by omega⟩
  · rw [if_neg h0, if_pos h.1]; exact ⟨(m + n).toNat, rfl, by omega⟩
theorem atI_getI {α : Type} [Inhabited α] {xs : List α} {m : Int} (h : inB xs m) (f : α → PyData) : atI (xs.map f) m = some (f (getI xs m)) := by
  obtain ⟨j, h1, h2⟩ := ixN_in h
  unfold getI atI
  rw [List.length_map, h1]
  simp [h2]
theorem getI_nat {α : Type} [Inhabited α] {xs : List α} {n : Nat} : getI xs (n : Int) = xs.getD n default := by
  unfold getI atI ixN
  rw [if_pos (by omega)]
  by_cases h : n < xs.length
  · rw [if_pos (by omega)]; simp [h]
  · rw [if_neg (by omega)]; simp [h]
theorem getI_mem {α : Type} [Inhabited α] {xs : List α} {m : Int} (h : inB xs m) : getI xs m ∈ xs := by
  obtain ⟨j, h1, h2⟩ := ixN_in h
  unfold getI atI
  rw [h1]
  simp [h2]
theorem cutG_map {α β : Type} (f : α → β) (xs : List α) (lo hi : Option Int) : cutG (xs.map f) lo hi = (cutG xs lo hi).map f := by
  unfold cutG
  rw [List.length_map, List.map_take, List.map_drop]
section
variable {K : PySem.W.Frag} {c : Wd} {o : Hd} {H H1 H' : Hp} {σ : Sta} {δ δ' : List Ent} {i j : Nat} {f g b : Bool} {a : Addr} {d e : PyData} {ta tb te tl : TE} {tlo thi : TO} {t : TT} {ts tu tw tz : TS} {D : Ends} {α β : Type} {em : α → PyData} {em2 : β → PyData} {xs ys : List α} {m n : Int}
abbrev rLenK (K : PySem.W.Frag) : List V → Hp → VK → Prop := fun xs H Q => ∃ p ys, xs = [.ref p] ∧ (SqL K H p ys ∨ SqT K H p ys) ∧ Q (.int ys.length) H
theorem ev_lenM (ha : Ev o0 ta σ H (eL em xs)) : Ev o (tCB (rLenK K) (tCons ta tNil)) σ H (eI xs.length) := (ev_len ha).is (by rw [List.length_map])
theorem ev_lenTu (ha : Ev o0 ta σ H (eTu em xs)) : Ev o (tCB (rLenK K) (tCons ta tNil)) σ H (eI xs.length) := (ev_lenT ha).is (by rw [List.length_map])
theorem ev_ixM [Inhabited α] (ha : Ev o ta σ H (eL em xs)) (hi : Ev o0 tb σ H (eI m)) (hb : inB xs m) : Ev o (tOp (rIxL K) ta tb) σ H (em (getI xs m)) := ev_ixL ha hi (atI_getI hb em)
theorem ev_ixTu [Inhabited α] (ha : Ev o ta σ H (eTu em xs)) (hi : Ev o0 tb σ H (eI m)) (hb : inB xs m) : Ev o (tOp (rIxT K) ta tb) σ H (em (getI xs m)) := ev_ixT ha hi (atI_getI hb em)
theorem ev_ixOM [Inhabited α] (B : Bs c H σ δ) (hx : δ[i]? = some (.ow f a (xs.map em))) (hi : Ev o0 tb σ H (eI m)) (hb : inB xs m) : Ev (c.hd f δ) (tOp (rIxL K) (tVar i) tb) σ H (em (getI xs m)) := ev_ixO B hx hi (atI_getI hb em)
theorem ev_owM (B : Bs c H σ δ) (hx : δ[i]? = some (.ow f a (xs.map em))) : Ev o0 (tVar i) σ H (eL em xs) := ev_owR B hx
theorem en_slM {lo hi : Option Int} (h : Ev o te σ H (eL em xs)) (h1 : EvO tlo σ H lo) (h2 : EvO thi σ H hi) : EvN o (tSl (rSlL K) te tlo thi) σ H ((cutG xs lo hi).map em) := (en_sl h h1 h2).is (cutG_map em xs lo hi)
theorem en_revM (h : Ev o te σ H (eL em xs)) : EvN o (tRevL K te) σ H (xs.reverse.map em) := (en_rev h).is (by rw [List.map_reverse])
theorem en_catM (ha : Ev o ta σ H (eL em xs)) (hb : Ev o tb σ H (eL em ys)) (hz : xs.length + ys.length ≤ 100000) : EvN o (tOp rCat ta tb) σ H ((xs ++ ys).map em) := (en_cat ha hb (by rw [List.length_map, List.length_map]; exact hz)).is (by rw [List.map_append])
theorem rep_map (k : Nat) : (List.replicate k (xs.map em)).flatten = (List.replicate k xs).flatten.map em := by
  induction k with
  | zero => rfl
  | succ k ih => rw [List.replicate_succ, List.replicate_succ, List.flatten_cons, List.flatten_cons, List.map_append, ih]
theorem en_repM (ha : Ev o ta σ H (eL em xs)) (hb : Ev o0 tb σ H (eI m)) (h0 : -100000 ≤ m ∧ m ≤ 100000) (hz : xs.length * m.toNat ≤ 100000) : EvN o (tOp rRep ta tb) σ H ((List.replicate m.toNat xs).flatten.map em) := (en_rep ha hb h0.1 h0.2 (by rw [List.length_map]; exact hz)).is (rep_map _)
abbrev rListOfK (K : PySem.W.Frag) : List V → Hp → VK → Prop := fun xs H Q => ∃ p ys, xs = [.ref p] ∧ (SqL K H p ys ∨ SqT K H p ys) ∧ ∀ l, H l = none → Q (.ref l) (upd H l (.lst ys))
theorem en_listM (ha : Ev o ta σ H (eL em xs)) : EvN o (tCB (rListOfK K) (tCons ta tNil)) σ H (xs.map em) := en_listL ha
theorem en_listTu (ha : Ev o ta σ H (eTu em xs)) : EvN o (tCB (rListOfK K) (tCons ta tNil)) σ H (xs.map em) := en_listT ha
abbrev rTupOfK (K : PySem.W.Frag) : List V → Hp → VK → Prop := fun xs H Q => ∃ p ys, xs = [.ref p] ∧ ((SqL K H p ys ∧ ∀ l, H l = none → Q (.ref l) (upd H l (.tup ys))) ∨ (SqT K H p ys ∧ Q (.ref p) H))
theorem ev_tupM (l : Live o H) (ha : Ev o ta σ H (eL em xs)) : Ev o (tCB (rTupOfK K) (tCons ta tNil)) σ H (eTu em xs) := ev_tupL l ha
theorem ev_maxM {ns : List Int} (ha : Ev o0 ta σ H (eL eI ns)) (hne : 0 < ns.length) : Ev o (tCB (rMax K) (tCons ta tNil)) σ H (eI (maxI ns)) := ev_maxL ha hne
/-- a list comprehension over a list -/
theorem en_lcM (cs : α → Bool) (ex : α → β) (B : Bs c H σ δ) (hj : δ[j]? = some .no) (h : Ev (c.hd f δ) tl σ H (eL em xs)) (hz : xs.length ≤ 40000)
    (body : ∀ (c' : Wd) (x : α) (σ1 : Sta) (H1 : Hp), x ∈ xs → Bs c' H1 σ1 (δ.set j (.va f (em x))) → EvT t σ1 H1 (cs x) ∧ (cs x = true → Ev (c'.hd g (δ.set j (.va f (em x)))) te σ1 H1 (em2 (ex x)))) :
    EvN (c.hd g δ) (tLc (iList K tl) (gName j) t te [j]) σ H (((xs.filter cs).map ex).map em2) := (en_lcL xs em cs (fun x => em2 (ex x)) B h hz body hj).is (by rw [List.map_map]; rfl)
theorem en_lcM1 (ex : α → β) (B : Bs c H σ δ) (hj : δ[j]? = some .no) (h : Ev (c.hd f δ) tl σ H (eL em xs)) (hz : xs.length ≤ 40000)
    (body : ∀ (c' : Wd) (x : α) (σ1 : Sta) (H1 : Hp), x ∈ xs → Bs c' H1 σ1 (δ.set j (.va f (em x))) → Ev (c'.hd g (δ.set j (.va f (em x)))) te σ1 H1 (em2 (ex x))) :
    EvN (c.hd g δ) (tLc (iList K tl) (gName j) tYes te [j]) σ H ((xs.map ex).map em2) :=
  (en_lcM (fun _ => true) ex B hj h hz fun c' x σ1 H1 hx B => ⟨fun H1 _ Q q => q H1 (Ex.refl H1), fun _ => body c' x σ1 H1 hx B⟩).is (by rw [List.filter_eq_self.mpr (fun _ _ => rfl)])
theorem en_lcRM {lo hi : Int} {tr : TI} (cs : Int → Bool) (ex : Int → β) (B : Bs c H σ δ) (hj : δ[j]? = some .no) (h : ∀ H1, Ex H H1 → ∀ R : It → Hp → Prop, (∀ H2, Ex H1 H2 → R (Itr lo (hi - lo).toNat) H2) → tr σ H1 R) (hz : hi - lo ≤ 40000)
    (body : ∀ (c' : Wd) (x : Int) (σ1 : Sta) (H1 : Hp), x ∈ rng lo hi → Bs c' H1 σ1 (δ.set j (.va true (eI x))) → EvT t σ1 H1 (cs x) ∧ (cs x = true → Ev (c'.hd g (δ.set j (.va true (eI x)))) te σ1 H1 (em2 (ex x)))) :
    EvN (c.hd g δ) (tLc tr (gName j) t te [j]) σ H ((((rng lo hi).filter cs).map ex).map em2) :=
  (en_lcR (fun n => cs (lo + n)) (fun n => em2 (ex (lo + n))) B h (by omega) (fun c' x σ1 H1 hx B => body c' (lo + x) σ1 H1 (rng_mem.mpr (by omega)) B) hj).is (by
    unfold rng; rw [List.filter_map, List.map_map, List.map_map]; rfl)
theorem en_lcRM1 {lo hi : Int} {tr : TI} (ex : Int → β) (B : Bs c H σ δ) (hj : δ[j]? = some .no) (h : ∀ H1, Ex H H1 → ∀ R : It → Hp → Prop, (∀ H2, Ex H1 H2 → R (Itr lo (hi - lo).toNat) H2) → tr σ H1 R) (hz : hi - lo ≤ 40000)
    (body : ∀ (c' : Wd) (x : Int) (σ1 : Sta) (H1 : Hp), x ∈ rng lo hi → Bs c' H1 σ1 (δ.set j (.va true (eI x))) → Ev (c'.hd g (δ.set j (.va true (eI x)))) te σ1 H1 (em2 (ex x))) :
    EvN (c.hd g δ) (tLc tr (gName j) tYes te [j]) σ H (((rng lo hi).map ex).map em2) :=
  (en_lcRM (fun _ => true) ex B hj h hz fun c' x σ1 H1 hx B => ⟨fun H1 _ Q q => q H1 (Ex.refl H1), fun _ => body c' x σ1 H1 hx B⟩).is (by rw [List.filter_eq_self.mpr (fun _ _ => rfl)])
theorem it_R1M {hi : Int} (h : Ev o0 te σ H (eI hi)) (hm : -1000000 ≤ hi ∧ hi ≤ 1000000) : ∀ H1, Ex H H1 → ∀ R : It → Hp → Prop, (∀ H2, Ex H1 H2 → R (Itr 0 (hi - 0).toNat) H2) → iRng1 (tCons te tNil) σ H1 R := by
  rw [Int.sub_zero]; exact it_R1 h hm

/-! loops that fold: J holds between the turns -/
def FX (c : Wd) (B0 : Hp) (S : Type) (Δ : S → List Ent) (J : Nat → S → Prop) (n : Nat) (s1 : S) : Sta → Hp → Prop := fun σ H => ∃ s', s' = s1 ∧ J n s' ∧ Bs { c with B := B0 } H σ (Δ s')
theorem take_fold {S : Type} {stp : S → α → S} {s0 : S} {k : Nat} {x : α} (h : xs[k]? = some x) : (xs.take (k + 1)).foldl stp s0 = stp ((xs.take k).foldl stp s0) x := by
  rw [List.take_add_one, h, List.foldl_append]; rfl
theorem q_foldL {S : Type} (Δ : S → List Ent) (stp : S → α → S) (s0 : S) (J : Nat → S → Prop) (B : Bs c H σ δ) (h : Ev (c.hd f δ) tl σ H (eL em xs)) (w : LeA δ (Δ s0)) (j0 : J 0 s0)
    (body : ∀ (B0 : Hp), Ex c.B B0 → ∀ (n : Nat) (s : S) (x : α) (σ1 : Sta) (H1 : Hp), x ∈ xs → n < xs.length → J n s → Bs { c with B := B0 } H1 σ1 ((Δ s).set j (.va f (em x))) →
      ts { D with nx := FX c B0 S Δ J (n + 1) (stp s x), ct := FX c B0 S Δ J (n + 1) (stp s x), bk := tz D } σ1 H1)
    (done : ∀ s σ1 H1, s = xs.foldl stp s0 → J xs.length s → Bs c H1 σ1 (Δ s) → tz D σ1 H1) : tSeq (tFor (iList K tl) (gName j) ts) tz D σ H := by
  refine q_forL S (fun n s => s = (xs.take n).foldl stp s0 ∧ J n s) Δ s0 B h w ⟨by simp, j0⟩ (fun B0 e0 n s d σ1 H1 hd hI B => ?_) (fun s σ1 H1 hI B => ?_)
  · rw [List.getElem?_map] at hd
    obtain ⟨x, hx, ex⟩ := Option.map_eq_some_iff.mp hd
    subst ex
    have q := body B0 e0 n s x σ1 H1 (List.mem_of_getElem? hx) (by rw [List.getElem?_eq_some_iff] at hx; exact hx.1) hI.2 B
    have en : FX c B0 S Δ J (n + 1) (stp s x) = NX c B0 S Δ (fun n s => s = (xs.take n).foldl stp s0 ∧ J n s) (n + 1) := by
      funext σ H
      unfold FX NX
      dsimp only
      rw [take_fold hx, ← hI.1]
      simp only [and_assoc]
    rw [en] at q
    exact q
  · rw [List.length_map] at hI
    refine done s σ1 H1 ?_ hI.2 B
    rw [hI.1, List.take_length]
theorem q_foldO {S : Type} (Δ : S → List Ent) (stp : S → α → S) (s0 : S) (J : Nat → S → Prop) (B : Bs c H σ δ) (hk : ∀ s, (Δ s)[i]? = some (.ow f a (xs.map em))) (w : LeA δ (Δ s0)) (j0 : J 0 s0)
    (body : ∀ (B0 : Hp), Ex c.B B0 → ∀ (n : Nat) (s : S) (x : α) (σ1 : Sta) (H1 : Hp), x ∈ xs → n < xs.length → J n s → Bs { c with B := B0 } H1 σ1 ((Δ s).set j (.va f (em x))) →
      ts { D with nx := FX c B0 S Δ J (n + 1) (stp s x), ct := FX c B0 S Δ J (n + 1) (stp s x), bk := tz D } σ1 H1)
    (done : ∀ s σ1 H1, s = xs.foldl stp s0 → J xs.length s → Bs c H1 σ1 (Δ s) → tz D σ1 H1) : tSeq (tFor (iList K (tVar i)) (gName j) ts) tz D σ H := by
  refine q_forO S (fun n s => s = (xs.take n).foldl stp s0 ∧ J n s) Δ s0 B hk w ⟨by simp, j0⟩ (fun B0 e0 n s d σ1 H1 hd hI B => ?_) (fun s σ1 H1 hI B => ?_)
  · rw [List.getElem?_map] at hd
    obtain ⟨x, hx, ex⟩ := Option.map_eq_some_iff.mp hd
    subst ex
    have q := body B0 e0 n s x σ1 H1 (List.mem_of_getElem? hx) (by rw [List.getElem?_eq_some_iff] at hx; exact hx.1) hI.2 B
    have en : FX c B0 S Δ J (n + 1) (stp s x) = NX c B0 S Δ (fun n s => s = (xs.take n).foldl stp s0 ∧ J n s) (n + 1) := by
      funext σ H
      unfold FX NX
      dsimp only
      rw [take_fold hx, ← hI.1]
      simp only [and_assoc]
    rw [en] at q
    exact q
  · rw [List.length_map] at hI
    refine done s σ1 H1 ?_ hI.2 B
    rw [hI.1, List.take_length]
theorem foldR_core {S : Type} {lo : Int} {k : Nat} {Δ : S → List Ent} {stp : S → Int → S} {s0 : S} {J : Nat → S → Prop} {xs : List Int} (g : Nat → Int) (hx : ∀ n, n < k → xs[n]? = some (g n)) (hl : xs.length = k) {n : Nat} {s : S} (hn : n < k) (hI : s = (xs.take n).foldl stp s0) {B0 : Hp} :
    FX c B0 S Δ J (n + 1) (stp s (g n)) = NX c B0 S Δ (fun n s => s = (xs.take n).foldl stp s0 ∧ J n s) (n + 1) := by
  funext σ H
  unfold FX NX
  dsimp only
  rw [take_fold (hx n hn), ← hI]
  simp only [and_assoc]
theorem q_foldR1 {S : Type} {hi : Int} (Δ : S → List Ent) (stp : S → Int → S) (s0 : S) (J : Nat → S → Prop) (B : Bs c H σ δ) (h : Ev o0 te σ H (eI hi)) (hm : -1000000 ≤ hi ∧ hi ≤ 1000000) (w : LeA δ (Δ s0)) (j0 : J 0 s0)
    (body : ∀ (B0 : Hp), Ex c.B B0 → ∀ (n : Nat) (s : S) (x : Int) (σ1 : Sta) (H1 : Hp), x ∈ rng 0 hi → n < (rng 0 hi).length → J n s → Bs { c with B := B0 } H1 σ1 ((Δ s).set j (.va true (eI x))) →
      ts { D with nx := FX c B0 S Δ J (n + 1) (stp s x), ct := FX c B0 S Δ J (n + 1) (stp s x), bk := tz D } σ1 H1)
    (done : ∀ s σ1 H1, s = (rng 0 hi).foldl stp s0 → J (rng 0 hi).length s → Bs c H1 σ1 (Δ s) → tz D σ1 H1) : tSeq (tFor (iRng1 (tCons te tNil)) (gName j) ts) tz D σ H := by
  have hl : (rng 0 hi).length = hi.toNat := by rw [rng_len]; omega
  refine q_forR1 S (fun n s => s = ((rng 0 hi).take n).foldl stp s0 ∧ J n s) Δ s0 B h hm w ⟨by simp, j0⟩ (fun B0 e0 n s σ1 H1 hn hI B => ?_) (fun s σ1 H1 hI B => ?_)
  · have q := body B0 e0 n s (0 + n) σ1 H1 (rng_mem.mpr (by omega)) (by omega) hI.2 B
    rw [foldR_core (k := hi.toNat) (lo := 0) (xs := rng 0 hi) (fun (n : Nat) => 0 + (n : Int)) (fun n hn => rng_get (by omega)) hl hn hI.1] at q
    exact q
  · rw [← hl] at hI
    refine done s σ1 H1 ?_ hI.2 B
    rw [hI.1, List.take_length]
theorem q_foldR2 {S : Type} {lo hi : Int} (Δ : S → List Ent) (stp : S → Int → S) (s0 : S) (J : Nat → S → Prop) (B : Bs c H σ δ) (h1 : Ev o0 ta σ H (eI lo)) (h : Ev o0 te σ H (eI hi)) (hm : -1000000 ≤ lo ∧ lo ≤ 1000000 ∧ -1000000 ≤ hi ∧ hi ≤ 1000000) (w : LeA δ (Δ s0)) (j0 : J 0 s0)
    (body : ∀ (B0 : Hp), Ex c.B B0 → ∀ (n : Nat) (s : S) (x : Int) (σ1 : Sta) (H1 : Hp), x ∈ rng lo hi → n < (rng lo hi).length → J n s → Bs { c with B := B0 } H1 σ1 ((Δ s).set j (.va true (eI x))) →
      ts { D with nx := FX c B0 S Δ J (n + 1) (stp s x), ct := FX c B0 S Δ J (n + 1) (stp s x), bk := tz D } σ1 H1)
    (done : ∀ s σ1 H1, s = (rng lo hi).foldl stp s0 → J (rng lo hi).length s → Bs c H1 σ1 (Δ s) → tz D σ1 H1) : tSeq (tFor (iRng2 (tCons ta (tCons te tNil))) (gName j) ts) tz D σ H := by
  have hl : (rng lo hi).length = (hi - lo).toNat := rng_len _ _
  refine q_forR2 S (fun n s => s = ((rng lo hi).take n).foldl stp s0 ∧ J n s) Δ s0 B h1 h hm w ⟨by simp, j0⟩ (fun B0 e0 n s σ1 H1 hn hI B => ?_) (fun s σ1 H1 hI B => ?_)
  · have q := body B0 e0 n s (lo + n) σ1 H1 (rng_mem.mpr (by omega)) (by omega) hI.2 B
    rw [foldR_core (k := (hi - lo).toNat) (lo := lo) (xs := rng lo hi) (fun (n : Nat) => lo + (n : Int)) (fun n hn => rng_get (by omega)) hl hn hI.1] at q
    exact q
  · rw [← hl] at hI
    refine done s σ1 H1 ?_ hI.2 B
    rw [hI.1, List.take_length]
theorem rng_rev {m : Int} {n : Nat} (h : n < m.toNat) : (rng 0 m).reverse[n]? = some (m - 1 - n) := by
  rw [List.getElem?_reverse (by rw [rng_len]; omega), rng_len, rng_get (by omega)]
  congr 1; omega
theorem q_foldRev {S : Type} {hi : Int} (Δ : S → List Ent) (stp : S → Int → S) (s0 : S) (J : Nat → S → Prop) (B : Bs c H σ δ) (h : Ev o0 te σ H (eI hi)) (hm : -1000000 ≤ hi ∧ hi ≤ 1000000) (w : LeA δ (Δ s0)) (j0 : J 0 s0)
    (body : ∀ (B0 : Hp), Ex c.B B0 → ∀ (n : Nat) (s : S) (x : Int) (σ1 : Sta) (H1 : Hp), x ∈ (rng 0 hi).reverse → n < (rng 0 hi).reverse.length → J n s → Bs { c with B := B0 } H1 σ1 ((Δ s).set j (.va true (eI x))) →
      ts { D with nx := FX c B0 S Δ J (n + 1) (stp s x), ct := FX c B0 S Δ J (n + 1) (stp s x), bk := tz D } σ1 H1)
    (done : ∀ s σ1 H1, s = (rng 0 hi).reverse.foldl stp s0 → J (rng 0 hi).reverse.length s → Bs c H1 σ1 (Δ s) → tz D σ1 H1) : tSeq (tFor (iRevR (tRg1 te)) (gName j) ts) tz D σ H := by
  have hl : (rng 0 hi).reverse.length = hi.toNat := by rw [List.length_reverse, rng_len]; omega
  refine q_forRev S (fun n s => s = ((rng 0 hi).reverse.take n).foldl stp s0 ∧ J n s) Δ s0 B h hm w ⟨by simp, j0⟩ (fun B0 e0 n s σ1 H1 hn hI B => ?_) (fun s σ1 H1 hI B => ?_)
  · have q := body B0 e0 n s (hi - 1 - n) σ1 H1 (List.mem_reverse.mpr (rng_mem.mpr (by omega))) (by omega) hI.2 B
    rw [foldR_core (k := hi.toNat) (lo := 0) (xs := (rng 0 hi).reverse) (fun (n : Nat) => hi - 1 - (n : Int)) (fun n hn => rng_rev hn) hl hn hI.1] at q
    exact q
  · rw [← hl] at hI
    refine done s σ1 H1 ?_ hI.2 B
    rw [hI.1, List.take_length]
/-- while loops, by fuel -/
def whileF {S : Type} (cd : S → Bool) (stp : S → S) : Nat → S → S
  | 0, s => s
  | n + 1, s => if cd s then whileF cd stp n (stp s) else s
theorem whileF_end {S : Type} {cd : S → Bool} {stp : S → S} {s : S} (h : cd s = false) : ∀ n, whileF cd stp n s = s
  | 0 => rfl
  | n + 1 => by rw [whileF, if_neg (by rw [h]; simp)]
def WX (c : Wd) (B0 : Hp) (S : Type) (Δ : S → List Ent) (J : S → Prop) (s1 : S) : Sta → Hp → Prop := fun σ H => ∃ s', s' = s1 ∧ J s' ∧ Bs { c with B := B0 } H σ (Δ s')
theorem q_whileM {S : Type} (Δ : S → List Ent) (cd : S → Bool) (stp : S → S) (M : S → Nat) (s0 : S) (J : S → Prop) (B : Bs c H σ δ) (w : LeA δ (Δ s0)) (j0 : J s0)
    (test : ∀ (B0 : Hp), Ex c.B B0 → ∀ (s : S) (σ1 : Sta) (H1 : Hp), J s → Bs { c with B := B0 } H1 σ1 (Δ s) → EvT t σ1 H1 (cd s))
    (less : ∀ s, J s → cd s = true → M (stp s) < M s)
    (body : ∀ (B0 : Hp), Ex c.B B0 → ∀ (s : S) (σ1 : Sta) (H1 : Hp), J s → cd s = true → Bs { c with B := B0 } H1 σ1 (Δ s) →
      ts { D with nx := WX c B0 S Δ J (stp s), ct := WX c B0 S Δ J (stp s), bk := tz D } σ1 H1)
    (done : ∀ s σ1 H1, s = whileF cd stp (M s0) s0 → cd s = false → J s → Bs c H1 σ1 (Δ s) → tz D σ1 H1) : tSeq (tWhile t ts) tz D σ H := by
  have u := B.under
  refine ⟨fun m σ' H' => ∃ s, m = M s ∧ (J s ∧ ∃ n, whileF cd stp (M s0) s0 = whileF cd stp n s ∧ M s ≤ n) ∧ Bs { c with B := hid (fun a => Adr δ a) H } H' σ' (Δ s), ⟨_, s0, rfl, ⟨j0, M s0, rfl, Nat.le_refl _⟩, B.rebase.le w⟩, ?_⟩
  rintro m σ1 H1 ⟨s, rfl, ⟨hJ, n, hn, hM⟩, B1⟩
  refine test _ u s σ1 H1 hJ B1 H1 (Ex.refl H1) _ fun H2 e2 => ?_
  cases q : cd s with
  | true =>
    rw [if_pos rfl]
    have hlt := less s hJ q
    cases n with
    | zero => omega
    | succ n =>
      rw [whileF, if_pos q] at hn
      exact ⟨_, fun σ' H' ⟨s', h1, h2, h3⟩ => ⟨M s', by subst h1; exact hlt, s', rfl, ⟨h2, n, by subst h1; exact hn, by subst h1; omega⟩, h3⟩, body _ u s σ1 H2 hJ q (B1.mono e2)⟩
  | false =>
    rw [if_neg Bool.false_ne_true]
    exact done s _ _ (by rw [hn, whileF_end q]) q hJ ((B1.mono e2).debase u)
end
end HL
namespace HL
open PySem PySem.Spec PyProof.Rows L2
open Evl (Ex)
theorem fmod_b {x m : Int} (h : 0 < m) : 0 ≤ x.fmod m ∧ x.fmod m < m := ⟨Int.fmod_nonneg_of_pos x h, Int.fmod_lt_of_pos x h⟩
theorem cutG_from {α : Type} (xs : List α) {m : Int} (h : 0 ≤ m) : cutG xs (some m) none = xs.drop m.toNat := by
  obtain ⟨k, rfl⟩ := Int.eq_ofNat_of_zero_le h
  unfold cutG
  rw [HT.sIx_nat, HT.sIx_none, Int.toNat_natCast]
  by_cases hk : k ≤ xs.length
  · rw [Nat.min_eq_left hk, ← List.length_drop, List.take_length]
  · rw [Nat.min_eq_right (by omega), List.drop_of_length_le (Nat.le_refl _), List.drop_of_length_le (by omega), List.take_nil]
theorem cutG_to {α : Type} (xs : List α) {m : Int} (h : 0 ≤ m) : cutG xs none (some m) = xs.take m.toNat := by
  obtain ⟨k, rfl⟩ := Int.eq_ofNat_of_zero_le h
  unfold cutG
  rw [HT.sIx_nat, HT.sIx_none, Int.toNat_natCast]
  simp
theorem cutG_le {α : Type} (xs : List α) (lo hi : Option Int) : (cutG xs lo hi).length ≤ xs.length := by
  unfold cutG
  rw [List.length_take, List.length_drop]; omega
theorem cutG_le' {α : Type} {xs : List α} {lo hi : Option Int} {n : Nat} (h : xs.length ≤ n) : (cutG xs lo hi).length ≤ n := Nat.le_trans (cutG_le xs lo hi) h
/-- a list with one item put in another's place -/
def setI {α : Type} (xs : List α) (m : Int) (x : α) : List α := match ixN xs.length m with
  | some j => xs.set j x
  | none => xs
theorem setI_len {α : Type} (xs : List α) (m : Int) (x : α) : (setI xs m x).length = xs.length := by
  unfold setI
  cases ixN xs.length m with
  | none => rfl
  | some j => exact List.length_set
theorem getI_setI {α : Type} [Inhabited α] {xs : List α} {m : Int} {x : α} (h : inB xs m) : getI (setI xs m x) m = x := by
  obtain ⟨j, h1, h2⟩ := ixN_in h
  unfold getI atI
  rw [setI_len, h1]
  unfold setI
  rw [h1]
  simp [h2]
/-- data of one kind: == is =, and the comparison may be made -/
structure Em {α : Type} [DecidableEq α] (em : α → PyData) (gd : α → Prop) (n : Nat) : Prop where
  flat : ∀ a, flatD (em a) = true
  lay : ∀ a, gd a → (em a).canLay0 = true
  dep : ∀ a, (em a).depth ≤ n
  eqv : ∀ a b, PyData.eqv (em a) (em b) = decide (a = b)
theorem emI : Em eI (fun _ => True) 0 := ⟨fun _ => rfl, fun _ _ => rfl, fun _ => by simp [PyData.depth], fun a b => by simp [PyData.eqv]; rfl⟩
theorem emB : Em eB (fun _ => True) 0 := ⟨fun _ => rfl, fun _ _ => rfl, fun _ => by simp [PyData.depth], fun a b => by simp [PyData.eqv]; rfl⟩
theorem emS : Em eS (fun x => PyData.strOk x = true) 0 := ⟨fun _ => rfl, fun _ h => by simp [PyData.canLay0]; exact h, fun _ => by simp [PyData.depth], fun a b => by
  show (a == b) = decide (a = b)
  rw [Bool.eq_iff_iff]; simp⟩
section
variable {α β : Type} [DecidableEq α] [DecidableEq β] {em : α → PyData} {e2 : β → PyData} {gd : α → Prop} {gd2 : β → Prop} {n m : Nat}
theorem eqvAll_map (h : ∀ a b, PyData.eqv (em a) (em b) = decide (a = b)) : ∀ xs ys : List α, PyData.eqvAll (xs.map em) (ys.map em) = decide (xs = ys)
  | [], [] => by simp [PyData.eqvAll]
  | [], _ :: _ => by simp [PyData.eqvAll]
  | _ :: _, [] => by simp [PyData.eqvAll]
  | x :: xs, y :: ys => by
    simp only [List.map_cons, PyData.eqvAll, h, eqvAll_map h xs ys]
    rw [Bool.eq_iff_iff]; simp
theorem flatDs_map (h : ∀ a, flatD (em a) = true) : ∀ xs : List α, flatDs (xs.map em) = true
  | [] => rfl
  | x :: xs => by simp [flatDs, h, flatDs_map h xs]
theorem layAll_map (h : ∀ a, gd a → (em a).canLay0 = true) : ∀ xs : List α, (∀ x ∈ xs, gd x) → PyData.canLayAll0 (xs.map em) = true
  | [], _ => by simp [PyData.canLayAll0]
  | x :: xs, g => by simp [PyData.canLayAll0, h x (g x (by simp)), layAll_map h xs fun y hy => g y (by simp [hy])]
theorem depthAll_map (h : ∀ a, (em a).depth ≤ n) : ∀ xs : List α, PyData.depthAll (xs.map em) ≤ n
  | [] => by simp [PyData.depthAll]
  | x :: xs => by simp only [List.map_cons, PyData.depthAll]; exact Nat.max_le.mpr ⟨h x, depthAll_map h xs⟩
theorem emL (h : Em em gd n) : Em (eL em) (fun xs => ∀ x ∈ xs, gd x) (n + 1) := ⟨fun xs => by simp [flatD, flatDs_map h.flat], fun xs g => by simp [PyData.canLay0, layAll_map h.lay xs g], fun xs => by simp [PyData.depth]; exact depthAll_map h.dep xs, fun xs ys => by simp only [PyData.eqv, eqvAll_map h.eqv]⟩
theorem emTu (h : Em em gd n) : Em (eTu em) (fun xs => ∀ x ∈ xs, gd x) (n + 1) := ⟨fun xs => by simp [flatD, flatDs_map h.flat], fun xs g => by simp [PyData.canLay0, layAll_map h.lay xs g], fun xs => by simp [PyData.depth]; exact depthAll_map h.dep xs, fun xs ys => by simp only [PyData.eqv, eqvAll_map h.eqv]⟩
theorem emT2 (h : Em em gd n) (h2 : Em e2 gd2 m) : Em (eT2 em e2) (fun p => gd p.1 ∧ gd2 p.2) (max n m + 1) := ⟨fun p => by simp [flatD, flatDs, h.flat, h2.flat], fun p g => by simp [PyData.canLay0, PyData.canLayAll0, h.lay _ g.1, h2.lay _ g.2], fun p => by
    have a := h.dep p.1
    have b := h2.dep p.2
    simp [PyData.depth, PyData.depthAll]; omega, fun p q => by
    obtain ⟨p1, p2⟩ := p
    obtain ⟨q1, q2⟩ := q
    simp only [PyData.eqv, PyData.eqvAll, h.eqv, h2.eqv]
    rw [Bool.eq_iff_iff]; simp⟩
theorem Em.shaped (h : Em em gd n) (hn : n ≤ 64) {a : α} (g : gd a) : SeqAt.shaped (em a) = true := by
  have := h.dep a
  simp only [SeqAt.shaped, h.lay a g, Bool.true_and]
  exact decide_eq_true (by omega)
variable {K : PySem.W.Frag} {o : Hd} {H : Hp} {σ : Sta} {ta tb : TE} {a b : α}
theorem ev_eqM (h : Em em gd n) (ha : Ev o0 ta σ H (em a)) (hb : Ev o0 tb σ H (em b)) (ga : gd a) (gb : gd b) (hn : n ≤ 64 := by decide) : Ev o (tOp (rEqD K) ta tb) σ H (eB (decide (a = b))) := ev_eqD ha hb (h.flat a) (h.flat b) (h.shaped hn ga) (h.shaped hn gb) (h.eqv a b)
theorem ev_neM (h : Em em gd n) (ha : Ev o0 ta σ H (em a)) (hb : Ev o0 tb σ H (em b)) (ga : gd a) (gb : gd b) (hn : n ≤ 64 := by decide) : Ev o (tOp (rNeD K) ta tb) σ H (eB (!decide (a = b))) := ev_neD ha hb (h.flat a) (h.flat b) (h.shaped hn ga) (h.shaped hn gb) (h.eqv a b)
theorem gd_nil : ∀ x ∈ ([] : List α), gd x := fun _ h => by simp at h
end
section
variable {K : PySem.W.Frag} {c : Wd} {o : Hd} {H H1 H' : Hp} {σ : Sta} {δ δ' : List Ent} {i j : Nat} {f g b : Bool} {a : Addr} {d e : PyData} {ta tb te tl : TE} {t : TT} {ts tu tw tz : TS} {D : Ends} {α β : Type} {em : α → PyData} {xs ys : List α} {m n : Int}
theorem q_ret (S : Bs c H σ δ) (h : Ev (c.hd f δ) te σ H d) (k : ∀ v H1, Ex c.B H1 → Dn (hid (c.hd f []) H1) v d → D.rt v H1) : tSeq (tRet te) tz D σ H := s_ret (D := { D with nx := tz D }) S h fun v H1 x _ hv => k v H1 x hv
theorem setI_map {m : Int} (h : inB xs m) (x : α) (f : α → PyData) : ∃ j, ixN (xs.map f).length m = some j ∧ (xs.map f).set j (f x) = (setI xs m x).map f := by
  obtain ⟨j, h1, h2⟩ := ixN_in h
  refine ⟨j, by rw [List.length_map]; exact h1, ?_⟩
  unfold setI
  rw [h1, List.map_set]
theorem q_setM {x : α} (B : Bs c H σ δ) (hx : δ[i]? = some (.ow f a (xs.map em))) (h : Ev (c.hd f δ) te σ H (em x)) (hi : Ev o0 tb σ H (eI m)) (hb : inB xs m) (k : ∀ H1, Bs c H1 σ (δ.set i (.ow f a ((setI xs m x).map em))) → tz D σ H1) :
    tSeq (tAsg te (gSub (tVar i) tb rSetL)) tz D σ H := by
  obtain ⟨n, h1, h2⟩ := setI_map hb x em
  refine q_setI B hx h hi h1 fun H1 B => k H1 ?_
  rw [h2] at B; exact B
theorem q_popH (B : Bs c H σ δ) (hx : δ[i]? = some (.ow f a (xs.map em))) (hi : Ev o0 tb σ H (eI 0)) (hb : 0 < xs.length) (k : ∀ H1, Bs c H1 σ (δ.set i (.ow f a (xs.tail.map em))) → tz D σ H1) :
    tSeq (tDrop (tBM K "list" rPopAt (tVar i) (tCons tb tNil))) tz D σ H := by
  cases xs with
  | nil => simp at hb
  | cons x r => exact q_pop0 (n := 0) B hx hi (by omega) (by unfold ixN; simp) rfl k
theorem en_lstM {tr : TA} (h : EvA o tr σ H (xs.map em)) (hz : xs.length ≤ 100000) : EvN o (tLst tr) σ H (xs.map em) := en_lst h (by rw [List.length_map]; exact hz)
/-- lists of things without objects are as new as one likes -/
theorem DnA.scM {em : α → PyData} {o' : Hd} (hs : ∀ x, Sc (em x)) {H' : Hp} : ∀ {vs : List V} {xs : List α}, DnA H vs (xs.map em) → DnA H' vs (xs.map em)
  | _, [], .nil => .nil
  | _, x :: xs, .cons h r => .cons (Dn.sc (hs x) h) (DnA.scM (o' := o') hs r)
theorem EvN.scL {o' : Hd} (h : EvN o' te σ H (xs.map em)) (hs : ∀ x, Sc (em x)) : EvN o te σ H (xs.map em) := fun H1 x1 Q q => h H1 x1 Q fun p vs H2 np e2 hp hv => q p vs H2 np e2 hp (DnA.scM (o' := o) hs hv)
/-- a comprehension over a list of things without objects, whosever it is -/
theorem en_lcS {em2 : β → PyData} (cs : α → Bool) (ex : α → β) (B : Bs c H σ δ) (hj : δ[j]? = some .no) (h : Ev (c.hd false δ) tl σ H (eL em xs)) (hs : ∀ x, Sc (em x)) (hz : xs.length ≤ 40000)
    (body : ∀ (c' : Wd) (x : α) (σ1 : Sta) (H1 : Hp), x ∈ xs → Bs c' H1 σ1 (δ.set j (.va true (em x))) → EvT t σ1 H1 (cs x) ∧ (cs x = true → Ev (c'.hd g (δ.set j (.va true (em x)))) te σ1 H1 (em2 (ex x)))) :
    EvN (c.hd g δ) (tLc (iList K tl) (gName j) t te [j]) σ H (((xs.filter cs).map ex).map em2) :=
  en_lcM cs ex B hj h hz fun c' x σ1 H1 hx B1 => by
    have l : LeA (δ.set j (.va false (em x))) (δ.set j (.va true (em x))) := by
      clear B1 B h body
      induction δ generalizing j with
      | nil => exact .nil
      | cons e r ih =>
        cases j with
        | zero => exact .cons (.sc (hs x)) (LeA.refl r)
        | succ j => exact .cons (.refl e) (ih (by simpa using hj))
    obtain ⟨h1, h2⟩ := body c' x σ1 H1 hx (B1.le l)
    refine ⟨h1, fun hc => (h2 hc).weak (hd_sub fun b z => ?_)⟩
    obtain ⟨k, f', ds, z⟩ := z
    refine ⟨k, f', ds, ?_⟩
    by_cases q : j = k
    · subst q
      rw [List.getElem?_set] at z
      simp at z
    · rw [List.getElem?_set_ne q] at z ⊢
      exact z
theorem en_lcS1 {em2 : β → PyData} (ex : α → β) (B : Bs c H σ δ) (hj : δ[j]? = some .no) (h : Ev (c.hd false δ) tl σ H (eL em xs)) (hs : ∀ x, Sc (em x)) (hz : xs.length ≤ 40000)
    (body : ∀ (c' : Wd) (x : α) (σ1 : Sta) (H1 : Hp), x ∈ xs → Bs c' H1 σ1 (δ.set j (.va true (em x))) → Ev (c'.hd g (δ.set j (.va true (em x)))) te σ1 H1 (em2 (ex x))) :
    EvN (c.hd g δ) (tLc (iList K tl) (gName j) tYes te [j]) σ H ((xs.map ex).map em2) :=
  (en_lcS (fun _ => true) ex B hj h hs hz fun c' x σ1 H1 hx B => ⟨fun H1 _ Q q => q H1 (Ex.refl H1), fun _ => body c' x σ1 H1 hx B⟩).is (by rw [List.filter_eq_self.mpr (fun _ _ => rfl)])
end
end HL
namespace HL
open PySem PySem.Spec PyProof.Rows L2
open Evl (Ex)
/-- a loop that may be left by a return -/
def loopE {S R α : Type} (stp : S → α → S ⊕ R) : List α → S → S ⊕ R
  | [], s => .inl s
  | x :: xs, s => match stp s x with
    | .inl s' => loopE stp xs s'
    | .inr r => .inr r
section
variable {K : PySem.W.Frag} {c : Wd} {o : Hd} {H H1 H' : Hp} {σ : Sta} {δ δ' : List Ent} {i j ci : Nat} {f g b : Bool} {a : Addr} {d e : PyData} {ta tb te tl : TE} {t : TT} {ts tu tw tz : TS} {D : Ends} {α β γ S R : Type} {em : α → PyData} {em2 : β → PyData} {emg : γ → PyData} {xs ys : List α} {m n : Int}
def EX (c : Wd) (B0 : Hp) (S R : Type) (Δ : S → List Ent) (J : Nat → S → Prop) (n : Nat) (s1 : S ⊕ R) : Sta → Hp → Prop := fun σ H => ∃ s', s1 = .inl s' ∧ J n s' ∧ Bs { c with B := B0 } H σ (Δ s')
theorem loopE_at {stp : S → α → S ⊕ R} {s : S} {n : Nat} {x : α} (h : xs[n]? = some x) : loopE stp (xs.drop n) s = match stp s x with
    | .inl s' => loopE stp (xs.drop (n + 1)) s'
    | .inr r => .inr r := by
  have hl : n < xs.length := by rw [List.getElem?_eq_some_iff] at h; exact h.1
  have e : xs.drop n = x :: xs.drop (n + 1) := by
    rw [List.drop_eq_getElem_cons hl]
    rw [List.getElem?_eq_getElem hl] at h
    rw [Option.some.inj h]
  rw [e]; rfl
/-- over any list of turns that the rules of the loops give -/
theorem exit_core {stp : S → α → S ⊕ R} {s0 s : S} {n : Nat} {x : α} {J : Nat → S → Prop} {Δ : S → List Ent} {B0 : Hp} (hx : xs[n]? = some x) (hI : loopE stp xs s0 = loopE stp (xs.drop n) s) {σ' : Sta} {H' : Hp} (h : EX c B0 S R Δ J (n + 1) (stp s x) σ' H') :
    NX c B0 S Δ (fun n s => loopE stp xs s0 = loopE stp (xs.drop n) s ∧ J n s) (n + 1) σ' H' := by
  obtain ⟨s', h1, h2, h3⟩ := h
  refine ⟨s', ⟨?_, h2⟩, h3⟩
  rw [hI, loopE_at hx, h1]
theorem it_flex {J : It} {m : Nat} {gt : TG} (Pv : Nat → Sta → Hp → Prop) (h0 : Pv 0 σ H) (hgo : ∀ i σ H, i < m → Pv i σ H → J.go i H) (hst : ∀ σ H, Pv m σ H → J.stop m H)
    (hs : ∀ i σ H, i < m → Pv i σ H → ∃ N : Sta → Hp → Prop, (∀ σ' H', N σ' H' → Pv (i + 1) σ' H') ∧ ∀ x H', J.yld i H x H' → gt x σ H' fun σ2 H2 => ts { D with nx := N, ct := N, bk := D.nx } σ2 H2) (hd : ∀ σ H, Pv m σ H → D.nx σ H) :
    ∃ W : Nat → Nat → L2.St → Hp → Prop, (∃ m, W 0 m σ H) ∧ ∀ i k σ H, W i k σ H →
      (J.stop i H ∧ D.nx σ H) ∨ (J.go i H ∧ ∃ N : L2.St → Hp → Prop, (∀ σ' H', N σ' H' → ∃ m', m' < k ∧ W (i + 1) m' σ' H') ∧ ∀ x H', J.yld i H x H' → gt x σ H' fun σ2 H2 => ts { D with nx := N, ct := N, bk := D.nx } σ2 H2) := by
  refine ⟨fun i k σ H => k = m - i ∧ i ≤ m ∧ Pv i σ H, ⟨m, by simp, Nat.zero_le _, h0⟩, ?_⟩
  rintro i k σ H ⟨rfl, hi, p⟩
  by_cases hlt : i < m
  · obtain ⟨N, h1, h2⟩ := hs i σ H hlt p
    exact .inr ⟨hgo i σ H hlt p, N, fun σ' H' p' => ⟨m - (i + 1), by omega, rfl, hlt, h1 _ _ p'⟩, h2⟩
  · have e : i = m := by omega
    subst e
    exact .inl ⟨hst σ H p, hd σ H p⟩
theorem q_exitL (Δ : S → List Ent) (stp : S → α → S ⊕ R) (s0 : S) (J : Nat → S → Prop) (B : Bs c H σ δ) (h : Ev (c.hd f δ) tl σ H (eL em xs)) (w : LeA δ (Δ s0)) (j0 : J 0 s0)
    (body : ∀ (B0 : Hp), Ex c.B B0 → ∀ (n : Nat) (s : S) (x : α) (σ1 : Sta) (H1 : Hp), x ∈ xs → n < xs.length → (∀ r, stp s x = .inr r → loopE stp xs s0 = .inr r) → J n s → Bs { c with B := B0 } H1 σ1 ((Δ s).set j (.va f (em x))) →
      ts { D with nx := EX c B0 S R Δ J (n + 1) (stp s x), ct := EX c B0 S R Δ J (n + 1) (stp s x), bk := tz D } σ1 H1)
    (done : ∀ s σ1 H1, loopE stp xs s0 = .inl s → J xs.length s → Bs c H1 σ1 (Δ s) → tz D σ1 H1) : tSeq (tFor (iList K tl) (gName j) ts) tz D σ H := by
  refine h.go fun v H2 e2 hv => ?_
  have B2 := B.mono e2
  cases hv with
  | @lst p vs _ hp hr =>
    have u := B2.under
    have W : ∀ {H3 σ3 s}, Bs { c with B := hid (fun a => Adr δ a) H2 } H3 σ3 (Δ s) → Ex (hid (c.hd f δ) H2) (hid (c.hd f (Δ s)) H3) := fun B3 => B3.pers fun a u q => at_has q
    have hl : vs.length = xs.length := by rw [hr.length, List.length_map]
    refine ⟨p, rfl, ⟨vs, .inl (.inl (hid_ex _ _ hp))⟩, it_flex (m := xs.length) (NX c _ S Δ (fun n s => loopE stp xs s0 = loopE stp (xs.drop n) s ∧ J n s)) ⟨s0, ⟨by simp, j0⟩, (B2.rebase).le w⟩ (fun n σ3 H3 hn ⟨s, _, B3⟩ => ?_) (fun σ3 H3 ⟨s, _, B3⟩ => ?_) (fun n σ3 H3 hn ⟨s, hi, B3⟩ => ?_) (fun σ3 H3 ⟨s, hi, B3⟩ => ?_)⟩
    · exact ⟨vs, vs[n]'(by omega), .inl (.inl (hid_ex _ _ (W B3 _ _ hp))), List.getElem?_eq_getElem (by omega)⟩
    · exact ⟨vs, .inl (.inl (hid_ex _ _ (W B3 _ _ hp))), by omega⟩
    · refine ⟨EX c _ S R Δ J (n + 1) (stp s xs[n]), fun σ' H' q => exit_core (List.getElem?_eq_getElem hn) hi.1 q, ?_⟩
      rintro x H' ⟨rfl, hx⟩
      have ex := hx _ (.inl (.inl (hid_ex _ _ (W B3 _ _ hp))))
      obtain ⟨d, hd, q⟩ := hr.get' ex
      rw [List.getElem?_map, List.getElem?_eq_getElem hn] at hd
      cases hd
      exact body _ u n s xs[n] _ _ (List.getElem_mem hn) hn (fun r hr => by rw [hi.1, loopE_at (List.getElem?_eq_getElem hn), hr]) hi.2 (set_va B3 (q.mono (W B3)))
    · refine done s _ _ ?_ hi.2 (B3.debase u)
      rw [hi.1, List.drop_length]; rfl
theorem q_exitO (Δ : S → List Ent) (stp : S → α → S ⊕ R) (s0 : S) (J : Nat → S → Prop) (B : Bs c H σ δ) (hk : ∀ s, (Δ s)[i]? = some (.ow f a (xs.map em))) (w : LeA δ (Δ s0)) (j0 : J 0 s0)
    (body : ∀ (B0 : Hp), Ex c.B B0 → ∀ (n : Nat) (s : S) (x : α) (σ1 : Sta) (H1 : Hp), x ∈ xs → n < xs.length → (∀ r, stp s x = .inr r → loopE stp xs s0 = .inr r) → J n s → Bs { c with B := B0 } H1 σ1 ((Δ s).set j (.va f (em x))) →
      ts { D with nx := EX c B0 S R Δ J (n + 1) (stp s x), ct := EX c B0 S R Δ J (n + 1) (stp s x), bk := tz D } σ1 H1)
    (done : ∀ s σ1 H1, loopE stp xs s0 = .inl s → J xs.length s → Bs c H1 σ1 (Δ s) → tz D σ1 H1) : tSeq (tFor (iList K (tVar i)) (gName j) ts) tz D σ H := by
  obtain ⟨vs, e, hp, hr⟩ := (B.le w).ent i _ (hk s0)
  have u := B.under
  refine ⟨.ref a, e, a, rfl, ⟨vs, .inl (.inl hp)⟩, it_flex (m := xs.length) (NX c (hid (fun a => Adr δ a) H) S Δ (fun n s => loopE stp xs s0 = loopE stp (xs.drop n) s ∧ J n s)) ⟨s0, ⟨by simp, j0⟩, B.rebase.le w⟩ (fun n σ3 H3 hn ⟨s, _, B3⟩ => ?_) (fun σ3 H3 ⟨s, _, B3⟩ => ?_) (fun n σ3 H3 hn ⟨s, hi, B3⟩ => ?_) (fun σ3 H3 ⟨s, hi, B3⟩ => ?_)⟩
  · obtain ⟨vs3, e3, hp3, hr3⟩ := B3.ent i _ (hk s)
    have hl : vs3.length = xs.length := by rw [hr3.length, List.length_map]
    exact ⟨vs3, vs3[n]'(by omega), .inl (.inl hp3), List.getElem?_eq_getElem (by omega)⟩
  · obtain ⟨vs3, e3, hp3, hr3⟩ := B3.ent i _ (hk s)
    have hl : vs3.length = xs.length := by rw [hr3.length, List.length_map]
    exact ⟨vs3, .inl (.inl hp3), by omega⟩
  · obtain ⟨vs3, e3, hp3, hr3⟩ := B3.ent i _ (hk s)
    refine ⟨EX c _ S R Δ J (n + 1) (stp s xs[n]), fun σ' H' q => exit_core (List.getElem?_eq_getElem hn) hi.1 q, ?_⟩
    rintro x H' ⟨rfl, hx⟩
    have ex := hx _ (.inl (.inl hp3))
    obtain ⟨d, hd, q⟩ := hr3.get' ex
    rw [List.getElem?_map, List.getElem?_eq_getElem hn] at hd
    cases hd
    exact body _ u n s xs[n] _ _ (List.getElem_mem hn) hn (fun r hr => by rw [hi.1, loopE_at (List.getElem?_eq_getElem hn), hr]) hi.2 (set_va B3 q)
  · refine done s _ _ ?_ hi.2 (B3.debase u)
    rw [hi.1, List.drop_length]; rfl
theorem exitR_core {lo : Int} {k : Nat} (zs : List Int) (hz : ∀ n, n < k → zs[n]? = some (lo + n)) (hl : zs.length = k) (Δ : S → List Ent) (stp : S → Int → S ⊕ R) (s0 : S) (J : Nat → S → Prop) (B : Bs c H σ δ) (w : LeA δ (Δ s0)) (j0 : J 0 s0)
    (body : ∀ (B0 : Hp), Ex c.B B0 → ∀ (n : Nat) (s : S) (x : Int) (σ1 : Sta) (H1 : Hp), x ∈ zs → n < zs.length → (∀ r, stp s x = .inr r → loopE stp zs s0 = .inr r) → J n s → Bs { c with B := B0 } H1 σ1 ((Δ s).set j (.va true (eI x))) →
      ts { D with nx := EX c B0 S R Δ J (n + 1) (stp s x), ct := EX c B0 S R Δ J (n + 1) (stp s x), bk := D.nx } σ1 H1)
    (done : ∀ s σ1 H1, loopE stp zs s0 = .inl s → J zs.length s → Bs c H1 σ1 (Δ s) → D.nx σ1 H1) :
    ∃ W : Nat → Nat → L2.St → Hp → Prop, (∃ m, W 0 m σ H) ∧ ∀ i q σ H, W i q σ H →
      ((Itr lo k).stop i H ∧ D.nx σ H) ∨ ((Itr lo k).go i H ∧ ∃ N : L2.St → Hp → Prop, (∀ σ' H', N σ' H' → ∃ m', m' < q ∧ W (i + 1) m' σ' H') ∧ ∀ x H', (Itr lo k).yld i H x H' → gName j x σ H' fun σ2 H2 => ts { D with nx := N, ct := N, bk := D.nx } σ2 H2) := by
  have u := B.under
  refine it_flex (m := k) (NX c (hid (fun a => Adr δ a) H) S Δ (fun n s => loopE stp zs s0 = loopE stp (zs.drop n) s ∧ J n s)) ⟨s0, ⟨by simp, j0⟩, B.rebase.le w⟩ (fun n σ3 H3 hn _ => hn) (fun σ3 H3 _ => Nat.le_refl _) (fun n σ3 H3 hn ⟨s, hi, B3⟩ => ?_) (fun σ3 H3 ⟨s, hi, B3⟩ => ?_)
  · refine ⟨EX c _ S R Δ J (n + 1) (stp s (lo + n)), fun σ' H' q => exit_core (hz n hn) hi.1 q, ?_⟩
    rintro x H' ⟨rfl, rfl⟩
    exact body _ u n s (lo + n) _ _ (List.mem_of_getElem? (hz n hn)) (by omega) (fun r hr => by rw [hi.1, loopE_at (hz n hn), hr]) hi.2 (set_va B3 (.int _))
  · rw [← hl] at hi
    refine done s _ _ ?_ hi.2 (B3.debase u)
    rw [hi.1, List.drop_length]; rfl
theorem q_exitR1 {hi : Int} (Δ : S → List Ent) (stp : S → Int → S ⊕ R) (s0 : S) (J : Nat → S → Prop) (B : Bs c H σ δ) (h : Ev o0 te σ H (eI hi)) (hm : -1000000 ≤ hi ∧ hi ≤ 1000000) (w : LeA δ (Δ s0)) (j0 : J 0 s0)
    (body : ∀ (B0 : Hp), Ex c.B B0 → ∀ (n : Nat) (s : S) (x : Int) (σ1 : Sta) (H1 : Hp), x ∈ rng 0 hi → n < (rng 0 hi).length → (∀ r, stp s x = .inr r → loopE stp (rng 0 hi) s0 = .inr r) → J n s → Bs { c with B := B0 } H1 σ1 ((Δ s).set j (.va true (eI x))) →
      ts { D with nx := EX c B0 S R Δ J (n + 1) (stp s x), ct := EX c B0 S R Δ J (n + 1) (stp s x), bk := tz D } σ1 H1)
    (done : ∀ s σ1 H1, loopE stp (rng 0 hi) s0 = .inl s → J (rng 0 hi).length s → Bs c H1 σ1 (Δ s) → tz D σ1 H1) : tSeq (tFor (iRng1 (tCons te tNil)) (gName j) ts) tz D σ H := by
  refine h.go fun v H2 e2 hv => ?_
  cases hv
  exact ⟨hi, rfl, by omega, by omega, exitR_core (D := { D with nx := tz D }) (rng 0 hi) (fun n hn => rng_get (by omega)) (by rw [rng_len]; omega) Δ stp s0 J (B.mono e2) w j0 body done⟩
theorem q_exitR2 {lo hi : Int} (Δ : S → List Ent) (stp : S → Int → S ⊕ R) (s0 : S) (J : Nat → S → Prop) (B : Bs c H σ δ) (h1 : Ev o0 ta σ H (eI lo)) (h : Ev o0 te σ H (eI hi)) (hm : -1000000 ≤ lo ∧ lo ≤ 1000000 ∧ -1000000 ≤ hi ∧ hi ≤ 1000000) (w : LeA δ (Δ s0)) (j0 : J 0 s0)
    (body : ∀ (B0 : Hp), Ex c.B B0 → ∀ (n : Nat) (s : S) (x : Int) (σ1 : Sta) (H1 : Hp), x ∈ rng lo hi → n < (rng lo hi).length → (∀ r, stp s x = .inr r → loopE stp (rng lo hi) s0 = .inr r) → J n s → Bs { c with B := B0 } H1 σ1 ((Δ s).set j (.va true (eI x))) →
      ts { D with nx := EX c B0 S R Δ J (n + 1) (stp s x), ct := EX c B0 S R Δ J (n + 1) (stp s x), bk := tz D } σ1 H1)
    (done : ∀ s σ1 H1, loopE stp (rng lo hi) s0 = .inl s → J (rng lo hi).length s → Bs c H1 σ1 (Δ s) → tz D σ1 H1) : tSeq (tFor (iRng2 (tCons ta (tCons te tNil))) (gName j) ts) tz D σ H := by
  refine h1.go fun v H2 e2 hv => (h.mono e2).go fun v' H3 e3 hv' => ?_
  cases hv; cases hv'
  exact ⟨lo, hi, rfl, by omega, exitR_core (D := { D with nx := tz D }) (rng lo hi) (fun n hn => rng_get hn) (rng_len _ _) Δ stp s0 J (B.mono (e2.trans e3)) w j0 body done⟩

/-! a value is worth one datum, and a list isn't in itself -/
end
mutual
theorem Dn.fn {H : Hp} : ∀ {v : V} {d d' : PyData}, Dn H v d → Dn H v d' → d = d'
  | _, _, _, .non, h => by cases h; rfl
  | _, _, _, .bl b, h => by cases h; rfl
  | _, _, _, .int i, h => by cases h; rfl
  | _, _, _, .str x, h => by cases h; rfl
  | _, _, _, .lst h r, h' => by
    cases h' with
    | lst h2 r2 => rw [h] at h2; cases h2; rw [DnA.fn r r2]
    | tup h2 r2 => rw [h] at h2; cases h2
    | dct h2 r2 => rw [h] at h2; cases h2
  | _, _, _, .tup h r, h' => by
    cases h' with
    | lst h2 r2 => rw [h] at h2; cases h2
    | tup h2 r2 => rw [h] at h2; cases h2; rw [DnA.fn r r2]
    | dct h2 r2 => rw [h] at h2; cases h2
  | _, _, _, .dct h r, h' => by
    cases h' with
    | lst h2 r2 => rw [h] at h2; cases h2
    | tup h2 r2 => rw [h] at h2; cases h2
    | dct h2 r2 => rw [h] at h2; cases h2; rw [DnK.fn r r2]
theorem DnA.fn {H : Hp} : ∀ {vs : List V} {ds ds' : List PyData}, DnA H vs ds → DnA H vs ds' → ds = ds'
  | _, _, _, .nil, h => by cases h; rfl
  | _, _, _, .cons h r, h' => by
    cases h' with
    | cons h2 r2 => rw [Dn.fn h h2, DnA.fn r r2]
theorem DnK.fn {H : Hp} : ∀ {vs : List (Key × V)} {ds ds' : List (PyData × PyData)}, DnK H vs ds → DnK H vs ds' → ds = ds'
  | _, _, _, .nil, h => by cases h; rfl
  | _, _, _, .cons h r, h' => by
    cases h' with
    | cons h2 r2 => rw [Dn.fn h h2, DnK.fn r r2]
end
mutual
theorem Dn.small {H : Hp} {p : Addr} {vs : List V} {ds : List PyData} (hp : H p = some (.lst vs)) (hd : DnA H vs ds) : ∀ {v : V} {d : PyData}, Dn H v d → sizeOf d < sizeOf (PyData.list ds) → Dn (hid (fun a => a = p) H) v d
  | _, _, .non, _ => .non
  | _, _, .bl b, _ => .bl b
  | _, _, .int i, _ => .int i
  | _, _, .str x, _ => .str x
  | _, _, @Dn.lst _ a xs es h r, hs => by
    have ne : ¬ a = p := fun z => by
      subst z
      rw [h] at hp; cases hp
      have := DnA.fn r hd
      subst this
      omega
    exact .lst (by rw [hid_at (o := fun a => a = p) ne]; exact h) (DnA.small hp hd r (by simp at hs ⊢; omega))
  | _, _, @Dn.tup _ a xs es h r, hs => by
    have ne : ¬ a = p := fun z => by subst z; rw [h] at hp; cases hp
    exact .tup (by rw [hid_at (o := fun a => a = p) ne]; exact h) (DnA.small hp hd r (by simp at hs ⊢; omega))
  | _, _, @Dn.dct _ a xs es h r, hs => by
    have ne : ¬ a = p := fun z => by subst z; rw [h] at hp; cases hp
    exact .dct (by rw [hid_at (o := fun a => a = p) ne]; exact h) (DnK.small hp hd r (by simp at hs ⊢; omega))
theorem DnA.small {H : Hp} {p : Addr} {vs : List V} {ds : List PyData} (hp : H p = some (.lst vs)) (hd : DnA H vs ds) : ∀ {ws : List V} {es : List PyData}, DnA H ws es → sizeOf es < sizeOf (PyData.list ds) → DnA (hid (fun a => a = p) H) ws es
  | _, _, .nil, _ => .nil
  | _, _, .cons h r, hs => .cons (Dn.small hp hd h (by simp at hs ⊢; omega)) (DnA.small hp hd r (by simp at hs ⊢; omega))
theorem DnK.small {H : Hp} {p : Addr} {vs : List V} {ds : List PyData} (hp : H p = some (.lst vs)) (hd : DnA H vs ds) : ∀ {ws : List (Key × V)} {es : List (PyData × PyData)}, DnK H ws es → sizeOf es < sizeOf (PyData.list ds) → DnK (hid (fun a => a = p) H) ws es
  | _, _, .nil, _ => .nil
  | _, _, .cons h r, hs => .cons (Dn.small hp hd h (by simp at hs ⊢; omega)) (DnK.small hp hd r (by simp at hs ⊢; omega))
end
section
variable {K : PySem.W.Frag} {c : Wd} {o : Hd} {H H1 H' : Hp} {σ : Sta} {δ δ' : List Ent} {i j ci : Nat} {f g b : Bool} {a : Addr} {d e : PyData} {ta tb te tl : TE} {t : TT} {ts tu tw tz : TS} {D : Ends} {α β γ S R : Type} {em : α → PyData} {em2 : β → PyData} {emg : γ → PyData} {xs ys : List α} {m n : Int}
theorem en_new {ds : List PyData} (l : Live o H) (h : ∀ H1, Ex H H1 → ∀ Q : VK, (∀ v H2, Ex H1 H2 → Dn (new H1 H2) v (.list ds) → Q v H2) → te σ H1 Q) : EvN o te σ H ds := fun H1 x Q q =>
  h H1 x _ fun v H3 e3 hd => by
    cases hd with
    | lst hp r =>
      rename_i p xs
      obtain ⟨n1, n2⟩ := hid_of hp
      have np : H1 p = none := by
        cases z : H1 p with
        | none => rfl
        | some u => exact absurd (by rw [z]; simp) n1
      refine q p xs H3 np e3 n2 ?_
      have r2 := DnA.small hp r r (by simp)
      refine r2.mono fun b u z => ?_
      obtain ⟨z1, z2⟩ := hid_of (o := fun a => a = p) z
      obtain ⟨z3, z4⟩ := hid_of z2
      rw [hid_at]
      · exact z4
      · rintro (w | w)
        · exact z3 ((l.mono x) b w)
        · exact z1 w
/-- a call whose answer is a new list -/
theorem en_callF {R : List PyData → PyData → Prop} {E : XK} {tr : TA} {ds es : List PyData} (l : Live o H) (h : EvA o0 tr σ H es) (hr : R es (.list ds)) : EvN o (tCall (SpF R) [] E tr) σ H ds := fun H1 x Q q =>
  h H1 x _ fun vs H2 e2 hv => ⟨es, _, by rw [List.append_nil]; exact hv.up, hr, fun v H3 e3 hd => by
    cases hd with
    | lst hp r =>
      rename_i p xs
      obtain ⟨n1, n2⟩ := hid_of hp
      have np : H2 p = none := by
        cases z : H2 p with
        | none => rfl
        | some u => exact absurd (by rw [z]; simp) n1
      refine q p xs H3 (Evl.fresh_back e2 np) (e2.trans e3) n2 ?_
      have r2 := DnA.small hp r r (by simp)
      refine r2.mono fun b u z => ?_
      obtain ⟨z1, z2⟩ := hid_of (o := fun a => a = p) z
      obtain ⟨z3, z4⟩ := hid_of z2
      rw [hid_at]
      · exact z4
      · rintro (w | w)
        · exact z3 (((l.mono x).mono e2) b w)
        · exact z1 w⟩
/-- an item of a list or of a tuple, by the rule that takes either -/
theorem ev_ixAL {ds : List PyData} {m : Int} (ha : Ev o ta σ H (.list ds)) (hi : Ev o0 tb σ H (.int m)) (hg : atI ds m = some d) : Ev o (tOp (rIx K) ta tb) σ H d := fun H1 x Q q =>
  ha H1 x _ fun v H2 e2 hv => hi H2 (x.trans e2) _ fun w H3 e3 hw => by
    cases hw
    cases hv with
    | lst h r =>
      obtain ⟨y, y1, y2⟩ := (r.mono (hid_mono e3)).atI hg
      exact .inl ⟨_, _, m, y, rfl, rfl, .inl (.inl (e3 _ _ (hid_ex _ _ h))), y1, q _ H3 (e2.trans e3) y2⟩
theorem ev_ixAT {ds : List PyData} {m : Int} (ha : Ev o ta σ H (.tuple ds)) (hi : Ev o0 tb σ H (.int m)) (hg : atI ds m = some d) : Ev o (tOp (rIx K) ta tb) σ H d := fun H1 x Q q =>
  ha H1 x _ fun v H2 e2 hv => hi H2 (x.trans e2) _ fun w H3 e3 hw => by
    cases hw
    cases hv with
    | tup h r =>
      obtain ⟨y, y1, y2⟩ := (r.mono (hid_mono e3)).atI hg
      exact .inr (.inl ⟨_, _, m, y, rfl, rfl, .inl (.inl (e3 _ _ (hid_ex _ _ h))), y1, q _ H3 (e2.trans e3) y2⟩)
/-! ### defs that change the list they are passed -/
theorem bs_M {N : List Str} {vr : List V} {xs : List V} {ds rs : List PyData} {H : Hp} {o : Hd} {a : Addr} (l : Live o H) (oa : o a) (ha : H a = some (.lst xs)) (hx : DnA (hid o H) xs ds) (hr : DnA H vr rs) (hs : ∀ d ∈ rs, Sc d) (hN : vr.length + 1 ≤ N.length) :
    Bs ⟨hid (fun b => b = a) H, fun b => o b ∧ b ≠ a, o0⟩ H (L2.start N (.ref a :: vr)) (.ow true a ds :: args true (N.length - 1) rs) := by
  have hrl := hr.length
  have na : ∀ {k : Nat} {f : Bool} {b : Addr} {es : List PyData}, (args true (N.length - 1) rs)[k]? ≠ some (.ow f b es) := fun {k f b es} z => by
    have he := List.mem_of_getElem? z
    unfold args at he
    rcases List.mem_append.mp he with he | he
    · obtain ⟨d, _, q⟩ := List.mem_map.mp he; cases q
    · have := (List.mem_replicate.mp he).2; cases this
  have adr : ∀ b, Adr (.ow true a ds :: args true (N.length - 1) rs) b → b = a := fun b ⟨k, f, es, z⟩ => by
    cases k with
    | zero => simp at z; exact z.2.1.symm
    | succ k => exact absurd (by simpa using z) na
  have hdo : ∀ b, (⟨hid (fun b => b = a) H, fun b => o b ∧ b ≠ a, o0⟩ : Wd).hd true (.ow true a ds :: args true (N.length - 1) rs) b → o b := fun b z => by
    rcases z with z | z | z
    · exact z.2.1
    · exact z.elim
    · rw [adr b z]; exact oa
  refine ⟨hid_ex, fun b z => l b z.1, live0, fun b z => ?_, fun i j f1 g b d1 es h1 h2 => ?_, ?_, fun i e he => ?_⟩
  · rw [adr b z]; exact ⟨hid_in rfl, fun z => z.2 rfl, id⟩
  · cases i with
    | zero => cases j with
      | zero => rfl
      | succ j => exact absurd (by simpa using h2) na
    | succ i => exact absurd (by simpa using h1) na
  · rw [start_len (by simpa using hN)]; unfold args; simp; omega
  · cases i with
    | zero =>
      simp at he; subst he
      refine ⟨xs, ?_, ha, hx.mono (hid_sub hdo)⟩
      rw [start_get (by simp) (by simpa using hN)]; rfl
    | succ i =>
      simp only [List.getElem?_cons_succ] at he
      unfold args at he
      by_cases hi : i < rs.length
      · rw [List.getElem?_append_left (by simpa using hi), List.getElem?_map] at he
        obtain ⟨d, hd, q⟩ := Option.map_eq_some_iff.mp he
        subst q
        obtain ⟨v, hv, q⟩ := hr.get hd
        refine ⟨v, ?_, q.sc (hs d (List.mem_of_getElem? hd))⟩
        rw [start_get (by simp; omega) (by simpa using hN)]
        rw [List.getElem?_eq_some_iff] at hv
        simp [hv.2]
      · rw [List.getElem?_append_right (by simp; omega)] at he
        have := (List.mem_replicate.mp (List.mem_of_getElem? he)).2
        subst this
        trivial
/-- the way out of such a def -/
theorem q_retM {Q : VK} {o : Hd} {H0 : Hp} {ds' : List PyData} {i : Nat} (B : Bs ⟨hid (fun b => b = a) H0, fun b => o b ∧ b ≠ a, o0⟩ H σ δ) (hx : δ[i]? = some (.ow true a ds')) (h : Ev ((⟨hid (fun b => b = a) H0, fun b => o b ∧ b ≠ a, o0⟩ : Wd).hd true δ) te σ H d) (hD : D.rt = Q)
    (k : ∀ v xs' H', (∀ b u, b ≠ a → H0 b = some u → H' b = some u) → H' a = some (.lst xs') → DnA (hid o H') xs' ds' → Dn (hid o H') v d → Q v H') : tSeq (tRet te) tz D σ H := by
  refine h.go fun v H2 e2 hv => ?_
  have B2 := B.mono e2
  obtain ⟨vs, _, ha, hr⟩ := B2.ent i _ hx
  have sub : ∀ b, o b → (⟨hid (fun b => b = a) H0, fun b => o b ∧ b ≠ a, o0⟩ : Wd).hd true δ b := fun b z => by
    by_cases q : b = a
    · subst q; exact .inr (.inr ⟨i, true, ds', hx⟩)
    · exact .inl ⟨rfl, z, q⟩
  show D.rt v H2
  rw [hD]
  exact k v vs H2 (fun b u nb hb => B2.base b u (by show hid (fun b => b = a) H0 b = some u; rw [hid_at (o := fun b => b = a) nb]; exact hb)) ha (hr.mono (hid_sub sub)) (hv.mono (hid_sub sub))
theorem adr_ow {ds ds' : List PyData} (h : δ[i]? = some (.ow f a ds)) (b : Addr) : Adr (δ.set i (.ow f a ds')) b ↔ Adr δ b := by
  have hl : i < δ.length := by
    rw [List.getElem?_eq_some_iff] at h
    exact h.1
  constructor
  · intro z
    rcases adr_set z with z | ⟨_, _, z⟩
    · exact z
    · injection z with _ z _; subst z; exact ⟨i, f, ds, h⟩
  · rintro ⟨k, g, es, z⟩
    by_cases q : i = k
    · subst q
      rw [h] at z
      injection z with z; injection z with z1 z2 z3
      subst z1; subst z2
      exact ⟨i, f, ds', by rw [List.getElem?_set]; simp [hl]⟩
    · exact ⟨k, g, es, by rw [List.getElem?_set_ne q]; exact z⟩
theorem adr_no {e : Ent} (h : δ[i]? = some .no) (he : ∀ f a ds, e ≠ .ow f a ds) (b : Addr) : Adr (δ.set i e) b ↔ Adr δ b := by
  constructor
  · intro z
    rcases adr_set z with z | ⟨f, ds, z⟩
    · exact z
    · exact absurd z (he _ _ _)
  · rintro ⟨k, g, es, z⟩
    exact ⟨k, g, es, by rw [List.getElem?_set_ne (fun q => by subst q; rw [h] at z; cases z)]; exact z⟩
theorem hd_adr {δ1 δ2 : List Ent} (h : ∀ b, Adr δ1 b ↔ Adr δ2 b) (f : Bool) : c.hd f δ1 = c.hd f δ2 := by
  funext b; unfold Wd.hd; rw [h b]
/-- a slot of which nothing is known may hold anything -/
theorem Bs.slot {x : Option V} (B : Bs c H σ δ) (h : δ[j]? = some .no) : Bs c H (σ.set j x) δ := by
  refine ⟨B.base, B.liO, B.liN, B.own, B.one, by rw [List.length_set]; exact B.len, fun i e he => ?_⟩
  by_cases q : j = i
  · subst q; rw [h] at he; cases he; trivial
  · rw [List.getElem?_set_ne q]; exact B.ent i e he
/-- an object that no value may meet is rewritten -/
theorem Bs.updN {p : Addr} {u : HO} (B : Bs c H σ δ) (hp : c.N p) (hB : c.B p = none) : Bs c (upd H p u) σ δ := by
  have lv : ∀ {o : Hd}, Live o H → Live o (upd H p u) := fun {o} l b hb z => by
    by_cases q : b = p
    · subst q; rw [upd_same] at z; cases z
    · rw [upd_ne q] at z; exact l b hb z
  have hh : ∀ f, hid (c.hd f δ) (upd H p u) = hid (c.hd f δ) H := fun f => hid_upd_in (.inr (.inl hp))
  refine ⟨fun b v q => ?_, lv B.liO, lv B.liN, B.own, B.one, B.len, fun i e he => ?_⟩
  · rw [upd_ne (ne_of_none q hB)]; exact B.base _ _ q
  · have w := B.ent i e he
    cases e with
    | no => trivial
    | va f d => obtain ⟨v, e, w⟩ := w; exact ⟨v, e, by rw [hh]; exact w⟩
    | ow f b es =>
      obtain ⟨ws, e, w, r⟩ := w
      refine ⟨ws, e, ?_, by rw [hh]; exact r⟩
      rw [upd_ne (fun z => (B.own b ⟨i, f, es, he⟩).2.2 (by rw [z]; exact hp))]; exact w
    | rw v => exact w
/-- into a comprehension's block, with its new list at p -/
noncomputable def Wd.blk (c : Wd) (δ : List Ent) (H : Hp) (p : Addr) : Wd := { c with B := hid (fun a => Adr δ a ∨ a = p) H, N := fun a => c.N a ∨ a = p }
theorem Bs.blk {p : Addr} {u : HO} (B : Bs c H σ δ) (np : H p = none) : Bs (c.blk δ H p) (upd H p u) σ δ := by
  have ex : Ex H (upd H p u) := Evl.Ex.new np
  have pa : ¬ Adr δ p := fun ⟨k, f, ds, z⟩ => by
    obtain ⟨vs, _, q, _⟩ := B.ent k _ z
    rw [q] at np; cases np
  refine ⟨fun b v q => ?_, B.liO.mono ex, fun b z => ?_, fun b z => ⟨(show hid (fun a => Adr δ a ∨ a = p) H b = none from hid_in (Or.inl z)), (B.own b z).2.1, fun y => ?_⟩, B.one, B.len, fun i e he => ?_⟩
  · obtain ⟨q1, q2⟩ := hid_of (o := fun a => Adr δ a ∨ a = p) q
    exact ex _ _ q2
  · rcases z with z | z
    · exact (B.liN.mono ex) b z
    · subst z; rw [upd_same]; simp
  · rcases y with y | y
    · exact (B.own b z).2.2 y
    · subst y; exact pa z
  · have w := B.ent i e he
    have hh : ∀ f, Ex (hid (c.hd f δ) H) (hid ((c.blk δ H p).hd f δ) (upd H p u)) := fun f b v q => by
      obtain ⟨q1, q2⟩ := hid_of q
      have nb : b ≠ p := ne_of_none q2 np
      rw [hid_at, upd_ne nb]
      · exact q2
      · rintro (z | (z | z) | z)
        · exact q1 (.inl z)
        · exact q1 (.inr (.inl z))
        · exact nb z
        · exact q1 (.inr (.inr z))
    cases e with
    | no => trivial
    | va f d => obtain ⟨v, e, w⟩ := w; exact ⟨v, e, w.mono (hh f)⟩
    | ow f b es => obtain ⟨ws, e, w, r⟩ := w; exact ⟨ws, e, ex _ _ w, r.mono (hh f)⟩
    | rw v => exact w
theorem Bs.unblk {p : Addr} {H0 : Hp} {σ0 : Sta} (B0 : Bs c H0 σ0 δ') (np : H0 p = none) (B : Bs (c.blk δ' H0 p) H σ δ) : Bs c H σ δ := by
  have ex : Ex c.B (hid (fun a => Adr δ' a ∨ a = p) H0) := fun b u q => by
    rw [hid_at]
    · exact B0.base _ _ q
    · rintro (z | z)
      · rw [(B0.own b z).1] at q; cases q
      · subst z; rw [B0.base _ _ q] at np; cases np
  refine ⟨ex.trans B.base, B.liO, fun b z => B.liN b (.inl z), fun b z => ⟨?_, (B.own b z).2.1, fun y => (B.own b z).2.2 (.inl y)⟩, B.one, B.len, fun i e he => ?_⟩
  · cases q : c.B b with
    | none => rfl
    | some u =>
      have w : hid (fun a => Adr δ' a ∨ a = p) H0 b = none := (B.own b z).1
      rw [ex _ _ q] at w; cases w
  · have w := B.ent i e he
    have hh : ∀ f, Ex (hid ((c.blk δ' H0 p).hd f δ) H) (hid (c.hd f δ) H) := fun f => hid_sub fun b z => by
      rcases z with z | z | z
      · exact .inl z
      · exact .inr (.inl (.inl z))
      · exact .inr (.inr z)
    cases e with
    | no => trivial
    | va f d => obtain ⟨v, e, w⟩ := w; exact ⟨v, e, w.mono (hh f)⟩
    | ow f b es => obtain ⟨ws, e, w, r⟩ := w; exact ⟨ws, e, w, r.mono (hh f)⟩
    | rw v => exact w
/-- a comprehension over a range whose turns change one list of the body's own -/
def stepE (nx : List γ → Int → β × List γ) (p : List β × List γ) (k : Int) : List β × List γ := (p.1 ++ [(nx p.2 k).1], (nx p.2 k).2)
theorem en_lcE {lo hi : Int} {tr : TI} (nx : List γ → Int → β × List γ) (J : List γ → Prop) {gs : List γ} (B : Bs c H σ δ) (hj : δ[j]? = some .no) (hx : δ[ci]? = some (.ow true a (gs.map emg))) (j0 : J gs) (js : ∀ gs k, J gs → J (nx gs k).2)
    (h : ∀ H1, Ex H H1 → ∀ R : It → Hp → Prop, (∀ H2, Ex H1 H2 → R (Itr lo (hi - lo).toNat) H2) → tr σ H1 R) (hz : hi - lo ≤ 40000)
    (body : ∀ (c' : Wd) (gs : List γ) (x : Int) (σ1 : Sta) (H1 : Hp), x ∈ rng lo hi → J gs → Bs c' H1 σ1 ((δ.set ci (.ow true a (gs.map emg))).set j (.va true (eI x))) →
      EvM c' te σ1 H1 ((δ.set ci (.ow true a (gs.map emg))).set j (.va true (eI x))) (em2 (nx gs x).1) ((δ.set ci (.ow true a ((nx gs x).2.map emg))).set j (.va true (eI x)))) :
    ∀ Q : VK, (∀ p vs H2, H p = none → H2 p = some (.lst vs) → Bs c H2 σ (δ.set ci (.ow true a (((rng lo hi).foldl (stepE nx) ([], gs)).2.map emg))) →
      DnA (hid (fun b => c.hd true δ b ∨ b = p) H2) vs (((rng lo hi).foldl (stepE nx) ([], gs)).1.map em2) → Q (.ref p) H2) → tLc tr (gName j) tYes te [j] σ H Q := by
  intro Q q
  refine h H (Ex.refl H) _ fun H2 e2 => ?_
  have B2 := B.mono e2
  intro C nC
  have ncj : ci ≠ j := fun z => by subst z; rw [hj] at hx; cases hx
  let st := fun n : Nat => ((rng lo hi).take n).foldl (stepE nx) ([], gs)
  have hjn : ∀ gs' : List γ, (δ.set ci (.ow true a (gs'.map emg)))[j]? = some .no := fun gs' => by rw [List.getElem?_set_ne ncj]; exact hj
  have hci : ∀ gs' : List γ, (δ.set ci (.ow true a (gs'.map emg)))[ci]? = some (.ow true a (gs'.map emg)) := fun gs' => by
    have : ci < δ.length := by rw [List.getElem?_eq_some_iff] at hx; exact hx.1
    rw [List.getElem?_set]; simp [this]
  have ead : ∀ gs' : List γ, ∀ b, Adr (δ.set ci (.ow true a (gs'.map emg))) b ↔ Adr δ b := fun gs' b => adr_ow hx b
  have ead2 : ∀ (gs' : List γ) (x : Int) b, Adr ((δ.set ci (.ow true a (gs'.map emg))).set j (.va true (eI x))) b ↔ Adr δ b := fun gs' x b => (adr_no (hjn gs') (fun _ _ _ z => by cases z) b).trans (ead gs' b)
  have e0 : δ.set ci (.ow true a (gs.map emg)) = δ := by
    refine List.ext_getElem? fun k => ?_
    by_cases z : ci = k
    · subst z; rw [hci, hx]
    · rw [List.getElem?_set_ne z]
  have cC : (c.blk δ H2 C).N C := .inr rfl
  have bC : (c.blk δ H2 C).B C = none := hid_in (o := fun a => Adr δ a ∨ a = C) (.inr rfl)
  refine lc_range (lo := lo) (n := (hi - lo).toNat) (fun n H3 => ∃ acc, Bs (c.blk δ H2 C) H3 (wipe σ [j]) (δ.set ci (.ow true a ((st n).2.map emg))) ∧ H3 C = some (.lst acc) ∧ DnA (hid ((c.blk δ H2 C).hd true δ) H3) acc ((st n).1.map em2) ∧ J (st n).2) ?_ (fun n H3 hn hP => ?_) (fun H3 hP => ?_)
  · refine ⟨[], ?_, upd_same, .nil, j0⟩
    show Bs _ _ (σ.set j none) (δ.set ci (.ow true a (gs.map emg)))
    rw [e0]
    exact (B2.blk nC).slot hj
  · obtain ⟨acc, B3, hC, hacc, hJ⟩ := hP
    have hge := rng_get hn
    have tk : st (n + 1) = stepE nx (st n) (lo + n) := take_fold hge
    have B4 := set_va (i := j) (f := true) (d := eI (lo + n)) (v := .int (lo + n)) B3 (.int _)
    refine ⟨?_, ?_⟩
    · show ((((wipe σ []).set j none).set j (some (.int (lo + n)))).set j none) = _
      rw [List.set_set, List.set_set]; rfl
    unfold tYes
    dsimp only
    rw [if_pos rfl]
    refine body _ _ (lo + n) _ _ (List.mem_of_getElem? hge) hJ B4 _ fun v H5 B5 k5 hv => ?_
    have nad : ∀ b, ¬ Adr ((δ.set ci (.ow true a ((st n).2.map emg))).set j (.va true (eI (lo + n)))) b ↔ ¬ Adr δ b := fun b => not_congr (ead2 _ _ b)
    have hC5 : H5 C = some (.lst acc) := k5 C _ ((nad C).mpr fun z => (B3.own C ((ead _ C).mpr z)).2.2 cC) hC
    have hC0 : (c.blk δ H2 C).hd true δ C := .inr (.inl cC)
    have acc5 : DnA (hid ((c.blk δ H2 C).hd true δ) H5) acc ((st n).1.map em2) := hacc.mono fun b u q => by
      obtain ⟨q1, q2⟩ := hid_of q
      rw [hid_at q1]
      exact k5 b u ((nad b).mpr fun z => q1 (.inr (.inr z))) q2
    have v5 : Dn (hid ((c.blk δ H2 C).hd true δ) H5) v (em2 (nx (st n).2 (lo + n)).1) := by
      rw [hd_adr (ead2 _ _) true] at hv; exact hv
    refine ⟨acc, hC5, ?_, acc ++ [v], ?_, upd_same, ?_, ?_⟩
    · refine Evl.sz_lt ?_
      rw [hacc.length, List.length_map]
      have ln : ∀ k, (st k).1.length ≤ k := fun k => by
        show (((rng lo hi).take k).foldl (stepE nx) ([], gs)).1.length ≤ k
        have gen : ∀ (l : List Int) (p : List β × List γ), (l.foldl (stepE nx) p).1.length = p.1.length + l.length := fun l => by
          induction l with
          | nil => intro p; simp
          | cons y l ih => intro p; rw [List.foldl_cons, ih]; simp [stepE]; omega
        rw [gen]; simp; omega
      have := ln n
      omega
    · rw [tk]
      show Bs (c.blk δ H2 C) (upd H5 C (.lst (acc ++ [v]))) (wipe σ [j]) (δ.set ci (.ow true a ((nx (st n).2 (lo + n)).2.map emg)))
      have B6 : Bs (c.blk δ H2 C) H5 ((wipe σ [j]).set j (some (.int (lo + n)))) (δ.set ci (.ow true a ((nx (st n).2 (lo + n)).2.map emg))) := by
        refine B5.le ?_
        have gen : ∀ (l : List Ent) (k : Nat) (e : Ent), l[k]? = some .no → LeA (l.set k e) l := fun l => by
          induction l with
          | nil => intro k e h; simp at h
          | cons y l ih =>
            intro k e h
            cases k with
            | zero => simp at h; subst h; exact .cons (.no _) (LeA.refl l)
            | succ k => exact .cons (.refl y) (ih k e (by simpa using h))
        exact gen _ _ _ (hjn _)
      have B7 := (B6.slot (x := none) (hjn _)).updN (u := .lst (acc ++ [v])) cC bC
      have ew : ((wipe σ [j]).set j (some (V.int (lo + n)))).set j none = wipe σ [j] := by
        show ((((wipe σ []).set j none).set j (some (.int (lo + n)))).set j none) = _
        rw [List.set_set, List.set_set]; rfl
      rw [ew] at B7
      exact B7
    · rw [hid_upd_in hC0, tk]
      show DnA _ _ (((st n).1 ++ [(nx (st n).2 (lo + n)).1]).map em2)
      rw [List.map_append]
      exact acc5.append (.one v5)
    · rw [tk]; exact js _ _ hJ
  · obtain ⟨acc, B3, hC, hacc, hJ⟩ := hP
    have el : st (hi - lo).toNat = (rng lo hi).foldl (stepE nx) ([], gs) := by
      show ((rng lo hi).take _).foldl _ _ = _
      rw [← rng_len, List.take_length]
    rw [el] at B3 hacc
    refine q C acc H3 (Evl.fresh_back e2 nC) hC ?_ (hacc.mono (hid_sub fun b z => ?_))
    · have B4 := B2.unblk nC B3
      refine ⟨B4.base, B4.liO, B4.liN, B4.own, B4.one, by rw [← B4.len, wipe_length], fun i e he => ?_⟩
      have w := B4.ent i e he
      by_cases z : j = i
      · subst z; rw [hjn] at he; cases he; trivial
      · have : (wipe σ [j])[i]? = σ[i]? := by
          show ((wipe σ []).set j none)[i]? = _
          rw [List.getElem?_set_ne z]; rfl
        rw [this] at w; exact w
    · rcases z with (z | z | z) | z
      · exact .inl z
      · exact .inr (.inl (.inl z))
      · exact .inr (.inr z)
      · exact .inr (.inl (.inr z))
theorem em_callF1 {Rl : List PyData → PyData → Prop} {E : XK} (h : EvM c ta σ H δ d δ') (hr : Rl [d] e) : EvM c (tCall (SpF Rl) [] E (tCons ta tNil)) σ H δ e δ' := fun Q q =>
  h _ fun v H2 B2 k2 hv => ⟨[d], e, .cons hv.up .nil, hr, fun w H3 e3 hw => q w H3 (B2.mono e3) (fun a u na h => e3 _ _ (k2 a u na h)) (hw.mono (hid_sub (B2.live true)))⟩
theorem q_asgE {lo hi : Int} {tr : TI} (nx : List γ → Int → β × List γ) (J : List γ → Prop) {gs : List γ} (B : Bs c H σ δ) (hj : δ[j]? = some .no) (hx : δ[ci]? = some (.ow true a (gs.map emg))) (j0 : J gs) (js : ∀ gs k, J gs → J (nx gs k).2)
    (h : ∀ H1, Ex H H1 → ∀ R : It → Hp → Prop, (∀ H2, Ex H1 H2 → R (Itr lo (hi - lo).toNat) H2) → tr σ H1 R) (hz : hi - lo ≤ 40000)
    (body : ∀ (c' : Wd) (gs : List γ) (x : Int) (σ1 : Sta) (H1 : Hp), x ∈ rng lo hi → J gs → Bs c' H1 σ1 ((δ.set ci (.ow true a (gs.map emg))).set j (.va true (eI x))) →
      EvM c' te σ1 H1 ((δ.set ci (.ow true a (gs.map emg))).set j (.va true (eI x))) (em2 (nx gs x).1) ((δ.set ci (.ow true a ((nx gs x).2.map emg))).set j (.va true (eI x))))
    (k : ∀ ys gs' σ1 H1, (ys, gs') = (rng lo hi).foldl (stepE nx) ([], gs) → J gs' → Bs c H1 σ1 ((δ.set ci (.ow true a (gs'.map emg))).set i (.va true (eL em2 ys))) → tz D σ1 H1) :
    tSeq (tAsg (tLc tr (gName j) tYes te [j]) (gName i)) tz D σ H := by
  show tLc tr (gName j) tYes te [j] σ H (fun x H1 => tz D (σ.set i (some x)) H1)
  refine en_lcE nx J B hj hx j0 js h hz body _ fun p vs H2 np hp B2 hv => ?_
  have jj : J ((rng lo hi).foldl (stepE nx) ([], gs)).2 := by
    have gen : ∀ (l : List Int) (q : List β × List γ), J q.2 → J (l.foldl (stepE nx) q).2 := fun l => by
      induction l with
      | nil => intro q hq; exact hq
      | cons y l ih => intro q hq; rw [List.foldl_cons]; exact ih _ (js _ _ hq)
    exact gen _ _ j0
  refine k ((rng lo hi).foldl (stepE nx) ([], gs)).1 ((rng lo hi).foldl (stepE nx) ([], gs)).2 _ _ rfl jj (set_va B2 (.lst ?_ (hv.mono (hid_sub fun b z => ?_))))
  · rw [hid_at]
    · exact hp
    · rw [hd_adr (adr_ow hx) true]; exact (B.live true).fresh np
  · rw [hd_adr (adr_ow hx) true] at z; exact .inl z
theorem em_ixM [Inhabited α] (ha : Ev (c.hd true δ) ta σ H (eL em xs)) (stay : ∀ p, Adr δ p ↔ Adr δ' p) (h : ∀ H2, Ex H H2 → EvM c tb σ H2 δ (eI m) δ') (hb : inB xs m) : EvM c (tOp (rIxL K) ta tb) σ H δ (em (getI xs m)) δ' := em_ixL ha stay h (atI_getI hb em)
end
end HL
namespace HL
open PySem PySem.Spec PyProof.Rows L2
open PySem.Builtin PyProof
open Evl (Ex)
theorem extend_tup (l : Addr) (items : Array Value) (n : Nat) (b : Addr) (items2 : Array Value) (n2 : Nat) (o : Obj) (hc : o.cls = Value.type "tuple") (hd : o.data = Data.seq items2 n2)
    (hs0 : ¬(!items.isEmpty && Builtin.List.listTooLong (items.size + items2.size)) = true) (hs1 : items.size ≤ sizeLine) (hs2 : items.size + items2.size ≤ sizeLine + 1) :
    Meets (Builtin.«list.extend» { pos := [Value.ref l, Value.ref b] }) fun x R s =>
      s.heap.get? l = some { cls := Value.type "list", data := Data.seq items n } ∧ s.heap.get? b = some o ∧
        R (Except.ok (Flow.ret Value.none)) { heap := s.heap.update l (Obj.mapSeq fun x => x ++ items2), gens := s.gens, drawn := s.drawn, toks := s.toks, os := s.os } := by
  refine Meets.of_wp fun prog w A R s h => ?_
  obtain ⟨hp, g, d, tk, os⟩ := s
  obtain ⟨hl, hb, h⟩ := h
  have hz' : (items ++ items2).size ≤ sizeLine + 1 := by rw [Array.size_append]; exact hs2
  obtain ⟨cls, dict, data, slots⟩ := o
  dsimp only at hc hd
  subst hc; subst hd
  refine wpAny_bind (wpAny_bind (wpAny_ite_true rfl (wpAny_pure (wpAny_pure ?_))))
  refine wpAny_bind (wpAny_bind (AutoSeq1.wpAny_loadPart' hb (wpAny_pure (wpAny_ite_true (by simp) ?_))))
  refine wpAny_bind (wpAny_bind (wpAny_bind (wpAny_load' hb (wpAny_pure (wpAny_pure ?_)))))
  refine wpAny_bind (wpAny_bind (wpAny_bind (wpAny_load' hl (wpAny_pure (wpAny_pure ?_)))))
  refine wpAny_ite_false (by simpa using hs0) ?_
  exact wpAny_bind ((fun h => wpAny_updateSeq hl rfl h hs1 hz') (wpAny_pure ⟨Value.none, rfl, h⟩))
/-- list.extend with a tuple -/
abbrev rExtT : V → List V → Hp → VK → Prop := fun x vs H Q => ∃ l b xs zs, x = .ref l ∧ vs = [.ref b] ∧ H l = some (.lst xs) ∧ H b = some (.tup zs) ∧ xs.length + zs.length ≤ 100000 ∧ Q .non (upd H l (.lst (xs ++ zs)))
theorem mt_extT {X : Cx} : MtM X "list.extend" rExtT := by
  rintro pins s σ H x vs v us Q I rx rv ⟨l, b, xs, zs, rfl, rfl, hH, hB, hz, q⟩
  cases rx
  obtain ⟨u, rfl, ru⟩ := Vals.one rv
  cases ru
  have hs : sizeLine = 16777216 := rfl
  obtain ⟨z, its, n, r, hl, e⟩ := Inv.lstM I hH
  obtain ⟨its2, r2, ⟨o, e2, hc, n2, hd⟩, _⟩ := I.tuple (.inl (.inl hB))
  have hsz : its.toArray.size + its2.toArray.size ≤ sizeLine := by
    rw [List.size_toArray, List.size_toArray, ← r2.length, ← hl]; omega
  have hlong : ¬(!its.toArray.isEmpty && Builtin.List.listTooLong (its.toArray.size + its2.toArray.size)) = true := by
    rw [notLongL hsz, Bool.and_false]; exact Bool.false_ne_true
  exact call_meets F.slot_list_extend ⟨_, e, rfl⟩ F.entry_list_extend (F.args_list_extend_2 (Value.ref l) (Value.ref b))
    (extend_tup l its.toArray n b its2.toArray n2 o hc hd hlong (by rw [List.size_toArray, ← hl]; omega) (by omega))
    ⟨e, e2, V.non, upd H l (HO.lst (xs ++ zs)), Inv.lset I hH e (by simp) (r.append r2) (by rw [List.length_append]; omega), rfl, q⟩

/-- what enumerate gives -/
def enumI {α : Type} (xs : List α) : List (Int × α) := xs.zipIdx.map fun p => ((p.2 : Int), p.1)
theorem enumI_len {α : Type} (xs : List α) : (enumI xs).length = xs.length := by simp [enumI]
theorem enumI_get {α : Type} {xs : List α} {n : Nat} {x : α} (h : xs[n]? = some x) : (enumI xs)[n]? = some ((n : Int), x) := by
  simp [enumI, h]

/-! targets of any kind -/
section
variable {K : PySem.W.Frag} {c : Wd} {o : Hd} {H H1 H' : Hp} {σ : Sta} {δ δ' : List Ent} {i j : Nat} {f g b : Bool} {a : Addr} {d e : PyData} {ds es : List PyData} {ta tb te tl : TE} {t : TT} {ts tu tw tz : TS} {D : Ends} {α β γ S R : Type} {em : α → PyData} {em2 : β → PyData} {emg : γ → PyData} {xs ys : List α} {m n : Int}
def Tgt (g : TG) (f : Bool) (em : α → PyData) (u : α → List Ent → List Ent) : Prop := ∀ {c : Wd} {H : Hp} {σ : Sta} {δ : List Ent} {v : V} {x : α} {Q : Sta → Hp → Prop}, Bs c H σ δ → Dn (hid (c.hd f δ) H) v (em x) → (∀ σ1, Bs c H σ1 (u x δ) → Q σ1 H) → g v σ H Q
theorem tgt_name : Tgt (gName j) f em (fun x δ => δ.set j (.va f (em x))) := fun B h k => k _ (set_va B h)
theorem hd_va {d : PyData} : Ex (hid (c.hd f δ) H) (hid (c.hd f (δ.set i (.va g d))) H) := hid_sub (hd_sub fun b z => by
  rcases adr_set z with z | ⟨_, _, z⟩
  · exact z
  · cases z)
theorem tgt_tup2 {e1 : α → PyData} {e2 : β → PyData} : Tgt (gTup K 2 (gCons (gName i) (gCons (gName j) gNil))) f (eT2 e1 e2) (fun x δ => (δ.set i (.va f (e1 x.1))).set j (.va f (e2 x.2))) := fun B h k => by
  cases h with
  | @tup p vs _ hp hr =>
    cases hr with
    | cons h1 hr => cases hr with
      | cons h2 hr =>
        cases hr
        exact ⟨p, _, rfl, .inl (.inl (hid_ex _ _ hp)), rfl, _, _, rfl, _, _, rfl, rfl, k _ (set_va (set_va B h1) (h2.mono hd_va))⟩
theorem tgt_tup3 {k : Nat} {e1 : α → PyData} {e2 : β → PyData} {e3 : γ → PyData} : Tgt (gTup K 3 (gCons (gName i) (gCons (gName j) (gCons (gName k) gNil)))) f (eT3 e1 e2 e3) (fun x δ => ((δ.set i (.va f (e1 x.1))).set j (.va f (e2 x.2.1))).set k (.va f (e3 x.2.2))) := fun B h k => by
  cases h with
  | @tup p vs _ hp hr =>
    cases hr with
    | cons h1 hr => cases hr with
      | cons h2 hr => cases hr with
        | cons h3 hr =>
          cases hr
          exact ⟨p, _, rfl, .inl (.inl (hid_ex _ _ hp)), rfl, _, _, rfl, _, _, rfl, _, _, rfl, rfl, k _ (set_va (set_va (set_va B h1) (h2.mono hd_va)) ((h3.mono hd_va).mono hd_va))⟩
theorem q_asgG {u : α → List Ent → List Ent} {x : α} {tg : TG} (G : Tgt tg f em u) (S : Bs c H σ δ) (h : Ev (c.hd f δ) te σ H (em x)) (k : ∀ σ1 H1, Bs c H1 σ1 (u x δ) → tz D σ1 H1) : tSeq (tAsg te tg) tz D σ H :=
  h.go fun v H2 e2 hv => G (S.mono e2) hv fun σ1 B => k σ1 H2 B
theorem q_exitLG {u : α → List Ent → List Ent} {tg : TG} (G : Tgt tg f em u) (Δ : S → List Ent) (stp : S → α → S ⊕ R) (s0 : S) (J : Nat → S → Prop) (B : Bs c H σ δ) (h : Ev (c.hd f δ) tl σ H (eL em xs)) (w : LeA δ (Δ s0)) (j0 : J 0 s0)
    (body : ∀ (B0 : Hp), Ex c.B B0 → ∀ (n : Nat) (s : S) (x : α) (σ1 : Sta) (H1 : Hp), x ∈ xs → n < xs.length → (∀ r, stp s x = .inr r → loopE stp xs s0 = .inr r) → J n s → Bs { c with B := B0 } H1 σ1 (u x (Δ s)) →
      ts { D with nx := EX c B0 S R Δ J (n + 1) (stp s x), ct := EX c B0 S R Δ J (n + 1) (stp s x), bk := tz D } σ1 H1)
    (done : ∀ s σ1 H1, loopE stp xs s0 = .inl s → J xs.length s → Bs c H1 σ1 (Δ s) → tz D σ1 H1) : tSeq (tFor (iList K tl) tg ts) tz D σ H := by
  refine h.go fun v H2 e2 hv => ?_
  have B2 := B.mono e2
  cases hv with
  | @lst p vs _ hp hr =>
    have u := B2.under
    have W : ∀ {H3 σ3 s}, Bs { c with B := hid (fun a => Adr δ a) H2 } H3 σ3 (Δ s) → Ex (hid (c.hd f δ) H2) (hid (c.hd f (Δ s)) H3) := fun B3 => B3.pers fun a u q => at_has q
    have hl : vs.length = xs.length := by rw [hr.length, List.length_map]
    refine ⟨p, rfl, ⟨vs, .inl (.inl (hid_ex _ _ hp))⟩, it_flex (m := xs.length) (NX c _ S Δ (fun n s => loopE stp xs s0 = loopE stp (xs.drop n) s ∧ J n s)) ⟨s0, ⟨by simp, j0⟩, (B2.rebase).le w⟩ (fun n σ3 H3 hn ⟨s, _, B3⟩ => ?_) (fun σ3 H3 ⟨s, _, B3⟩ => ?_) (fun n σ3 H3 hn ⟨s, hi, B3⟩ => ?_) (fun σ3 H3 ⟨s, hi, B3⟩ => ?_)⟩
    · exact ⟨vs, vs[n]'(by omega), .inl (.inl (hid_ex _ _ (W B3 _ _ hp))), List.getElem?_eq_getElem (by omega)⟩
    · exact ⟨vs, .inl (.inl (hid_ex _ _ (W B3 _ _ hp))), by omega⟩
    · refine ⟨EX c _ S R Δ J (n + 1) (stp s xs[n]), fun σ' H' q => exit_core (List.getElem?_eq_getElem hn) hi.1 q, ?_⟩
      rintro x H' ⟨rfl, hx⟩
      have ex := hx _ (.inl (.inl (hid_ex _ _ (W B3 _ _ hp))))
      obtain ⟨d, hd, q⟩ := hr.get' ex
      rw [List.getElem?_map, List.getElem?_eq_getElem hn] at hd
      cases hd
      exact G B3 (q.mono (W B3)) fun σ4 B4 => body _ u n s xs[n] _ _ (List.getElem_mem hn) hn (fun r hr => by rw [hi.1, loopE_at (List.getElem?_eq_getElem hn), hr]) hi.2 B4
    · refine done s _ _ ?_ hi.2 (B3.debase u)
      rw [hi.1, List.drop_length]; rfl
theorem q_exitTG {u : α → List Ent → List Ent} {tg : TG} (G : Tgt tg f em u) (Δ : S → List Ent) (stp : S → α → S ⊕ R) (s0 : S) (J : Nat → S → Prop) (B : Bs c H σ δ) (h : Ev (c.hd f δ) tl σ H (eTu em xs)) (w : LeA δ (Δ s0)) (j0 : J 0 s0)
    (body : ∀ (B0 : Hp), Ex c.B B0 → ∀ (n : Nat) (s : S) (x : α) (σ1 : Sta) (H1 : Hp), x ∈ xs → n < xs.length → (∀ r, stp s x = .inr r → loopE stp xs s0 = .inr r) → J n s → Bs { c with B := B0 } H1 σ1 (u x (Δ s)) →
      ts { D with nx := EX c B0 S R Δ J (n + 1) (stp s x), ct := EX c B0 S R Δ J (n + 1) (stp s x), bk := tz D } σ1 H1)
    (done : ∀ s σ1 H1, loopE stp xs s0 = .inl s → J xs.length s → Bs c H1 σ1 (Δ s) → tz D σ1 H1) : tSeq (tFor (iTup K tl) tg ts) tz D σ H := by
  refine h.go fun v H2 e2 hv => ?_
  have B2 := B.mono e2
  cases hv with
  | @tup p vs _ hp hr =>
    have u := B2.under
    have W : ∀ {H3 σ3 s}, Bs { c with B := hid (fun a => Adr δ a) H2 } H3 σ3 (Δ s) → Ex (hid (c.hd f δ) H2) (hid (c.hd f (Δ s)) H3) := fun B3 => B3.pers fun a u q => at_has q
    have hl : vs.length = xs.length := by rw [hr.length, List.length_map]
    refine ⟨p, rfl, ⟨vs, .inl (.inl (hid_ex _ _ hp))⟩, it_flex (m := xs.length) (NX c _ S Δ (fun n s => loopE stp xs s0 = loopE stp (xs.drop n) s ∧ J n s)) ⟨s0, ⟨by simp, j0⟩, (B2.rebase).le w⟩ (fun n σ3 H3 hn ⟨s, _, B3⟩ => ?_) (fun σ3 H3 ⟨s, _, B3⟩ => ?_) (fun n σ3 H3 hn ⟨s, hi, B3⟩ => ?_) (fun σ3 H3 ⟨s, hi, B3⟩ => ?_)⟩
    · exact ⟨vs, vs[n]'(by omega), .inl (.inl (hid_ex _ _ (W B3 _ _ hp))), List.getElem?_eq_getElem (by omega)⟩
    · exact ⟨vs, .inl (.inl (hid_ex _ _ (W B3 _ _ hp))), by omega⟩
    · refine ⟨EX c _ S R Δ J (n + 1) (stp s xs[n]), fun σ' H' q => exit_core (List.getElem?_eq_getElem hn) hi.1 q, ?_⟩
      rintro x H' ⟨rfl, hx⟩
      have ex := hx _ (.inl (.inl (hid_ex _ _ (W B3 _ _ hp))))
      obtain ⟨d, hd, q⟩ := hr.get' ex
      rw [List.getElem?_map, List.getElem?_eq_getElem hn] at hd
      cases hd
      exact G B3 (q.mono (W B3)) fun σ4 B4 => body _ u n s xs[n] _ _ (List.getElem_mem hn) hn (fun r hr => by rw [hi.1, loopE_at (List.getElem?_eq_getElem hn), hr]) hi.2 B4
    · refine done s _ _ ?_ hi.2 (B3.debase u)
      rw [hi.1, List.drop_length]; rfl
/-- enumerate over a list, with a pair of names -/
theorem q_exitEN {α : Type} {em : α → PyData} {xs : List α} {k : Nat} (Δ : S → List Ent) (stp : S → Int × α → S ⊕ R) (s0 : S) (J : Nat → S → Prop) (B : Bs c H σ δ) (h : Ev (c.hd f δ) tl σ H (eL em xs)) (w : LeA δ (Δ s0)) (j0 : J 0 s0)
    (body : ∀ (B0 : Hp), Ex c.B B0 → ∀ (n : Nat) (s : S) (x : Int × α) (σ1 : Sta) (H1 : Hp), xs[n]? = some x.2 → x.1 = n → n < xs.length → (∀ r, stp s x = .inr r → loopE stp (enumI xs) s0 = .inr r) → J n s → Bs { c with B := B0 } H1 σ1 (((Δ s).set j (.va true (eI x.1))).set k (.va f (em x.2))) →
      ts { D with nx := EX c B0 S R Δ J (n + 1) (stp s x), ct := EX c B0 S R Δ J (n + 1) (stp s x), bk := tz D } σ1 H1)
    (done : ∀ s σ1 H1, loopE stp (enumI xs) s0 = .inl s → J xs.length s → Bs c H1 σ1 (Δ s) → tz D σ1 H1) : tSeq (tFor (iEnum K (tCons tl tNil)) (gTup K 2 (gCons (gName j) (gCons (gName k) gNil))) ts) tz D σ H := by
  refine h.go fun v H2 e2 hv => ?_
  have B2 := B.mono e2
  cases hv with
  | @lst p vs _ hp hr =>
    have u := B2.under
    have W : ∀ {H3 σ3 s}, Bs { c with B := hid (fun a => Adr δ a) H2 } H3 σ3 (Δ s) → Ex (hid (c.hd f δ) H2) (hid (c.hd f (Δ s)) H3) := fun B3 => B3.pers fun a u q => at_has q
    have hl : vs.length = xs.length := by rw [hr.length, List.length_map]
    refine ⟨p, _, rfl, .inl (.inl (hid_ex _ _ hp)), it_flex (m := xs.length) (NX c _ S Δ (fun n s => loopE stp (enumI xs) s0 = loopE stp ((enumI xs).drop n) s ∧ J n s)) ⟨s0, ⟨by simp, j0⟩, (B2.rebase).le w⟩ (fun n σ3 H3 hn ⟨s, _, B3⟩ => ?_) (fun σ3 H3 ⟨s, _, B3⟩ => ?_) (fun n σ3 H3 hn ⟨s, hi, B3⟩ => ?_) (fun σ3 H3 ⟨s, hi, B3⟩ => ?_)⟩
    · exact ⟨vs, vs[n]'(by omega), .inl (.inl (hid_ex _ _ (W B3 _ _ hp))), List.getElem?_eq_getElem (by omega)⟩
    · exact ⟨vs, .inl (.inl (hid_ex _ _ (W B3 _ _ hp))), by omega⟩
    · have hg : (enumI xs)[n]? = some ((n : Int), xs[n]) := enumI_get (List.getElem?_eq_getElem hn)
      refine ⟨EX c _ S R Δ J (n + 1) (stp s ((n : Int), xs[n])), fun σ' H' q => exit_core hg hi.1 q, ?_⟩
      rintro _ H' ⟨T, x, rfl, hT, rfl, hx⟩
      have ex := hx _ (.inl (.inl (hid_ex _ _ (W B3 _ _ hp))))
      obtain ⟨d, hd, q⟩ := hr.get' ex
      rw [List.getElem?_map, List.getElem?_eq_getElem hn] at hd
      cases hd
      have eT := Evl.Ex.new (o := HO.tup [V.int (n : Int), x]) hT
      refine ⟨T, _, rfl, .inl (.inl (upd_same ..)), rfl, _, _, rfl, _, _, rfl, rfl, ?_⟩
      exact body _ u n s ((n : Int), xs[n]) _ _ (List.getElem?_eq_getElem hn) rfl hn (fun r hr => by rw [hi.1, loopE_at hg, hr]) hi.2 (set_va (f := f) (set_va (f := true) (B3.mono eT) (.int _)) (((q.mono (W B3)).mono (hid_mono eT)).mono hd_va))
    · refine done s _ _ ?_ hi.2 (B3.debase u)
      rw [hi.1, List.drop_eq_nil_of_le (by rw [enumI_len]; exact Nat.le_refl _)]; rfl
theorem loopE_inl {stp : S → α → S} : ∀ (xs : List α) (s : S), loopE (R := R) (fun s x => .inl (stp s x)) xs s = .inl (xs.foldl stp s)
  | [], _ => rfl
  | x :: xs, s => by
    show loopE _ xs (stp s x) = _
    exact loopE_inl xs _
theorem FX_EX {B0 : Hp} {Δ : S → List Ent} {J : Nat → S → Prop} {n : Nat} {s : S} : FX c B0 S Δ J n s = EX c B0 S Unit Δ J n (.inl s) := by
  funext σ H
  apply propext
  constructor
  · rintro ⟨s', rfl, h⟩; exact ⟨_, rfl, h⟩
  · rintro ⟨s', h1, h⟩; cases h1; exact ⟨_, rfl, h⟩
theorem q_foldLG {u : α → List Ent → List Ent} {tg : TG} (G : Tgt tg f em u) (Δ : S → List Ent) (stp : S → α → S) (s0 : S) (J : Nat → S → Prop) (B : Bs c H σ δ) (h : Ev (c.hd f δ) tl σ H (eL em xs)) (w : LeA δ (Δ s0)) (j0 : J 0 s0)
    (body : ∀ (B0 : Hp), Ex c.B B0 → ∀ (n : Nat) (s : S) (x : α) (σ1 : Sta) (H1 : Hp), x ∈ xs → n < xs.length → J n s → Bs { c with B := B0 } H1 σ1 (u x (Δ s)) →
      ts { D with nx := FX c B0 S Δ J (n + 1) (stp s x), ct := FX c B0 S Δ J (n + 1) (stp s x), bk := tz D } σ1 H1)
    (done : ∀ s σ1 H1, s = xs.foldl stp s0 → J xs.length s → Bs c H1 σ1 (Δ s) → tz D σ1 H1) : tSeq (tFor (iList K tl) tg ts) tz D σ H :=
  q_exitLG (R := Unit) G Δ (fun s x => .inl (stp s x)) s0 J B h w j0 (fun B0 e0 n s x σ1 H1 hx hn _ hJ B => by
    have := body B0 e0 n s x σ1 H1 hx hn hJ B
    rw [FX_EX] at this
    exact this) (fun s σ1 H1 hs hJ B => done s σ1 H1 (by rw [loopE_inl] at hs; exact (Sum.inl.inj hs).symm) hJ B)
theorem q_foldTG {u : α → List Ent → List Ent} {tg : TG} (G : Tgt tg f em u) (Δ : S → List Ent) (stp : S → α → S) (s0 : S) (J : Nat → S → Prop) (B : Bs c H σ δ) (h : Ev (c.hd f δ) tl σ H (eTu em xs)) (w : LeA δ (Δ s0)) (j0 : J 0 s0)
    (body : ∀ (B0 : Hp), Ex c.B B0 → ∀ (n : Nat) (s : S) (x : α) (σ1 : Sta) (H1 : Hp), x ∈ xs → n < xs.length → J n s → Bs { c with B := B0 } H1 σ1 (u x (Δ s)) →
      ts { D with nx := FX c B0 S Δ J (n + 1) (stp s x), ct := FX c B0 S Δ J (n + 1) (stp s x), bk := tz D } σ1 H1)
    (done : ∀ s σ1 H1, s = xs.foldl stp s0 → J xs.length s → Bs c H1 σ1 (Δ s) → tz D σ1 H1) : tSeq (tFor (iTup K tl) tg ts) tz D σ H :=
  q_exitTG (R := Unit) G Δ (fun s x => .inl (stp s x)) s0 J B h w j0 (fun B0 e0 n s x σ1 H1 hx hn _ hJ B => by
    have := body B0 e0 n s x σ1 H1 hx hn hJ B
    rw [FX_EX] at this
    exact this) (fun s σ1 H1 hs hJ B => done s σ1 H1 (by rw [loopE_inl] at hs; exact (Sum.inl.inj hs).symm) hJ B)
theorem q_foldEN {α : Type} {em : α → PyData} {xs : List α} {k : Nat} (Δ : S → List Ent) (stp : S → Int × α → S) (s0 : S) (J : Nat → S → Prop) (B : Bs c H σ δ) (h : Ev (c.hd f δ) tl σ H (eL em xs)) (w : LeA δ (Δ s0)) (j0 : J 0 s0)
    (body : ∀ (B0 : Hp), Ex c.B B0 → ∀ (n : Nat) (s : S) (x : Int × α) (σ1 : Sta) (H1 : Hp), xs[n]? = some x.2 → x.1 = n → n < xs.length → J n s → Bs { c with B := B0 } H1 σ1 (((Δ s).set j (.va true (eI x.1))).set k (.va f (em x.2))) →
      ts { D with nx := FX c B0 S Δ J (n + 1) (stp s x), ct := FX c B0 S Δ J (n + 1) (stp s x), bk := tz D } σ1 H1)
    (done : ∀ s σ1 H1, s = (enumI xs).foldl stp s0 → J xs.length s → Bs c H1 σ1 (Δ s) → tz D σ1 H1) : tSeq (tFor (iEnum K (tCons tl tNil)) (gTup K 2 (gCons (gName j) (gCons (gName k) gNil))) ts) tz D σ H :=
  q_exitEN (R := Unit) Δ (fun s x => .inl (stp s x)) s0 J B h w j0 (fun B0 e0 n s x σ1 H1 hx h1 hn _ hJ B => by
    have := body B0 e0 n s x σ1 H1 hx h1 hn hJ B
    rw [FX_EX] at this
    exact this) (fun s σ1 H1 hs hJ B => done s σ1 H1 (by rw [loopE_inl] at hs; exact (Sum.inl.inj hs).symm) hJ B)
/-- a list's, a tuple's truth -/
theorem et_truthL (h : Ev o0 te σ H (eL em xs)) : EvT (fun σ H Q => te σ H fun x H' => ∃ k, TruV K x H' k ∧ Q k H') σ H (!xs.isEmpty) := fun H1 a Q q =>
  h H1 a _ fun v H2 e2 hv => by
    cases hv with
    | @lst p vs _ hp hr =>
      refine ⟨_, .inl ⟨vs, .inl (.inl (hid_ex _ _ hp)), rfl⟩, ?_⟩
      have : vs.isEmpty = xs.isEmpty := by
        have := hr.length
        cases vs <;> cases xs <;> simp_all
      rw [this]; exact q H2 e2
theorem et_truthTu (h : Ev o0 te σ H (eTu em xs)) : EvT (fun σ H Q => te σ H fun x H' => ∃ k, TruV K x H' k ∧ Q k H') σ H (!xs.isEmpty) := fun H1 a Q q =>
  h H1 a _ fun v H2 e2 hv => by
    cases hv with
    | @tup p vs _ hp hr =>
      refine ⟨_, .inr (.inl ⟨vs, .inl (.inl (hid_ex _ _ hp)), rfl⟩), ?_⟩
      have : vs.isEmpty = xs.isEmpty := by
        have := hr.length
        cases vs <;> cases xs <;> simp_all
      rw [this]; exact q H2 e2
theorem q_extT {xs ys : List α} (B : Bs c H σ δ) (hx : δ[i]? = some (.ow f a (xs.map em))) (h : Ev (c.hd f δ) te σ H (eTu em ys)) (hz : xs.length + ys.length ≤ 100000) (k : ∀ H1, Bs c H1 σ (δ.set i (.ow f a ((xs ++ ys).map em))) → tz D σ H1) :
    tSeq (tDrop (tBM K "list" rExtT (tVar i) (tCons te tNil))) tz D σ H := by
  obtain ⟨vs, e, ha, hv⟩ := B.ent i _ hx
  refine ⟨.ref a, e, .inl ⟨rfl, vs, .inl (.inl ha)⟩, h.go fun v H2 e2 hd => ?_⟩
  cases hd with
  | @tup p ws _ hp hr =>
    refine ⟨a, p, vs, ws, rfl, rfl, e2 _ _ ha, hid_ex _ _ hp, by rw [hv.length, hr.length, List.length_map, List.length_map]; exact hz, k _ ?_⟩
    rw [List.map_append]
    exact set_in (B.mono e2) hx ((hv.mono (hid_mono e2)).append hr)
theorem q_extL {xs ys : List α} (B : Bs c H σ δ) (hx : δ[i]? = some (.ow f a (xs.map em))) (h : Ev (c.hd f δ) te σ H (eL em ys)) (hz : xs.length + ys.length ≤ 100000) (k : ∀ H1, Bs c H1 σ (δ.set i (.ow f a ((xs ++ ys).map em))) → tz D σ H1) :
    tSeq (tDrop (tBM K "list" rExtend (tVar i) (tCons te tNil))) tz D σ H := by
  obtain ⟨vs, e, ha, hv⟩ := B.ent i _ hx
  refine ⟨.ref a, e, .inl ⟨rfl, vs, .inl (.inl ha)⟩, h.go fun v H2 e2 hd => ?_⟩
  cases hd with
  | @lst p ws _ hp hr =>
    refine ⟨a, p, vs, ws, rfl, rfl, e2 _ _ ha, hid_ex _ _ hp, by rw [hv.length, hr.length, List.length_map, List.length_map]; have : sizeLine = 16777216 := rfl; omega, k _ ?_⟩
    rw [List.map_append]
    exact set_in (B.mono e2) hx ((hv.mono (hid_mono e2)).append hr)
end
theorem DnA.scs {H H' : Hp} {α : Type} {em : α → PyData} (hs : ∀ x, Sc (em x)) : ∀ {vs : List V} {ys : List α}, DnA H vs (ys.map em) → DnA H' vs (ys.map em)
  | _, [], .nil => .nil
  | _, y :: ys, .cons h r => .cons (Dn.sc (hs y) h) (DnA.scs hs r)
section
variable {K : PySem.W.Frag} {c : Wd} {o : Hd} {H H1 H' : Hp} {σ : Sta} {δ δ' : List Ent} {i j : Nat} {f g b : Bool} {a : Addr} {te : TE} {tz : TS} {D : Ends} {α : Type} {em : α → PyData} {xs ys : List α}
theorem q_extT0 {xs ys : List α} (hs : ∀ x, Sc (em x)) (B : Bs c H σ δ) (hx : δ[i]? = some (.ow f a (xs.map em))) (h : Ev o0 te σ H (eTu em ys)) (hz : xs.length + ys.length ≤ 100000) (k : ∀ H1, Bs c H1 σ (δ.set i (.ow f a ((xs ++ ys).map em))) → tz D σ H1) :
    tSeq (tDrop (tBM K "list" rExtT (tVar i) (tCons te tNil))) tz D σ H := by
  obtain ⟨vs, e, ha, hv⟩ := B.ent i _ hx
  refine ⟨.ref a, e, .inl ⟨rfl, vs, .inl (.inl ha)⟩, h.go fun v H2 e2 hd => ?_⟩
  cases hd with
  | @tup p ws _ hp hr =>
    refine ⟨a, p, vs, ws, rfl, rfl, e2 _ _ ha, hid_ex _ _ hp, by rw [hv.length, hr.length, List.length_map, List.length_map]; exact hz, k _ ?_⟩
    rw [List.map_append]
    exact set_in (B.mono e2) hx ((hv.mono (hid_mono e2)).append (hr.scs hs))
theorem q_extL0 {xs ys : List α} (hs : ∀ x, Sc (em x)) (B : Bs c H σ δ) (hx : δ[i]? = some (.ow f a (xs.map em))) (h : Ev o0 te σ H (eL em ys)) (hz : xs.length + ys.length ≤ 100000) (k : ∀ H1, Bs c H1 σ (δ.set i (.ow f a ((xs ++ ys).map em))) → tz D σ H1) :
    tSeq (tDrop (tBM K "list" rExtend (tVar i) (tCons te tNil))) tz D σ H := by
  obtain ⟨vs, e, ha, hv⟩ := B.ent i _ hx
  refine ⟨.ref a, e, .inl ⟨rfl, vs, .inl (.inl ha)⟩, h.go fun v H2 e2 hd => ?_⟩
  cases hd with
  | @lst p ws _ hp hr =>
    refine ⟨a, p, vs, ws, rfl, rfl, e2 _ _ ha, hid_ex _ _ hp, by rw [hv.length, hr.length, List.length_map, List.length_map]; have : sizeLine = 16777216 := rfl; omega, k _ ?_⟩
    rw [List.map_append]
    exact set_in (B.mono e2) hx ((hv.mono (hid_mono e2)).append (hr.scs hs))
end
theorem whileF_congr {S : Type} {c c' : S → Bool} {f f' : S → S} {I : S → Prop} (hc : ∀ s, I s → c s = c' s) (hf : ∀ s, I s → c s = true → f s = f' s ∧ I (f s)) : ∀ (n : Nat) (s : S), I s → whileF c f n s = whileF c' f' n s
  | 0, s, _ => rfl
  | n + 1, s, h => by
    rw [whileF, whileF, ← hc s h]
    by_cases q : c s = true
    · obtain ⟨h1, h2⟩ := hf s h q
      rw [if_pos q, if_pos q, ← h1]
      exact whileF_congr hc hf n _ h2
    · rw [if_neg q, if_neg q]
theorem whileF_post {S : Type} {c : S → Bool} {f : S → S} {I : S → Prop} {M : S → Nat} (pres : ∀ s, I s → c s = true → I (f s) ∧ M (f s) < M s) : ∀ (n : Nat) (s : S), I s → M s ≤ n → I (whileF c f n s) ∧ c (whileF c f n s) = false
  | 0, s, h, hM => by
    refine ⟨h, ?_⟩
    cases q : c s with
    | false => exact q
    | true => have := (pres s h q).2; omega
  | n + 1, s, h, hM => by
    rw [whileF]
    by_cases q : c s = true
    · rw [if_pos q]
      obtain ⟨h1, h2⟩ := pres s h q
      exact whileF_post pres n _ h1 (by omega)
    · rw [if_neg q]
      exact ⟨h, by simpa using q⟩
end HL
namespace HL
open PySem PySem.Spec PyProof.Rows L2
open PySem.Builtin PyProof
open Evl (Ex)
@[reducible] def eP2 {α β : Type} (e1 : α → PyData) (e2 : β → PyData) (p : α × β) : PyData := .list [e1 p.1, e2 p.2]
@[reducible] def eP3 {α β γ : Type} (e1 : α → PyData) (e2 : β → PyData) (e3 : γ → PyData) (p : α × β × γ) : PyData := .list [e1 p.1, e2 p.2.1, e3 p.2.2]
section
variable {K : PySem.W.Frag} {c : Wd} {o : Hd} {H H1 H' : Hp} {σ : Sta} {δ δ' : List Ent} {i j : Nat} {f g b : Bool} {a p q pp : Addr} {d e : PyData} {ds es : List PyData} {ta tb te tl : TE} {t : TT} {ts tu tw tz : TS} {D : Ends} {α β γ S R : Type} {em : α → PyData} {em2 : β → PyData} {emg : γ → PyData} {xs ys : List α} {n : Nat} {m : Int} {vs ws rs : List V} {u : HO}
section
variable [DecidableEq α] [DecidableEq β] [DecidableEq γ] {gd : α → Prop} {gd2 : β → Prop} {gd3 : γ → Prop} {n1 n2 n3 : Nat}
theorem emP2 (h : Em em gd n1) (h2 : Em em2 gd2 n2) : Em (eP2 em em2) (fun p => gd p.1 ∧ gd2 p.2) (max n1 n2 + 1) := ⟨fun p => by simp [flatD, flatDs, h.flat, h2.flat], fun p g => by simp [PyData.canLay0, PyData.canLayAll0, h.lay _ g.1, h2.lay _ g.2], fun p => by
    have a := h.dep p.1
    have b := h2.dep p.2
    simp [PyData.depth, PyData.depthAll]; omega, fun p q => by
    obtain ⟨p1, p2⟩ := p
    obtain ⟨q1, q2⟩ := q
    simp only [PyData.eqv, PyData.eqvAll, h.eqv, h2.eqv]
    rw [Bool.eq_iff_iff]; simp⟩
theorem emT3 (h : Em em gd n1) (h2 : Em em2 gd2 n2) (h3 : Em emg gd3 n3) : Em (eT3 em em2 emg) (fun p => gd p.1 ∧ gd2 p.2.1 ∧ gd3 p.2.2) (max n1 (max n2 n3) + 1) := ⟨fun p => by simp [flatD, flatDs, h.flat, h2.flat, h3.flat], fun p g => by simp [PyData.canLay0, PyData.canLayAll0, h.lay _ g.1, h2.lay _ g.2.1, h3.lay _ g.2.2], fun p => by
    have a := h.dep p.1
    have b := h2.dep p.2.1
    have c := h3.dep p.2.2
    simp [PyData.depth, PyData.depthAll]; omega, fun p q => by
    obtain ⟨p1, p2, p3⟩ := p
    obtain ⟨q1, q2, q3⟩ := q
    simp only [PyData.eqv, PyData.eqvAll, h.eqv, h2.eqv, h3.eqv]
    rw [Bool.eq_iff_iff]; simp⟩
end
/-- a list of the body's own that no slot holds -/
def PK (c : Wd) (p : Addr) (vs : List V) (ds : List PyData) : Prop := c.N p ∧ c.B p = some (.lst vs) ∧ DnA (hid c.N c.B) vs ds
/-- the list that holds it -/
def PO (c : Wd) (p : Addr) (rs : List V) : Prop := c.N p ∧ c.B p = some (.lst rs)
noncomputable def Wd.put (c : Wd) (p : Addr) (u : HO) : Wd := { c with B := upd c.B p u }
theorem PK.put (hq : c.N q) (ne : p ≠ q) (h : PK c p vs ds) : PK (c.put q u) p vs ds := by
  refine ⟨h.1, by show upd c.B q u p = _; rw [upd_ne ne]; exact h.2.1, ?_⟩
  show DnA (hid c.N (upd c.B q u)) vs ds
  rw [hid_upd_in hq]; exact h.2.2
theorem PK.is (h : PK c p vs ds) (e : ds = es) : PK c p vs es := e ▸ h
theorem PO.put (ne : p ≠ q) (h : PO c p rs) : PO (c.put q u) p rs := ⟨h.1, by show upd c.B q u p = _; rw [upd_ne ne]; exact h.2⟩
theorem Ex.put (ne : c.B p ≠ none → H p = none) (h : Ex H c.B) (hp : H p = none) : Ex H (c.put p u).B := fun b v hb => by
  show upd c.B p u b = _
  rw [upd_ne (ne_of_none hb hp)]; exact h b v hb
theorem PK.dn (B : Bs c H σ δ) (h : PK c p vs ds) : Dn (hid o0 H) (.ref p) (.list ds) := by
  rw [show hid o0 H = H from hid_none]
  exact .lst (B.base _ _ h.2.1) ((h.2.2.mono hid_ex).mono B.base)
theorem ev_raIx (B : Bs c H σ δ) (hs : δ[i]? = some (.rw (.ref pp))) (hO : PO c pp rs) (hk : atI rs m = some (.ref p)) (h : PK c p vs ds) : Ev o0 (tOp (rIxL K) (tVar i) (tC (.int m))) σ H (.list ds) := fun H1 x Q k =>
  ⟨.ref pp, B.ent i _ hs, pp, rs, m, .ref p, rfl, rfl, .inl (.inl (x _ _ (B.base _ _ hO.2))), hk, k _ H1 (Ex.refl H1) (h.dn (B.mono x))⟩
theorem ev_ra2 (B : Bs c H σ δ) (hs : δ[i]? = some (.rw (.ref pp))) (hO : PO c pp [.ref p, .ref q]) (h1 : PK c p vs ds) (h2 : PK c q ws es) : Ev o0 (tVar i) σ H (.list [.list ds, .list es]) := fun H1 x Q k =>
  ⟨.ref pp, B.ent i _ hs, k _ H1 (Ex.refl H1) (by
    have B1 := B.mono x
    have d1 := h1.dn B1
    have d2 := h2.dn B1
    refine .lst (by rw [show hid o0 H1 = H1 from hid_none]; exact B1.base _ _ hO.2) (.cons d1 (.cons d2 .nil)))⟩
theorem Bs.addN {r : Addr} {w : HO} (B : Bs c H σ δ) (e : Ex H H1) (nr : H r = none) (hr : H1 r = some w) : Bs { c with N := fun b => c.N b ∨ b = r } H1 σ δ := by
  have lv : ∀ b, Adr δ b → H b ≠ none := fun b ⟨k, g, es, z⟩ q => by
    obtain ⟨_, _, w, _⟩ := B.ent k _ z
    rw [w] at q; cases q
  have big : ∀ f, Ex (hid (c.hd f δ) H) (hid (({ c with N := fun b => c.N b ∨ b = r } : Wd).hd f δ) H1) := fun f b u z => by
    obtain ⟨z1, z2⟩ := hid_of z
    rw [hid_at]
    · exact e _ _ z2
    · rintro (q | (q | q) | q)
      · exact z1 (.inl q)
      · exact z1 (.inr (.inl q))
      · subst q; rw [nr] at z2; cases z2
      · exact z1 (.inr (.inr q))
  refine ⟨B.base.trans e, B.liO.mono e, fun b z y => ?_, fun b z => ⟨(B.own b z).1, (B.own b z).2.1, fun y => ?_⟩, B.one, B.len, fun x d he => ?_⟩
  · rcases z with z | z
    · exact (B.liN.mono e) b z y
    · subst z; rw [hr] at y; cases y
  · rcases y with y | y
    · exact (B.own b z).2.2 y
    · subst y; exact lv _ z nr
  · have w := B.ent x d he
    cases d with
    | no => trivial
    | va f d => obtain ⟨v, y, w⟩ := w; exact ⟨v, y, w.mono (big f)⟩
    | ow f a ds => obtain ⟨vs, y, w, r⟩ := w; exact ⟨vs, y, e _ _ w, r.mono (big f)⟩
    | rw v => exact w
/-- passed = [list(x), list(y)] -/
theorem q_pass2 (B : Bs c H σ δ) (hj : δ[i]? = some .no) (ha : Ev (c.hd false δ) ta σ H (.list ds)) (hb : ∀ (c' : Wd) (H' : Hp), Bs c' H' σ δ → Ev (c'.hd false δ) tb σ H' (.list es))
    (k : ∀ (p0 p1 pp : Addr) (vs ws : List V) (c' : Wd) (σ1 : Sta) (H1 : Hp), Ex c.B c'.B → H p0 = none → H p1 = none → p0 ≠ p1 → pp ≠ p0 → pp ≠ p1 → PO c' pp [.ref p0, .ref p1] → PK c' p0 vs ds → PK c' p1 ws es → Bs c' H1 σ1 (δ.set i (.rw (.ref pp))) → tz D σ1 H1) :
    tSeq (tAsg (tLst (tCons (tCB (rListOfK K) (tCons ta tNil)) (tCons (tCB (rListOfK K) (tCons tb tNil)) tNil))) (gName i)) tz D σ H := by
  show tCB (rListOfK K) (tCons ta tNil) σ H (fun x H1 => tCB (rListOfK K) (tCons tb tNil) σ H1 fun y H2 => [x, y].length ≤ sizeLine ∧ ∀ p, H2 p = none → tz D (σ.set i (some (.ref p))) (upd H2 p (.lst [x, y])))
  refine (en_listL ha) H (Ex.refl H) _ fun p0 vs H1 n0 e1 hp0 d0 => (en_listL (hb _ H1 (B.addN e1 n0 hp0))) H1 (Ex.refl H1) _ fun p1 ws H2 n1 e2 hp1 d1 => ⟨by show 2 ≤ sizeLine; decide, fun pp npp => ?_⟩
  have e3 : Ex H2 (upd H2 pp (.lst [.ref p0, .ref p1])) := Evl.Ex.new npp
  have e02 := e1.trans e2
  have e03 := e02.trans e3
  have n1' : H p1 = none := Evl.fresh_back e1 n1
  have npp' : H pp = none := Evl.fresh_back e02 npp
  have e01 : p0 ≠ p1 := fun z => by rw [← z, hp0] at n1; cases n1
  have ep0 : pp ≠ p0 := fun z => by rw [z, e2 _ _ hp0] at npp; cases npp
  have ep1 : pp ≠ p1 := fun z => by rw [z, hp1] at npp; cases npp
  have sub : ∀ b, Adr (δ.set i (.rw (.ref pp))) b → Adr δ b := fun b z => by
    rcases adr_set z with z | ⟨_, _, z⟩
    · exact z
    · cases z
  have sub2 : ∀ b, Adr δ b → Adr (δ.set i (.rw (.ref pp))) b := fun b ⟨k, g, es, z⟩ => ⟨k, g, es, by
    rw [List.getElem?_set_ne (fun q => by subst q; rw [hj] at z; cases z)]; exact z⟩
  have lv : ∀ b, Adr δ b → H b ≠ none := fun b ⟨k, g, es, z⟩ q => by
    obtain ⟨_, _, w, _⟩ := B.ent k _ z
    rw [w] at q; cases q
  have big : ∀ f, Ex (hid (c.hd f δ) H) (hid ((⟨hid (fun b => Adr δ b) (upd H2 pp (.lst [.ref p0, .ref p1])), c.O, fun b => c.N b ∨ b = p0 ∨ b = p1 ∨ b = pp⟩ : Wd).hd f (δ.set i (.rw (.ref pp)))) (upd H2 pp (.lst [.ref p0, .ref p1]))) := fun f b u z => by
    obtain ⟨z1, z2⟩ := hid_of z
    rw [hid_at]
    · exact e03 _ _ z2
    · rintro (⟨q1, q2⟩ | q | q)
      · exact z1 (.inl ⟨q1, q2⟩)
      · rcases q with q | q | q | q
        · exact z1 (.inr (.inl q))
        · subst q; rw [n0] at z2; cases z2
        · subst q; rw [n1'] at z2; cases z2
        · subst q; rw [npp'] at z2; cases z2
      · exact z1 (.inr (.inr (sub b q)))
  have hB0 : hid (fun b => Adr δ b) (upd H2 pp (.lst [.ref p0, .ref p1])) p0 = some (.lst vs) := by
    rw [hid_at (fun z => lv _ z n0)]; exact e3 _ _ (e2 _ _ hp0)
  have hB1 : hid (fun b => Adr δ b) (upd H2 pp (.lst [.ref p0, .ref p1])) p1 = some (.lst ws) := by
    rw [hid_at (fun z => lv _ z n1')]; exact e3 _ _ hp1
  have hBp : hid (fun b => Adr δ b) (upd H2 pp (.lst [.ref p0, .ref p1])) pp = some (.lst [.ref p0, .ref p1]) := by
    rw [hid_at (fun z => lv _ z npp')]; exact upd_same
  have el : ∀ {us : List V} {dd : List PyData} {oo : Hd} {Hx : Hp}, Ex Hx (upd H2 pp (.lst [.ref p0, .ref p1])) → (∀ b u, ¬ oo b → Hx b = some u → ¬ c.N b ∧ ¬ Adr δ b ∧ b ≠ p0 ∧ b ≠ p1 ∧ b ≠ pp) → DnA (hid oo Hx) us dd → DnA (hid (fun b => c.N b ∨ b = p0 ∨ b = p1 ∨ b = pp) (hid (fun b => Adr δ b) (upd H2 pp (.lst [.ref p0, .ref p1])))) us dd := fun {us dd oo Hx} ex av h => h.mono fun b u z => by
    obtain ⟨z1, z2⟩ := hid_of z
    obtain ⟨a4, a5, a1, a2, a3⟩ := av b u z1 z2
    rw [hid_at, hid_at]
    · exact ex _ _ z2
    · exact a5
    · rintro (y | y | y | y)
      · exact a4 y
      · exact a1 y
      · exact a2 y
      · exact a3 y
  refine k p0 p1 pp vs ws ⟨hid (fun b => Adr δ b) (upd H2 pp (.lst [.ref p0, .ref p1])), c.O, fun b => c.N b ∨ b = p0 ∨ b = p1 ∨ b = pp⟩ _ _ (fun b u z => ?_) n0 n1' e01 ep0 ep1 ⟨.inr (.inr (.inr rfl)), hBp⟩ ⟨.inr (.inl rfl), hB0, el (e2.trans e3) (fun b u z1 z2 => ⟨fun y => z1 (.inl (.inr (.inl y))), fun y => z1 (.inl (.inr (.inr y))), fun y => z1 (.inr y), fun y => ?_, fun y => ?_⟩) d0⟩ ⟨.inr (.inr (.inl rfl)), hB1, el e3 (fun b u z1 z2 => ⟨fun y => z1 (.inl (.inr (.inl (.inl y)))), fun y => z1 (.inl (.inr (.inr y))), fun y => z1 (.inl (.inr (.inl (.inr y)))), fun y => z1 (.inr y), fun y => ?_⟩) d1⟩ ?_
  · show hid (fun b => Adr δ b) (upd H2 pp (.lst [.ref p0, .ref p1])) b = some u
    rw [hid_at (fun y => by rw [(B.own b y).1] at z; cases z)]
    exact e03 _ _ (B.base _ _ z)
  · subst y; rw [n1] at z2; cases z2
  · subst y; rw [e2 _ _ z2] at npp; cases npp
  · subst y; rw [npp] at z2; cases z2
  · refine ⟨hid_ex, B.liO.mono e03, fun b z y => ?_, fun b z => ⟨hid_in (sub b z), (B.own b (sub b z)).2.1, fun y => ?_⟩, fun x y f1 f2 a ds es q1 q2 => ?_, by rw [List.length_set, List.length_set]; exact B.len, fun x e he => ?_⟩
    · rcases z with z | z | z | z
      · exact (B.liN.mono e03) b z y
      · subst z; rw [e3 _ _ (e2 _ _ hp0)] at y; cases y
      · subst z; rw [e3 _ _ hp1] at y; cases y
      · subst z; rw [upd_same] at y; cases y
    · rcases y with y | y | y | y
      · exact (B.own b (sub b z)).2.2 y
      · subst y; exact lv _ (sub _ z) n0
      · subst y; exact lv _ (sub _ z) n1'
      · subst y; exact lv _ (sub _ z) npp'
    · have w : ∀ {k : Nat} {f' : Bool} {ds : List PyData}, (δ.set i (.rw (.ref pp)))[k]? = some (.ow f' a ds) → δ[k]? = some (.ow f' a ds) := fun {k f' ds} h => by
        by_cases z : i = k
        · subst z
          rw [List.getElem?_set] at h
          simp at h
        · rwa [List.getElem?_set_ne z] at h
      exact B.one _ _ _ _ _ _ _ (w q1) (w q2)
    · by_cases z : i = x
      · subst z
        have hl : i < δ.length := by
          rw [List.getElem?_eq_some_iff] at hj
          exact hj.1
        rw [List.getElem?_set] at he
        simp [hl] at he
        subst he
        show _ = _
        rw [List.getElem?_set]; simp [B.len, hl]
      · rw [List.getElem?_set_ne z] at he
        rw [List.getElem?_set_ne z]
        have w := B.ent x e he
        cases e with
        | no => trivial
        | va f d => obtain ⟨v, y, w⟩ := w; exact ⟨v, y, w.mono (big f)⟩
        | ow f a ds => obtain ⟨vs, y, w, r⟩ := w; exact ⟨vs, y, e03 _ _ w, r.mono (big f)⟩
        | rw v => exact w
theorem Bs.put (B : Bs c H σ δ) (hN : c.N p) : Bs (c.put p u) (upd H p u) σ δ := by
  have lv : ∀ {o : Hd}, Live o H → Live o (upd H p u) := fun {o} l b hb z => by
    by_cases q : b = p
    · subst q; rw [upd_same] at z; cases z
    · rw [upd_ne q] at z; exact l b hb z
  have hh : ∀ f, hid (c.hd f δ) (upd H p u) = hid (c.hd f δ) H := fun f => hid_upd_in (.inr (.inl hN))
  refine ⟨fun b v q => ?_, lv B.liO, lv B.liN, fun b z => ⟨?_, (B.own b z).2⟩, B.one, B.len, fun i e he => ?_⟩
  · have q : upd c.B p u b = some v := q
    by_cases z : b = p
    · subst z; rw [upd_same] at q ⊢; exact q
    · rw [upd_ne z] at q ⊢; exact B.base _ _ q
  · show upd c.B p u b = none
    rw [upd_ne (fun y => (B.own b z).2.2 (by rw [y]; exact hN))]
    exact (B.own b z).1
  · have w := B.ent i e he
    cases e with
    | no => trivial
    | va f d => obtain ⟨v, e, w⟩ := w; exact ⟨v, e, by show Dn (hid (c.hd f δ) (upd H p u)) v d; rw [hh]; exact w⟩
    | ow f b es =>
      obtain ⟨ws, e, w, r⟩ := w
      refine ⟨ws, e, ?_, by show DnA (hid (c.hd f δ) (upd H p u)) ws es; rw [hh]; exact r⟩
      rw [upd_ne (fun z => (B.own b ⟨i, f, es, he⟩).2.2 (by rw [z]; exact hN))]; exact w
    | rw v => exact w
theorem q_raApp (B : Bs c H σ δ) (hs : δ[i]? = some (.rw (.ref pp))) (hO : PO c pp rs) (hk : atI rs m = some (.ref p)) (h : PK c p vs ds) (hx : Ev c.N te σ H d) (hz : ds.length < 100000)
    (k : ∀ v H1, PK (c.put p (.lst (vs ++ [v]))) p (vs ++ [v]) (ds ++ [d]) → Bs (c.put p (.lst (vs ++ [v]))) H1 σ δ → tz D σ H1) (hc : Sc d) :
    tSeq (tDrop (tBM K "list" rAppend (tOp (rIxL K) (tVar i) (tC (.int m))) (tCons te tNil))) tz D σ H := by
  refine ⟨.ref pp, B.ent i _ hs, pp, rs, m, .ref p, rfl, rfl, .inl (.inl (B.base _ _ hO.2)), hk, .inl ⟨rfl, _, .inl (.inl (B.base _ _ h.2.1))⟩, hx.go fun v H2 e2 hd => ⟨p, vs, v, rfl, rfl, e2 _ _ (B.base _ _ h.2.1), Evl.sz_lt (by rw [h.2.2.length]; exact hz), k v _ ⟨h.1, upd_same, ?_⟩ ((B.mono e2).put h.1)⟩⟩
  show DnA (hid c.N (upd c.B p _)) _ _
  rw [hid_upd_in h.1]
  exact h.2.2.append (.one (Dn.sc hc hd))
theorem q_raClr (B : Bs c H σ δ) (hs : δ[i]? = some (.rw (.ref pp))) (hO : PO c pp rs) (hk : atI rs m = some (.ref p)) (h : PK c p vs ds)
    (k : ∀ H1, PK (c.put p (.lst [])) p [] [] → Bs (c.put p (.lst [])) H1 σ δ → tz D σ H1) :
    tSeq (tDrop (tBM0 K "list" rClear (tOp (rIxL K) (tVar i) (tC (.int m))))) tz D σ H := by
  refine ⟨.ref pp, B.ent i _ hs, pp, rs, m, .ref p, rfl, rfl, .inl (.inl (B.base _ _ hO.2)), hk, .inl ⟨rfl, _, .inl (.inl (B.base _ _ h.2.1))⟩, p, vs, rfl, rfl, B.base _ _ h.2.1, k _ ⟨h.1, upd_same, .nil⟩ (B.put h.1)⟩
theorem q_clr (B : Bs c H σ δ) (hx : δ[i]? = some (.ow f a ds)) (k : ∀ H1, Bs c H1 σ (δ.set i (.ow f a [])) → tz D σ H1) :
    tSeq (tDrop (tBM0 K "list" rClear (tVar i))) tz D σ H := by
  obtain ⟨vs, e, ha, hv⟩ := B.ent i _ hx
  exact ⟨.ref a, e, .inl ⟨rfl, vs, .inl (.inl ha)⟩, a, vs, rfl, rfl, ha, k _ (set_in B hx .nil)⟩
/-- data that holds no lists -/
def isLst (H : Hp) : Hd := fun b => ∃ xs, H b = some (.lst xs)
mutual
def noL : PyData → Bool
  | .list _ => false
  | .dict _ => false
  | .tuple ds => noLs ds
  | _ => true
def noLs : List PyData → Bool
  | [] => true
  | d :: ds => noL d && noLs ds
end
mutual
theorem Dn.noL {H : Hp} : ∀ {v : V} {d : PyData}, Dn H v d → HL.noL d = true → Dn (hid (isLst H) H) v d
  | _, _, .non, _ => .non
  | _, _, .bl b, _ => .bl b
  | _, _, .int i, _ => .int i
  | _, _, .str x, _ => .str x
  | _, _, .tup h r, e => .tup (by rw [hid_at (fun ⟨xs, z⟩ => by rw [h] at z; cases z)]; exact h) (DnA.noL r (by simpa [HL.noL] using e))
theorem DnA.noL {H : Hp} : ∀ {vs : List V} {ds : List PyData}, DnA H vs ds → noLs ds = true → DnA (hid (isLst H) H) vs ds
  | _, _, .nil, _ => .nil
  | _, _, .cons h r, e => .cons (Dn.noL h (by simp [noLs] at e; exact e.1)) (DnA.noL r (by simp [noLs] at e; exact e.2))
end
theorem hid_hid {o1 o2 : Hd} : hid o1 (hid o2 H) = hid (fun b => o1 b ∨ o2 b) H := by
  funext b
  by_cases q1 : o1 b
  · rw [hid_in q1, hid_in (Or.inl q1)]
  · rw [hid_at q1]
    by_cases q2 : o2 b
    · rw [hid_in q2, hid_in (Or.inr q2)]
    · rw [hid_at q2, hid_at (fun z => z.elim q1 q2)]
theorem q_asgMN {Rl : List PyData → List PyData → PyData → List PyData → Prop} {E : XK} {ds' : List PyData} (B : Bs c H σ δ) (hx : δ[j]? = some (.ow f a ds)) (hne : i ≠ j) (hR : Rl ds [] (.list es) ds') (hn : noLs ds = true) (hn' : noLs ds' = true) (hn2 : noLs es = true)
    (k : ∀ p σ1 H1, Bs c H1 σ1 ((δ.set i (.ow f p es)).set j (.ow f a ds')) → tz D σ1 H1) :
    tSeq (tAsg (tCall (SpM Rl) [] E (tCons (tVar j) tNil)) (gName i)) tz D σ H := by
  obtain ⟨vs, e1, ha, hv⟩ := B.ent j _ hx
  have lo : Live (fun b => c.hd f δ b ∨ isLst H b) H := fun b z y => by
    rcases z with z | ⟨xs, z⟩
    · exact B.live f b z y
    · rw [z] at y; cases y
  have hv' : DnA (hid (fun b => c.hd f δ b ∨ isLst H b) H) vs ds := by
    have q := hv.noL hn
    rw [hid_hid] at q
    refine q.mono (hid_sub fun b z => ?_)
    rcases z with z | ⟨xs, z⟩
    · exact .inr z
    · by_cases y : c.hd f δ b
      · exact .inr y
      · exact .inl ⟨xs, by rw [hid_at y]; exact z⟩
  refine ⟨.ref a, e1, a, vs, [], _, ds, [], _, ds', rfl, lo, .inr ⟨_, ha⟩, ha, hv', .nil, hR, fun v xs' H' hk hp hxs hvd => ?_⟩
  cases hvd with
  | @lst p ws _ hpp hr =>
  obtain ⟨np0, hp'⟩ := hid_of hpp
  have pa : p ≠ a := fun z => np0 (.inr ⟨vs, by rw [z]; exact ha⟩)
  have np : H p = none := by
    cases q : H p with
    | none => rfl
    | some u =>
      have := hk p u pa q
      rw [hp'] at this
      cases this
      exact absurd (.inr ⟨_, q⟩) np0
  have ex : Ex H (upd H' a (.lst vs)) := fun b u q => by
    by_cases z : b = a
    · subst z; rw [upd_same]; rw [ha] at q; exact q
    · rw [upd_ne z]; exact hk b u z q
  have keep : ∀ {us : List V} {dd : List PyData}, noLs dd = true → DnA (hid (fun b => c.hd f δ b ∨ isLst H b) H') us dd → DnA (hid (fun b => c.hd f δ b ∨ b = p) (upd H' a (.lst vs))) us dd := fun {us dd} n h => by
    have q := h.noL n
    rw [hid_hid] at q
    refine q.mono fun b u z => ?_
    obtain ⟨z1, z2⟩ := hid_of z
    have ba : b ≠ a := fun y => z1 (.inr (.inr ⟨vs, by rw [y]; exact ha⟩))
    rw [hid_at, upd_ne ba]
    · exact z2
    · rintro (y | y)
      · exact z1 (.inr (.inl y))
      · exact z1 (.inl ⟨ws, by rw [y]; exact hpp⟩)
  have B1 := set_ow (i := i) (f := f) B ex np (by rw [upd_ne pa]; exact hp') (keep hn2 hr)
  have B2 := set_in (i := j) (f := f) (a := a) (ds := ds) (ds' := ds') (vs' := xs') B1 (by rw [List.getElem?_set_ne hne]; exact hx) ((keep hn' hxs).mono (hid_sub fun b z => by
    rcases z with z | z | z
    · exact .inl (.inl z)
    · exact .inl (.inr (.inl z))
    · rcases adr_set z with z | ⟨_, _, z⟩
      · exact .inl (.inr (.inr z))
      · injection z with z1 z2 z3; exact .inr z2.symm))
  have eH : upd (upd H' a (.lst vs)) a (.lst xs') = H' := by
    funext b
    by_cases z : b = a
    · subst z; rw [upd_same, hp]
    · rw [upd_ne z, upd_ne z]
  rw [eH] at B2
  exact k p _ _ B2
theorem ev_callMN {Rl : List PyData → List PyData → PyData → List PyData → Prop} {E : XK} {ds' : List PyData} (h : EvN o0 te σ H ds) (hR : Rl ds [] d ds') : Ev o0 (tCall (SpM Rl) [] E (tCons te tNil)) σ H d := fun H1 x Q k =>
  h H1 x _ fun p vs H2 np e2 hp hv => ⟨p, vs, [], fun b => b = p, ds, [], d, ds', rfl, (by intro b z y; cases z; rw [hp] at y; cases y), rfl, hp, hv.mono (hid_sub fun b z => .inr z), .nil, hR, fun v xs' H' hk _ _ hd => k v H' (fun b u z => hk b u (ne_of_none z np) (e2 _ _ z)) (hd.mono (hid_sub fun _ z => z.elim))⟩
class NL {α : Type} (em : α → PyData) : Prop where
  nl : ∀ x, HL.noL (em x) = true
theorem noLs_map [h : NL em] : ∀ xs : List α, noLs (xs.map em) = true
  | [] => rfl
  | x :: xs => by rw [List.map_cons, noLs, h.nl, noLs_map xs]; rfl
instance : NL eI := ⟨fun _ => rfl⟩
instance : NL eS := ⟨fun _ => rfl⟩
instance : NL eB := ⟨fun _ => rfl⟩
instance [NL em] : NL (eTu em) := ⟨fun xs => noLs_map xs⟩
instance [h : NL em] [h2 : NL em2] : NL (eT2 em em2) := ⟨fun x => by simp [HL.noL, noLs, h.nl, h2.nl]⟩
instance [h : NL em] [h2 : NL em2] [h3 : NL emg] : NL (eT3 em em2 emg) := ⟨fun x => by simp [HL.noL, noLs, h.nl, h2.nl, h3.nl]⟩
theorem exPut {He : Hp} (h : Ex He c.B) (hp : He p = none) : Ex He (c.put p u).B := fun b v hb => by
  show upd c.B p u b = _
  rw [upd_ne (ne_of_none hb hp)]; exact h b v hb
theorem none_back {He : Hp} (h : Ex He c.B) (B : Bs c H σ δ) (hp : H p = none) : He p = none := by
  cases q : He p with
  | none => rfl
  | some w => rw [B.base _ _ (h _ _ q)] at hp; cases hp
theorem q_exitOG {u : α → List Ent → List Ent} {tg : TG} (G : Tgt tg f em u) (Δ : S → List Ent) (stp : S → α → S ⊕ R) (s0 : S) (J : Nat → S → Prop) (B : Bs c H σ δ) (hk : ∀ s, (Δ s)[i]? = some (.ow f a (xs.map em))) (w : LeA δ (Δ s0)) (j0 : J 0 s0)
    (body : ∀ (B0 : Hp), Ex c.B B0 → ∀ (n : Nat) (s : S) (x : α) (σ1 : Sta) (H1 : Hp), x ∈ xs → n < xs.length → (∀ r, stp s x = .inr r → loopE stp xs s0 = .inr r) → J n s → Bs { c with B := B0 } H1 σ1 (u x (Δ s)) →
      ts { D with nx := EX c B0 S R Δ J (n + 1) (stp s x), ct := EX c B0 S R Δ J (n + 1) (stp s x), bk := tz D } σ1 H1)
    (done : ∀ s σ1 H1, loopE stp xs s0 = .inl s → J xs.length s → Bs c H1 σ1 (Δ s) → tz D σ1 H1) : tSeq (tFor (iList K (tVar i)) tg ts) tz D σ H := by
  obtain ⟨vs, e, hp, hr⟩ := (B.le w).ent i _ (hk s0)
  have u := B.under
  refine ⟨.ref a, e, a, rfl, ⟨vs, .inl (.inl hp)⟩, it_flex (m := xs.length) (NX c (hid (fun a => Adr δ a) H) S Δ (fun n s => loopE stp xs s0 = loopE stp (xs.drop n) s ∧ J n s)) ⟨s0, ⟨by simp, j0⟩, B.rebase.le w⟩ (fun n σ3 H3 hn ⟨s, _, B3⟩ => ?_) (fun σ3 H3 ⟨s, _, B3⟩ => ?_) (fun n σ3 H3 hn ⟨s, hi, B3⟩ => ?_) (fun σ3 H3 ⟨s, hi, B3⟩ => ?_)⟩
  · obtain ⟨vs3, e3, hp3, hr3⟩ := B3.ent i _ (hk s)
    have hl : vs3.length = xs.length := by rw [hr3.length, List.length_map]
    exact ⟨vs3, vs3[n]'(by omega), .inl (.inl hp3), List.getElem?_eq_getElem (by omega)⟩
  · obtain ⟨vs3, e3, hp3, hr3⟩ := B3.ent i _ (hk s)
    have hl : vs3.length = xs.length := by rw [hr3.length, List.length_map]
    exact ⟨vs3, .inl (.inl hp3), by omega⟩
  · obtain ⟨vs3, e3, hp3, hr3⟩ := B3.ent i _ (hk s)
    refine ⟨EX c _ S R Δ J (n + 1) (stp s xs[n]), fun σ' H' q => exit_core (List.getElem?_eq_getElem hn) hi.1 q, ?_⟩
    rintro x H' ⟨rfl, hx⟩
    have ex := hx _ (.inl (.inl hp3))
    obtain ⟨d, hd, q⟩ := hr3.get' ex
    rw [List.getElem?_map, List.getElem?_eq_getElem hn] at hd
    cases hd
    exact G B3 q fun σ4 B4 => body _ u n s xs[n] _ _ (List.getElem_mem hn) hn (fun r hr => by rw [hi.1, loopE_at (List.getElem?_eq_getElem hn), hr]) hi.2 B4
  · refine done s _ _ ?_ hi.2 (B3.debase u)
    rw [hi.1, List.drop_length]; rfl
theorem q_foldOG {u : α → List Ent → List Ent} {tg : TG} (G : Tgt tg f em u) (Δ : S → List Ent) (stp : S → α → S) (s0 : S) (J : Nat → S → Prop) (B : Bs c H σ δ) (hk : ∀ s, (Δ s)[i]? = some (.ow f a (xs.map em))) (w : LeA δ (Δ s0)) (j0 : J 0 s0)
    (body : ∀ (B0 : Hp), Ex c.B B0 → ∀ (n : Nat) (s : S) (x : α) (σ1 : Sta) (H1 : Hp), x ∈ xs → n < xs.length → J n s → Bs { c with B := B0 } H1 σ1 (u x (Δ s)) →
      ts { D with nx := FX c B0 S Δ J (n + 1) (stp s x), ct := FX c B0 S Δ J (n + 1) (stp s x), bk := tz D } σ1 H1)
    (done : ∀ s σ1 H1, s = xs.foldl stp s0 → J xs.length s → Bs c H1 σ1 (Δ s) → tz D σ1 H1) : tSeq (tFor (iList K (tVar i)) tg ts) tz D σ H :=
  q_exitOG (R := Unit) G Δ (fun s x => .inl (stp s x)) s0 J B hk w j0 (fun B0 e0 n s x σ1 H1 hx hn _ hJ B => by
    have := body B0 e0 n s x σ1 H1 hx hn hJ B
    rw [FX_EX] at this
    exact this) (fun s σ1 H1 hs hJ B => done s σ1 H1 (by rw [loopE_inl] at hs; exact (Sum.inl.inj hs).symm) hJ B)
end
end HL
namespace HL
open PySem PySem.Spec PyProof.Rows L2
open Evl (Ex)
section
variable {K : PySem.W.Frag} {c : Wd} {o : Hd} {H H1 H' : Hp} {σ : Sta} {δ δ' δ'' : List Ent} {i j : Nat} {f g : Bool} {a : Addr} {d e : PyData} {ds ds' es : List PyData} {ta tb te tl : TE} {tlo thi : TO} {t : TT} {ts tz : TS} {D : Ends} {α : Type} {em : α → PyData} {xs ys : List α}
/-! tuples: sums and slices -/
theorem ev_catT (l : Live o H) (ha : Ev o ta σ H (.tuple ds)) (hb : Ev o tb σ H (.tuple es)) (hz : ds.length + es.length ≤ 100000) : Ev o (tOp (rCatA K) ta tb) σ H (.tuple (ds ++ es)) := fun H1 x Q q =>
  ha H1 x _ fun v H2 e2 hv => hb H2 (x.trans e2) _ fun w H3 e3 hw => by
    cases hv with
    | tup h r =>
      cases hw with
      | tup h' r' =>
        have r3 := r.mono (hid_mono e3)
        have h3 := hid_mono (o := o) e3 _ _ h
        refine ⟨_, _, _, _, rfl, rfl, .inl (.inl (hid_ex _ _ h3)), .inl (.inl (hid_ex _ _ h')), Evl.sz_of (by rw [r.length, r'.length]; exact hz), fun z => ?_, fun _ z => ?_, fun _ _ p np => ?_⟩
        · subst z
          cases r3
          exact q _ H3 (e2.trans e3) (.tup h' r')
        · subst z
          cases r'
          rw [List.append_nil] at q
          exact q _ H3 (e2.trans e3) (.tup h3 r3)
        · exact q _ _ ((e2.trans e3).trans (Evl.Ex.new np)) (.tup (at_new (((l.mono x).mono e2).mono e3) np) ((r3.append r').mono (hid_upd_new np)))
theorem ev_slT {lo hi : Option Int} (l : Live o H) (h : Ev o te σ H (.tuple ds)) (h1 : EvO tlo σ H lo) (h2 : EvO thi σ H hi) : Ev o (tSl (rSlA K) te tlo thi) σ H (.tuple (cutG ds lo hi)) := fun H1 x Q q =>
  h H1 x _ fun v H2 e2 hv => h1 H2 (x.trans e2) _ fun H3 e3 => h2 H3 ((x.trans e2).trans e3) _ fun H4 e4 => by
    cases hv with
    | tup h r =>
      have e34 := e3.trans e4
      have r4 := r.mono (hid_mono e34)
      have h4 := hid_mono (o := o) e34 _ _ h
      refine ⟨_, _, rfl, .inl (.inl (hid_ex _ _ h4)), fun z => ?_, fun _ p np => ?_⟩
      · have e : cutG ds lo hi = ds := by
          unfold cutG
          rw [← r.length, z.1, z.2]
          simp [r.length]
        rw [e] at q
        exact q _ H4 (e2.trans e34) (.tup h4 r4)
      · exact q _ _ ((e2.trans e34).trans (Evl.Ex.new np)) (.tup (at_new (((l.mono x).mono e2).mono e34) np) ((r4.cut lo hi).mono (hid_upd_new np)))
theorem ev_catTu (l : Live o H) (ha : Ev o ta σ H (eTu em xs)) (hb : Ev o tb σ H (eTu em ys)) (hz : xs.length + ys.length ≤ 100000) : Ev o (tOp (rCatA K) ta tb) σ H (eTu em (xs ++ ys)) :=
  (ev_catT l ha hb (by rw [List.length_map, List.length_map]; exact hz)).is (by rw [← List.map_append])
theorem ev_slTu {lo hi : Option Int} (l : Live o H) (h : Ev o te σ H (eTu em xs)) (h1 : EvO tlo σ H lo) (h2 : EvO thi σ H hi) : Ev o (tSl (rSlA K) te tlo thi) σ H (eTu em (cutG xs lo hi)) :=
  (ev_slT l h h1 h2).is (by rw [cutG_map])
/-! readings that change lists: on the right of a sign, in a range -/
theorem em_I0r {p : Int → Int → Int} {x y : Int} (ha : Ev o0 ta σ H (.int x)) (h : ∀ H2, Ex H H2 → EvM c tb σ H2 δ (.int y) δ') : EvM c (tOp (rI0 fun i j => .int (p i j)) ta tb) σ H δ (.int (p x y)) δ' := fun Q q =>
  ha.go fun v H2 e2 hv => h H2 e2 _ fun w H3 B3 k3 hw => by cases hv; cases hw; exact ⟨x, y, rfl, rfl, q _ H3 B3 (fun a u na hh => k3 a u na (e2 _ _ hh)) (.int _)⟩
theorem em_ICr {C : Int → Int → Prop} {p : Int → Int → Int} {x y : Int} (ha : Ev o0 ta σ H (.int x)) (h : ∀ H2, Ex H H2 → EvM c tb σ H2 δ (.int y) δ') (hc : C x y) : EvM c (tOp (rI C fun i j => .int (p i j)) ta tb) σ H δ (.int (p x y)) δ' := fun Q q =>
  ha.go fun v H2 e2 hv => h H2 e2 _ fun w H3 B3 k3 hw => by cases hv; cases hw; exact ⟨x, y, rfl, rfl, hc, q _ H3 B3 (fun a u na hh => k3 a u na (e2 _ _ hh)) (.int _)⟩
theorem q_rng1M {m : Int} {tg : TG} (h : EvM c te σ H δ (.int m) δ') (k : ∀ H1, Bs c H1 σ δ' → tSeq (tFor (iRng1 (tCons (tC (.int m)) tNil)) tg ts) tz D σ H1) : tSeq (tFor (iRng1 (tCons te tNil)) tg ts) tz D σ H :=
  h _ fun v H2 B2 _ hv => by cases hv; exact k H2 B2
theorem oSome {α : Type} {em : α → PyData} {x : Option α} {d : α} (h : (!Option.isNone x) = true) : eO em x = em (x.getD d) := by
  cases x with
  | none => simp at h
  | some y => rfl
theorem oSome2 {α : Type} {em : α → PyData} {x : Option α} {d : α} (h : Option.isNone x = false) : eO em x = em (x.getD d) := by
  cases x with
  | none => simp at h
  | some y => rfl
end
end HL
namespace HL
open PySem PySem.Spec PyProof.Rows L2
open Evl (Ex)
/-! defs that change the list that they are passed first, beside lists that they read -/
def SpM2 (R : List PyData → List PyData → PyData → List PyData → Prop) : Sp := fun vs H Q _ => ∃ (a : Addr) (xs vr : List V) (o : Hd) (ds rs : List PyData) (d : PyData) (ds' : List PyData), vs = .ref a :: vr ∧ Live o H ∧ o a ∧ H a = some (.lst xs) ∧ DnA (hid o H) xs ds ∧ DnA (hid o H) vr rs ∧ R ds rs d ds' ∧
  ∀ v xs' H', (∀ b u, b ≠ a → H b = some u → H' b = some u) → H' a = some (.lst xs') → DnA (hid o H') xs' ds' → Dn (hid o H') v d → Q v H'
section
variable {K : PySem.W.Frag} {c : Wd} {o : Hd} {H H1 H' : Hp} {σ : Sta} {δ δ' δ'' : List Ent} {i j : Nat} {f g : Bool} {a : Addr} {d e : PyData} {ds ds' es : List PyData} {ta tb te tl : TE} {t : TT} {ts : TS} {D : Ends}
theorem em_call2 {R : List PyData → List PyData → PyData → List PyData → Prop} {E : XK} {tr : TA} (B : Bs c H σ δ) (hx : δ[i]? = some (.ow true a ds)) (h : EvA (c.hd true δ) tr σ H es) (hr : R ds es d ds') :
    EvM c (tCall (SpM2 R) [] E (tCons (tVar i) tr)) σ H δ d (δ.set i (.ow true a ds')) := fun Q q => by
  obtain ⟨vs, e1, ha, hv⟩ := B.ent i _ hx
  refine ⟨.ref a, e1, h H (Ex.refl H) _ fun ws H2 e2 hw => ?_⟩
  have B2 := B.mono e2
  refine ⟨a, vs, ws, c.hd true δ, ds, es, d, ds', by rw [List.append_nil], B2.live true, .inr (.inr ⟨i, true, ds, hx⟩), e2 _ _ ha, hv.mono (hid_mono e2), hw, hr, fun v xs' H' hk hp hxs hvd => ?_⟩
  have ex : Ex H2 (upd H' a (.lst vs)) := fun b u qq => by
    by_cases z : b = a
    · subst z; rw [upd_same]; rw [e2 _ _ ha] at qq; exact qq
    · rw [upd_ne z]; exact hk b u z qq
  have ia : ∀ g, c.hd g δ a := fun g => .inr (.inr ⟨i, true, ds, hx⟩)
  have B3 := B2.mono ex
  have B4 := set_in (vs' := xs') (ds' := ds') B3 hx (by rw [hid_upd_in (ia true)]; exact hxs)
  have eH : upd (upd H' a (.lst vs)) a (.lst xs') = H' := by
    funext b
    by_cases z : b = a
    · subst z; rw [upd_same, hp]
    · rw [upd_ne z, upd_ne z]
  rw [eH] at B4
  have hl : i < δ.length := by rw [List.getElem?_eq_some_iff] at hx; exact hx.1
  refine q v H' B4 (fun b u nb hb => hk b u (fun z => nb ⟨i, true, ds, by rw [z] ; exact hx⟩) (e2 _ _ hb)) (hvd.mono (hid_sub (hd_sub fun b z => ?_)))
  rcases adr_set z with z | ⟨_, _, z⟩
  · exact z
  · injection z with _ z _; subst z; exact ⟨i, true, ds, hx⟩
theorem bs_M2 {N : List Str} {vr : List V} {xs : List V} {ds rs : List PyData} {H : Hp} {o : Hd} {a : Addr} (l : Live o H) (oa : o a) (ha : H a = some (.lst xs)) (hx : DnA (hid o H) xs ds) (hr : DnA (hid o H) vr rs) (hN : vr.length + 1 ≤ N.length) :
    Bs ⟨hid (fun b => b = a) H, fun b => o b ∧ b ≠ a, o0⟩ H (L2.start N (.ref a :: vr)) (.ow true a ds :: args true (N.length - 1) rs) := by
  have hrl := hr.length
  have na : ∀ {k : Nat} {f : Bool} {b : Addr} {es : List PyData}, (args true (N.length - 1) rs)[k]? ≠ some (.ow f b es) := fun {k f b es} z => by
    have he := List.mem_of_getElem? z
    unfold args at he
    rcases List.mem_append.mp he with he | he
    · obtain ⟨d, _, q⟩ := List.mem_map.mp he; cases q
    · have := (List.mem_replicate.mp he).2; cases this
  have adr : ∀ b, Adr (.ow true a ds :: args true (N.length - 1) rs) b → b = a := fun b ⟨k, f, es, z⟩ => by
    cases k with
    | zero => simp at z; exact z.2.1.symm
    | succ k => exact absurd (by simpa using z) na
  have hdo : ∀ b, (⟨hid (fun b => b = a) H, fun b => o b ∧ b ≠ a, o0⟩ : Wd).hd true (.ow true a ds :: args true (N.length - 1) rs) b → o b := fun b z => by
    rcases z with z | z | z
    · exact z.2.1
    · exact z.elim
    · rw [adr b z]; exact oa
  refine ⟨hid_ex, fun b z => l b z.1, live0, fun b z => ?_, fun i j f1 g b d1 es h1 h2 => ?_, ?_, fun i e he => ?_⟩
  · rw [adr b z]; exact ⟨hid_in rfl, fun z => z.2 rfl, id⟩
  · cases i with
    | zero => cases j with
      | zero => rfl
      | succ j => exact absurd (by simpa using h2) na
    | succ i => exact absurd (by simpa using h1) na
  · rw [start_len (by simpa using hN)]; unfold args; simp; omega
  · cases i with
    | zero =>
      simp at he; subst he
      refine ⟨xs, ?_, ha, hx.mono (hid_sub hdo)⟩
      rw [start_get (by simp) (by simpa using hN)]; rfl
    | succ i =>
      simp only [List.getElem?_cons_succ] at he
      unfold args at he
      by_cases hi : i < rs.length
      · rw [List.getElem?_append_left (by simpa using hi), List.getElem?_map] at he
        obtain ⟨d, hd, q⟩ := Option.map_eq_some_iff.mp he
        subst q
        obtain ⟨v, hv, q⟩ := hr.get hd
        refine ⟨v, ?_, q.mono (hid_sub hdo)⟩
        rw [start_get (by simp; omega) (by simpa using hN)]
        rw [List.getElem?_eq_some_iff] at hv
        simp [hv.2]
      · rw [List.getElem?_append_right (by simp; omega)] at he
        have := (List.mem_replicate.mp (List.mem_of_getElem? he)).2
        subst this
        trivial
theorem ev_powC {i j n : Int} (ha : Ev o0 ta σ H (.int i)) (hb : Ev o0 tb σ H (.int j)) (hc : CPow i j) (e : i ^ j.toNat = n) : Ev o (tOp (rI CPow fun i j => .int (i ^ j.toNat)) ta tb) σ H (.int n) := (ev_IC (g := fun i j => i ^ j.toNat) ha hb hc).is (by rw [e])
end
end HL
namespace HL
open PySem PySem.Spec PyProof.Rows L2
open Evl (Ex)
/-! errors that know that nothing was handled when they were raised; defs that are called where an error is handled -/
theorem takes0N {X : Cx} : L2N.Takes X (fun _ _ _ _ => False) := fun _ _ x => by
  obtain ⟨_, _, _, _, _, _, _, _, _, _, _, _, _, _, _, _, z⟩ := x
  exact z.elim
section
variable {P : Program} {w : World} {K : PySem.W.Frag} {mg : Str → Option Value} {base : Heap}
theorem FunokN {x qual : Str} {st : Stmt} {f : Addr} {fd : FuncData} {N ps : List Str} {k : Nat} {sp : Sp} (F : Fun K x qual st f fd) (S : FnScope N ps (defScope st)) (len : ∀ vs H Q E, sp vs H Q E → vs.length = ps.length)
    (body : ∀ (cdv : Value) (A : Around) (outer : List Env) (s : Shared) (H : Hp) (vs : List V) (Q : VK) (E : XK), Room k (A.deeper (envOfC qual (defScope st) s.heap.objs.size f cdv)) → sp vs H Q E →
      ∃ t, PSs (cxOf (L2N.CX P w) P w K mg base N qual (defScope st) f cdv A outer s H E) (defBody st) t ∧ t { nx := fun _ H' => Q .non H', rt := Q } (start N vs) H) : FnOk P w K mg base (L2N.CX P w) (k + 1) f fd ps sp := by
  obtain ⟨oc, od, kV, doc, pm, an, cdv, ct, osl, rfl, l, c⟩ := F.ex
  exact fn_of l c S len fun A outer s H vs Q E r q => body cdv A outer s H vs Q E r q
theorem FunokH {x qual : Str} {st : Stmt} {f : Addr} {fd : FuncData} {N ps : List Str} {k : Nat} {sp : Sp} (F : Fun K x qual st f fd) (S : FnScope N ps (defScope st)) (len : ∀ vs H Q E, sp vs H Q E → vs.length = ps.length)
    (body : ∀ (cdv : Value) (A : Around) (outer : List Env) (s : Shared) (H : Hp) (vs : List V) (Q : VK) (E : XK) (p : Addr × Obj), L2H.Hot1 A p → L2H.RoomH k (A.deeper (envOfC qual (defScope st) s.heap.objs.size f cdv)) → sp vs H Q E →
      ∃ t, PSs (L2H.cxH CX0 P w K mg base N qual (defScope st) f cdv A outer s H E p) (defBody st) t ∧ t { nx := fun _ H' => Q .non H', rt := Q } (start N vs) H) : L2H.FnH P w K mg base CX0 (k + 1) f fd ps sp := by
  obtain ⟨oc, od, kV, doc, pm, an, cdv, ct, osl, rfl, l, c⟩ := F.ex
  exact L2H.fn_ofH l c S len fun A outer s H vs Q E p z r q => body cdv A outer s H vs Q E p z r q
theorem rmH {k : Nat} {A : Around} {h : Option Value} (r : Room k A) : L2H.RoomH k (A.mark h) := ⟨r.dp, r.un⟩
theorem hotS {X : Cx} {a : Addr} {oe : Obj} {pn : List (Addr × Obj)} {cls : Value} {d : Option Addr} (hz : L2N.Zn cls d oe) (hf : ∃ vs, oe.data = .fields vs) : L2H.HotC (X.suite a ((a, oe) :: pn)) := by
  obtain ⟨vs, e⟩ := hf
  exact ⟨(a, oe), ⟨rfl, vs, e, hz.2.2 vs e⟩, List.mem_cons_self⟩
theorem passA0 {X : Cx} (σ : Sta) : PassesAt CX0 X σ E0 := fun _ _ _ _ _ _ h => h.elim
theorem ev_callFS {o : Hd} {σ : Sta} {H : Hp} {ds : List PyData} {d : PyData} {R : List PyData → PyData → Prop} {E : L2.St → XK} {tr : TA} (l : Live o H) (h : EvA o0 tr σ H ds) (hr : R ds d) : Ev o (L2.tCallS (SpF R) E tr) σ H d := fun H1 x Q q =>
  h H1 x _ fun vs H2 e2 hv => ⟨ds, d, hv.up, hr, fun v H3 e3 hd => q v H3 (e2.trans e3) (hd.mono (hid_sub ((l.mono x).mono e2)))⟩
end
end HL
namespace HL
open PySem PySem.Spec PyProof PyProof.Rows L2
/-! isinstance of a caught error that holds fields -/
theorem kin_classD {prog : Program} {w : World} {A : Around} {E : Value → Shared → Prop} {s : Shared} {K : W.Frag} {x D : Addr} {ox od : Obj} {Q : Option Value → Shared → Prop}
    (hga : W.findIn K (.ref D) "__getattribute__" = some (some (.builtin "BaseException.__getattribute__"))) (hgt : W.findIn K (.ref D) "__getattr__" = some none) (hsub : W.subIn K (.ref D) (.type "BaseException") = some true) (hdct : W.hasDictIn K D = true)
    (ha : W.findIn K (.ref D) "__class__" = some (some (.builtin "object.__class__"))) (hn : W.specialIn K (.builtin "object.__class__") "__get__" = some (some (.builtin "getset_descriptor.__get__"))) (htk : W.takesIn K (.builtin "object.__class__") = some true) (hm : W.mroIn K D (.type "object") = some true)
    (X : K.In s.heap) (I : W.InstAt s.heap x ox D (some od)) (h : Q (some (.ref D)) { s with toks := s.toks + 1 }) :
    wpAny (model prog w) A (getAttr? (.ref x) "__class__") Q E s := by
  have hcl : (W.clsIn K D).isSome = true := by
    obtain ⟨cd, hc, _⟩ := W.any_some hdct
    rw [hc] <;> rfl
  have hf := W.findObj_data (od := od) hcl ha hn htk
  obtain ⟨hp, g, d, t, os⟩ := s
  have L0 := I.type (M := model prog w)
  have L1 := W.looks_findIn (M := model prog w) X hga
  have L2 := W.looks_findIn (M := model prog w) X hgt
  have L3 := W.looks_find (M := model prog w) X I hf
  have sub : W.Looks (model prog w) hp (isInstance (.ref x) (.type "BaseException")) true := W.Looks.andThen L0 (W.looks_subIn X hsub)
  refine wpAny_bind (wpAny_mkText (wpAny_bind (wpAny_attempt (wpAny_holding (wpAny_bind (L0.at (wpAny_bind (L1.at ?_))))))))
  show wpAny _ _ (if _ then _ else _) _ _ _
  rw [if_neg (by first | decide | (intro z; revert z; first | decide | (simp; done) | exact fun z => nomatch z))]
  refine wpAny_bind ?_
  show wpAny _ _ (if _ then _ else _) _ _ _
  rw [if_pos (by first | rfl | decide)]
  refine L2.at (wpAny_bind (wpAny_attempt (wpAny_holding ?_)))
  show wpAny _ _ (if _ then _ else _) _ _ _
  rw [if_neg (by first | decide | (intro z; revert z; first | decide | (simp; done) | exact fun z => nomatch z))]
  refine wpAny_bind (wpAny_of_eq (F.excAttr_ValueError.ga.bind (Value.ref x)) ?_)
  show wpAny _ _ (call (.builtin "BaseException.__getattribute__") [.ref x, .str (Str.ofString "__class__") t]) _ _ _
  refine wpAny_call ?_
  refine codeAny_call_builtin F.excAttr_ValueError.ga.plain F.entry_bexc_ga ?_
  have c1 : builtinKind "BaseException.__getattribute__" = some Manifest.AttrKind.slot := by decide +kernel
  have c2 : splitId "BaseException.__getattribute__" = some ("BaseException", "__getattribute__") := by decide +kernel
  have c3 := F.args_bexc_ga (Value.ref x) (Value.str (Str.ofString "__class__") t)
  refine W.check_slot (i := "BaseException.__getattribute__") (owner := "BaseException") (n := "__getattribute__") (self := .ref x) (rest := [.str (Str.ofString "__class__") t]) (kw := []) c1 c2 sub c3 ?_
  refine wpAny_bind (wpAny_of_eq (Eq.refl (slotArgs "__getattribute__" 1 { pos := [Value.ref x, Value.str (Str.ofString "__class__") t] })) (wpAny_bind (wpAny_pure (wpAny_bind (L0.at (wpAny_bind (L3.at ?_)))))))
  refine wpAny_bind (wpAny_holding (wpAny_call (W.class_get X I hm (wpAny_pure ?_))))
  show wpAny _ _ (handedOut _) _ _ _
  rw [W.handedOut_of rfl]
  exact wpAny_pure (wpAny_pure h)

theorem isType_cls {M : Model} {h : Heap} {K : W.Frag} {D : Addr} (hd : W.hasDictIn K D = true) (X : K.In h) : W.Looks M h (isType (.ref D)) true := by
  obtain ⟨cd, hc, _⟩ := W.any_some hd
  unfold W.clsIn at hc
  split at hc
  · rename_i heq
    intro A' Q' E' s' k q
    exact wpAny_bind (wpAny_loadPart (k D _ (X D _ heq)) (wpAny_pure q))
  · cases hc
theorem cls_ne {h : Heap} {K : W.Frag} {D : Addr} (hd : W.hasDictIn K D = true) (X : K.In h) {tp : Addr} {dd : Option Addr} {its : List Value} {n : Nat} {sl : Array (Option Value)}
    (ht : h.get? tp = some { cls := Value.type "tuple", dict := dd, data := Data.seq its.toArray n, slots := sl }) : (Value.ref D == Value.ref tp) = false := by
  refine Bool.eq_false_iff.mpr fun q => ?_
  have e := Value.ref.inj (beq_iff_eq.mp q)
  subst e
  obtain ⟨cd, hc, _⟩ := W.any_some hd
  unfold W.clsIn at hc
  split at hc
  · rename_i heq
    rw [X D _ heq] at ht
    cases ht
  · cases hc
theorem kitx_D {K : W.Frag} {x D : Addr} {ox od : Obj} (C : ExcC K D) : W.KitX K (.ref x) (.ref D) fun h => W.InstAt h x ox D (some od) where
  ty := fun M h X I => I.type
  it := fun M h X _ => isType_cls C.hd X
  ne := fun h tp dd its n sl X ht => cls_ne C.hd X ht
  ca := fun X I k => kin_classD C.hg C.hk C.hs C.hd C.ha C.hn C.ht C.hm X I k
def rIsD (K : W.Frag) (D a : Addr) (cls : Value) (d : Option Addr) : List V → Hp → VK → Prop := fun xs H Q => cls = .ref D ∧ ∃ (c : V) (cv : Value) (b : Bool) (dd : Addr) (fs : List (Str × V)), xs = [.ref a, c] ∧ (∀ u, L2.RelV c u → u = cv) ∧ W.kitOne K (.ref D) cv = some b ∧ d = some dd ∧ H dd = some (.xd fs) ∧ Q (.bl b) H
theorem call_isD {X : Cx} {a D : Addr} {cls : Value} {d : Option Addr} {oe : Obj} {pn : List (Addr × Obj)} (C : ExcC X.K D) (hz : Zc cls d oe) (hf : ∃ vs, oe.data = .fields vs) : CallR (X.suite a ((a, oe) :: pn)) (.builtin "isinstance") (rIsD X.K D a cls d) := by
  rintro pins s σ H xs us Q I r ⟨rfl, c, cv, b, dd, fs, rfl, hcv, hk, rfl, hdd, q⟩
  cases r with
  | cons r1 r2 =>
  cases r2 with
  | cons r3 r4 =>
  cases r4
  cases r1
  have ec := hcv _ r3
  subst ec
  obtain ⟨ha, _⟩ := I.pin (a, oe) (List.mem_append_left _ List.mem_cons_self)
  obtain ⟨vs, hv⟩ := hf
  have hx : ObjOk X.prog X.w H s.heap dd (.xd fs) := I.hok dd _ hdd
  obtain ⟨mA, hns, hr⟩ := hx
  obtain ⟨od, ho, hl⟩ := lookIn_ns hns
  have J : W.InstAt s.heap a oe D (some od) := ⟨ha, hz.1, by unfold W.notCls; rw [hv] <;> rfl, by rw [hz.2]; exact ho⟩
  exact W.kia_one (kitx_D C) I.kIn J hk (fun z => nomatch z) fun tk => ⟨.bl b, H, I.kept (fun x x_1 z => z), rfl, q⟩
open Evl (Ex)
theorem ev_isD {K : W.Frag} {D a dd : Addr} {c : Wd} {o : Hd} {H : Hp} {σ : Sta} {δ : List Ent} {j : Nat} {te : TE} {cv : Value} {w : V} {b : Bool} {fs : List (Str × V)} (B : Bs c H σ δ) (hs : δ[j]? = some (.rw (.ref a))) (hB : c.B dd = some (.xd fs)) (hk : W.kitOne K (.ref D) cv = some b) (hw : ∀ u, L2.RelV w u → u = cv) (he : ∀ H1 Q, Q w H1 → te σ H1 Q) :
    Ev o (tCB (rIsD K D a (.ref D) (some dd)) (tCons (tVar j) (tCons te tNil))) σ H (.bool b) := fun H1 x Q k =>
  ⟨.ref a, B.ent j _ hs, he H1 _ ⟨rfl, w, cv, b, dd, fs, rfl, hw, hk, rfl, x _ _ (B.base _ _ hB), k _ H1 (Ex.refl H1) (.bl b)⟩⟩
theorem PK.mono {c : Wd} {B' : Hp} {p : Addr} {vs : List V} {ds : List PyData} (h : PK c p vs ds) (e : Ex c.B B') : PK { c with B := B' } p vs ds := ⟨h.1, e _ _ h.2.1, h.2.2.mono (hid_mono e)⟩
theorem PO.mono {c : Wd} {B' : Hp} {p : Addr} {rs : List V} (h : PO c p rs) (e : Ex c.B B') : PO { c with B := B' } p rs := ⟨h.1, e _ _ h.2⟩
end HL
/-! errors whose own __init__ stores one field: place -/
namespace Erplace
open PySem PySem.Spec PyProof PyProof.Rows PySem.W PySem.Calls PySem.HandSPX
def args2 (u v : Pos) : Arguments := { posonlyargs := [], vararg := none, kwonlyargs := [], kw_defaults := [], kwarg := none, defaults := [], args := [{ annotation := none, arg := "self", pos := u }, { annotation := none, arg := "place", pos := v }] }
def put1 (u v x y : Pos) : List Stmt := [.Assign [.Attribute (.Name "self" u) "place" v] (.Name "place" x) y]
def loc2 : Scope := { isGenerator := false, isCoroutine := false, kind := .function, more := [], names := [(PySem.Str.ofString "self", .local), (PySem.Str.ofString "place", .local)] }
/-- the facts of one such class -/
structure Fx (K : Frag) (mg : Str → Option Value) (nm qi : Str) (C fI : Addr) : Prop where
  nam : mg nm = some (.ref C)
  row : ∃ n2 q N bs bm sn sub ab col dd k0 k1 k2 k3 k5, K.lookup C = some (excClassObj n2 q C N bs bm true sn sub ab col dd k0 k1 k2 k3 k5 "ValueError.__new__") ∧ refsVE bm = true
  fs : findIn K (.ref C) "__setattr__" = some (some (.builtin "object.__setattr__"))
  fg : findIn K (.ref C) "__getattribute__" = some (some (.builtin "BaseException.__getattribute__"))
  fa : findIn K (.ref C) "__getattr__" = some none
  fx : findIn K (.ref C) "place" = some none
  fi : findIn K (.ref C) "__init__" = some (some (.ref fI))
  ti : typeIn K (.ref fI) = some (.type "function")
  keepC : keepIn K (.ref C) = true
  isE : subIn K (.ref C) (.type "BaseException") = some true
  ofT : typeIn K (.ref C) = some (.type "type")
  dct : hasDictIn K C = true
  own : exmOne K (.ref C) (.ref C) = some true
  ini : ∃ (oc : Value) (od : Option Addr) (doc pm : Value) (an : Option Addr) (cdv ct : Value) (osl : Array (Option Value)) (u v r s x y : Pos),
    K.lookup fI = some ⟨oc, od, .func (fnOf "__init__" qi (args2 u v) (put1 r s x y) loc2 .none .none doc pm an cdv ct), osl⟩ ∧ codeIn K cdv qi = true
theorem one_ok (v : Value) : ([v] : List Value).length ≤ sizeLine := by
  rw [sizeLine_eq]
  exact Nat.le_of_ble_eq_true rfl
/-- how an exception stands behind its __init__ -/
structure Aft (h h' : Heap) (x C dx t1 : Addr) (v : Value) : Prop where
  rest : ∀ b o, b ≠ x → h.get? b = some o → h'.get? b = some o
  it : h'.get? x = some { cls := .ref C, dict := some dx, data := .fields #[.ref t1, .none, .none, .none, .bool false, .none] }
  new : h.objs.size ≤ dx
  two : dx ≠ x
  dc : h'.Ns1 dx (fun y => if y = "place" then some v else none)
structure Got (h h' : Heap) (e C d : Addr) (v : Value) : Prop where
  all : ∀ b o, h.get? b = some o → h'.get? b = some o
  ne : h.objs.size ≤ e
  it : ∃ oe vs, h'.get? e = some oe ∧ oe.cls = .ref C ∧ oe.dict = some d ∧ oe.data = .fields vs ∧ vs[1]? = some .none ∧ vs[2]? = some .none
  nd : h.objs.size ≤ d
  two : d ≠ e
  dc : h'.Ns1 d (fun y => if y = "place" then some v else none)
section
variable {prog : Program} {w : World} {A : Around} {E : Value → Shared → Prop} {R : Result → Shared → Prop} {s : Shared} {K : Frag} {mg : Str → Option Value} {nm qi : Str} {C fI : Addr}
theorem nameL {M : Model} {s : Shared} {name : Str} {scope : Scope} {L a : Addr} {cd : Value} {m : Str → Option Value} {x : Str} {pos : Pos} {v : Value} {Q : Value → Shared → Prop} {A : Around} {E : Value → Shared → Prop}
    (hn : s.heap.Ns L m) (hv : m x = some v) (h : Q v s) (hk : scope.kind = .function := by rfl) (hl : (envOfC name scope L a cd).kindOf x = some .local := by rfl) (hd : (x == ("__debug__" : Str)) = false := by decide) :
    wpAny M A (eval (.Name x pos) (envOfC name scope L a cd)) Q E s :=
  wpAny_Name (wpAny_loadName_local hk hl hn hv h) hd
theorem after (T : Fx K mg nm qi C fI) {x t0 : Addr} {v : Value} (X : K.In s.heap) (lim0 : s.heap.NoLimit) (hx : s.heap.get? x = some (excO C t0)) (roomy : A.depth < recursionLimit)
    (hq : ∀ h' tA dx, Aft s.heap h' x C dx t0 v → R (.ok (.ret .none)) { s with heap := h', toks := tA }) :
    codeAny (model prog w) A (.call (.ref fI) ⟨[.ref x, v], []⟩) R s := by
  obtain ⟨_, _, _, _, _, _, _, _, _, _, _, _, _, _, ho, hcd⟩ := T.ini
  obtain ⟨n2, q, N, bs, bm, sn, sub, ab, col, dd, k0, k1, k2, k3, k5, hC, hbm⟩ := T.row
  have cl : clsIn K C = some { name := n2, bases := bs, mro := .ref C :: bm, ns := N, qualname := q, hasDict := true, slotNames := sn, subclasses := sub, abstract := ab, collection := col, hasDel := false } := by
    unfold clsIn
    rw [hC] <;> rfl
  refine Att.call_fn (binds := [("self", .ref x), ("place", v)]) X lim0 ho hcd roomy (BindsTo.of_eq (by first | rfl | with_unfolding_all rfl)) (by first | rfl | decide | with_unfolding_all rfl) (fun s₁ I => ?_) rfl rfl rfl
  obtain ⟨hA1, tA1, rfl⟩ := I.toInCall.same
  have keep := I.toInCall.keep
  have hn := I.toInCall.ns
  have XA : K.In hA1 := X.keeps keep
  have xA := keep _ _ hx
  show wpAny _ _ (execs _ _) _ _ _
  refine wpAny_execs_cons (plainObj_wpAny_Assign_Attribute ?_)
  refine nameL (v := v) hn (by first | rfl | with_unfolding_all rfl | kernel_rfl) (nameL (v := .ref x) hn (by first | rfl | with_unfolding_all rfl | kernel_rfl) ?_)
  refine set_plain XA (ox := excO C t0) (od := none) ⟨xA, rfl, rfl, trivial⟩ T.fs ?_
  refine exc_osa XA xA cl (show refsVE (.ref C :: bm) = true from hbm) rfl T.fx (fun h₃ tk₃ dx k₃ dn nee hx₃ hn₃ => ?_)
  show wpAny _ _ (execs _ _) _ _ _
  have lt : s.heap.objs.size < hA1.objs.size := hn.lt
  exact wpAny_execs_nil (hq h₃ tk₃ dx ⟨fun b o hb e => k₃ b o hb (keep b o e), hx₃, Nat.le_of_lt (Nat.lt_of_lt_of_le lt dn), nee, hn₃⟩)
theorem got (T : Fx K mg nm qi C fI) {v : Value} (X : K.In s.heap) (lim0 : s.heap.NoLimit) (roomy : A.depth + 1 < recursionLimit)
    (hq : ∀ h' tA e d, Got s.heap h' e C d v → R (.ok (.ret (.ref e))) { s with heap := h', toks := tA }) :
    codeAny (model prog w) A (.call (.ref C) ⟨[v], []⟩) R s := by
  obtain ⟨_, _, _, _, bm, _, _, _, _, _, _, _, _, _, _, hC, hbm⟩ := T.row
  obtain ⟨hA, g, dr, tA, os⟩ := s
  have k : ∀ b o, hA.get? b = some o → ((hA.push (kdv_tup [v])).push (excO C hA.objs.size)).get? b = some o := fun b o e => Heap.get?_push_of_some _ (Heap.get?_push_of_some _ e)
  have atE : ((hA.push (kdv_tup [v])).push (excO C hA.objs.size)).get? (hA.objs.size + 1) = some (excO C hA.objs.size) := by heap_get
  refine call_own F.excBase_ValueError (fun X => refsVE_contains X bm hbm) (X _ _ hC) (looks_findIn X T.fi) (fun self => bind_fn X self T.ti) (one_ok v) ?_
  refine after (s := ⟨(hA.push (kdv_tup [v])).push (excO C hA.objs.size), g, dr, tA, os⟩) T (X.keeps k) (lim0.keeps k) atE ?_ fun h' tB' dx ⟨kk', hx, dn, nee, nsA⟩ => ?_
  · show A.depth + 1 < recursionLimit
    exact roomy
  · have stay : ∀ b o, hA.get? b = some o → h'.get? b = some o := fun b o e => kk' b o (Nat.ne_of_lt (Nat.lt_succ_of_lt (Heap.lt_size e))) (k b o e)
    have z : hA.objs.size + 1 + 1 ≤ dx := by
      have q := dn
      first | (simpa only [Heap.size_push] using q) | exact q | (rw [Heap.size_push, Heap.size_push] at q; exact q)
    exact ⟨rfl, hq h' tB' (hA.objs.size + 1) dx ⟨stay, Nat.le_succ _, ⟨_, _, hx, rfl, rfl, rfl, rfl, rfl⟩, Nat.le_trans (Nat.le_trans (Nat.le_succ _) (Nat.le_succ _)) z, nee, nsA⟩⟩
end
end Erplace

namespace L2
open PySem PySem.Spec PyProof.Rows
theorem relO_place {v : V} {u : Value} (r : RelV v u) (f : Str) : RelO (List.lookup f [(("place" : Str), v)]) (if f = "place" then some u else none) := by
  by_cases q : f = "place"
  · subst q
    rw [if_pos rfl, show List.lookup ("place" : Str) [(("place" : Str), v)] = some v from by simp [List.lookup]]
    exact r
  · have q1 : (f == ("place" : Str)) = false := by simpa using q
    rw [if_neg q, show List.lookup f [(("place" : Str), v)] = none from by simp [List.lookup, q1]]
    trivial
section
variable {X : Cx} {C fI : Addr} {nm qi : Str}
/-- a new error of the class at C, with its argument as field -/
def tErplace (C : Addr) (ta : TA) : St → Hp → XK → Prop := fun σ H Q => ta σ H fun vs H1 => ∃ v, vs = [v] ∧ ∀ d, H1 d = none → Q (.ref C) (some d) (upd H1 d (.xd [(("place" : Str), v)]))
theorem mk_place {a : Expr} {ta : TA} {p pos : Pos} {k : Nat} (T : Erplace.Fx X.K X.mg nm qi C fI) (hr : Room k X.A) (ha : PA X [a] ta) (hg : Gl X nm) (hdb : (nm == ("__debug__" : Str)) = false)
    (he : starEach (a :: []) X.env = (false, eval a X.env) :: starEach [] X.env := by rfl) (hpl : (backTo pos (starEach [] X.env)).any (·.1) = false := by rfl) : L2N.PMk X (.Call (.Name nm p) [a] [] pos) (tErplace C ta) := by
  intro pins s σ H Q I h
  refine wpAny_Call_Name_kw (ld_glob I hg T.nam ?_ hdb)
  refine PySem.W.callWith_K (h₀ := X.base) I.ok.mod.kin T.keepC (thn (ha.run pos pins s σ H _ I h) fun us sA hh => ?_) he hpl
  obtain ⟨vs, H1, J1, r1, v, rfl, q1⟩ := hh
  refine ⟨J1.kIn, ?_⟩
  obtain ⟨u, rfl, rv⟩ := Vals.one r1
  show wpAny _ _ (call (.ref C) [u]) _ _ _
  have lim := J1.nolimit
  obtain ⟨hA, g, dr, tA, os⟩ := sA
  refine wpAny_call (Erplace.got T J1.kIn lim (by have := hr.dp; omega) fun h' tB' e d M => ?_)
  show L2N.MkP X pins σ Q (.ref e) ⟨h', g, dr, tB', os⟩
  obtain ⟨oe, fv, oe1, hc, hd, dat1, h1, h2⟩ := M.it
  have nsA := M.dc
  obtain ⟨hB', b1, b2⟩ := restrict h' fun b => decide (b ≠ e)
  have gAt : ∀ b, b ≠ e → hB'.get? b = h'.get? b := fun b hb => b1 b (decide_eq_true hb)
  have gNo : hB'.get? e = none := b2 e (by simp)
  have stay : ∀ b o, hA.get? b = some o → hB'.get? b = some o := fun b o q => (gAt b (Nat.ne_of_lt (Nat.lt_of_lt_of_le (Heap.lt_size q) M.ne))).trans (M.all b o q)
  have ob : ObjOk X.prog X.w (upd H1 d (.xd [(("place" : Str), v)])) hB' d (.xd [(("place" : Str), v)]) := ⟨_, nsA.at (fun o q => (gAt d M.two).trans q), fun f => relO_place rv f⟩
  have J : Inv X pins σ (upd H1 d (.xd [(("place" : Str), v)])) ⟨hB', g, dr, tB', os⟩ := J1.laid (t' := tB') stay M.nd ob
  refine ⟨e, oe, fv, ⟨hB', g, dr, tB', os⟩, _, .ref C, some d, rfl, J, fun b o q => ?_, gNo, oe1, ⟨hc, hd, fun fs ef => by rw [dat1] at ef; cases ef; exact h2⟩, dat1, h1, ?_, rfl, J1.bare, raises_own T.isE T.ofT, q1 d (J1.hok.fresh M.nd)⟩
  · by_cases hb : b = e
    · have q' : hB'.get? b = some o := q
      rw [hb, gNo] at q'; cases q'
    · exact (gAt b hb).symm.trans q
  · rw [upd_ne (Ne.symm M.two)]
    exact J1.hok.fresh M.ne
def tRaplace (C : Addr) (W : WX) (ta : TA) : TS := fun _ σ H => tErplace C ta σ H fun cls d H' => W cls d σ H'
theorem ra_place {a : Expr} {ta : TA} {W : WX} {p pos pos2 : Pos} {k : Nat} (hc : X.calm = true) (T : Erplace.Fx X.K X.mg nm qi C fI) (hr : Room k X.A) (tA : L2N.Takes X W) (ha : PA X [a] ta) (hg : Gl X nm) (hdb : (nm == ("__debug__" : Str)) = false)
    (he : starEach (a :: []) X.env = (false, eval a X.env) :: starEach [] X.env := by rfl) (hpl : (backTo pos (starEach [] X.env)).any (·.1) = false := by rfl) :
    PS X (.Raise (some (.Call (.Name nm p) [a] [] pos)) none pos2) (tRaplace C W ta) := L2N.ps_raise hc tA (mk_place T hr ha hg hdb he hpl)
/-- e.place, e the error that the suite holds -/
def tFdplace (C : Addr) (a : Addr) (cls : Value) (d : Option Addr) (te : TE) : TE := fun σ H Q => te σ H fun x H1 => x = .ref a ∧ cls = .ref C ∧ ∃ (dd : Addr) (v : V), d = some dd ∧ H1 dd = some (.xd [(("place" : Str), v)]) ∧ Q v H1
theorem fd_place {a : Addr} {oe : Obj} {cls : Value} {d : Option Addr} {pn : List (Addr × Obj)} {e : Expr} {te : TE} {pos : Pos} (T : Erplace.Fx X.K X.mg nm qi C fI) (hz : L2N.Zn cls d oe) (hf : ∃ vs, oe.data = .fields vs) (he : PE (X.suite a ((a, oe) :: pn)) e te)
    (hb : attributeBase e "place" X.env (eval e X.env) = eval e X.env := by rfl) : PE (X.suite a ((a, oe) :: pn)) (.Attribute e "place" pos) (tFdplace C a cls d te) := by
  refine ⟨fun pins s σ H Q I h => ?_⟩
  refine attr_of hb (thn (he.run pins s σ H _ I h) fun u sA hh => ?_)
  obtain ⟨x, H1, J1, rx, rfl, rfl, dd, v, rfl, ea, q⟩ := hh
  obtain rfl : u = Value.ref a := rx
  obtain ⟨ha, _⟩ := J1.pin (a, oe) (List.mem_append_left _ List.mem_cons_self)
  obtain ⟨vs, hd⟩ := hf
  have hx : ObjOk X.prog X.w H1 sA.heap dd (.xd [(("place" : Str), v)]) := J1.hok dd _ ea
  obtain ⟨mA, nsA, hr⟩ := hx
  obtain ⟨od, ho, hl⟩ := lookIn_ns nsA
  have l : List.lookup ("place" : Str) [(("place" : Str), v)] = some v := by simp [List.lookup]
  obtain ⟨u, hu, ru⟩ := RelO.some_of (v := v) (o := mA "place") (by rw [← l]; exact hr "place")
  have J : PySem.W.InstAt sA.heap a oe C (some od) := ⟨ha, hz.1, by unfold PySem.W.notCls; rw [hd] <;> rfl, by rw [hz.2.1]; exact ho⟩
  exact HandSPX.exc_get J1.kIn J T.fg T.fa T.isE (PySem.W.findObj_own T.dct T.fx rfl (by rw [hl, hu])) (handed_of ru) ⟨v, H1, J1.tok _, ru, q⟩
end
end L2

namespace HL
open PySem PySem.Spec PyProof.Rows L2
open Evl (Ex)
section
variable {c : Wd} {o : Hd} {H H1 : Hp} {σ : Sta} {δ : List Ent} {j : Nat} {v : V} {ds : List PyData}
theorem new_own (l : Live o H) (h : Dn (new H H1) v (.list ds)) : ∃ p vs, v = .ref p ∧ H p = none ∧ H1 p = some (.lst vs) ∧ DnA (hid (fun b => o b ∨ b = p) H1) vs ds := by
  cases h with
  | @lst p xs _ hA r =>
    obtain ⟨n1, n2⟩ := hid_of hA
    have np : H p = none := by
      cases z : H p with
      | none => rfl
      | some u => exact absurd (by rw [z]; simp) n1
    refine ⟨p, xs, rfl, np, n2, (DnA.small hA r r (by simp)).mono fun b u z => ?_⟩
    obtain ⟨z1, z2⟩ := hid_of (o := fun a => a = p) z
    obtain ⟨z3, z4⟩ := hid_of z2
    rw [hid_at]
    · exact z4
    · rintro (w | w)
      · exact z3 (l b w)
      · exact z1 w
theorem set_rw (B : Bs c H σ δ) (hj : δ[j]? = some .no) : Bs c H (σ.set j (some v)) (δ.set j (.rw v)) := by
  have hl : j < δ.length := by
    rw [List.getElem?_eq_some_iff] at hj
    exact hj.1
  have aq : ∀ b, Adr (δ.set j (.rw v)) b ↔ Adr δ b := fun b => by
    constructor
    · intro z
      rcases adr_set z with z | ⟨_, _, z⟩
      · exact z
      · cases z
    · rintro ⟨k, g, es, z⟩
      exact ⟨k, g, es, by rw [List.getElem?_set_ne (fun q => by subst q; rw [hj] at z; cases z)]; exact z⟩
  have w : ∀ {k : Nat} {f' : Bool} {a : Addr} {ds : List PyData}, (δ.set j (.rw v))[k]? = some (.ow f' a ds) → δ[k]? = some (.ow f' a ds) := fun {k f' a ds} h => by
    by_cases z : j = k
    · subst z
      rw [List.getElem?_set] at h
      simp at h
    · rwa [List.getElem?_set_ne z] at h
  refine ⟨B.base, B.liO, B.liN, fun a h => B.own a ((aq a).mp h), fun x y f1 f2 a ds es h1 h2 => B.one _ _ _ _ _ _ _ (w h1) (w h2), by simp [B.len], fun k e he => ?_⟩
  have hh : ∀ f, c.hd f (δ.set j (.rw v)) = c.hd f δ := fun f => hd_adr aq f
  by_cases z : j = k
  · subst z
    rw [List.getElem?_set] at he
    simp [hl] at he
    subst he
    show _ = _
    rw [List.getElem?_set]; simp [B.len, hl]
  · rw [List.getElem?_set_ne z] at he
    rw [List.getElem?_set_ne z]
    have q := B.ent k e he
    cases e with
    | no => trivial
    | va f d => obtain ⟨v, e, q⟩ := q; exact ⟨v, e, by rw [hh]; exact q⟩
    | ow f a ds => obtain ⟨vs, e, q, r⟩ := q; exact ⟨vs, e, q, by rw [hh]; exact r⟩
    | rw v => exact q
end
/-- what comes back is new, or an error of the class at C with its field -/
def SpXplace (C : Addr) (R : List PyData → V ⊕ PyData → Prop) : Sp := fun vs H Q E => ∃ (ds : List PyData) (o : V ⊕ PyData), DnA H vs ds ∧ R ds o ∧ (∀ d, o = .inr d → ∀ v H', Ex H H' → Dn (new H H') v d → Q v H') ∧
  (∀ e, o = .inl e → ∀ dd H', Ex H H' → H' dd = some (.xd [(("place" : Str), e)]) → E (.ref C) (some dd) H')
/-- the same of a def that is passed a list whose items it hands on: the list stays, the answer is made of its items -/
def SpXMplace (C : Addr) (R : List PyData → List PyData → V ⊕ PyData → Prop) : Sp := fun vs H Q E => ∃ (a : Addr) (xs vr : List V) (o : Hd) (ds rs : List PyData) (w : V ⊕ PyData), vs = .ref a :: vr ∧ Live o H ∧ o a ∧ H a = some (.lst xs) ∧ DnA (hid o H) xs ds ∧ DnA H vr rs ∧ R ds rs w ∧
  (∀ d, w = .inr d → ∀ v xs' H', (∀ b u, b ≠ a → H b = some u → H' b = some u) → H' a = some (.lst xs') → DnA (hid o H') xs' ds → Dn (hid o H') v d → Q v H') ∧
  (∀ e, w = .inl e → ∀ dd xs' H', (∀ b u, b ≠ a → H b = some u → H' b = some u) → H' a = some (.lst xs') → DnA (hid o H') xs' ds → H' dd = some (.xd [(("place" : Str), e)]) → E (.ref C) (some dd) H')
theorem qrM_place {o : Hd} {H0 : Hp} {ds' : List PyData} {C a : Addr} {W : L2.WX} {H : Hp} {σ : Sta} {δ : List Ent} {i : Nat} {d : PyData} {te : TE} {tz : TS} {D : Ends} (B : Bs ⟨hid (fun b => b = a) H0, fun b => o b ∧ b ≠ a, o0⟩ H σ δ) (hx : δ[i]? = some (.ow true a ds')) (h : Ev o0 te σ H d) (hs : Sc d)
    (k : ∀ dd xs' H', (∀ b u, b ≠ a → H0 b = some u → H' b = some u) → H' a = some (.lst xs') → DnA (hid o H') xs' ds' → H' dd = some (.xd [(("place" : Str), scV d)]) → W (.ref C) (some dd) σ H') : tSeq (tRaplace C W (tCons te tNil)) tz D σ H :=
  h.go fun v H2 e2 hv => ⟨v, rfl, fun dd nd => by
    have B2 := (B.mono e2).mono (Evl.Ex.new (o := HO.xd [(("place" : Str), v)]) nd)
    obtain ⟨vs, _, ha, hr⟩ := B2.ent i _ hx
    have sub : ∀ b, o b → (⟨hid (fun b => b = a) H0, fun b => o b ∧ b ≠ a, o0⟩ : Wd).hd true δ b := fun b z => by
      by_cases q : b = a
      · subst q; exact .inr (.inr ⟨i, true, ds', hx⟩)
      · exact .inl ⟨rfl, z, q⟩
    exact k dd vs _ (fun b u nb hb => B2.base b u (by show hid (fun b => b = a) H0 b = some u; rw [hid_at (o := fun b => b = a) nb]; exact hb)) ha (hr.mono (hid_sub sub)) (by rw [upd_same, hv.scV hs])⟩
section
variable {K : PySem.W.Frag} {c : Wd} {H H1 H' : Hp} {σ : Sta} {δ : List Ent} {i j : Nat} {a C dd : Addr} {d : PyData} {te : TE} {tz : TS} {D : Ends} {W : L2.WX}
theorem qr_place (B : Bs c H σ δ) (h : Ev o0 te σ H d) (hs : Sc d) (k : ∀ dd H', Ex c.B H' → H' dd = some (.xd [(("place" : Str), scV d)]) → W (.ref C) (some dd) σ H') : tSeq (tRaplace C W (tCons te tNil)) tz D σ H :=
  h.go fun v H2 e2 hv => ⟨v, rfl, fun dd nd => k dd _ ((B.base.trans e2).trans (Evl.Ex.new nd)) (by rw [upd_same, hv.scV hs])⟩
theorem ev_fdplace {o : Hd} {x : V} {cls : Value} (B : Bs c H σ δ) (hs : δ[j]? = some (.rw (.ref a))) (hc : cls = .ref C) (hB : c.B dd = some (.xd [(("place" : Str), x)])) (hx : ∀ H, Dn H x d) : Ev o (tFdplace C a cls (some dd) (tVar j)) σ H d := fun H1 x1 Q k =>
  ⟨.ref a, B.ent j _ hs, rfl, hc, dd, x, rfl, x1 _ _ (B.base _ _ hB), k x H1 (Ex.refl H1) (hx _)⟩
/-- try: name = f(..) except C as e: suite -/
theorem qt_place {f : Bool} {R : List PyData → V ⊕ PyData → Prop} {ts : Addr → Value → Option Addr → TS} {Wout : L2.WX} {cv : Value} {ds : List PyData} {o : V ⊕ PyData} {tr : TA} (B : Bs c H σ δ) (hj : δ[j]? = some .no) (h : EvA o0 tr σ H ds) (hr : R ds o) (hx : PySem.W.exmOne K (.ref C) cv = some true)
    (k1 : ∀ ds', o = .inr (.list ds') → ∀ p σ1 H1, Bs c H1 σ1 (δ.set i (.ow true p ds')) → tz D σ1 H1) (hl : ∀ d, o = .inr d → ∃ ds', d = .list ds')
    (k2 : ∀ e, o = .inl e → ∀ (a dd : Addr) (B' H1 : Hp), Ex c.B B' → B' dd = some (.xd [(("place" : Str), e)]) → Bs { c with B := B' } H1 (σ.set j (some (.ref a))) (δ.set j (.rw (.ref a))) →
      ts a (.ref C) (some dd) { nx := fun σ' H' => tz D (σ'.set j none) H', rt := D.rt, bk := fun σ' H' => D.bk (σ'.set j none) H', ct := fun σ' H' => D.ct (σ'.set j none) H' } (σ.set j (some (.ref a))) H1) :
    tSeq (fun D σ H => tAsg (tCallS (SpXplace C R) (WE (wAs K cv j ts Wout D)) tr) (gName i) D σ H) tz D σ H := by
  refine h H (Ex.refl H) _ fun vs H2 e2 hv => ⟨ds, o, hv.up, hr, fun d hd v H3 e3 hd3 => ?_, fun e he dd H3 e3 hdd => ?_⟩
  · obtain ⟨ds', rfl⟩ := hl d hd
    obtain ⟨p, us, rfl, np, hA, hu⟩ := new_own ((B.mono e2).live true) hd3
    exact k1 ds' hd p _ _ (set_ow (B.mono e2) e3 np hA hu)
  · refine ⟨true, hx, fun _ a na => ?_, fun q => nomatch q⟩
    have B3 := (B.mono e2).mono e3
    refine k2 e he a dd (hid (fun a => Adr δ a) H3) H3 B3.under ?_ (set_rw B3.rebase hj)
    show hid (fun b => Adr δ b) H3 dd = _
    rw [hid_at]
    · exact hdd
    · rintro ⟨m, g, es, z⟩
      obtain ⟨_, _, w, _⟩ := B3.ent m _ z
      rw [hdd] at w; cases w
/-- try: name = f(own list) except C as e: suite, f of the kind that hands its list's items on -/
theorem qtM_place {f : Bool} {Rl : List PyData → List PyData → V ⊕ PyData → Prop} {ts : Addr → Value → Option Addr → TS} {Wout : L2.WX} {cv : Value} {ds : List PyData} {m : Nat} {w : V ⊕ PyData} (B : Bs c H σ δ) (hx : δ[j]? = some (.ow f a ds)) (hne : i ≠ j) (hm : m ≠ j) (hmn : δ[m]? = some .no) (hR : Rl ds [] w) (hn : noLs ds = true) (hxm : PySem.W.exmOne K (.ref C) cv = some true)
    (hl : ∀ d, w = .inr d → ∃ es, d = .list es ∧ noLs es = true)
    (k1 : ∀ es, w = .inr (.list es) → ∀ p σ1 H1, Bs c H1 σ1 ((δ.set i (.ow f p es)).set j (.ow f a ds)) → tz D σ1 H1)
    (k2 : ∀ e, w = .inl e → ∀ (b dd : Addr) (B' H1 : Hp), Ex c.B B' → B' dd = some (.xd [(("place" : Str), e)]) → Bs { c with B := B' } H1 (σ.set m (some (.ref b))) ((δ.set j (.ow f a ds)).set m (.rw (.ref b))) →
      ts b (.ref C) (some dd) { nx := fun σ' H' => tz D (σ'.set m none) H', rt := D.rt, bk := fun σ' H' => D.bk (σ'.set m none) H', ct := fun σ' H' => D.ct (σ'.set m none) H' } (σ.set m (some (.ref b))) H1) :
    tSeq (fun D σ H => tAsg (tCallS (SpXMplace C Rl) (WE (wAs K cv m ts Wout D)) (tCons (tVar j) tNil)) (gName i) D σ H) tz D σ H := by
  obtain ⟨vs, e1, ha, hv⟩ := B.ent j _ hx
  have lo : Live (fun b => c.hd f δ b ∨ isLst H b) H := fun b z y => by
    rcases z with z | ⟨xs, z⟩
    · exact B.live f b z y
    · rw [z] at y; cases y
  have hv' : DnA (hid (fun b => c.hd f δ b ∨ isLst H b) H) vs ds := by
    have q := hv.noL hn
    rw [hid_hid] at q
    refine q.mono (hid_sub fun b z => ?_)
    rcases z with z | ⟨xs, z⟩
    · exact .inr z
    · by_cases y : c.hd f δ b
      · exact .inr y
      · exact .inl ⟨xs, by rw [hid_at y]; exact z⟩
  have keep : ∀ {H' : Hp} {xs' : List V}, H' a = some (.lst xs') → ∀ {us : List V} {dd : List PyData}, noLs dd = true → DnA (hid (fun b => c.hd f δ b ∨ isLst H b) H') us dd → DnA (hid (c.hd f δ) (upd H' a (.lst vs))) us dd := fun {H' xs'} hA {us dd} n h => by
    refine h.mono fun b u z => ?_
    obtain ⟨z1, z2⟩ := hid_of z
    have ba : b ≠ a := fun y => z1 (.inr ⟨vs, by rw [y]; exact ha⟩)
    rw [hid_at (fun y => z1 (.inl y)), upd_ne ba]
    exact z2
  have back : ∀ {H' : Hp} {xs' : List V}, H' a = some (.lst xs') → upd (upd H' a (.lst vs)) a (.lst xs') = H' := fun {H' xs'} hA => by
    funext b
    by_cases z : b = a
    · subst z; rw [upd_same, hA]
    · rw [upd_ne z, upd_ne z]
  have exa : ∀ {H' : Hp}, (∀ b u, b ≠ a → H b = some u → H' b = some u) → Ex H (upd H' a (.lst vs)) := fun {H'} hk b u q => by
    by_cases z : b = a
    · subst z; rw [upd_same]; rw [ha] at q; exact q
    · rw [upd_ne z]; exact hk b u z q
  refine ⟨.ref a, e1, a, vs, [], _, ds, [], w, rfl, lo, .inr ⟨_, ha⟩, ha, hv', .nil, hR, fun d hd v xs' H' hk hA hxs hvd => ?_, fun e he dd xs' H' hk hA hxs hdd => ?_⟩
  · obtain ⟨es, rfl, hn2⟩ := hl d hd
    cases hvd with
    | @lst p ws _ hpp hr =>
    obtain ⟨np0, hA'⟩ := hid_of hpp
    have pa : p ≠ a := fun z => np0 (.inr ⟨vs, by rw [z]; exact ha⟩)
    have np : H p = none := by
      cases q : H p with
      | none => rfl
      | some u =>
        have := hk p u pa q
        rw [hA'] at this
        cases this
        exact absurd (.inr ⟨_, q⟩) np0
    have nop : ∀ {us : List V} {dd : List PyData}, noLs dd = true → DnA (hid (fun b => c.hd f δ b ∨ isLst H b) H') us dd → DnA (hid (fun b => c.hd f δ b ∨ b = p) (upd H' a (.lst vs))) us dd := fun {us dd} n h => by
      have q := h.noL n
      rw [hid_hid] at q
      refine q.mono fun b u z => ?_
      obtain ⟨z1, z2⟩ := hid_of z
      have ba : b ≠ a := fun y => z1 (.inr (.inr ⟨vs, by rw [y]; exact ha⟩))
      rw [hid_at, upd_ne ba]
      · exact z2
      · rintro (y | y)
        · exact z1 (.inr (.inl y))
        · exact z1 (.inl ⟨ws, by rw [y]; exact hpp⟩)
    have B1 := set_ow (i := i) (f := f) B (exa hk) np (by rw [upd_ne pa]; exact hA') (nop hn2 hr)
    have B2 := set_in (i := j) (f := f) (a := a) (ds := ds) (ds' := ds) (vs' := xs') B1 (by rw [List.getElem?_set_ne hne]; exact hx) ((nop hn hxs).mono (hid_sub fun b z => by
      rcases z with z | z | z
      · exact .inl (.inl z)
      · exact .inl (.inr (.inl z))
      · rcases adr_set z with z | ⟨_, _, z⟩
        · exact .inl (.inr (.inr z))
        · injection z with z1 z2 z3; exact .inr z2.symm))
    rw [back hA] at B2
    exact k1 es hd p _ _ B2
  · refine ⟨true, hxm, fun _ b nb => ?_, fun q => nomatch q⟩
    have B2 := set_in (i := j) (f := f) (a := a) (ds := ds) (ds' := ds) (vs' := xs') (B.mono (exa hk)) hx (keep hA hn hxs)
    rw [back hA] at B2
    refine k2 e he b dd (hid (fun x => Adr (δ.set j (.ow f a ds)) x) H') H' B2.under ?_ (set_rw B2.rebase (by rw [List.getElem?_set_ne (Ne.symm hm)]; exact hmn))
    show hid (fun x => Adr (δ.set j (.ow f a ds)) x) H' dd = _
    rw [hid_at]
    · exact hdd
    · rintro ⟨n, g, es, z⟩
      obtain ⟨_, _, q, _⟩ := B2.ent n _ z
      rw [hdd] at q; cases q
end
end HL
namespace K2
open PySem PySem.Spec PyProof.Rows L2 HL
def topS (i : Nat) : Stmt := PySem.Challenge.pw_partclones_k02_edits_refused.main.body.getD i (.Pass ⟨0, 0, 0, 0⟩)
end K2
namespace K2
open PySem PySem.Spec PyProof.Rows L2 HL
open Evl (Ex)
section
variable {P : Program} {w : World} {K : PySem.W.Frag} {mg : Str → Option Value} {base : Heap}
/-! _law_same: data that is the same on both sides -/
mutual
def okD : PyData → Bool
  | .none => true
  | .int _ => true
  | .str x => PyData.strOk x
  | .list ds => decide (ds.length ≤ 100000) && okDs ds
  | .tuple ds => decide (ds.length ≤ 100000) && okDs ds
  | _ => false
def okDs : List PyData → Bool
  | [] => true
  | d :: ds => okD d && okDs ds
end
theorem okDs_mem : ∀ {ds : List PyData}, okDs ds = true → ∀ d ∈ ds, okD d = true
  | [], _, d, h => by simp at h
  | e :: es, h, d, hd => by
    simp only [okDs, Bool.and_eq_true] at h
    rcases List.mem_cons.mp hd with rfl | hd
    · exact h.1
    · exact okDs_mem h.2 d hd
theorem depthAll_mem : ∀ {ds : List PyData} {d : PyData}, d ∈ ds → d.depth ≤ PyData.depthAll ds
  | e :: es, d, h => by
    simp only [PyData.depthAll]
    rcases List.mem_cons.mp h with rfl | h
    · exact Nat.le_max_left _ _
    · exact Nat.le_trans (depthAll_mem h) (Nat.le_max_right _ _)
def r_same (n : Nat) : List PyData → PyData → Prop := fun ds r => ∃ d, ds = [d, d] ∧ okD d = true ∧ d.depth < n ∧ r = .bool true
abbrev s__law_same : Stmt := topS 15
abbrev N__law_same : List Str := ["told", "due", "k"]
theorem sc__law_same : FnScope N__law_same ["told", "due"] (defScope s__law_same) := ⟨rfl, rfl, rfl, by decide +kernel, rfl, by decide +kernel, by decide +kernel⟩
theorem FnOk.vac {R : List PyData → PyData → Prop} {f : Addr} {fd : FuncData} {ps : List Str} (h : ∀ ds d, ¬ R ds d) : FnOk P w K mg base CX0 0 f fd ps (SpF R) := ⟨fun vs H Q E ⟨ds, d, _, r, _⟩ => (h ds d r).elim, fun A outer s H args us vs Q E _ _ _ _ ⟨ds, d, _, r, _⟩ => (h ds d r).elim⟩
theorem isA_n (T : String) : isA .none T = isAN "NoneType" T := rfl
theorem isA_i (i : Int) (T : String) : isA (.int i) T = isAN "int" T := rfl
theorem isA_s (x : Str) (T : String) : isA (.str x) T = isAN "str" T := rfl
theorem isA_l (ds : List PyData) (T : String) : isA (.list ds) T = isAN "list" T := rfl
theorem isA_t (ds : List PyData) (T : String) : isA (.tuple ds) T = isAN "tuple" T := rfl
theorem atI_at {ds : List PyData} {m : Int} (h0 : 0 ≤ m) (h1 : m < ds.length) : atI ds m = some (ds[m.toNat]'(by omega)) := by
  obtain ⟨k, rfl⟩ := Int.eq_ofNat_of_zero_le h0
  exact atI_nat (List.getElem?_eq_getElem (by omega))
set_option maxHeartbeats 8000000 in
theorem ok__law_same {f : Addr} {fd : FuncData} (F : Fun K "_law_same" "_law_same" s__law_same f fd) (bb : Binds K fd ["told", "due"] []) (gg : mg "_law_same" = some (.ref f)) (m_isinstance : mg "isinstance" = none) (m_list : mg "list" = none) (m_tuple : mg "tuple" = none) (m_int : mg "int" = none) (m_bool : mg "bool" = none) (m_str : mg "str" = none) (m_len : mg "len" = none) (m_range : mg "range" = none) :
    ∀ n, FnOk P w K mg base CX0 n f fd ["told", "due"] (SpF (r_same n))
  | 0 => FnOk.vac fun ds d ⟨_, _, _, h, _⟩ => by omega
  | n + 1 => by
    have G := ok__law_same F bb gg m_isinstance m_list m_tuple m_int m_bool m_str m_len m_range n
    refine F.ok sc__law_same (fun vs H Q E h => ?_) (fun cdv A outer s H vs Q E hr h => ?_)
    · obtain ⟨ds, d, hd, ⟨d0, rfl, _⟩, _⟩ := h
      exact hd.length
    · obtain ⟨ds, d, hd, ⟨x, rfl, hok, hdep, rfl⟩, q⟩ := h
      refine ⟨_, pss_cons (ps_if (pt_val (pe_callB (r := rIsiT K) call_isiT (by rfl) m_isinstance (by decide +kernel) (pa_cons (pv 1) (pa_cons (pe_tup (pa_cons (pe_bltn (v := .ty "list") (by rfl) m_list (by decide +kernel) rfl) (pa_cons (pe_bltn (v := .ty "tuple") (by rfl) m_tuple (by decide +kernel) rfl) pa_nil))) pa_nil))))
          (pss_cons (ps_if (pt_cmpR op_ne (pe_callB (r := rIsi K) call_isi (by rfl) m_isinstance (by decide +kernel) (pa_cons (pv 0) (pa_cons (pe_bltn (v := .ty "list") (by rfl) m_list (by decide +kernel) rfl) pa_nil))) (pe_callB (r := rIsi K) call_isi (by rfl) m_isinstance (by decide +kernel) (pa_cons (pv 1) (pa_cons (pe_bltn (v := .ty "list") (by rfl) m_list (by decide +kernel) rfl) pa_nil))) (nomark _)) (pss_cons (ps_ret pe_bl) pss_nil) pss_nil)
          (pss_cons (ps_if (PW.pt (pw_or (pt_cmpR op_ne (pe_callB (r := rIsi K) call_isi (by rfl) m_isinstance (by decide +kernel) (pa_cons (pv 0) (pa_cons (pe_bltn (v := .ty "tuple") (by rfl) m_tuple (by decide +kernel) rfl) pa_nil))) (pe_callB (r := rIsi K) call_isi (by rfl) m_isinstance (by decide +kernel) (pa_cons (pv 1) (pa_cons (pe_bltn (v := .ty "tuple") (by rfl) m_tuple (by decide +kernel) rfl) pa_nil))) (nomark _)) (pw_or1 (pt_cmpR op_ne (pe_callB (r := rLenK K) call_len_seq (by rfl) m_len PySem.boot_len (pa_cons (pv 0) pa_nil)) (pe_callB (r := rLenK K) call_len_seq (by rfl) m_len PySem.boot_len (pa_cons (pv 1) pa_nil)) (nomark _))))) (pss_cons (ps_ret pe_bl) pss_nil) pss_nil)
          (pss_cons (ps_for PassesOwn.never rfl (pi_range1 rfl m_range (pa_cons (pe_callB (r := rLenK K) call_len_seq (by rfl) m_len PySem.boot_len (pa_cons (pv 1) pa_nil)) pa_nil)) (pg_name (i := 2) sc__law_same.nd rfl (Or.inl rfl))
            (pss_cons (ps_if (pt_not (pt_val (pe_call G hr (by rfl) gg F.kp bb .nil pass0 (pa_cons (pe_ix (r := rIx K) ix_seq (pv 0) (pv 2) (fun _ _ => rfl)) (pa_cons (pe_ix (r := rIx K) ix_seq (pv 1) (pv 2) (fun _ _ => rfl)) pa_nil))))) (pss_cons (ps_ret pe_bl) pss_nil) pss_nil) pss_nil))
          (pss_cons (ps_ret pe_bl) pss_nil)))) pss_nil)
        (pss_cons (ps_if (pt_cmpR op_isN (pv 1) pe_non (nomark _)) (pss_cons (ps_ret (pe_cmpR op_isN (pv 0) pe_non (nomark _))) pss_nil) pss_nil)
        (pss_cons (ps_if (pt_val (pe_callB (r := rIsi K) call_isi (by rfl) m_isinstance (by decide +kernel) (pa_cons (pv 1) (pa_cons (pe_bltn (v := .ty "int") (by rfl) m_int (by decide +kernel) rfl) pa_nil))))
          (pss_cons (ps_ret (pe_and (pe_callB (r := rIsi K) call_isi (by rfl) m_isinstance (by decide +kernel) (pa_cons (pv 0) (pa_cons (pe_bltn (v := .ty "int") (by rfl) m_int (by decide +kernel) rfl) pa_nil))) (pe_and (pe_not (pe_callB (r := rIsi K) call_isi (by rfl) m_isinstance (by decide +kernel) (pa_cons (pv 0) (pa_cons (pe_bltn (v := .ty "bool") (by rfl) m_bool (by decide +kernel) rfl) pa_nil)))) (pe_one (pe_cmpR op_eq (pv 0) (pv 1) (nomark _)))))) pss_nil) pss_nil)
        (pss_cons (ps_ret (pe_and (pe_callB (r := rIsi K) call_isi (by rfl) m_isinstance (by decide +kernel) (pa_cons (pv 0) (pa_cons (pe_bltn (v := .ty "str") (by rfl) m_str (by decide +kernel) rfl) pa_nil))) (pe_one (pe_cmpR op_eq (pv 0) (pv 1) (nomark _))))) pss_nil))), ?_⟩
      have e0 : Ex H H := Ex.refl H
      have B := bs_F hd (N := N__law_same) (by rw [hd.length]; exact Nat.le_of_ble_eq_true rfl)
      have B : Bs _ _ _ [.va false x, .va false x, .no] := B
      have fin : ∀ {c : Wd} {δ : List Ent} {σ1 : Sta} {H1 : Hp} {te : TE} {tz : TS} {D : Ends}, Bs c H1 σ1 δ → Ex H c.B → D.rt = Q → Ev (c.hd true δ) te σ1 H1 (.bool true) → tSeq (tRet te) tz D σ1 H1 := fun B e hD h => q_ret (f := true) B h fun v H2 x hv => by rw [hD]; exact q v H2 (e.trans x) (Dn.sc (.bl _) hv)
      have isi2 : ∀ {T U : String} {y : PyData} {σ1 : Sta} {H1 : Hp} {te : TE} {b : Bool}, (T = "list" ∨ T = "tuple" ∨ T = "int" ∨ T = "bool" ∨ T = "str" ∨ T = "dict") → (U = "list" ∨ U = "tuple" ∨ U = "int" ∨ U = "bool" ∨ U = "str" ∨ U = "dict") → Ev o0 te σ1 H1 y → (isA y T || isA y U) = b → EvT (tB (tCB (rIsiT K) (tCons te (tCons (tTup (tCons (tC (.ty T)) (tCons (tC (.ty U)) tNil))) tNil)))) σ1 H1 b := fun hT hU h hb => (et_B (ev_isi2 hT hU h)).is hb
      have isi1 : ∀ {T : String} {y : PyData} {σ1 : Sta} {H1 : Hp} {te : TE} {b : Bool} {o : Hd}, (T = "list" ∨ T = "tuple" ∨ T = "int" ∨ T = "bool" ∨ T = "str" ∨ T = "dict") → Ev o0 te σ1 H1 y → isA y T = b → Ev o (tCB (rIsi K) (tCons te (tCons (tC (.ty T)) tNil))) σ1 H1 (.bool b) := fun hT h hb => (ev_isi hT h).is (by rw [hb])
      cases x with
      | none =>
        refine q_if B (isi2 (by simp) (by simp) (ev_va B rfl).w0 (b := false) (by rw [isA_n, isA_n]; decide)) (fun hc => by cases hc) (fun _ H1 B => ?_)
        dsimp only [tNext]
        refine q_if B (et_test (ev_isN (ev_va B rfl).w0)) (fun _ H1 B => ?_) (fun hc => by cases hc)
        exact fin B e0 rfl ((ev_isN (d := .none) (ev_va B rfl).w0).is rfl)
      | int i =>
        refine q_if B (isi2 (by simp) (by simp) (ev_va B rfl).w0 (b := false) (by rw [isA_i, isA_i]; decide)) (fun hc => by cases hc) (fun _ H1 B => ?_)
        dsimp only [tNext]
        refine q_if B (et_test (ev_isN (ev_va B rfl).w0)) (fun hc => by cases hc) (fun _ H1 B => ?_)
        dsimp only [tNext]
        refine q_if B (et_B (isi1 (b := true) (by simp) (ev_va B rfl).w0 (by rw [isA_i]; decide))) (fun _ H1 B => ?_) (fun hc => by cases hc)
        exact fin B e0 rfl ((ev_andV (isi1 (b := true) (by simp) (ev_va B rfl).w0 (by rw [isA_i]; decide)) fun _ => (ev_andV (ev_notV (isi1 (b := false) (by simp) (ev_va B rfl).w0 (by rw [isA_i]; decide))) fun _ => (ev_eqI (ev_va B rfl).w0 (ev_va B rfl).w0))).is (by simp))
      | str z =>
        refine q_if B (isi2 (by simp) (by simp) (ev_va B rfl).w0 (b := false) (by rw [isA_s, isA_s]; decide)) (fun hc => by cases hc) (fun _ H1 B => ?_)
        dsimp only [tNext]
        refine q_if B (et_test (ev_isN (ev_va B rfl).w0)) (fun hc => by cases hc) (fun _ H1 B => ?_)
        dsimp only [tNext]
        refine q_if B (et_B (isi1 (b := false) (by simp) (ev_va B rfl).w0 (by rw [isA_s]; decide))) (fun hc => by cases hc) (fun _ H1 B => ?_)
        dsimp only [tNext]
        exact fin B e0 rfl ((ev_andV (isi1 (b := true) (by simp) (ev_va B rfl).w0 (by rw [isA_s]; decide)) fun _ => (ev_eqS (ev_va B rfl).w0 (ev_va B rfl).w0)).is (by simp))
      | bool b => simp [okD] at hok
      | dict b => simp [okD] at hok
      | list ds =>
        simp only [okD, Bool.and_eq_true, decide_eq_true_eq] at hok
        simp only [PyData.depth] at hdep
        refine q_if B (isi2 (by simp) (by simp) (ev_va B rfl).w0 (b := true) (by rw [isA_l, isA_l]; decide)) (fun _ H1 B => ?_) (fun hc => by cases hc)
        refine q_if B ((et_test (ev_neB (isi1 (b := true) (by simp) (ev_va B rfl).w0 (by rw [isA_l]; decide)) (isi1 (b := true) (by simp) (ev_va B rfl).w0 (by rw [isA_l]; decide)))).is (b := false) (by simp)) (fun hc => by cases hc) (fun _ H1 B => ?_)
        dsimp only [tNext]
        refine q_if B ((et_or (et_test (ev_neB (isi1 (b := false) (by simp) (ev_va B rfl).w0 (by rw [isA_l]; decide)) (isi1 (b := false) (by simp) (ev_va B rfl).w0 (by rw [isA_l]; decide)))) fun _ => et_test (ev_neI (ev_len (ev_va B rfl).w0) (ev_len (ev_va B rfl).w0))).is (b := false) (by simp)) (fun hc => by cases hc) (fun _ H1 B => ?_)
        dsimp only [tNext]
        refine q_foldR1 (S := Unit) (fun _ => [.va false (.list ds), .va false (.list ds), .no]) (fun _ _ => ()) () (fun _ _ => True) B (ev_len (ev_va B rfl).w0) (by omega) (LeA.refl _) trivial (fun B0 e1 n2 _ k σ1 H1 hx hn hJ B => ?_) (fun _ σ1 H1 hs hJ B => ?_)
        · have hx_f := rng_mem.mp hx
          have B : Bs _ _ _ [.va false (.list ds), .va false (.list ds), .va true (eI k)] := B
          have hk : k.toNat < ds.length := by omega
          have hm := List.getElem_mem hk
          have h1 : Ev o0 (tOp (rIx K) (tVar 0) (tVar 2)) σ1 H1 ds[k.toNat] := ev_ixAL (ev_va B rfl).w0 (ev_sc B rfl (.int _)) (atI_at hx_f.1 hx_f.2)
          have h2 : Ev o0 (tOp (rIx K) (tVar 1) (tVar 2)) σ1 H1 ds[k.toNat] := ev_ixAL (ev_va B rfl).w0 (ev_sc B rfl (.int _)) (atI_at hx_f.1 hx_f.2)
          refine q_if B (et_not (et_B ((ev_callF (B.live true) (ea_cons h1 (ea_cons h2 ea_nil)) ⟨_, rfl, okDs_mem hok.2 _ hm, Nat.lt_of_le_of_lt (depthAll_mem hm) (by omega), rfl⟩).w0))) (fun hc => by cases hc) (fun _ H1 B => ?_)
          dsimp only [tNext]
          exact ⟨_, rfl, trivial, B.le (.cons (.refl _) (.cons (.refl _) (.cons (.no _) .nil)))⟩
        · exact fin B e0 rfl ev_bl
      | tuple ds =>
        simp only [okD, Bool.and_eq_true, decide_eq_true_eq] at hok
        simp only [PyData.depth] at hdep
        refine q_if B (isi2 (by simp) (by simp) (ev_va B rfl).w0 (b := true) (by rw [isA_t, isA_t]; decide)) (fun _ H1 B => ?_) (fun hc => by cases hc)
        refine q_if B ((et_test (ev_neB (isi1 (b := false) (by simp) (ev_va B rfl).w0 (by rw [isA_t]; decide)) (isi1 (b := false) (by simp) (ev_va B rfl).w0 (by rw [isA_t]; decide)))).is (b := false) (by simp)) (fun hc => by cases hc) (fun _ H1 B => ?_)
        dsimp only [tNext]
        refine q_if B ((et_or (et_test (ev_neB (isi1 (b := true) (by simp) (ev_va B rfl).w0 (by rw [isA_t]; decide)) (isi1 (b := true) (by simp) (ev_va B rfl).w0 (by rw [isA_t]; decide)))) fun _ => et_test (ev_neI (ev_lenT (ev_va B rfl).w0) (ev_lenT (ev_va B rfl).w0))).is (b := false) (by simp)) (fun hc => by cases hc) (fun _ H1 B => ?_)
        dsimp only [tNext]
        refine q_foldR1 (S := Unit) (fun _ => [.va false (.tuple ds), .va false (.tuple ds), .no]) (fun _ _ => ()) () (fun _ _ => True) B (ev_lenT (ev_va B rfl).w0) (by omega) (LeA.refl _) trivial (fun B0 e1 n2 _ k σ1 H1 hx hn hJ B => ?_) (fun _ σ1 H1 hs hJ B => ?_)
        · have hx_f := rng_mem.mp hx
          have B : Bs _ _ _ [.va false (.tuple ds), .va false (.tuple ds), .va true (eI k)] := B
          have hk : k.toNat < ds.length := by omega
          have hm := List.getElem_mem hk
          have h1 : Ev o0 (tOp (rIx K) (tVar 0) (tVar 2)) σ1 H1 ds[k.toNat] := ev_ixAT (ev_va B rfl).w0 (ev_sc B rfl (.int _)) (atI_at hx_f.1 hx_f.2)
          have h2 : Ev o0 (tOp (rIx K) (tVar 1) (tVar 2)) σ1 H1 ds[k.toNat] := ev_ixAT (ev_va B rfl).w0 (ev_sc B rfl (.int _)) (atI_at hx_f.1 hx_f.2)
          refine q_if B (et_not (et_B ((ev_callF (B.live true) (ea_cons h1 (ea_cons h2 ea_nil)) ⟨_, rfl, okDs_mem hok.2 _ hm, Nat.lt_of_le_of_lt (depthAll_mem hm) (by omega), rfl⟩).w0))) (fun hc => by cases hc) (fun _ H1 B => ?_)
          dsimp only [tNext]
          exact ⟨_, rfl, trivial, B.le (.cons (.refl _) (.cons (.refl _) (.cons (.no _) .nil)))⟩
        · exact fin B e0 rfl ev_bl
/-! _law_feed -/
def m__law_feed (ns : List Int) : List (List Int) := (ns.take 63).map fun c => [if c < 0 then -c else c, (0 : Int)]
abbrev s__law_feed : Stmt := topS 13
abbrev N__law_feed : List Str := ["script", "cell"]
theorem sc__law_feed : FnScope N__law_feed ["script"] (defScope s__law_feed) := ⟨rfl, rfl, rfl, by decide +kernel, rfl, by decide +kernel, by decide +kernel⟩
def sp__law_feed (K : PySem.W.Frag) : Sp := fun vs H Q _ => ∃ (a : Addr) (ns : List Int), vs = [.ref a] ∧ SqL K H a (ns.map V.int) ∧ ns.length ≤ 63 ∧ ∀ v H', Ex H H' → Dn (new H H') v (eL (eL eI) (m__law_feed ns)) → Q v H'
theorem bs_0 {N : List Str} {vs : List V} {H : Hp} (hN : vs.length ≤ N.length) : Bs ⟨H, fun a => H a ≠ none, o0⟩ H (L2.start N vs) (List.replicate N.length .no) := by
  have na : ∀ a, ¬ Adr (List.replicate N.length .no) a := Adr_none fun e he f a ds z => by
    have := (List.mem_replicate.mp he).2
    rw [this] at z; cases z
  refine ⟨Ex.refl H, fun _ h => h, live0, fun a h => (na a h).elim, fun i j f1 g a d1 es h1 h2 => (na a ⟨i, f1, d1, h1⟩).elim, by rw [start_len hN]; simp, fun i e he => ?_⟩
  have := (List.mem_replicate.mp (List.mem_of_getElem? he)).2
  subst this; trivial
theorem cut63 {ns : List Int} : cutV (ns.map V.int) none (some 63) = (ns.take 63).map V.int := by
  have h : cutV (ns.map V.int) none (some 63) = cutG (ns.map V.int) none (some 63) := rfl
  rw [h, cutG_to _ (by decide), ← List.map_take]; rfl
theorem ok__law_feed {f : Addr} {fd : FuncData} {k : Nat} (F : Fun K "_law_feed" "_law_feed" s__law_feed f fd) (m_abs : mg "abs" = none) (m_int : mg "int" = none) : FnOk P w K mg base CX0 (k + 1) f fd ["script"] (sp__law_feed K) := by
  refine F.ok sc__law_feed (fun vs H Q E h => ?_) (fun cdv A outer s H vs Q E hr h => ?_)
  · obtain ⟨a, ns, rfl, _⟩ := h; rfl
  · obtain ⟨a, ns, rfl, hS, hl, q⟩ := h
    refine ⟨_, (pss_cons (ps_ret (pe_lc (own := [("cell", 1)]) (g := gName 1) (tt := tYes) rfl sc__law_feed.nd (pi_list (pe_slice (r := rSlL K) sl_list (pv 0) po_none (po_some pe_int))) (blkOk_by (own := [("cell", 1)]) (N := N__law_feed) (sc := defScope s__law_feed) (by decide +kernel)) (fun _ _ _ _ _ => pg_name (i := 1) sc__law_feed.nd rfl (Or.inl rfl)) (fun _ _ _ _ _ => pts_nil) (fun _ _ _ _ _ => pe_lst (pa_cons (pe_callB call_abs (by rfl) m_abs (by decide +kernel) (pa_cons (pe_callTy call_int1 (by rfl) m_int (by decide +kernel) (pa_cons (pv 1) pa_nil)) pa_nil)) (pa_cons pe_int pa_nil))))) pss_nil), ?_⟩
    have B : Bs ⟨H, fun a => H a ≠ none, o0⟩ H (L2.start N__law_feed [.ref a]) [.no, .no] := bs_0 (by show 1 ≤ 2; decide)
    have sl : EvN ((⟨H, fun a => H a ≠ none, o0⟩ : Wd).hd true [.no, .no]) (tSl (rSlL K) (tVar 0) tNoPart (tPart (tC (.int 63)))) (L2.start N__law_feed [.ref a]) H ((ns.take 63).map eI) := fun H1 x Q q => ⟨.ref a, rfl, 63, rfl, a, _, rfl, Evl.ex_l x hS, fun p np => q p _ _ np (Evl.Ex.new np) upd_same (by rw [cut63]; exact .of_ints _)⟩
    refine q_ret (f := true) B ((en_lcM1 (g := true) (em2 := eL eI) (fun c => [if c < 0 then -c else c, (0 : Int)]) B rfl (sl.ev (B.live true)) (by simp; omega) (fun c' x σ1 H1 hx B => ?_)).ev (B.live true)) fun v H1 x hv => q v H1 x (new_of hv)
    exact (en_lstM (em := eI) (xs := [if x < 0 then -x else x, 0]) (ea_cons (ev_abs (ev_intI (ev_sc B rfl (.int _)))) (ea_cons ev_int ea_nil)) (by simp)).ev (B.live true)
theorem en__law_feed {o : Hd} {σ : Sta} {H : Hp} {a : Addr} {ns : List Int} {E : XK} (l : Live o H) (h : σ[0]? = some (some (.ref a))) (hS : SqL K H a (ns.map V.int)) (hl : ns.length ≤ 63) : EvN o (tCall (sp__law_feed K) [] E (tCons (tVar 0) tNil)) σ H ((m__law_feed ns).map (eL eI)) :=
  en_new l fun H1 x Q q => ⟨.ref a, h, a, ns, rfl, Evl.ex_l x hS, hl, fun v H2 e2 hv => q v H2 e2 hv⟩
def m__law_same (_ _ : PyData) : Bool := true
def r__law_same : List PyData → PyData → Prop := fun ds d => ∃ (told_ due_ : PyData), ds = [eD told_, eD due_] ∧ (told_ = due_) ∧ (okD due_ = true) ∧ (due_.depth < 5) ∧ d = eB (m__law_same told_ due_)
theorem same_imp {f : Addr} {fd : FuncData} {k : Nat} (G : FnOk P w K mg base CX0 k f fd ["told", "due"] (SpF (r_same 5))) : FnOk P w K mg base CX0 k f fd ["told", "due"] (SpF r__law_same) :=
  G.imp fun vs H Q E ⟨ds, d, h1, ⟨a, b, e, e2, h3, h4, h5⟩, h6⟩ => ⟨ds, d, h1, ⟨b, by rw [e, e2], h3, h4, h5⟩, h6⟩

theorem okDs_map {α : Type} {em : α → PyData} : ∀ {xs : List α}, (∀ x ∈ xs, okD (em x) = true) → okDs (xs.map em) = true
  | [], _ => rfl
  | x :: xs, h => by
    rw [List.map_cons, okDs, h x (by simp), okDs_map fun y hy => h y (by simp [hy])]; rfl
theorem okL {α : Type} {em : α → PyData} {xs : List α} (hl : xs.length ≤ 100000) (h : ∀ x ∈ xs, okD (em x) = true) : okD (eL em xs) = true := by
  show (decide ((xs.map em).length ≤ 100000) && okDs (xs.map em)) = true
  rw [okDs_map h, List.length_map, decide_eq_true hl]; rfl
theorem okTu {α : Type} {em : α → PyData} {xs : List α} (hl : xs.length ≤ 100000) (h : ∀ x ∈ xs, okD (em x) = true) : okD (eTu em xs) = true := by
  show (decide ((xs.map em).length ≤ 100000) && okDs (xs.map em)) = true
  rw [okDs_map h, List.length_map, decide_eq_true hl]; rfl
theorem okT3 {α β γ : Type} {e1 : α → PyData} {e2 : β → PyData} {e3 : γ → PyData} {x : α × β × γ} (h1 : okD (e1 x.1) = true) (h2 : okD (e2 x.2.1) = true) (h3 : okD (e3 x.2.2) = true) : okD (eT3 e1 e2 e3 x) = true := by
  simp [okD, okDs, h1, h2, h3]
theorem okLs {xs : List Str} (hl : xs.length ≤ 100000) (h : ∀ x ∈ xs, PyData.strOk x = true) : okD (eL eS xs) = true := okL hl h
theorem depLs (xs : List Str) : (eL eS xs).depth < 5 := by have := (emL emS).dep xs; omega

/-! defs called where an error is handled -/
def mH__law_same (_ _ : Int) : Bool := true
def rH__law_same : List PyData → PyData → Prop := fun ds d => ∃ a b : Int, ds = [eI a, eI b] ∧ (a = b) ∧ d = eB (mH__law_same a b)
theorem okH__law_same {f : Addr} {fd : FuncData} {k : Nat} (F : Fun K "_law_same" "_law_same" s__law_same f fd) (m_isinstance : mg "isinstance" = none) (m_list : mg "list" = none) (m_tuple : mg "tuple" = none) (m_int : mg "int" = none) (m_bool : mg "bool" = none) :
    L2H.FnH P w K mg base CX0 (k + 1) f fd ["told", "due"] (SpF rH__law_same) := by
  refine FunokH F sc__law_same (fun vs H Q E h => ?_) (fun cdv A outer s H vs Q E p hp hr h => ?_)
  · obtain ⟨ds, d, hd, ⟨_, _, rfl, _⟩, _⟩ := h
    exact hd.length
  · obtain ⟨ds, d, hd, ⟨i, j, rfl, rfl, rfl⟩, q⟩ := h
    refine ⟨_, pss_cons (ps_if (pt_val (pe_callB (r := rIsiT K) call_isiT (by rfl) m_isinstance (by decide +kernel) (pa_cons (pv 1) (pa_cons (pe_tup (pa_cons (pe_bltn (v := .ty "list") (by rfl) m_list (by decide +kernel) rfl) (pa_cons (pe_bltn (v := .ty "tuple") (by rfl) m_tuple (by decide +kernel) rfl) pa_nil))) pa_nil)))) pss_never pss_nil)
        (pss_cons (ps_if (pt_cmpR op_isN (pv 1) pe_non (nomark _)) pss_never pss_nil)
        (pss_cons (ps_if (pt_val (pe_callB (r := rIsi K) call_isi (by rfl) m_isinstance (by decide +kernel) (pa_cons (pv 1) (pa_cons (pe_bltn (v := .ty "int") (by rfl) m_int (by decide +kernel) rfl) pa_nil))))
          (pss_cons (ps_ret (pe_and (pe_callB (r := rIsi K) call_isi (by rfl) m_isinstance (by decide +kernel) (pa_cons (pv 0) (pa_cons (pe_bltn (v := .ty "int") (by rfl) m_int (by decide +kernel) rfl) pa_nil))) (pe_and (pe_not (pe_callB (r := rIsi K) call_isi (by rfl) m_isinstance (by decide +kernel) (pa_cons (pv 0) (pa_cons (pe_bltn (v := .ty "bool") (by rfl) m_bool (by decide +kernel) rfl) pa_nil)))) (pe_one (pe_cmpR op_eq (pv 0) (pv 1) (nomark _)))))) pss_nil) pss_nil)
        pss_never)), ?_⟩
    have e0 : Ex H H := Ex.refl H
    have B := bs_F hd (N := N__law_same) (by rw [hd.length]; exact Nat.le_of_ble_eq_true rfl)
    have B : Bs _ _ _ [.va false (eI i), .va false (eI i), .no] := B
    have x1 : isA (eI i) "int" = true := by rw [show eI i = .int i from rfl, isA_i]; decide
    have x2 : isA (eI i) "bool" = false := by rw [show eI i = .int i from rfl, isA_i]; decide
    have x3 : (isA (eI i) "list" || isA (eI i) "tuple") = false := by rw [show eI i = .int i from rfl, isA_i, isA_i]; decide
    refine q_if B (et_B (b := false) ((ev_isi2 (by simp) (by simp) (ev_va B rfl).w0).is (by rw [x3]))) (fun hc => by cases hc) (fun _ H1 B => ?_)
    dsimp only [tNext]
    refine q_if B (et_test (ev_isN (ev_va B rfl).w0)) (fun hc => by cases hc) (fun _ H1 B => ?_)
    dsimp only [tNext]
    refine q_if B (et_B (b := true) ((ev_isi (by simp) (ev_va B rfl).w0).is (by rw [x1]))) (fun _ H1 B => ?_) (fun hc => by cases hc)
    refine q_ret (f := true) B (d := .bool true) ((ev_andV ((ev_isi (by simp) (ev_va B rfl).w0)) fun _ => (ev_andV (ev_notV ((ev_isi (by simp) (ev_va B rfl).w0))) fun _ => (ev_eqI (ev_va B rfl).w0 (ev_va B rfl).w0))).is (by rw [x1, x2]; simp)) fun v H2 x hv => q v H2 (e0.trans x) (Dn.sc (.bl _) hv)

end
end K2
namespace K2
open PySem PySem.Spec PyProof.Rows L2 HL
open Evl (Ex)
section
variable {P : Program} {w : World} {K : PySem.W.Frag} {mg : Str → Option Value} {base : Heap}

def m__law_next (cells_ : (List (List Int))) (many_ : Int) : (Int × (List (List Int))) :=
  (if (decide (cells_ = ([]))) = true then ((0 : Int), cells_) else (if ((decide ((getI (getI (setI cells_ (0 : Int) ([(Int.fdiv (getI (getI cells_ (0 : Int)) (0 : Int)) many_), ((getI (getI cells_ (0 : Int)) (1 : Int)) + (1 : Int))])) (0 : Int)) (0 : Int)) = (0 : Int))) || (decide ((getI (getI (setI cells_ (0 : Int) ([(Int.fdiv (getI (getI cells_ (0 : Int)) (0 : Int)) many_), ((getI (getI cells_ (0 : Int)) (1 : Int)) + (1 : Int))])) (0 : Int)) (1 : Int)) = (60 : Int)))) = true then ((Int.fmod (getI (getI cells_ (0 : Int)) (0 : Int)) many_), (setI cells_ (0 : Int) ([(Int.fdiv (getI (getI cells_ (0 : Int)) (0 : Int)) many_), ((getI (getI cells_ (0 : Int)) (1 : Int)) + (1 : Int))])).tail) else ((Int.fmod (getI (getI cells_ (0 : Int)) (0 : Int)) many_), (setI cells_ (0 : Int) ([(Int.fdiv (getI (getI cells_ (0 : Int)) (0 : Int)) many_), ((getI (getI cells_ (0 : Int)) (1 : Int)) + (1 : Int))])))))

abbrev s__law_next : Stmt := topS 14

abbrev N__law_next : List Str := ["cells", "many", "number"]

theorem sc__law_next : FnScope N__law_next ["cells", "many"] (defScope s__law_next) := ⟨rfl, rfl, rfl, by decide +kernel, rfl, by decide +kernel, by decide +kernel⟩

def r__law_next : List PyData → List PyData → PyData → List PyData → Prop := fun ds rs d ds' => ∃ (cells_ : (List (List Int))) (many_ : Int), ds = cells_.map (eL eI) ∧ rs = [eI many_] ∧ (∀ r ∈ cells_, r.length = 2) ∧ (0 < many_) ∧ (many_ < 1000) ∧ d = eI (m__law_next cells_ many_).1 ∧ ds' = (m__law_next cells_ many_).2.map (eL eI)

set_option maxHeartbeats 8000000 in
theorem ok__law_next {f : Addr} {fd : FuncData} {k : Nat} (F : Fun K "_law_next" "_law_next" s__law_next f fd) (m_int : mg "int" = none) : FnOk P w K mg base CX0 (k + 1) f fd ["cells", "many"] (SpM r__law_next) := by
  refine F.ok sc__law_next (fun vs H Q E h => ?_) (fun cdv A outer s H vs Q E hr h => ?_)
  · obtain ⟨oa, xs, vr, o, ds, rs, d, ds', rfl, lo, ho, ha, hxs, hvr, ⟨cells_, many_, rfl, rfl, h1, h2, h3, rfl, rfl⟩, _⟩ := h
    have := hvr.length
    simp at this
    simp [this]
  · obtain ⟨oa, xs, vr, o, ds, rs, d, ds', rfl, lo, ho, ha, hxs, hvr, ⟨cells_, many_, rfl, rfl, h1, h2, h3, rfl, rfl⟩, q⟩ := h
    refine ⟨_, (pss_cons (ps_if (pt_cmpR (r := rEqD K) (op_eqD hr.units) (pv 0) (pe_lst pa_nil) (nomark _)) (pss_cons (ps_ret pe_int) pss_nil) pss_nil) (pss_cons (ps_set (i := 2) sc__law_next.nd rfl (Or.inl rfl) (pe_op op_modN (pe_callTy call_int1 (by rfl) m_int (by decide +kernel) (pa_cons (pe_ix (r := rIxL K) ix_list (pe_ix (r := rIxL K) ix_list (pv 0) pe_int (fun _ _ => rfl)) pe_int (fun _ _ => rfl)) pa_nil)) (pv 1))) (pss_cons (ps_asg (pe_lst (pa_cons (pe_op op_fdivN (pe_ix (r := rIxL K) ix_list (pe_ix (r := rIxL K) ix_list (pv 0) pe_int (fun _ _ => rfl)) pe_int (fun _ _ => rfl)) (pv 1)) (pa_cons (pe_op op_add (pe_ix (r := rIxL K) ix_list (pe_ix (r := rIxL K) ix_list (pv 0) pe_int (fun _ _ => rfl)) pe_int (fun _ _ => rfl)) pe_int) pa_nil))) (pg_sub (pv 0) pe_int set_list)) (pss_cons (ps_if (PW.pt (pw_or (pt_cmpR (op_eq) (pe_ix (r := rIxL K) ix_list (pe_ix (r := rIxL K) ix_list (pv 0) pe_int (fun _ _ => rfl)) pe_int (fun _ _ => rfl)) pe_int (nomark _)) (pw_or1 (pt_cmpR (op_eq) (pe_ix (r := rIxL K) ix_list (pe_ix (r := rIxL K) ix_list (pv 0) pe_int (fun _ _ => rfl)) pe_int (fun _ _ => rfl)) pe_int (nomark _))))) (pss_cons (ps_expr (pe_bm PySem.F.plainAttrs_list PySem.F.slot_list_pop PySem.F.type_list_pop mt_popAt (pv 0) (pa_cons pe_int pa_nil))) pss_nil) pss_nil) (pss_cons (ps_ret (pv 2)) pss_nil))))), ?_⟩
    have B := bs_M (N := N__law_next) lo ho ha hxs hvr (by intro d hd; simp at hd <;> first | (subst hd; constructor) | (rcases hd with hd | hd <;> subst hd <;> constructor)) (by rw [hvr.length]; exact Nat.le_of_ble_eq_true rfl)
    have B : Bs _ _ _ [.ow true oa (cells_.map (eL eI)), .va true (eI many_), .no] := B
    have e0 : Ex (hid (fun b => b = oa) H) (hid (fun b => b = oa) H) := Ex.refl _
    have hk : m__law_next cells_ many_ = (if (decide (cells_ = ([]))) = true then ((0 : Int), cells_) else (if ((decide ((getI (getI (setI cells_ (0 : Int) ([(Int.fdiv (getI (getI cells_ (0 : Int)) (0 : Int)) many_), ((getI (getI cells_ (0 : Int)) (1 : Int)) + (1 : Int))])) (0 : Int)) (0 : Int)) = (0 : Int))) || (decide ((getI (getI (setI cells_ (0 : Int) ([(Int.fdiv (getI (getI cells_ (0 : Int)) (0 : Int)) many_), ((getI (getI cells_ (0 : Int)) (1 : Int)) + (1 : Int))])) (0 : Int)) (1 : Int)) = (60 : Int)))) = true then ((Int.fmod (getI (getI cells_ (0 : Int)) (0 : Int)) many_), (setI cells_ (0 : Int) ([(Int.fdiv (getI (getI cells_ (0 : Int)) (0 : Int)) many_), ((getI (getI cells_ (0 : Int)) (1 : Int)) + (1 : Int))])).tail) else ((Int.fmod (getI (getI cells_ (0 : Int)) (0 : Int)) many_), (setI cells_ (0 : Int) ([(Int.fdiv (getI (getI cells_ (0 : Int)) (0 : Int)) many_), ((getI (getI cells_ (0 : Int)) (1 : Int)) + (1 : Int))]))))) := rfl
    refine q_if B (et_test (ev_eqM (a := cells_) (b := []) (emL (emL emI)) (ev_owM B rfl) ((en_lstM (em := (eL eI)) (xs := []) ea_nil (by simp)).ev live0) (by first | assumption | exact gd_nil | (intros; trivial) | simp_all) (by first | assumption | exact gd_nil | (intros; trivial) | simp_all))) (fun hc1 H1 B => ?_) (fun hc1 H1 B => ?_)
    · rw [if_pos hc1] at hk
      have hc1_f := hc1
      try simp only [Bool.and_eq_true, Bool.or_eq_true, Bool.not_eq_true', Bool.and_eq_false_imp, Bool.or_eq_false_iff, Bool.not_eq_false', decide_eq_true_eq, decide_eq_false_iff_not] at hc1_f
      refine q_retM (i := 0) B rfl ev_int rfl fun v xs' H' hb hp hxs hv => q v xs' H' hb hp ?_ ?_
      · rw [hk]; exact hxs
      · rw [hk]; exact hv
    · rw [if_neg (show ¬ (decide (cells_ = ([]))) = true from by rw [hc1]; exact Bool.false_ne_true)] at hk
      have hc1_f := hc1
      try simp only [Bool.and_eq_true, Bool.or_eq_true, Bool.not_eq_true', Bool.and_eq_false_imp, Bool.or_eq_false_iff, Bool.not_eq_false', decide_eq_true_eq, decide_eq_false_iff_not] at hc1_f
      dsimp only [tNext]
      have hne : cells_ ≠ [] := by simpa using hc1_f
      have h0 : inB cells_ 0 := by unfold inB; have := List.length_pos_iff.mpr hne; omega
      have h00 := h1 _ (getI_mem h0)
      refine q_asg (f := true) B (ev_IC (ev_intI ((ev_ixM (em := eI) (xs := (getI cells_ (0 : Int))) ((ev_ixOM B rfl ev_int (show inB cells_ (0 : Int) from by first | assumption | (unfold inB; first | omega | (simp; omega) | (simp at *; omega)))).w0) ev_int (show inB (getI cells_ (0 : Int)) (0 : Int) from by first | assumption | (unfold inB; first | omega | (simp; omega) | (simp at *; omega)))).sc (.int _))) (ev_sc B rfl (.int _)) (by omega)) fun σ1 H1 B => ?_
      have B : Bs _ _ _ [.ow true oa (cells_.map (eL eI)), .va true (eI many_), .va true (eI (Int.fmod (getI (getI cells_ (0 : Int)) (0 : Int)) many_))] := B
      refine q_setM (f := true) B rfl ((en_lstM (em := eI) (xs := [(Int.fdiv (getI (getI cells_ (0 : Int)) (0 : Int)) many_), ((getI (getI cells_ (0 : Int)) (1 : Int)) + (1 : Int))]) (ea_cons (ev_IC ((ev_ixM (em := eI) (xs := (getI cells_ (0 : Int))) ((ev_ixOM B rfl ev_int (show inB cells_ (0 : Int) from by first | assumption | (unfold inB; first | omega | (simp; omega) | (simp at *; omega)))).w0) ev_int (show inB (getI cells_ (0 : Int)) (0 : Int) from by first | assumption | (unfold inB; first | omega | (simp; omega) | (simp at *; omega)))).sc (.int _)) (ev_sc B rfl (.int _)) ⟨by omega, by omega⟩) (ea_cons (ev_I0 ((ev_ixM (em := eI) (xs := (getI cells_ (0 : Int))) ((ev_ixOM B rfl ev_int (show inB cells_ (0 : Int) from by first | assumption | (unfold inB; first | omega | (simp; omega) | (simp at *; omega)))).w0) ev_int (show inB (getI cells_ (0 : Int)) (1 : Int) from by first | assumption | (unfold inB; first | omega | (simp; omega) | (simp at *; omega)))).sc (.int _)) ev_int) ea_nil)) (by simp)).ev (B.live true)) ev_int (show inB cells_ (0 : Int) from by first | assumption | (unfold inB; first | omega | (simp; omega) | (simp at *; omega))) fun H1 B => ?_
      have B : Bs _ _ _ [.ow true oa ((setI cells_ (0 : Int) ([(Int.fdiv (getI (getI cells_ (0 : Int)) (0 : Int)) many_), ((getI (getI cells_ (0 : Int)) (1 : Int)) + (1 : Int))])).map (eL eI)), .va true (eI many_), .va true (eI (Int.fmod (getI (getI cells_ (0 : Int)) (0 : Int)) many_))] := B
      have hs0 : inB (setI cells_ 0 [(getI (getI cells_ 0) 0).fdiv many_, getI (getI cells_ 0) 1 + 1]) 0 := by unfold inB; rw [setI_len]; exact h0
      have hs1 : (getI (setI cells_ 0 [(getI (getI cells_ 0) 0).fdiv many_, getI (getI cells_ 0) 1 + 1]) 0).length = 2 := by rw [getI_setI h0]; rfl
      have hs2 := hs0.2
      refine q_if B (et_or (et_test (ev_eqI ((ev_ixM (em := eI) (xs := (getI (setI cells_ (0 : Int) ([(Int.fdiv (getI (getI cells_ (0 : Int)) (0 : Int)) many_), ((getI (getI cells_ (0 : Int)) (1 : Int)) + (1 : Int))])) (0 : Int))) ((ev_ixOM B rfl ev_int (show inB (setI cells_ (0 : Int) ([(Int.fdiv (getI (getI cells_ (0 : Int)) (0 : Int)) many_), ((getI (getI cells_ (0 : Int)) (1 : Int)) + (1 : Int))])) (0 : Int) from by first | assumption | (unfold inB; first | omega | (simp; omega) | (simp at *; omega)))).w0) ev_int (show inB (getI (setI cells_ (0 : Int) ([(Int.fdiv (getI (getI cells_ (0 : Int)) (0 : Int)) many_), ((getI (getI cells_ (0 : Int)) (1 : Int)) + (1 : Int))])) (0 : Int)) (0 : Int) from by first | assumption | (unfold inB; first | omega | (simp; omega) | (simp at *; omega)))).sc (.int _)) ev_int)) fun hc => (et_test (ev_eqI ((ev_ixM (em := eI) (xs := (getI (setI cells_ (0 : Int) ([(Int.fdiv (getI (getI cells_ (0 : Int)) (0 : Int)) many_), ((getI (getI cells_ (0 : Int)) (1 : Int)) + (1 : Int))])) (0 : Int))) ((ev_ixOM B rfl ev_int (show inB (setI cells_ (0 : Int) ([(Int.fdiv (getI (getI cells_ (0 : Int)) (0 : Int)) many_), ((getI (getI cells_ (0 : Int)) (1 : Int)) + (1 : Int))])) (0 : Int) from by first | assumption | (unfold inB; first | omega | (simp; omega) | (simp at *; omega)))).w0) ev_int (show inB (getI (setI cells_ (0 : Int) ([(Int.fdiv (getI (getI cells_ (0 : Int)) (0 : Int)) many_), ((getI (getI cells_ (0 : Int)) (1 : Int)) + (1 : Int))])) (0 : Int)) (1 : Int) from by first | assumption | (unfold inB; first | omega | (simp; omega) | (simp at *; omega)))).sc (.int _)) ev_int))) (fun hc2 H1 B => ?_) (fun hc2 H1 B => ?_)
      · rw [if_pos hc2] at hk
        have hc2_f := hc2
        try simp only [Bool.and_eq_true, Bool.or_eq_true, Bool.not_eq_true', Bool.and_eq_false_imp, Bool.or_eq_false_iff, Bool.not_eq_false', decide_eq_true_eq, decide_eq_false_iff_not] at hc2_f
        refine q_popH B rfl ev_int (by omega) fun H1 B => ?_
        have B : Bs _ _ _ [.ow true oa (((setI cells_ (0 : Int) ([(Int.fdiv (getI (getI cells_ (0 : Int)) (0 : Int)) many_), ((getI (getI cells_ (0 : Int)) (1 : Int)) + (1 : Int))])).tail).map (eL eI)), .va true (eI many_), .va true (eI (Int.fmod (getI (getI cells_ (0 : Int)) (0 : Int)) many_))] := B
        dsimp only [tNext]
        refine q_retM (i := 0) B rfl (ev_sc B rfl (.int _)) rfl fun v xs' H' hb hp hxs hv => q v xs' H' hb hp ?_ ?_
        · rw [hk]; exact hxs
        · rw [hk]; exact hv
      · rw [if_neg (show ¬ ((decide ((getI (getI (setI cells_ (0 : Int) ([(Int.fdiv (getI (getI cells_ (0 : Int)) (0 : Int)) many_), ((getI (getI cells_ (0 : Int)) (1 : Int)) + (1 : Int))])) (0 : Int)) (0 : Int)) = (0 : Int))) || (decide ((getI (getI (setI cells_ (0 : Int) ([(Int.fdiv (getI (getI cells_ (0 : Int)) (0 : Int)) many_), ((getI (getI cells_ (0 : Int)) (1 : Int)) + (1 : Int))])) (0 : Int)) (1 : Int)) = (60 : Int)))) = true from by rw [hc2]; exact Bool.false_ne_true)] at hk
        have hc2_f := hc2
        try simp only [Bool.and_eq_true, Bool.or_eq_true, Bool.not_eq_true', Bool.and_eq_false_imp, Bool.or_eq_false_iff, Bool.not_eq_false', decide_eq_true_eq, decide_eq_false_iff_not] at hc2_f
        dsimp only [tNext]
        refine q_retM (i := 0) B rfl (ev_sc B rfl (.int _)) rfl fun v xs' H' hb hp hxs hv => q v xs' H' hb hp ?_ ?_
        · rw [hk]; exact hxs
        · rw [hk]; exact hv

def m__law_menu (place_ : Int) : Str :=
  (getI (([("a" : Str), ("b" : Str), ("" : Str), ("ab" : Str), ("ba" : Str), ("aa" : Str), (" " : Str), ("a " : Str), ("<<<<<<<" : Str), ("=======" : Str), ("|||||||" : Str), (">>>>>>>" : Str)]) ++ ([("-" : Str), ("0" : Str), ("aaaaaaaaaaaaaaaaaaaa" : Str), ("aaaaaaaaaaaaaaaaaaab" : Str)])) (Int.fmod place_ (16 : Int)))

abbrev s__law_menu : Stmt := topS 16

abbrev N__law_menu : List Str := ["place", "lines"]

theorem sc__law_menu : FnScope N__law_menu ["place"] (defScope s__law_menu) := ⟨rfl, rfl, rfl, by decide +kernel, rfl, by decide +kernel, by decide +kernel⟩

def r__law_menu : List PyData → PyData → Prop := fun ds d => ∃ (place_ : Int), ds = [eI place_] ∧ d = eS (m__law_menu place_)

set_option maxHeartbeats 8000000 in
theorem ok__law_menu {f : Addr} {fd : FuncData} {k : Nat} (F : Fun K "_law_menu" "_law_menu" s__law_menu f fd) (m_int : mg "int" = none) : FnOk P w K mg base CX0 (k + 1) f fd ["place"] (SpF r__law_menu) := by
  refine F.ok sc__law_menu (fun vs H Q E h => ?_) (fun cdv A outer s H vs Q E hr h => ?_)
  · obtain ⟨ds, d, hd, ⟨place_, rfl, rfl⟩, _⟩ := h
    exact hd.length
  · obtain ⟨ds, d, hd, ⟨place_, rfl, rfl⟩, q⟩ := h
    refine ⟨_, (pss_cons (ps_set (i := 1) sc__law_menu.nd rfl (Or.inl rfl) (pe_lst (pa_cons pe_str (pa_cons pe_str (pa_cons pe_str (pa_cons pe_str (pa_cons pe_str (pa_cons pe_str (pa_cons pe_str (pa_cons pe_str (pa_cons pe_str (pa_cons pe_str (pa_cons pe_str (pa_cons pe_str pa_nil)))))))))))))) (pss_cons (ps_set (i := 1) sc__law_menu.nd rfl (Or.inl rfl) (pe_op op_cat (pv 1) (pe_lst (pa_cons pe_str (pa_cons pe_str (pa_cons pe_str (pa_cons pe_str pa_nil))))))) (pss_cons (ps_ret (pe_ix (r := rIxL K) ix_list (pv 1) (pe_op op_modN (pe_callTy call_int1 (by rfl) m_int (by decide +kernel) (pa_cons (pv 0) pa_nil)) pe_int) (fun _ _ => rfl))) pss_nil))), ?_⟩
    have e0 : Ex H H := Ex.refl H
    have B := bs_F hd (N := N__law_menu) (by rw [hd.length]; exact Nat.le_of_ble_eq_true rfl)
    have B : Bs _ _ _ [.va false (eI place_), .no] := B
    have B : Bs _ _ _ [.va true (eI place_), .no] := B.le (.cons (.sc (.int _)) (.cons (.refl _) .nil))
    have hk : m__law_menu place_ = (getI (([("a" : Str), ("b" : Str), ("" : Str), ("ab" : Str), ("ba" : Str), ("aa" : Str), (" " : Str), ("a " : Str), ("<<<<<<<" : Str), ("=======" : Str), ("|||||||" : Str), (">>>>>>>" : Str)]) ++ ([("-" : Str), ("0" : Str), ("aaaaaaaaaaaaaaaaaaaa" : Str), ("aaaaaaaaaaaaaaaaaaab" : Str)])) (Int.fmod place_ (16 : Int))) := rfl
    refine q_asg (f := true) B ((en_lstM (em := eS) (xs := [("a" : Str), ("b" : Str), ("" : Str), ("ab" : Str), ("ba" : Str), ("aa" : Str), (" " : Str), ("a " : Str), ("<<<<<<<" : Str), ("=======" : Str), ("|||||||" : Str), (">>>>>>>" : Str)]) (ea_cons ev_str (ea_cons ev_str (ea_cons ev_str (ea_cons ev_str (ea_cons ev_str (ea_cons ev_str (ea_cons ev_str (ea_cons ev_str (ea_cons ev_str (ea_cons ev_str (ea_cons ev_str (ea_cons ev_str ea_nil)))))))))))) (by simp)).ev (B.live true)) fun σ1 H1 B => ?_
    have B : Bs _ _ _ [.va true (eI place_), .va true ((eL eS) ([("a" : Str), ("b" : Str), ("" : Str), ("ab" : Str), ("ba" : Str), ("aa" : Str), (" " : Str), ("a " : Str), ("<<<<<<<" : Str), ("=======" : Str), ("|||||||" : Str), (">>>>>>>" : Str)]))] := B
    refine q_asg (f := true) B (((en_catM ((ev_va B rfl).w0) ((en_lstM (em := eS) (xs := [("-" : Str), ("0" : Str), ("aaaaaaaaaaaaaaaaaaaa" : Str), ("aaaaaaaaaaaaaaaaaaab" : Str)]) (ea_cons ev_str (ea_cons ev_str (ea_cons ev_str (ea_cons ev_str ea_nil)))) (by simp)).ev live0) (by first | omega | (simp; done) | (simp; omega) | exact cutG_le' (by omega) | (simp at *; omega))).scL (fun _ => (.str _))).ev (B.live true)) fun σ1 H1 B => ?_
    have B : Bs _ _ _ [.va true (eI place_), .va true ((eL eS) (([("a" : Str), ("b" : Str), ("" : Str), ("ab" : Str), ("ba" : Str), ("aa" : Str), (" " : Str), ("a " : Str), ("<<<<<<<" : Str), ("=======" : Str), ("|||||||" : Str), (">>>>>>>" : Str)]) ++ ([("-" : Str), ("0" : Str), ("aaaaaaaaaaaaaaaaaaaa" : Str), ("aaaaaaaaaaaaaaaaaaab" : Str)])))] := B
    refine q_ret (f := true) B ((ev_ixM (em := eS) (xs := (([("a" : Str), ("b" : Str), ("" : Str), ("ab" : Str), ("ba" : Str), ("aa" : Str), (" " : Str), ("a " : Str), ("<<<<<<<" : Str), ("=======" : Str), ("|||||||" : Str), (">>>>>>>" : Str)]) ++ ([("-" : Str), ("0" : Str), ("aaaaaaaaaaaaaaaaaaaa" : Str), ("aaaaaaaaaaaaaaaaaaab" : Str)]))) ((ev_va B rfl).w0) (ev_IC (ev_intI (ev_sc B rfl (.int _))) ev_int (by omega)) (show inB (([("a" : Str), ("b" : Str), ("" : Str), ("ab" : Str), ("ba" : Str), ("aa" : Str), (" " : Str), ("a " : Str), ("<<<<<<<" : Str), ("=======" : Str), ("|||||||" : Str), (">>>>>>>" : Str)]) ++ ([("-" : Str), ("0" : Str), ("aaaaaaaaaaaaaaaaaaaa" : Str), ("aaaaaaaaaaaaaaaaaaab" : Str)])) (Int.fmod place_ (16 : Int)) from by first | assumption | (have := fmod_b (x := place_) (m := (16 : Int)) (by omega); unfold inB; first | omega | (simp; omega) | (simp at *; omega)))).sc (.str _)) fun v H1 x hv => q v H1 (e0.trans x) ?_
    rw [hk]; exact Dn.sc (.str _) hv

def m__end (edit_ : (Int × (List Str) × (List Str))) : Int :=
  (edit_.1 + (List.length edit_.2.1 : Int))

abbrev s__end : Stmt := topS 10

abbrev N__end : List Str := ["edit", "place", "removed", "_"]

theorem sc__end : FnScope N__end ["edit"] (defScope s__end) := ⟨rfl, rfl, rfl, by decide +kernel, rfl, by decide +kernel, by decide +kernel⟩

def r__end : List PyData → PyData → Prop := fun ds d => ∃ (edit_ : (Int × (List Str) × (List Str))), ds = [(eT3 eI (eTu eS) (eTu eS)) edit_] ∧ d = eI (m__end edit_)

set_option maxHeartbeats 8000000 in
theorem ok__end {f : Addr} {fd : FuncData} {k : Nat} (F : Fun K "_end" "_end" s__end f fd) (m_len : mg "len" = none) : FnOk P w K mg base CX0 (k + 1) f fd ["edit"] (SpF r__end) := by
  refine F.ok sc__end (fun vs H Q E h => ?_) (fun cdv A outer s H vs Q E hr h => ?_)
  · obtain ⟨ds, d, hd, ⟨edit_, rfl, rfl⟩, _⟩ := h
    exact hd.length
  · obtain ⟨ds, d, hd, ⟨edit_, rfl, rfl⟩, q⟩ := h
    refine ⟨_, (pss_cons (ps_asg (pv 0) (pg_tup rfl (pgs_cons (pg_name (i := 1) sc__end.nd rfl (Or.inl rfl)) (pgs_cons (pg_name (i := 2) sc__end.nd rfl (Or.inl rfl)) (pgs_cons (pg_name (i := 3) sc__end.nd rfl (Or.inl rfl)) pgs_nil))))) (pss_cons (ps_ret (pe_op op_add (pv 1) (pe_callB (r := rLenK K) call_len_seq (by rfl) m_len PySem.boot_len (pa_cons (pv 2) pa_nil)))) pss_nil)), ?_⟩
    have e0 : Ex H H := Ex.refl H
    have B := bs_F hd (N := N__end) (by rw [hd.length]; exact Nat.le_of_ble_eq_true rfl)
    have B : Bs _ _ _ [.va false ((eT3 eI (eTu eS) (eTu eS)) edit_), .no, .no, .no] := B
    have hk : m__end edit_ = (edit_.1 + (List.length edit_.2.1 : Int)) := rfl
    refine q_asgG tgt_tup3 B (x := edit_) (ev_va B rfl) fun σ1 H1 B => ?_
    have B : Bs _ _ _ [.va false ((eT3 eI (eTu eS) (eTu eS)) edit_), .va false (eI edit_.1), .va false ((eTu eS) edit_.2.1), .va false ((eTu eS) edit_.2.2)] := B
    have B : Bs _ _ _ [.va false ((eT3 eI (eTu eS) (eTu eS)) edit_), .va true (eI edit_.1), .va false ((eTu eS) edit_.2.1), .va false ((eTu eS) edit_.2.2)] := B.le (.cons (.refl _) (.cons (.sc (.int _)) (.cons (.refl _) (.cons (.refl _) .nil))))
    refine q_ret (f := true) B (ev_I0 (ev_sc B rfl (.int _)) (ev_lenTu ((ev_va B rfl).w0))) fun v H1 x hv => q v H1 (e0.trans x) ?_
    rw [hk]; exact Dn.sc (.int _) hv

def m__in_order (edits_ : (List (Int × (List Str) × (List Str)))) (at_ : Int) : Bool :=
  (if ((decide (((getI edits_ at_).1) < (0 : Int))) || ((decide ((400 : Int) < ((getI edits_ at_).1))) || (!((!List.isEmpty ((getI edits_ at_).2.1)) || (!List.isEmpty ((getI edits_ at_).2.2)))))) = true then false else ((decide (at_ = (0 : Int))) || (decide ((m__end ((getI edits_ (at_ - (1 : Int))))) ≤ ((getI edits_ at_).1)))))

abbrev s__in_order : Stmt := topS 9

abbrev N__in_order : List Str := ["edits", "at", "place", "removed", "added"]

theorem sc__in_order : FnScope N__in_order ["edits", "at"] (defScope s__in_order) := ⟨rfl, rfl, rfl, by decide +kernel, rfl, by decide +kernel, by decide +kernel⟩

def r__in_order : List PyData → PyData → Prop := fun ds d => ∃ (edits_ : (List (Int × (List Str) × (List Str)))) (at_ : Int), ds = [(eL (eT3 eI (eTu eS) (eTu eS))) edits_, eI at_] ∧ (inB edits_ at_) ∧ (0 ≤ at_) ∧ d = eB (m__in_order edits_ at_)

set_option maxHeartbeats 8000000 in
theorem ok__in_order {f : Addr} {fd : FuncData} {k : Nat} (F : Fun K "_in_order" "_in_order" s__in_order f fd) {f__end : Addr} {fd__end : FuncData} {k__end : Nat} (F__end : Fun K "_end" "_end" s__end f__end fd__end) (b__end : Binds K fd__end ["edit"] []) (g__end : mg "_end" = some (.ref f__end)) (G__end : FnOk P w K mg base CX0 k__end f__end fd__end ["edit"] (SpF r__end)) (k__end_ : k__end ≤ k) {t_LAST_PLACE : _} (c_LAST_PLACE : mg "LAST_PLACE" = some (.int 400 t_LAST_PLACE)) : FnOk P w K mg base CX0 (k + 1) f fd ["edits", "at"] (SpF r__in_order) := by
  refine F.ok sc__in_order (fun vs H Q E h => ?_) (fun cdv A outer s H vs Q E hr h => ?_)
  · obtain ⟨ds, d, hd, ⟨edits_, at_, rfl, h1, h2, rfl⟩, _⟩ := h
    exact hd.length
  · obtain ⟨ds, d, hd, ⟨edits_, at_, rfl, h1, h2, rfl⟩, q⟩ := h
    refine ⟨_, (pss_cons (ps_asg (pe_ix (r := rIxL K) ix_list (pv 0) (pv 1) (fun _ _ => rfl)) (pg_tup rfl (pgs_cons (pg_name (i := 2) sc__in_order.nd rfl (Or.inl rfl)) (pgs_cons (pg_name (i := 3) sc__in_order.nd rfl (Or.inl rfl)) (pgs_cons (pg_name (i := 4) sc__in_order.nd rfl (Or.inl rfl)) pgs_nil))))) (pss_cons (ps_if (PW.pt (pw_or (pt_cmpR (op_lt) (pv 2) pe_int (nomark _)) (pw_or (pt_cmpR (op_gt) (pv 2) (pe_glob (v := .int 400) rfl c_LAST_PLACE ⟨_, rfl⟩) (nomark _)) (pw_or1 (pt_not (PW.pt (pw_or (pt_truth (pv 3) (by intro _; rfl)) (pw_or1 (pt_truth (pv 4) (by intro _; rfl)))))))))) (pss_cons (ps_ret pe_bl) pss_nil) pss_nil) (pss_cons (ps_ret (pe_or (pe_cmpR (op_eq) (pv 1) pe_int (nomark _)) (pe_one (pe_cmpR (op_ge) (pv 2) (pe_call G__end (hr.mono k__end_) (by rfl) g__end F__end.kp b__end .nil pass0 (pa_cons (pe_ix (r := rIxL K) ix_list (pv 0) (pe_op op_sub (pv 1) pe_int) (fun _ _ => rfl)) pa_nil)) (nomark _))))) pss_nil))), ?_⟩
    have e0 : Ex H H := Ex.refl H
    have B := bs_F hd (N := N__in_order) (by rw [hd.length]; exact Nat.le_of_ble_eq_true rfl)
    have B : Bs _ _ _ [.va false ((eL (eT3 eI (eTu eS) (eTu eS))) edits_), .va false (eI at_), .no, .no, .no] := B
    have B : Bs _ _ _ [.va false ((eL (eT3 eI (eTu eS) (eTu eS))) edits_), .va true (eI at_), .no, .no, .no] := B.le (.cons (.refl _) (.cons (.sc (.int _)) (.cons (.refl _) (.cons (.refl _) (.cons (.refl _) .nil)))))
    have hk : m__in_order edits_ at_ = (if ((decide (((getI edits_ at_).1) < (0 : Int))) || ((decide ((400 : Int) < ((getI edits_ at_).1))) || (!((!List.isEmpty ((getI edits_ at_).2.1)) || (!List.isEmpty ((getI edits_ at_).2.2)))))) = true then false else ((decide (at_ = (0 : Int))) || (decide ((m__end ((getI edits_ (at_ - (1 : Int))))) ≤ ((getI edits_ at_).1))))) := rfl
    refine q_asgG tgt_tup3 B (x := (getI edits_ at_)) (ev_ixM (em := (eT3 eI (eTu eS) (eTu eS))) (xs := edits_) (ev_va B rfl) (ev_sc B rfl (.int _)) (show inB edits_ at_ from by first | assumption | (unfold inB; (unfold inB at h1; have := of_decide_eq_false hc; omega)))) fun σ1 H1 B => ?_
    have B : Bs _ _ _ [.va false ((eL (eT3 eI (eTu eS) (eTu eS))) edits_), .va true (eI at_), .va false (eI ((getI edits_ at_).1)), .va false ((eTu eS) ((getI edits_ at_).2.1)), .va false ((eTu eS) ((getI edits_ at_).2.2))] := B
    have B : Bs _ _ _ [.va false ((eL (eT3 eI (eTu eS) (eTu eS))) edits_), .va true (eI at_), .va true (eI ((getI edits_ at_).1)), .va false ((eTu eS) ((getI edits_ at_).2.1)), .va false ((eTu eS) ((getI edits_ at_).2.2))] := B.le (.cons (.refl _) (.cons (.refl _) (.cons (.sc (.int _)) (.cons (.refl _) (.cons (.refl _) .nil)))))
    refine q_if B (et_or (et_test (ev_B0 (ev_sc B rfl (.int _)) ev_int)) fun hc => (et_or (et_test (ev_B0 (ev_sc B rfl (.int _)) ev_int)) fun hc => (et_not (et_or (et_truthTu (K := K) ((ev_va B rfl).w0)) fun hc => (et_truthTu (K := K) ((ev_va B rfl).w0)))))) (fun hc3 H1 B => ?_) (fun hc3 H1 B => ?_)
    · rw [if_pos hc3] at hk
      have hc3_f := hc3
      try simp only [Bool.and_eq_true, Bool.or_eq_true, Bool.not_eq_true', Bool.and_eq_false_imp, Bool.or_eq_false_iff, Bool.not_eq_false', decide_eq_true_eq, decide_eq_false_iff_not] at hc3_f
      refine q_ret (f := true) B ev_bl fun v H1 x hv => q v H1 (e0.trans x) ?_
      rw [hk]; exact Dn.sc (.bl _) hv
    · rw [if_neg (show ¬ ((decide (((getI edits_ at_).1) < (0 : Int))) || ((decide ((400 : Int) < ((getI edits_ at_).1))) || (!((!List.isEmpty ((getI edits_ at_).2.1)) || (!List.isEmpty ((getI edits_ at_).2.2)))))) = true from by rw [hc3]; exact Bool.false_ne_true)] at hk
      have hc3_f := hc3
      try simp only [Bool.and_eq_true, Bool.or_eq_true, Bool.not_eq_true', Bool.and_eq_false_imp, Bool.or_eq_false_iff, Bool.not_eq_false', decide_eq_true_eq, decide_eq_false_iff_not] at hc3_f
      dsimp only [tNext]
      refine q_ret (f := true) B (ev_orV (ev_eqI (ev_sc B rfl (.int _)) ev_int) fun hc => (ev_B0 (ev_sc B rfl (.int _)) ((ev_callF (B.live true) (ea_cons (ev_ixM (em := (eT3 eI (eTu eS) (eTu eS))) (xs := edits_) ((ev_va B rfl).w0) (ev_I0 (ev_sc B rfl (.int _)) ev_int) (show inB edits_ (at_ - (1 : Int)) from by first | assumption | (unfold inB; (unfold inB at h1; have := of_decide_eq_false hc; omega)))) ea_nil) ⟨(getI edits_ (at_ - (1 : Int))), rfl, rfl⟩).sc (.int _)))) fun v H1 x hv => q v H1 (e0.trans x) ?_
      rw [hk]; exact Dn.sc (.bl _) hv

def m__stands_in (old_ : (List Str)) (edit_ : (Int × (List Str) × (List Str))) : Bool :=
  ((decide (edit_.1 ≤ (List.length old_ : Int))) && (decide ((cutG old_ (some edit_.1) (some (m__end (edit_)))) = edit_.2.1)))

theorem cutG_mem {α : Type} {xs : List α} {lo hi : Option Int} {x : α} (h : x ∈ cutG xs lo hi) : x ∈ xs := by
  unfold cutG at h
  exact List.mem_of_mem_drop (List.mem_of_mem_take h)

abbrev s__stands_in : Stmt := topS 11

abbrev N__stands_in : List Str := ["old", "edit", "place", "removed", "_"]

theorem sc__stands_in : FnScope N__stands_in ["old", "edit"] (defScope s__stands_in) := ⟨rfl, rfl, rfl, by decide +kernel, rfl, by decide +kernel, by decide +kernel⟩

def r__stands_in : List PyData → PyData → Prop := fun ds d => ∃ (old_ : (List Str)) (edit_ : (Int × (List Str) × (List Str))), ds = [(eL eS) old_, (eT3 eI (eTu eS) (eTu eS)) edit_] ∧ (∀ x ∈ old_, PyData.strOk x = true) ∧ (∀ x ∈ edit_.2.1, PyData.strOk x = true) ∧ d = eB (m__stands_in old_ edit_)

set_option maxHeartbeats 8000000 in
theorem ok__stands_in {f : Addr} {fd : FuncData} {k : Nat} (F : Fun K "_stands_in" "_stands_in" s__stands_in f fd) {f__end : Addr} {fd__end : FuncData} {k__end : Nat} (F__end : Fun K "_end" "_end" s__end f__end fd__end) (b__end : Binds K fd__end ["edit"] []) (g__end : mg "_end" = some (.ref f__end)) (G__end : FnOk P w K mg base CX0 k__end f__end fd__end ["edit"] (SpF r__end)) (k__end_ : k__end ≤ k) (m_len : mg "len" = none) (m_tuple : mg "tuple" = none) : FnOk P w K mg base CX0 (k + 1) f fd ["old", "edit"] (SpF r__stands_in) := by
  refine F.ok sc__stands_in (fun vs H Q E h => ?_) (fun cdv A outer s H vs Q E hr h => ?_)
  · obtain ⟨ds, d, hd, ⟨old_, edit_, rfl, h1, h2, rfl⟩, _⟩ := h
    exact hd.length
  · obtain ⟨ds, d, hd, ⟨old_, edit_, rfl, h1, h2, rfl⟩, q⟩ := h
    refine ⟨_, (pss_cons (ps_asg (pv 1) (pg_tup rfl (pgs_cons (pg_name (i := 2) sc__stands_in.nd rfl (Or.inl rfl)) (pgs_cons (pg_name (i := 3) sc__stands_in.nd rfl (Or.inl rfl)) (pgs_cons (pg_name (i := 4) sc__stands_in.nd rfl (Or.inl rfl)) pgs_nil))))) (pss_cons (ps_ret (pe_and (pe_cmpR (op_le) (pv 2) (pe_callB (r := rLenK K) call_len_seq (by rfl) m_len PySem.boot_len (pa_cons (pv 0) pa_nil)) (nomark _)) (pe_one (pe_cmpR (r := rEqD K) (op_eqD hr.units) (pe_callTy (r := rTupOfK K) call_tuple_of (by rfl) m_tuple (by decide +kernel) (pa_cons (pe_slice (r := rSlL K) sl_list (pv 0) (po_some (pv 2)) (po_some (pe_call G__end (hr.mono k__end_) (by rfl) g__end F__end.kp b__end .nil pass0 (pa_cons (pv 1) pa_nil)))) pa_nil)) (pv 3) (nomark _))))) pss_nil)), ?_⟩
    have e0 : Ex H H := Ex.refl H
    have B := bs_F hd (N := N__stands_in) (by rw [hd.length]; exact Nat.le_of_ble_eq_true rfl)
    have B : Bs _ _ _ [.va false ((eL eS) old_), .va false ((eT3 eI (eTu eS) (eTu eS)) edit_), .no, .no, .no] := B
    have hk : m__stands_in old_ edit_ = ((decide (edit_.1 ≤ (List.length old_ : Int))) && (decide ((cutG old_ (some edit_.1) (some (m__end (edit_)))) = edit_.2.1))) := rfl
    refine q_asgG tgt_tup3 B (x := edit_) (ev_va B rfl) fun σ1 H1 B => ?_
    have B : Bs _ _ _ [.va false ((eL eS) old_), .va false ((eT3 eI (eTu eS) (eTu eS)) edit_), .va false (eI edit_.1), .va false ((eTu eS) edit_.2.1), .va false ((eTu eS) edit_.2.2)] := B
    have B : Bs _ _ _ [.va false ((eL eS) old_), .va false ((eT3 eI (eTu eS) (eTu eS)) edit_), .va true (eI edit_.1), .va false ((eTu eS) edit_.2.1), .va false ((eTu eS) edit_.2.2)] := B.le (.cons (.refl _) (.cons (.refl _) (.cons (.sc (.int _)) (.cons (.refl _) (.cons (.refl _) .nil)))))
    refine q_ret (f := true) B (ev_andV (ev_B0 (ev_sc B rfl (.int _)) (ev_lenM ((ev_va B rfl).w0))) fun hc => (ev_eqM (a := (cutG old_ (some edit_.1) (some (m__end (edit_))))) (b := edit_.2.1) (emTu emS) (ev_tupM live0 (((en_slM ((ev_va B rfl).w0) (eo_some (ev_sc B rfl (.int _))) (eo_some ((ev_callF (B.live true) (ea_cons ((ev_va B rfl).w0) ea_nil) ⟨edit_, rfl, rfl⟩).sc (.int _)))).scL (fun _ => (.str _))).ev live0)) ((ev_va B rfl).w0) (fun x hx => h1 x (cutG_mem hx)) h2)) fun v H1 x hv => q v H1 (e0.trans x) ?_
    rw [hk]; exact Dn.sc (.bl _) hv

def l_apply_edits_1 (old_ : (List Str)) (edits_ : (List (Int × (List Str) × (List Str)))) (s : Unit) (p_t1 : (Int × (Int × (List Str) × (List Str)))) : (Unit) ⊕ (Int ⊕ (List Str)) :=
  match s with
  | () => (if (!((m__in_order (edits_) (p_t1.1)) && (m__stands_in (old_) (p_t1.2)))) = true then (.inr (.inl p_t1.1)) else (.inl ()))

def l_apply_edits_2 (old_ : (List Str)) (s : (List Str) × Int) (p_t2 : (Int × (List Str) × (List Str))) : (List Str) × Int :=
  match s with
  | (lines_2, start_2) => (((lines_2 ++ (cutG old_ (some start_2) (some p_t2.1))) ++ p_t2.2.2), (p_t2.1 + (List.length p_t2.2.1 : Int)))

def m_apply_edits (old_ : (List Str)) (edits_ : (List (Int × (List Str) × (List Str)))) : (Int ⊕ (List Str)) :=
  (match (loopE (l_apply_edits_1 old_ edits_) (enumI edits_) ()) with | .inl _ => (match (List.foldl (l_apply_edits_2 old_) ([], (0 : Int)) edits_) with | (lines_r2, start_r2) => (.inr (lines_r2 ++ (cutG old_ (some start_r2) none)))) | .inr r => r)

abbrev s_apply_edits : Stmt := topS 7

abbrev N_apply_edits : List Str := ["old", "edits", "at", "edit", "lines", "start", "place", "removed", "added"]

theorem sc_apply_edits : FnScope N_apply_edits ["old", "edits"] (defScope s_apply_edits) := ⟨rfl, rfl, rfl, by decide +kernel, rfl, by decide +kernel, by decide +kernel⟩

def r_apply_edits : List PyData → V ⊕ PyData → Prop := fun ds o => ∃ (old_ : (List Str)) (edits_ : (List (Int × (List Str) × (List Str)))), ds = [(eL eS) old_, (eL (eT3 eI (eTu eS) (eTu eS))) edits_] ∧ (old_.length ≤ 1000) ∧ (edits_.length ≤ 20) ∧ (∀ e ∈ edits_, e.2.2.length ≤ 1000) ∧ (∀ x ∈ old_, PyData.strOk x = true) ∧ (∀ e ∈ edits_, ∀ x ∈ e.2.1, PyData.strOk x = true) ∧ o = (match m_apply_edits old_ edits_ with | .inl e => .inl (.int e) | .inr r => .inr ((eL eS) r))

set_option maxHeartbeats 8000000 in
theorem ok_apply_edits {f : Addr} {fd : FuncData} {k : Nat} (F : Fun K "apply_edits" "apply_edits" s_apply_edits f fd) {C_BadEdit fI_BadEdit : Addr} {qi_BadEdit : Str} (T_BadEdit : Erplace.Fx K mg "BadEdit" qi_BadEdit C_BadEdit fI_BadEdit) {f__in_order : Addr} {fd__in_order : FuncData} {k__in_order : Nat} (F__in_order : Fun K "_in_order" "_in_order" s__in_order f__in_order fd__in_order) (b__in_order : Binds K fd__in_order ["edits", "at"] []) (g__in_order : mg "_in_order" = some (.ref f__in_order)) (G__in_order : FnOk P w K mg base CX0 k__in_order f__in_order fd__in_order ["edits", "at"] (SpF r__in_order)) (k__in_order_ : k__in_order ≤ k) {f__stands_in : Addr} {fd__stands_in : FuncData} {k__stands_in : Nat} (F__stands_in : Fun K "_stands_in" "_stands_in" s__stands_in f__stands_in fd__stands_in) (b__stands_in : Binds K fd__stands_in ["old", "edit"] []) (g__stands_in : mg "_stands_in" = some (.ref f__stands_in)) (G__stands_in : FnOk P w K mg base CX0 k__stands_in f__stands_in fd__stands_in ["old", "edit"] (SpF r__stands_in)) (k__stands_in_ : k__stands_in ≤ k) (m_enumerate : mg "enumerate" = none) (m_len : mg "len" = none) : FnOk P w K mg base (L2N.CX P w) (k + 1) f fd ["old", "edits"] (SpXplace C_BadEdit r_apply_edits) := by
  refine FunokN F sc_apply_edits (fun vs H Q E h => ?_) (fun cdv A outer s H vs Q E hr h => ?_)
  · obtain ⟨ds, o, hd, ⟨old_, edits_, rfl, h1, h2, h3, h4, h5, rfl⟩, _⟩ := h
    exact hd.length
  · obtain ⟨ds, o, hd, ⟨old_, edits_, rfl, h1, h2, h3, h4, h5, rfl⟩, qR, qE⟩ := h
    refine ⟨_, (pss_cons (ps_for (passes_of rfl) rfl (pi_enum (by rfl) m_enumerate (pa_cons (pv 1) pa_nil)) (pg_tup rfl (pgs_cons (pg_name (i := 2) sc_apply_edits.nd rfl (Or.inl rfl)) (pgs_cons (pg_name (i := 3) sc_apply_edits.nd rfl (Or.inl rfl)) pgs_nil))) (pss_cons (ps_if (pt_not (PW.pt (pw_and (pt_val (pe_call G__in_order (hr.mono k__in_order_) (by rfl) g__in_order F__in_order.kp b__in_order .nil pass0 (pa_cons (pv 1) (pa_cons (pv 2) pa_nil)))) (pw_and1 (pt_val (pe_call G__stands_in (hr.mono k__stands_in_) (by rfl) g__stands_in F__stands_in.kp b__stands_in .nil pass0 (pa_cons (pv 0) (pa_cons (pv 3) pa_nil)))))))) (pss_cons (ra_place rfl T_BadEdit (hr.mono (Nat.le_refl _)) (L2N.takes_of rfl rfl rfl rfl) (pa_cons (pv 2) pa_nil) (by rfl) (by decide)) pss_nil) pss_nil) pss_nil)) (pss_cons (ps_set (i := 4) sc_apply_edits.nd rfl (Or.inl rfl) (pe_lst pa_nil)) (pss_cons (ps_set (i := 5) sc_apply_edits.nd rfl (Or.inl rfl) pe_int) (pss_cons (ps_for (passes_of rfl) rfl (pi_list (pv 1)) (pg_tup rfl (pgs_cons (pg_name (i := 6) sc_apply_edits.nd rfl (Or.inl rfl)) (pgs_cons (pg_name (i := 7) sc_apply_edits.nd rfl (Or.inl rfl)) (pgs_cons (pg_name (i := 8) sc_apply_edits.nd rfl (Or.inl rfl)) pgs_nil)))) (pss_cons (ps_expr (pe_bm PySem.F.plainAttrs_list PySem.F.slot_list_extend PySem.F.type_list_extend mt_extend (pv 4) (pa_cons (pe_slice (r := rSlL K) sl_list (pv 0) (po_some (pv 5)) (po_some (pv 6))) pa_nil))) (pss_cons (ps_expr (pe_bm PySem.F.plainAttrs_list PySem.F.slot_list_extend PySem.F.type_list_extend mt_extT (pv 4) (pa_cons (pv 8) pa_nil))) (pss_cons (ps_set (i := 5) sc_apply_edits.nd rfl (Or.inl rfl) (pe_op op_add (pv 6) (pe_callB (r := rLenK K) call_len_seq (by rfl) m_len PySem.boot_len (pa_cons (pv 7) pa_nil)))) pss_nil)))) (pss_cons (ps_expr (pe_bm PySem.F.plainAttrs_list PySem.F.slot_list_extend PySem.F.type_list_extend mt_extend (pv 4) (pa_cons (pe_slice (r := rSlL K) sl_list (pv 0) (po_some (pv 5)) po_none) pa_nil))) (pss_cons (ps_ret (pv 4)) pss_nil)))))), ?_⟩
    have e0 : Ex H H := Ex.refl H
    have B := bs_F hd (N := N_apply_edits) (by rw [hd.length]; exact Nat.le_of_ble_eq_true rfl)
    have B : Bs _ _ _ [.va false ((eL eS) old_), .va false ((eL (eT3 eI (eTu eS) (eTu eS))) edits_), .no, .no, .no, .no, .no, .no, .no] := B
    have hk : m_apply_edits old_ edits_ = (match (loopE (l_apply_edits_1 old_ edits_) (enumI edits_) ()) with | .inl _ => (match (List.foldl (l_apply_edits_2 old_) ([], (0 : Int)) edits_) with | (lines_r2, start_r2) => (.inr (lines_r2 ++ (cutG old_ (some start_r2) none)))) | .inr r => r) := rfl
    refine q_exitEN (fun (s : Unit) => [.va false ((eL eS) old_), .va false ((eL (eT3 eI (eTu eS) (eTu eS))) edits_), .no, .no, .no, .no, .no, .no, .no]) (l_apply_edits_1 old_ edits_) () (fun _ _ => True) B (ev_va B rfl) (.cons (.refl _) (.cons (.refl _) (.cons (.no _) (.cons (.no _) (.cons (.no _) (.cons (.no _) (.cons (.no _) (.cons (.no _) (.cons (.no _) .nil))))))))) trivial (fun B0 e1 n s p_t1 σ1 H1 hx hxn hn hE hJ B => ?_) (fun s σ1 H1 hs hJ B => ?_)
    · skip
      have B : Bs _ _ _ [.va false ((eL eS) old_), .va false ((eL (eT3 eI (eTu eS) (eTu eS))) edits_), .va true (eI p_t1.1), .va false ((eT3 eI (eTu eS) (eTu eS)) p_t1.2), .no, .no, .no, .no, .no] := B
      try simp only [List.length_reverse, rng_len, List.length_map] at hn
      have e0 := e0.trans e1
      have hk1 : l_apply_edits_1 old_ edits_ () p_t1 = (if (!((m__in_order (edits_) (p_t1.1)) && (m__stands_in (old_) (p_t1.2)))) = true then (.inr (.inl p_t1.1)) else (.inl ())) := rfl
      have hin : inB edits_ p_t1.1 := by unfold inB; omega
      have hp0 : 0 ≤ p_t1.1 := by omega
      refine q_if B (et_not (et_and (et_B ((ev_callF (B.live true) (ea_cons ((ev_va B rfl).w0) (ea_cons (ev_sc B rfl (.int _)) ea_nil)) ⟨edits_, p_t1.1, rfl, by first | assumption | omega | (simp at *; omega), by first | assumption | omega | (simp at *; omega), rfl⟩).sc (.bl _))) fun hc => (et_B ((ev_callF (B.live true) (ea_cons ((ev_va B rfl).w0) (ea_cons ((ev_va B rfl).w0) ea_nil)) ⟨old_, p_t1.2, rfl, h4, h5 _ (List.mem_of_getElem? hx), rfl⟩).sc (.bl _))))) (fun hc4 H1 B => ?_) (fun hc4 H1 B => ?_)
      · rw [if_pos hc4] at hk1
        have hc4_f := hc4
        try simp only [Bool.and_eq_true, Bool.or_eq_true, Bool.not_eq_true', Bool.and_eq_false_imp, Bool.or_eq_false_iff, Bool.not_eq_false', decide_eq_true_eq, decide_eq_false_iff_not] at hc4_f
        have hz := hE _ hk1
        rw [hz] at hk
        try dsimp only at hk
        refine qr_place B (ev_sc B rfl (.int _)) (.int _) fun dd H1 x hd => qE _ ?_ dd H1 (e0.trans x) hd
        rw [hk] <;> rfl
      · rw [if_neg (show ¬ (!((m__in_order (edits_) (p_t1.1)) && (m__stands_in (old_) (p_t1.2)))) = true from by rw [hc4]; exact Bool.false_ne_true)] at hk1
        have hc4_f := hc4
        try simp only [Bool.and_eq_true, Bool.or_eq_true, Bool.not_eq_true', Bool.and_eq_false_imp, Bool.or_eq_false_iff, Bool.not_eq_false', decide_eq_true_eq, decide_eq_false_iff_not] at hc4_f
        exact ⟨_, hk1, trivial, B.le (.cons (.refl _) (.cons (.refl _) (.cons (.no _) (.cons (.no _) (.cons (.no _) (.cons (.no _) (.cons (.no _) (.cons (.no _) (.cons (.no _) .nil)))))))))⟩
    · rw [hs] at hk
      try simp only [List.length_reverse, rng_len, List.length_map] at hJ
      try dsimp only at hk
      have B : Bs _ _ _ [.va false ((eL eS) old_), .va false ((eL (eT3 eI (eTu eS) (eTu eS))) edits_), .no, .no, .no, .no, .no, .no, .no] := B
      refine q_asgN (f := true) B (en_lstM (em := eS) (xs := []) ea_nil (by simp)) fun a6 σ1 H1 B => ?_
      have B : Bs _ _ _ [.va false ((eL eS) old_), .va false ((eL (eT3 eI (eTu eS) (eTu eS))) edits_), .no, .no, .ow true a6 (([]).map eS), .no, .no, .no, .no] := B
      refine q_asg (f := true) B ev_int fun σ1 H1 B => ?_
      have B : Bs _ _ _ [.va false ((eL eS) old_), .va false ((eL (eT3 eI (eTu eS) (eTu eS))) edits_), .no, .no, .ow true a6 (([]).map eS), .va true (eI (0 : Int)), .no, .no, .no] := B
      refine q_foldLG tgt_tup3 (fun (s : (List Str) × Int) => [.va false ((eL eS) old_), .va false ((eL (eT3 eI (eTu eS) (eTu eS))) edits_), .no, .no, .ow true a6 (s.1.map eS), .va true (eI s.2), .no, .no, .no]) (l_apply_edits_2 old_) ([], (0 : Int)) (fun n s => s.1.length ≤ n * 2000) B (ev_va B rfl) (.cons (.refl _) (.cons (.refl _) (.cons (.no _) (.cons (.no _) (.cons (.refl _) (.cons (.refl _) (.cons (.no _) (.cons (.no _) (.cons (.no _) .nil))))))))) (by simp) (fun B0 e1 n s p_t2 σ1 H1 hx hn hJ B => ?_) (fun s σ1 H1 hs hJ B => ?_)
      · rcases s with ⟨lines_2, start_2⟩
        have B : Bs _ _ _ [.va false ((eL eS) old_), .va false ((eL (eT3 eI (eTu eS) (eTu eS))) edits_), .no, .no, .ow true a6 (lines_2.map eS), .va true (eI start_2), .va false (eI p_t2.1), .va false ((eTu eS) p_t2.2.1), .va false ((eTu eS) p_t2.2.2)] := B
        have B : Bs _ _ _ [.va false ((eL eS) old_), .va false ((eL (eT3 eI (eTu eS) (eTu eS))) edits_), .no, .no, .ow true a6 (lines_2.map eS), .va true (eI start_2), .va true (eI p_t2.1), .va false ((eTu eS) p_t2.2.1), .va false ((eTu eS) p_t2.2.2)] := B.le (.cons (.refl _) (.cons (.refl _) (.cons (.refl _) (.cons (.refl _) (.cons (.refl _) (.cons (.refl _) (.cons (.sc (.int _)) (.cons (.refl _) (.cons (.refl _) .nil)))))))))
        try simp only [List.length_reverse, rng_len, List.length_map] at hn
        have e0 := e0.trans e1
        have hk2 : l_apply_edits_2 old_ (lines_2, start_2) p_t2 = (((lines_2 ++ (cutG old_ (some start_2) (some p_t2.1))) ++ p_t2.2.2), (p_t2.1 + (List.length p_t2.2.1 : Int))) := rfl
        simp only at hJ
        have a3 := h3 _ hx
        have a1 := cutG_le old_ (some start_2) (some p_t2.1)
        refine q_extL0 (f := true) (xs := lines_2) (ys := (cutG old_ (some start_2) (some p_t2.1))) (fun _ => (.str _)) B rfl (((en_slM ((ev_va B rfl).w0) (eo_some (ev_sc B rfl (.int _))) (eo_some (ev_sc B rfl (.int _)))).scL (fun _ => (.str _))).ev live0) (by (try simp only [List.length_append]); omega) fun H1 B => ?_
        have B : Bs _ _ _ [.va false ((eL eS) old_), .va false ((eL (eT3 eI (eTu eS) (eTu eS))) edits_), .no, .no, .ow true a6 ((lines_2 ++ (cutG old_ (some start_2) (some p_t2.1))).map eS), .va true (eI start_2), .va true (eI p_t2.1), .va false ((eTu eS) p_t2.2.1), .va false ((eTu eS) p_t2.2.2)] := B
        refine q_extT0 (f := true) (xs := (lines_2 ++ (cutG old_ (some start_2) (some p_t2.1)))) (ys := p_t2.2.2) (fun _ => (.str _)) B rfl ((ev_va B rfl).w0) (by (try simp only [List.length_append]); omega) fun H1 B => ?_
        have B : Bs _ _ _ [.va false ((eL eS) old_), .va false ((eL (eT3 eI (eTu eS) (eTu eS))) edits_), .no, .no, .ow true a6 (((lines_2 ++ (cutG old_ (some start_2) (some p_t2.1))) ++ p_t2.2.2).map eS), .va true (eI start_2), .va true (eI p_t2.1), .va false ((eTu eS) p_t2.2.1), .va false ((eTu eS) p_t2.2.2)] := B
        refine q_asg (f := true) B (ev_I0 (ev_sc B rfl (.int _)) (ev_lenTu ((ev_va B rfl).w0))) fun σ1 H1 B => ?_
        have B : Bs _ _ _ [.va false ((eL eS) old_), .va false ((eL (eT3 eI (eTu eS) (eTu eS))) edits_), .no, .no, .ow true a6 (((lines_2 ++ (cutG old_ (some start_2) (some p_t2.1))) ++ p_t2.2.2).map eS), .va true (eI (p_t2.1 + (List.length p_t2.2.1 : Int))), .va true (eI p_t2.1), .va false ((eTu eS) p_t2.2.1), .va false ((eTu eS) p_t2.2.2)] := B
        exact ⟨_, hk2.symm, (by simp only [List.length_append]; have := cutG_le old_ (some start_2) (some p_t2.1); have := h3 _ hx; omega), B.le (.cons (.refl _) (.cons (.refl _) (.cons (.no _) (.cons (.no _) (.cons (.refl _) (.cons (.refl _) (.cons (.no _) (.cons (.no _) (.cons (.no _) .nil)))))))))⟩
      · rw [← hs] at hk
        try simp only [List.length_reverse, rng_len, List.length_map] at hJ
        obtain ⟨lines_r2, start_r2⟩ := s
        try dsimp only at hk
        have B : Bs _ _ _ [.va false ((eL eS) old_), .va false ((eL (eT3 eI (eTu eS) (eTu eS))) edits_), .no, .no, .ow true a6 (lines_r2.map eS), .va true (eI start_r2), .no, .no, .no] := B
        simp only at hJ
        have a1 := cutG_le old_ (some start_r2) none
        refine q_extL0 (f := true) (xs := lines_r2) (ys := (cutG old_ (some start_r2) none)) (fun _ => (.str _)) B rfl (((en_slM ((ev_va B rfl).w0) (eo_some (ev_sc B rfl (.int _))) eo_none).scL (fun _ => (.str _))).ev live0) (by (try simp only [List.length_append]); omega) fun H1 B => ?_
        have B : Bs _ _ _ [.va false ((eL eS) old_), .va false ((eL (eT3 eI (eTu eS) (eTu eS))) edits_), .no, .no, .ow true a6 ((lines_r2 ++ (cutG old_ (some start_r2) none)).map eS), .va true (eI start_r2), .no, .no, .no] := B
        have B := B.le (δ' := [.va false ((eL eS) old_), .va false ((eL (eT3 eI (eTu eS) (eTu eS))) edits_), .no, .no, .va true ((eL eS) (lines_r2 ++ (cutG old_ (some start_r2) none))), .va true (eI start_r2), .no, .no, .no]) (.cons (.refl _) (.cons (.refl _) (.cons (.refl _) (.cons (.refl _) (.cons (.fz _ _ _) (.cons (.refl _) (.cons (.refl _) (.cons (.refl _) (.cons (.refl _) .nil)))))))))
        refine q_ret (f := true) B (ev_va B rfl) fun v H1 x hv => qR _ ?_ v H1 (e0.trans x) (new_of hv)
        rw [hk] <;> rfl

def l_inverse_edits_1 (edits_ : (List (Int × (List Str) × (List Str)))) (s : Unit) (at_t1 : Int) : (Unit) ⊕ (Int ⊕ (List (Int × (List Str) × (List Str)))) :=
  match s with
  | () => (if (!(m__in_order (edits_) (at_t1))) = true then (.inr (.inl at_t1)) else (.inl ()))

def l_inverse_edits_2 (s : (List (Int × (List Str) × (List Str))) × Int) (p_t2 : (Int × (List Str) × (List Str))) : (List (Int × (List Str) × (List Str))) × Int :=
  match s with
  | (inverse_2, shift_2) => ((inverse_2 ++ [((p_t2.1 + shift_2), p_t2.2.2, p_t2.2.1)]), ((shift_2 + (List.length p_t2.2.2 : Int)) - (List.length p_t2.2.1 : Int)))

def m_inverse_edits (edits_ : (List (Int × (List Str) × (List Str)))) : (Int ⊕ (List (Int × (List Str) × (List Str)))) :=
  (match (loopE (l_inverse_edits_1 edits_) (rng 0 (List.length edits_ : Int)) ()) with | .inl _ => (match (List.foldl (l_inverse_edits_2) ([], (0 : Int)) edits_) with | (inverse_r2, shift_r2) => (.inr inverse_r2)) | .inr r => r)

abbrev s_inverse_edits : Stmt := topS 8

abbrev N_inverse_edits : List Str := ["edits", "at", "inverse", "shift", "place", "removed", "added"]

theorem sc_inverse_edits : FnScope N_inverse_edits ["edits"] (defScope s_inverse_edits) := ⟨rfl, rfl, rfl, by decide +kernel, rfl, by decide +kernel, by decide +kernel⟩

def r_inverse_edits : List PyData → List PyData → V ⊕ PyData → Prop := fun ds rs o => ∃ (edits_ : (List (Int × (List Str) × (List Str)))), ds = edits_.map (eT3 eI (eTu eS) (eTu eS)) ∧ rs = [] ∧ (edits_.length ≤ 20) ∧ o = (match m_inverse_edits edits_ with | .inl e => .inl (.int e) | .inr r => .inr ((eL (eT3 eI (eTu eS) (eTu eS))) r))

set_option maxHeartbeats 8000000 in
theorem ok_inverse_edits {f : Addr} {fd : FuncData} {k : Nat} (F : Fun K "inverse_edits" "inverse_edits" s_inverse_edits f fd) {C_BadEdit fI_BadEdit : Addr} {qi_BadEdit : Str} (T_BadEdit : Erplace.Fx K mg "BadEdit" qi_BadEdit C_BadEdit fI_BadEdit) {f__in_order : Addr} {fd__in_order : FuncData} {k__in_order : Nat} (F__in_order : Fun K "_in_order" "_in_order" s__in_order f__in_order fd__in_order) (b__in_order : Binds K fd__in_order ["edits", "at"] []) (g__in_order : mg "_in_order" = some (.ref f__in_order)) (G__in_order : FnOk P w K mg base CX0 k__in_order f__in_order fd__in_order ["edits", "at"] (SpF r__in_order)) (k__in_order_ : k__in_order ≤ k) (m_range : mg "range" = none) (m_len : mg "len" = none) : FnOk P w K mg base (L2N.CX P w) (k + 1) f fd ["edits"] (SpXMplace C_BadEdit r_inverse_edits) := by
  refine FunokN F sc_inverse_edits (fun vs H Q E h => ?_) (fun cdv A outer s H vs Q E hr h => ?_)
  · obtain ⟨oa, xs, vr, o, ds, rs, wo, rfl, lo, ho, ha, hxs, hvr, ⟨edits_, rfl, rfl, h1, rfl⟩, _⟩ := h
    have := hvr.length
    simp at this
    simp [this]
  · obtain ⟨oa, xs, vr, o, ds, rs, wo, rfl, lo, ho, ha, hxs, hvr, ⟨edits_, rfl, rfl, h1, rfl⟩, qR, qE⟩ := h
    refine ⟨_, (pss_cons (ps_for (passes_of rfl) rfl (pi_range1 rfl m_range (pa_cons (pe_callB (r := rLenK K) call_len_seq (by rfl) m_len PySem.boot_len (pa_cons (pv 0) pa_nil)) pa_nil)) (pg_name (i := 1) sc_inverse_edits.nd rfl (Or.inl rfl)) (pss_cons (ps_if (pt_not (pt_val (pe_call G__in_order (hr.mono k__in_order_) (by rfl) g__in_order F__in_order.kp b__in_order .nil pass0 (pa_cons (pv 0) (pa_cons (pv 1) pa_nil))))) (pss_cons (ra_place rfl T_BadEdit (hr.mono (Nat.le_refl _)) (L2N.takes_of rfl rfl rfl rfl) (pa_cons (pv 1) pa_nil) (by rfl) (by decide)) pss_nil) pss_nil) pss_nil)) (pss_cons (ps_set (i := 2) sc_inverse_edits.nd rfl (Or.inl rfl) (pe_lst pa_nil)) (pss_cons (ps_set (i := 3) sc_inverse_edits.nd rfl (Or.inl rfl) pe_int) (pss_cons (ps_for (passes_of rfl) rfl (pi_list (pv 0)) (pg_tup rfl (pgs_cons (pg_name (i := 4) sc_inverse_edits.nd rfl (Or.inl rfl)) (pgs_cons (pg_name (i := 5) sc_inverse_edits.nd rfl (Or.inl rfl)) (pgs_cons (pg_name (i := 6) sc_inverse_edits.nd rfl (Or.inl rfl)) pgs_nil)))) (pss_cons (ps_expr (pe_bm PySem.F.plainAttrs_list PySem.F.slot_list_append PySem.F.type_list_append mt_append (pv 2) (pa_cons (pe_tup (pa_cons (pe_op op_add (pv 4) (pv 3)) (pa_cons (pv 6) (pa_cons (pv 5) pa_nil)))) pa_nil))) (pss_cons (ps_set (i := 3) sc_inverse_edits.nd rfl (Or.inl rfl) (pe_op op_sub (pe_op op_add (pv 3) (pe_callB (r := rLenK K) call_len_seq (by rfl) m_len PySem.boot_len (pa_cons (pv 6) pa_nil))) (pe_callB (r := rLenK K) call_len_seq (by rfl) m_len PySem.boot_len (pa_cons (pv 5) pa_nil)))) pss_nil))) (pss_cons (ps_ret (pv 2)) pss_nil))))), ?_⟩
    have B := bs_M (N := N_inverse_edits) lo ho ha hxs hvr (by intro d hd; simp at hd <;> first | (subst hd; constructor) | (rcases hd with hd | hd <;> subst hd <;> constructor)) (by rw [hvr.length]; exact Nat.le_of_ble_eq_true rfl)
    have B : Bs _ _ _ [.ow true oa (edits_.map (eT3 eI (eTu eS) (eTu eS))), .no, .no, .no, .no, .no, .no] := B
    have e0 : Ex (hid (fun b => b = oa) H) (hid (fun b => b = oa) H) := Ex.refl _
    have hk : m_inverse_edits edits_ = (match (loopE (l_inverse_edits_1 edits_) (rng 0 (List.length edits_ : Int)) ()) with | .inl _ => (match (List.foldl (l_inverse_edits_2) ([], (0 : Int)) edits_) with | (inverse_r2, shift_r2) => (.inr inverse_r2)) | .inr r => r) := rfl
    refine q_exitR1 (fun (s : Unit) => [.ow true oa (edits_.map (eT3 eI (eTu eS) (eTu eS))), .no, .no, .no, .no, .no, .no]) (l_inverse_edits_1 edits_) () (fun _ _ => True) B (ev_lenM (ev_owM B rfl)) (by omega) (.cons (.refl _) (.cons (.no _) (.cons (.no _) (.cons (.no _) (.cons (.no _) (.cons (.no _) (.cons (.no _) .nil))))))) trivial (fun B0 e1 n s at_t1 σ1 H1 hx hn hE hJ B => ?_) (fun s σ1 H1 hs hJ B => ?_)
    · skip
      have B : Bs _ _ _ [.ow true oa (edits_.map (eT3 eI (eTu eS) (eTu eS))), .va true (eI at_t1), .no, .no, .no, .no, .no] := B
      have hx_f := rng_mem.mp hx
      try simp only [List.length_reverse, rng_len, List.length_map] at hn
      have e0 := e0.trans e1
      have hk1 : l_inverse_edits_1 edits_ () at_t1 = (if (!(m__in_order (edits_) (at_t1))) = true then (.inr (.inl at_t1)) else (.inl ())) := rfl
      have hin : inB edits_ at_t1 := by unfold inB; omega
      have hp0 : 0 ≤ at_t1 := by omega
      refine q_if B (et_not (et_B ((ev_callF (B.live true) (ea_cons (ev_owM B rfl) (ea_cons (ev_sc B rfl (.int _)) ea_nil)) ⟨edits_, at_t1, rfl, by first | assumption | omega | (simp at *; omega), by first | assumption | omega | (simp at *; omega), rfl⟩).sc (.bl _)))) (fun hc8 H1 B => ?_) (fun hc8 H1 B => ?_)
      · rw [if_pos hc8] at hk1
        have hc8_f := hc8
        try simp only [Bool.and_eq_true, Bool.or_eq_true, Bool.not_eq_true', Bool.and_eq_false_imp, Bool.or_eq_false_iff, Bool.not_eq_false', decide_eq_true_eq, decide_eq_false_iff_not] at hc8_f
        have hz := hE _ hk1
        rw [hz] at hk
        try dsimp only at hk
        refine qrM_place (i := 0) (B.debase e0) rfl (ev_sc B rfl (.int _)) (.int _) fun dd xs1 H1 hb hp hxs hd => qE _ ?_ dd xs1 H1 hb hp hxs hd
        rw [hk] <;> rfl
      · rw [if_neg (show ¬ (!(m__in_order (edits_) (at_t1))) = true from by rw [hc8]; exact Bool.false_ne_true)] at hk1
        have hc8_f := hc8
        try simp only [Bool.and_eq_true, Bool.or_eq_true, Bool.not_eq_true', Bool.and_eq_false_imp, Bool.or_eq_false_iff, Bool.not_eq_false', decide_eq_true_eq, decide_eq_false_iff_not] at hc8_f
        exact ⟨_, hk1, trivial, B.le (.cons (.refl _) (.cons (.no _) (.cons (.no _) (.cons (.no _) (.cons (.no _) (.cons (.no _) (.cons (.no _) .nil)))))))⟩
    · rw [hs] at hk
      try simp only [List.length_reverse, rng_len, List.length_map] at hJ
      try dsimp only at hk
      have B : Bs _ _ _ [.ow true oa (edits_.map (eT3 eI (eTu eS) (eTu eS))), .no, .no, .no, .no, .no, .no] := B
      refine q_asgN (f := true) B (en_lstM (em := (eT3 eI (eTu eS) (eTu eS))) (xs := []) ea_nil (by simp)) fun a10 σ1 H1 B => ?_
      have B : Bs _ _ _ [.ow true oa (edits_.map (eT3 eI (eTu eS) (eTu eS))), .no, .ow true a10 (([]).map (eT3 eI (eTu eS) (eTu eS))), .no, .no, .no, .no] := B
      refine q_asg (f := true) B ev_int fun σ1 H1 B => ?_
      have B : Bs _ _ _ [.ow true oa (edits_.map (eT3 eI (eTu eS) (eTu eS))), .no, .ow true a10 (([]).map (eT3 eI (eTu eS) (eTu eS))), .va true (eI (0 : Int)), .no, .no, .no] := B
      refine q_foldOG tgt_tup3 (fun (s : (List (Int × (List Str) × (List Str))) × Int) => [.ow true oa (edits_.map (eT3 eI (eTu eS) (eTu eS))), .no, .ow true a10 (s.1.map (eT3 eI (eTu eS) (eTu eS))), .va true (eI s.2), .no, .no, .no]) (l_inverse_edits_2) ([], (0 : Int)) (fun n s => s.1.length ≤ n) B (fun _ => rfl) (.cons (.refl _) (.cons (.no _) (.cons (.refl _) (.cons (.refl _) (.cons (.no _) (.cons (.no _) (.cons (.no _) .nil))))))) (by simp) (fun B0 e1 n s p_t2 σ1 H1 hx hn hJ B => ?_) (fun s σ1 H1 hs hJ B => ?_)
      · rcases s with ⟨inverse_2, shift_2⟩
        have B : Bs _ _ _ [.ow true oa (edits_.map (eT3 eI (eTu eS) (eTu eS))), .no, .ow true a10 (inverse_2.map (eT3 eI (eTu eS) (eTu eS))), .va true (eI shift_2), .va true (eI p_t2.1), .va true ((eTu eS) p_t2.2.1), .va true ((eTu eS) p_t2.2.2)] := B
        try simp only [List.length_reverse, rng_len, List.length_map] at hn
        have e0 := e0.trans e1
        have hk2 : l_inverse_edits_2 (inverse_2, shift_2) p_t2 = ((inverse_2 ++ [((p_t2.1 + shift_2), p_t2.2.2, p_t2.2.1)]), ((shift_2 + (List.length p_t2.2.2 : Int)) - (List.length p_t2.2.1 : Int))) := rfl
        simp only at hJ
        refine q_app (f := true) B rfl (ev_tup (ds := [eI (p_t2.1 + shift_2), (eTu eS) p_t2.2.2, (eTu eS) p_t2.2.1]) (B.live true) (ea_cons (ev_I0 (ev_sc B rfl (.int _)) (ev_sc B rfl (.int _))) (ea_cons (ev_va B rfl) (ea_cons (ev_va B rfl) ea_nil))) (by simp)) (by first | omega | (simp; done) | (simp; omega) | exact cutG_le' (by omega) | (simp at *; omega)) fun H1 B => ?_
        have B : Bs _ _ _ [.ow true oa (edits_.map (eT3 eI (eTu eS) (eTu eS))), .no, .ow true a10 ((inverse_2 ++ [((p_t2.1 + shift_2), p_t2.2.2, p_t2.2.1)]).map (eT3 eI (eTu eS) (eTu eS))), .va true (eI shift_2), .va true (eI p_t2.1), .va true ((eTu eS) p_t2.2.1), .va true ((eTu eS) p_t2.2.2)] := B.le (.cons (.refl _) (.cons (.refl _) (.cons (.eqo (by simp)) (.cons (.refl _) (.cons (.refl _) (.cons (.refl _) (.cons (.refl _) .nil)))))))
        refine q_asg (f := true) B (ev_I0 (ev_I0 (ev_sc B rfl (.int _)) (ev_lenTu ((ev_va B rfl).w0))) (ev_lenTu ((ev_va B rfl).w0))) fun σ1 H1 B => ?_
        have B : Bs _ _ _ [.ow true oa (edits_.map (eT3 eI (eTu eS) (eTu eS))), .no, .ow true a10 ((inverse_2 ++ [((p_t2.1 + shift_2), p_t2.2.2, p_t2.2.1)]).map (eT3 eI (eTu eS) (eTu eS))), .va true (eI ((shift_2 + (List.length p_t2.2.2 : Int)) - (List.length p_t2.2.1 : Int))), .va true (eI p_t2.1), .va true ((eTu eS) p_t2.2.1), .va true ((eTu eS) p_t2.2.2)] := B
        exact ⟨_, hk2.symm, (by simp; omega), B.le (.cons (.refl _) (.cons (.no _) (.cons (.refl _) (.cons (.refl _) (.cons (.no _) (.cons (.no _) (.cons (.no _) .nil)))))))⟩
      · rw [← hs] at hk
        try simp only [List.length_reverse, rng_len, List.length_map] at hJ
        obtain ⟨inverse_r2, shift_r2⟩ := s
        try dsimp only at hk
        have B : Bs _ _ _ [.ow true oa (edits_.map (eT3 eI (eTu eS) (eTu eS))), .no, .ow true a10 (inverse_r2.map (eT3 eI (eTu eS) (eTu eS))), .va true (eI shift_r2), .no, .no, .no] := B
        have B := B.le (δ' := [.ow true oa (edits_.map (eT3 eI (eTu eS) (eTu eS))), .no, .va true ((eL (eT3 eI (eTu eS) (eTu eS))) inverse_r2), .va true (eI shift_r2), .no, .no, .no]) (.cons (.refl _) (.cons (.refl _) (.cons (.fz _ _ _) (.cons (.refl _) (.cons (.refl _) (.cons (.refl _) (.cons (.refl _) .nil)))))))
        refine q_retM (i := 0) (B.debase e0) rfl (ev_va B rfl) rfl fun v xs' H' hb hp hxs hv => qR _ ?_ v xs' H' hb hp hxs hv
        rw [hk] <;> rfl

def l__law_first_bad_1 (text_ : (Option (List Str))) (edits_ : (List (Int × (List Str) × (List Str)))) (s : Int) (k_t1 : Int) : (Int) ⊕ Int :=
  match s with
  | end_1 => (if ((decide (((getI edits_ k_t1).1) < end_1)) || ((decide ((400 : Int) < ((getI edits_ k_t1).1))) || ((decide (((getI edits_ k_t1).2.1) = ([]))) && (decide (((getI edits_ k_t1).2.2) = ([])))))) = true then (.inr k_t1) else (if ((!(Option.isNone text_)) && (decide ((List.length (Option.getD text_ default) : Int) < ((getI edits_ k_t1).1)))) = true then (.inr k_t1) else (if ((!(Option.isNone text_)) && (!decide ((cutG (Option.getD text_ default) (some ((getI edits_ k_t1).1)) (some (((getI edits_ k_t1).1) + (List.length ((getI edits_ k_t1).2.1) : Int)))) = ((getI edits_ k_t1).2.1)))) = true then (.inr k_t1) else (.inl (((getI edits_ k_t1).1) + (List.length ((getI edits_ k_t1).2.1) : Int))))))

def m__law_first_bad (text_ : (Option (List Str))) (edits_ : (List (Int × (List Str) × (List Str)))) : Int :=
  (match (loopE (l__law_first_bad_1 text_ edits_) (rng 0 (List.length edits_ : Int)) (0 : Int)) with | .inl end_r1 => (-1 : Int) | .inr r => r)

theorem fb_ok {t : Option (List Str)} (h : ∀ z, t = some z → ∀ x ∈ z, PyData.strOk x = true) : ∀ x ∈ t.getD default, PyData.strOk x = true := by
  cases t with
  | none => intro x hx; exact absurd hx (by simp [default])
  | some z => exact h z rfl

abbrev s__law_first_bad : Stmt := topS 19

abbrev N__law_first_bad : List Str := ["text", "edits", "end", "k", "place", "removed"]

theorem sc__law_first_bad : FnScope N__law_first_bad ["text", "edits"] (defScope s__law_first_bad) := ⟨rfl, rfl, rfl, by decide +kernel, rfl, by decide +kernel, by decide +kernel⟩

def r__law_first_bad : List PyData → PyData → Prop := fun ds d => ∃ (text_ : (Option (List Str))) (edits_ : (List (Int × (List Str) × (List Str)))), ds = [(eO (eL eS)) text_, (eL (eT3 eI (eTu eS) (eTu eS))) edits_] ∧ (∀ t, text_ = some t → ∀ x ∈ t, PyData.strOk x = true) ∧ (∀ e ∈ edits_, ∀ x ∈ e.2.1, PyData.strOk x = true) ∧ (edits_.length ≤ 100) ∧ (∀ e ∈ edits_, ∀ x ∈ e.2.2, PyData.strOk x = true) ∧ d = eI (m__law_first_bad text_ edits_)

set_option maxHeartbeats 8000000 in
theorem ok__law_first_bad {f : Addr} {fd : FuncData} {k : Nat} (F : Fun K "_law_first_bad" "_law_first_bad" s__law_first_bad f fd) (m_range : mg "range" = none) (m_len : mg "len" = none) (m_list : mg "list" = none) : FnOk P w K mg base CX0 (k + 1) f fd ["text", "edits"] (SpF r__law_first_bad) := by
  refine F.ok sc__law_first_bad (fun vs H Q E h => ?_) (fun cdv A outer s H vs Q E hr h => ?_)
  · obtain ⟨ds, d, hd, ⟨text_, edits_, rfl, h1, h2, h3, h4, rfl⟩, _⟩ := h
    exact hd.length
  · obtain ⟨ds, d, hd, ⟨text_, edits_, rfl, h1, h2, h3, h4, rfl⟩, q⟩ := h
    refine ⟨_, (pss_cons (ps_set (i := 2) sc__law_first_bad.nd rfl (Or.inl rfl) pe_int) (pss_cons (ps_for PassesOwn.never rfl (pi_range1 rfl m_range (pa_cons (pe_callB (r := rLenK K) call_len_seq (by rfl) m_len PySem.boot_len (pa_cons (pv 1) pa_nil)) pa_nil)) (pg_name (i := 3) sc__law_first_bad.nd rfl (Or.inl rfl)) (pss_cons (ps_set (i := 4) sc__law_first_bad.nd rfl (Or.inl rfl) (pe_ix (r := rIxT K) ix_tup (pe_ix (r := rIxL K) ix_list (pv 1) (pv 3) (fun _ _ => rfl)) pe_int (fun _ _ => rfl))) (pss_cons (ps_set (i := 5) sc__law_first_bad.nd rfl (Or.inl rfl) (pe_callTy (r := rListOfK K) call_list_of (by rfl) m_list (by decide +kernel) (pa_cons (pe_ix (r := rIxT K) ix_tup (pe_ix (r := rIxL K) ix_list (pv 1) (pv 3) (fun _ _ => rfl)) pe_int (fun _ _ => rfl)) pa_nil))) (pss_cons (ps_if (PW.pt (pw_or (pt_cmpR (op_lt) (pv 4) (pv 2) (nomark _)) (pw_or (pt_cmpR (op_gt) (pv 4) pe_int (nomark _)) (pw_or1 (PW.pt (pw_and (pt_cmpR (r := rEqD K) (op_eqD hr.units) (pv 5) (pe_lst pa_nil) (nomark _)) (pw_and1 (pt_cmpR (r := rEqD K) (op_eqD hr.units) (pe_ix (r := rIxT K) ix_tup (pe_ix (r := rIxL K) ix_list (pv 1) (pv 3) (fun _ _ => rfl)) pe_int (fun _ _ => rfl)) (pe_tup pa_nil) (nomark _))))))))) (pss_cons (ps_ret (pv 3)) pss_nil) pss_nil) (pss_cons (ps_if (PW.pt (pw_and (pt_cmpR (op_notN) (pv 0) pe_non (nomark _)) (pw_and1 (pt_cmpR (op_gt) (pv 4) (pe_callB (r := rLenK K) call_len_seq (by rfl) m_len PySem.boot_len (pa_cons (pv 0) pa_nil)) (nomark _))))) (pss_cons (ps_ret (pv 3)) pss_nil) pss_nil) (pss_cons (ps_if (PW.pt (pw_and (pt_cmpR (op_notN) (pv 0) pe_non (nomark _)) (pw_and1 (pt_cmpR (r := rNeD K) (op_neD hr.units) (pe_slice (r := rSlL K) sl_list (pv 0) (po_some (pv 4)) (po_some (pe_op op_add (pv 4) (pe_callB (r := rLenK K) call_len_seq (by rfl) m_len PySem.boot_len (pa_cons (pv 5) pa_nil))))) (pv 5) (nomark _))))) (pss_cons (ps_ret (pv 3)) pss_nil) pss_nil) (pss_cons (ps_set (i := 2) sc__law_first_bad.nd rfl (Or.inl rfl) (pe_op op_add (pv 4) (pe_callB (r := rLenK K) call_len_seq (by rfl) m_len PySem.boot_len (pa_cons (pv 5) pa_nil)))) pss_nil))))))) (pss_cons (ps_ret (pe_un un_neg pe_int)) pss_nil))), ?_⟩
    have e0 : Ex H H := Ex.refl H
    have B := bs_F hd (N := N__law_first_bad) (by rw [hd.length]; exact Nat.le_of_ble_eq_true rfl)
    have B : Bs _ _ _ [.va false ((eO (eL eS)) text_), .va false ((eL (eT3 eI (eTu eS) (eTu eS))) edits_), .no, .no, .no, .no] := B
    have hk : m__law_first_bad text_ edits_ = (match (loopE (l__law_first_bad_1 text_ edits_) (rng 0 (List.length edits_ : Int)) (0 : Int)) with | .inl end_r1 => (-1 : Int) | .inr r => r) := rfl
    refine q_asg (f := true) B ev_int fun σ1 H1 B => ?_
    have B : Bs _ _ _ [.va false ((eO (eL eS)) text_), .va false ((eL (eT3 eI (eTu eS) (eTu eS))) edits_), .va true (eI (0 : Int)), .no, .no, .no] := B
    refine q_exitR1 (fun (s : Int) => [.va false ((eO (eL eS)) text_), .va false ((eL (eT3 eI (eTu eS) (eTu eS))) edits_), .va true (eI s), .no, .no, .no]) (l__law_first_bad_1 text_ edits_) (0 : Int) (fun _ _ => True) B (ev_lenM ((ev_va B rfl).w0)) (by omega) (.cons (.refl _) (.cons (.refl _) (.cons (.refl _) (.cons (.no _) (.cons (.no _) (.cons (.no _) .nil)))))) trivial (fun B0 e1 n end_1 k_t1 σ1 H1 hx hn hE hJ B => ?_) (fun end_r1 σ1 H1 hs hJ B => ?_)
    · skip
      have B : Bs _ _ _ [.va false ((eO (eL eS)) text_), .va false ((eL (eT3 eI (eTu eS) (eTu eS))) edits_), .va true (eI end_1), .va true (eI k_t1), .no, .no] := B
      have hx_f := rng_mem.mp hx
      try simp only [List.length_reverse, rng_len, List.length_map] at hn
      have e0 := e0.trans e1
      have hk1 : l__law_first_bad_1 text_ edits_ end_1 k_t1 = (if ((decide (((getI edits_ k_t1).1) < end_1)) || ((decide ((400 : Int) < ((getI edits_ k_t1).1))) || ((decide (((getI edits_ k_t1).2.1) = ([]))) && (decide (((getI edits_ k_t1).2.2) = ([])))))) = true then (.inr k_t1) else (if ((!(Option.isNone text_)) && (decide ((List.length (Option.getD text_ default) : Int) < ((getI edits_ k_t1).1)))) = true then (.inr k_t1) else (if ((!(Option.isNone text_)) && (!decide ((cutG (Option.getD text_ default) (some ((getI edits_ k_t1).1)) (some (((getI edits_ k_t1).1) + (List.length ((getI edits_ k_t1).2.1) : Int)))) = ((getI edits_ k_t1).2.1)))) = true then (.inr k_t1) else (.inl (((getI edits_ k_t1).1) + (List.length ((getI edits_ k_t1).2.1) : Int)))))) := rfl
      have hin : inB edits_ k_t1 := by unfold inB; omega
      refine q_asg (f := true) B ((ev_ixT (K := K) (d := eI ((getI edits_ k_t1).1)) (ev_ixM (em := (eT3 eI (eTu eS) (eTu eS))) (xs := edits_) ((ev_va B rfl).w0) (ev_sc B rfl (.int _)) (show inB edits_ k_t1 from by first | assumption | (unfold inB; first | omega | (simp; omega) | (simp at *; omega)))) ev_int (by rfl)).sc (.int _)) fun σ1 H1 B => ?_
      have B : Bs _ _ _ [.va false ((eO (eL eS)) text_), .va false ((eL (eT3 eI (eTu eS) (eTu eS))) edits_), .va true (eI end_1), .va true (eI k_t1), .va true (eI ((getI edits_ k_t1).1)), .no] := B
      refine q_asg (f := true) B (((en_listTu (ev_ixT (K := K) (d := (eTu eS) ((getI edits_ k_t1).2.1)) (ev_ixM (em := (eT3 eI (eTu eS) (eTu eS))) (xs := edits_) ((ev_va B rfl).w0) (ev_sc B rfl (.int _)) (show inB edits_ k_t1 from by first | assumption | (unfold inB; first | omega | (simp; omega) | (simp at *; omega)))) ev_int (by rfl))).scL (fun _ => (.str _))).ev (B.live true)) fun σ1 H1 B => ?_
      have B : Bs _ _ _ [.va false ((eO (eL eS)) text_), .va false ((eL (eT3 eI (eTu eS) (eTu eS))) edits_), .va true (eI end_1), .va true (eI k_t1), .va true (eI ((getI edits_ k_t1).1)), .va true ((eL eS) ((getI edits_ k_t1).2.1))] := B
      refine q_if B (et_or (et_test (ev_B0 (ev_sc B rfl (.int _)) (ev_sc B rfl (.int _)))) fun hc => (et_or (et_test (ev_B0 (ev_sc B rfl (.int _)) ev_int)) fun hc => (et_and (et_test (ev_eqM (a := (getI edits_ k_t1).2.1) (b := []) (emL emS) ((ev_va B rfl).w0) ((en_lstM (em := eS) (xs := []) ea_nil (by simp)).ev live0) (by first | exact h2 _ (getI_mem hin) | exact h4 _ (getI_mem hin)) gd_nil)) fun hc => (et_test (ev_eqM (a := (getI edits_ k_t1).2.2) (b := []) (emTu emS) (ev_ixT (K := K) (d := (eTu eS) ((getI edits_ k_t1).2.2)) (ev_ixM (em := (eT3 eI (eTu eS) (eTu eS))) (xs := edits_) ((ev_va B rfl).w0) (ev_sc B rfl (.int _)) (show inB edits_ k_t1 from by first | assumption | (unfold inB; first | omega | (simp; omega) | (simp at *; omega)))) ev_int (by rfl)) (ev_tup (ds := []) live0 ea_nil (by simp)) (by first | exact h2 _ (getI_mem hin) | exact h4 _ (getI_mem hin)) gd_nil))))) (fun hc12 H1 B => ?_) (fun hc12 H1 B => ?_)
      · rw [if_pos hc12] at hk1
        have hc12_f := hc12
        try simp only [Bool.and_eq_true, Bool.or_eq_true, Bool.not_eq_true', Bool.and_eq_false_imp, Bool.or_eq_false_iff, Bool.not_eq_false', decide_eq_true_eq, decide_eq_false_iff_not] at hc12_f
        have hz := hE _ hk1
        rw [hz] at hk
        try dsimp only at hk
        refine q_ret (f := true) B (ev_sc B rfl (.int _)) fun v H1 x hv => q v H1 (e0.trans x) ?_
        rw [hk]; exact Dn.sc (.int _) hv
      · rw [if_neg (show ¬ ((decide (((getI edits_ k_t1).1) < end_1)) || ((decide ((400 : Int) < ((getI edits_ k_t1).1))) || ((decide (((getI edits_ k_t1).2.1) = ([]))) && (decide (((getI edits_ k_t1).2.2) = ([])))))) = true from by rw [hc12]; exact Bool.false_ne_true)] at hk1
        have hc12_f := hc12
        try simp only [Bool.and_eq_true, Bool.or_eq_true, Bool.not_eq_true', Bool.and_eq_false_imp, Bool.or_eq_false_iff, Bool.not_eq_false', decide_eq_true_eq, decide_eq_false_iff_not] at hc12_f
        dsimp only [tNext]
        refine q_if B (et_and (et_test ((ev_notN ((ev_va B rfl).w0)).is (by cases text_ <;> rfl))) fun hn13 => (et_test (ev_B0 (ev_sc B rfl (.int _)) (ev_lenM ((ev_va B rfl).w0.is (oSome (d := default) hn13)))))) (fun hc14 H1 B => ?_) (fun hc14 H1 B => ?_)
        · rw [if_pos hc14] at hk1
          have hc14_f := hc14
          try simp only [Bool.and_eq_true, Bool.or_eq_true, Bool.not_eq_true', Bool.and_eq_false_imp, Bool.or_eq_false_iff, Bool.not_eq_false', decide_eq_true_eq, decide_eq_false_iff_not] at hc14_f
          have hz := hE _ hk1
          rw [hz] at hk
          try dsimp only at hk
          refine q_ret (f := true) B (ev_sc B rfl (.int _)) fun v H1 x hv => q v H1 (e0.trans x) ?_
          rw [hk]; exact Dn.sc (.int _) hv
        · rw [if_neg (show ¬ ((!(Option.isNone text_)) && (decide ((List.length (Option.getD text_ default) : Int) < ((getI edits_ k_t1).1)))) = true from by rw [hc14]; exact Bool.false_ne_true)] at hk1
          have hc14_f := hc14
          try simp only [Bool.and_eq_true, Bool.or_eq_true, Bool.not_eq_true', Bool.and_eq_false_imp, Bool.or_eq_false_iff, Bool.not_eq_false', decide_eq_true_eq, decide_eq_false_iff_not] at hc14_f
          dsimp only [tNext]
          refine q_if B (et_and (et_test ((ev_notN ((ev_va B rfl).w0)).is (by cases text_ <;> rfl))) fun hn15 => (et_test (ev_neM (a := (cutG (Option.getD text_ default) (some ((getI edits_ k_t1).1)) (some (((getI edits_ k_t1).1) + (List.length ((getI edits_ k_t1).2.1) : Int))))) (b := (getI edits_ k_t1).2.1) (emL emS) (((en_slM ((ev_va B rfl).w0.is (oSome (d := default) hn15)) (eo_some (ev_sc B rfl (.int _))) (eo_some (ev_I0 (ev_sc B rfl (.int _)) (ev_lenM ((ev_va B rfl).w0))))).scL (fun _ => (.str _))).ev live0) ((ev_va B rfl).w0) (fun x hx => fb_ok h1 x (cutG_mem hx)) (h2 _ (getI_mem hin))))) (fun hc16 H1 B => ?_) (fun hc16 H1 B => ?_)
          · rw [if_pos hc16] at hk1
            have hc16_f := hc16
            try simp only [Bool.and_eq_true, Bool.or_eq_true, Bool.not_eq_true', Bool.and_eq_false_imp, Bool.or_eq_false_iff, Bool.not_eq_false', decide_eq_true_eq, decide_eq_false_iff_not] at hc16_f
            have hz := hE _ hk1
            rw [hz] at hk
            try dsimp only at hk
            refine q_ret (f := true) B (ev_sc B rfl (.int _)) fun v H1 x hv => q v H1 (e0.trans x) ?_
            rw [hk]; exact Dn.sc (.int _) hv
          · rw [if_neg (show ¬ ((!(Option.isNone text_)) && (!decide ((cutG (Option.getD text_ default) (some ((getI edits_ k_t1).1)) (some (((getI edits_ k_t1).1) + (List.length ((getI edits_ k_t1).2.1) : Int)))) = ((getI edits_ k_t1).2.1)))) = true from by rw [hc16]; exact Bool.false_ne_true)] at hk1
            have hc16_f := hc16
            try simp only [Bool.and_eq_true, Bool.or_eq_true, Bool.not_eq_true', Bool.and_eq_false_imp, Bool.or_eq_false_iff, Bool.not_eq_false', decide_eq_true_eq, decide_eq_false_iff_not] at hc16_f
            dsimp only [tNext]
            refine q_asg (f := true) B (ev_I0 (ev_sc B rfl (.int _)) (ev_lenM ((ev_va B rfl).w0))) fun σ1 H1 B => ?_
            have B : Bs _ _ _ [.va false ((eO (eL eS)) text_), .va false ((eL (eT3 eI (eTu eS) (eTu eS))) edits_), .va true (eI (((getI edits_ k_t1).1) + (List.length ((getI edits_ k_t1).2.1) : Int))), .va true (eI k_t1), .va true (eI ((getI edits_ k_t1).1)), .va true ((eL eS) ((getI edits_ k_t1).2.1))] := B
            exact ⟨_, hk1, trivial, B.le (.cons (.refl _) (.cons (.refl _) (.cons (.refl _) (.cons (.no _) (.cons (.no _) (.cons (.no _) .nil))))))⟩
    · rw [hs] at hk
      try simp only [List.length_reverse, rng_len, List.length_map] at hJ
      try dsimp only at hk
      have B : Bs _ _ _ [.va false ((eO (eL eS)) text_), .va false ((eL (eT3 eI (eTu eS) (eTu eS))) edits_), .va true (eI end_r1), .no, .no, .no] := B
      refine q_ret (f := true) B (ev_neg ev_int) fun v H1 x hv => q v H1 (e0.trans x) ?_
      rw [hk]; exact Dn.sc (.int _) hv

def l__law_replaced_1 (s : (List Str)) (edit_t1 : (Int × (List Str) × (List Str))) : (List Str) :=
  match s with
  | lines_1 => (((cutG lines_1 none (some edit_t1.1)) ++ edit_t1.2.2) ++ (cutG lines_1 (some (edit_t1.1 + (List.length edit_t1.2.1 : Int))) none))

def m__law_replaced (text_ : (List Str)) (edits_ : (List (Int × (List Str) × (List Str)))) : (List Str) :=
  (match (List.foldl (l__law_replaced_1) text_ edits_.reverse) with | lines_r1 => lines_r1)

abbrev s__law_replaced : Stmt := topS 20

abbrev N__law_replaced : List Str := ["text", "edits", "lines", "edit"]

theorem sc__law_replaced : FnScope N__law_replaced ["text", "edits"] (defScope s__law_replaced) := ⟨rfl, rfl, rfl, by decide +kernel, rfl, by decide +kernel, by decide +kernel⟩

def r__law_replaced : List PyData → PyData → Prop := fun ds d => ∃ (text_ : (List Str)) (edits_ : (List (Int × (List Str) × (List Str)))), ds = [(eL eS) text_, (eL (eT3 eI (eTu eS) (eTu eS))) edits_] ∧ (text_.length ≤ 10) ∧ (edits_.length ≤ 6) ∧ (∀ e ∈ edits_, e.2.2.length ≤ 10) ∧ d = (eL eS) (m__law_replaced text_ edits_)

set_option maxHeartbeats 8000000 in
theorem ok__law_replaced {f : Addr} {fd : FuncData} {k : Nat} (F : Fun K "_law_replaced" "_law_replaced" s__law_replaced f fd) (m_list : mg "list" = none) (m_len : mg "len" = none) : FnOk P w K mg base CX0 (k + 1) f fd ["text", "edits"] (SpF r__law_replaced) := by
  refine F.ok sc__law_replaced (fun vs H Q E h => ?_) (fun cdv A outer s H vs Q E hr h => ?_)
  · obtain ⟨ds, d, hd, ⟨text_, edits_, rfl, h1, h2, h3, rfl⟩, _⟩ := h
    exact hd.length
  · obtain ⟨ds, d, hd, ⟨text_, edits_, rfl, h1, h2, h3, rfl⟩, q⟩ := h
    refine ⟨_, (pss_cons (ps_set (i := 2) sc__law_replaced.nd rfl (Or.inl rfl) (pe_callTy (r := rListOfK K) call_list_of (by rfl) m_list (by decide +kernel) (pa_cons (pv 0) pa_nil))) (pss_cons (ps_for PassesOwn.never rfl (pi_list (pe_revL (pv 1))) (pg_name (i := 3) sc__law_replaced.nd rfl (Or.inl rfl)) (pss_cons (ps_set (i := 2) sc__law_replaced.nd rfl (Or.inl rfl) (pe_op op_cat (pe_op op_cat (pe_slice (r := rSlL K) sl_list (pv 2) po_none (po_some (pe_ix (r := rIxT K) ix_tup (pv 3) pe_int (fun _ _ => rfl)))) (pe_callTy (r := rListOfK K) call_list_of (by rfl) m_list (by decide +kernel) (pa_cons (pe_ix (r := rIxT K) ix_tup (pv 3) pe_int (fun _ _ => rfl)) pa_nil))) (pe_slice (r := rSlL K) sl_list (pv 2) (po_some (pe_op op_add (pe_ix (r := rIxT K) ix_tup (pv 3) pe_int (fun _ _ => rfl)) (pe_callB (r := rLenK K) call_len_seq (by rfl) m_len PySem.boot_len (pa_cons (pe_ix (r := rIxT K) ix_tup (pv 3) pe_int (fun _ _ => rfl)) pa_nil)))) po_none))) pss_nil)) (pss_cons (ps_ret (pv 2)) pss_nil))), ?_⟩
    have e0 : Ex H H := Ex.refl H
    have B := bs_F hd (N := N__law_replaced) (by rw [hd.length]; exact Nat.le_of_ble_eq_true rfl)
    have B : Bs _ _ _ [.va false ((eL eS) text_), .va false ((eL (eT3 eI (eTu eS) (eTu eS))) edits_), .no, .no] := B
    have hk : m__law_replaced text_ edits_ = (match (List.foldl (l__law_replaced_1) text_ edits_.reverse) with | lines_r1 => lines_r1) := rfl
    refine q_asg (f := true) B (((en_listM ((ev_va B rfl).w0)).scL (fun _ => (.str _))).ev (B.live true)) fun σ1 H1 B => ?_
    have B : Bs _ _ _ [.va false ((eL eS) text_), .va false ((eL (eT3 eI (eTu eS) (eTu eS))) edits_), .va true ((eL eS) text_), .no] := B
    refine q_foldL (fun (s : (List Str)) => [.va false ((eL eS) text_), .va false ((eL (eT3 eI (eTu eS) (eTu eS))) edits_), .va true ((eL eS) s), .no]) (l__law_replaced_1) text_ (fun n s => s.length + 10 ≤ 20 * 2 ^ n) B ((en_revM (ev_va B rfl)).ev (B.live false)) (.cons (.refl _) (.cons (.refl _) (.cons (.refl _) (.cons (.no _) .nil)))) (by simp; omega) (fun B0 e1 n lines_1 edit_t1 σ1 H1 hx hn hJ B => ?_) (fun lines_r1 σ1 H1 hs hJ B => ?_)
    · skip
      have B : Bs _ _ _ [.va false ((eL eS) text_), .va false ((eL (eT3 eI (eTu eS) (eTu eS))) edits_), .va true ((eL eS) lines_1), .va false ((eT3 eI (eTu eS) (eTu eS)) edit_t1)] := B
      try simp only [List.length_reverse, rng_len, List.length_map] at hn
      have e0 := e0.trans e1
      have hk1 : l__law_replaced_1 lines_1 edit_t1 = (((cutG lines_1 none (some edit_t1.1)) ++ edit_t1.2.2) ++ (cutG lines_1 (some (edit_t1.1 + (List.length edit_t1.2.1 : Int))) none)) := rfl
      have hJ : lines_1.length + 10 ≤ 20 * 2 ^ n := hJ
      have p6 : 2 ^ n ≤ 2 ^ 6 := Nat.pow_le_pow_right (by omega) (by omega)
      have a3 := h3 _ (List.mem_reverse.mp hx)
      have a1 := cutG_le lines_1 none (some edit_t1.1)
      have a2 := cutG_le lines_1 (some (edit_t1.1 + edit_t1.2.1.length)) none
      refine q_asg (f := true) B (((en_catM (((en_catM (((en_slM ((ev_va B rfl).w0) eo_none (eo_some ((ev_ixT (K := K) (d := eI edit_t1.1) ((ev_va B rfl).w0) ev_int (by rfl)).sc (.int _)))).scL (fun _ => (.str _))).ev live0) (((en_listTu (ev_ixT (K := K) (d := (eTu eS) edit_t1.2.2) ((ev_va B rfl).w0) ev_int (by rfl))).scL (fun _ => (.str _))).ev live0) (by first | omega | (simp; done) | (simp; omega) | exact cutG_le' (by omega) | (simp at *; omega))).scL (fun _ => (.str _))).ev live0) (((en_slM ((ev_va B rfl).w0) (eo_some (ev_I0 ((ev_ixT (K := K) (d := eI edit_t1.1) ((ev_va B rfl).w0) ev_int (by rfl)).sc (.int _)) (ev_lenTu (ev_ixT (K := K) (d := (eTu eS) edit_t1.2.1) ((ev_va B rfl).w0) ev_int (by rfl))))) eo_none).scL (fun _ => (.str _))).ev live0) (by first | omega | (simp; done) | (simp; omega) | exact cutG_le' (by omega) | (simp at *; omega))).scL (fun _ => (.str _))).ev (B.live true)) fun σ1 H1 B => ?_
      have B : Bs _ _ _ [.va false ((eL eS) text_), .va false ((eL (eT3 eI (eTu eS) (eTu eS))) edits_), .va true ((eL eS) (((cutG lines_1 none (some edit_t1.1)) ++ edit_t1.2.2) ++ (cutG lines_1 (some (edit_t1.1 + (List.length edit_t1.2.1 : Int))) none))), .va false ((eT3 eI (eTu eS) (eTu eS)) edit_t1)] := B
      exact ⟨_, hk1.symm, (by simp only [List.length_append]; rw [Nat.pow_succ]; omega), B.le (.cons (.refl _) (.cons (.refl _) (.cons (.refl _) (.cons (.no _) .nil))))⟩
    · rw [← hs] at hk
      try simp only [List.length_reverse, rng_len, List.length_map] at hJ
      try dsimp only at hk
      have B : Bs _ _ _ [.va false ((eL eS) text_), .va false ((eL (eT3 eI (eTu eS) (eTu eS))) edits_), .va true ((eL eS) lines_r1), .no] := B
      refine q_ret (f := true) B (ev_va B rfl) fun v H1 x hv => q v H1 (e0.trans x) ?_
      rw [hk]; exact new_of hv

def l__law_back_1 (s : (List (Int × (List Str) × (List Str))) × Int) (edit_t1 : (Int × (List Str) × (List Str))) : (List (Int × (List Str) × (List Str))) × Int :=
  match s with
  | (back_1, shift_1) => ((back_1 ++ [((edit_t1.1 + shift_1), edit_t1.2.2, edit_t1.2.1)]), ((shift_1 + (List.length edit_t1.2.2 : Int)) - (List.length edit_t1.2.1 : Int)))

def m__law_back (edits_ : (List (Int × (List Str) × (List Str)))) : (List (Int × (List Str) × (List Str))) :=
  (match (List.foldl (l__law_back_1) ([], (0 : Int)) edits_) with | (back_r1, shift_r1) => back_r1)

abbrev s__law_back : Stmt := topS 21

abbrev N__law_back : List Str := ["edits", "back", "shift", "edit"]

theorem sc__law_back : FnScope N__law_back ["edits"] (defScope s__law_back) := ⟨rfl, rfl, rfl, by decide +kernel, rfl, by decide +kernel, by decide +kernel⟩

def r__law_back : List PyData → PyData → Prop := fun ds d => ∃ (edits_ : (List (Int × (List Str) × (List Str)))), ds = [(eL (eT3 eI (eTu eS) (eTu eS))) edits_] ∧ (edits_.length ≤ 1000) ∧ d = (eL (eT3 eI (eTu eS) (eTu eS))) (m__law_back edits_)

set_option maxHeartbeats 8000000 in
theorem ok__law_back {f : Addr} {fd : FuncData} {k : Nat} (F : Fun K "_law_back" "_law_back" s__law_back f fd) (m_len : mg "len" = none) : FnOk P w K mg base CX0 (k + 1) f fd ["edits"] (SpS r__law_back) := by
  refine F.ok sc__law_back (fun vs H Q E h => ?_) (fun cdv A outer s H vs Q E hr h => ?_)
  · obtain ⟨o, ds, d, lo, hd, ⟨edits_, rfl, h1, rfl⟩, _⟩ := h
    exact hd.length
  · obtain ⟨o, ds, d, lo, hd, ⟨edits_, rfl, h1, rfl⟩, q⟩ := h
    refine ⟨_, (pss_cons (ps_set (i := 1) sc__law_back.nd rfl (Or.inl rfl) (pe_lst pa_nil)) (pss_cons (ps_set (i := 2) sc__law_back.nd rfl (Or.inl rfl) pe_int) (pss_cons (ps_for PassesOwn.never rfl (pi_list (pv 0)) (pg_name (i := 3) sc__law_back.nd rfl (Or.inl rfl)) (pss_cons (ps_expr (pe_bm PySem.F.plainAttrs_list PySem.F.slot_list_append PySem.F.type_list_append mt_append (pv 1) (pa_cons (pe_tup (pa_cons (pe_op op_add (pe_ix (r := rIxT K) ix_tup (pv 3) pe_int (fun _ _ => rfl)) (pv 2)) (pa_cons (pe_ix (r := rIxT K) ix_tup (pv 3) pe_int (fun _ _ => rfl)) (pa_cons (pe_ix (r := rIxT K) ix_tup (pv 3) pe_int (fun _ _ => rfl)) pa_nil)))) pa_nil))) (pss_cons (ps_set (i := 2) sc__law_back.nd rfl (Or.inl rfl) (pe_op op_sub (pe_op op_add (pv 2) (pe_callB (r := rLenK K) call_len_seq (by rfl) m_len PySem.boot_len (pa_cons (pe_ix (r := rIxT K) ix_tup (pv 3) pe_int (fun _ _ => rfl)) pa_nil))) (pe_callB (r := rLenK K) call_len_seq (by rfl) m_len PySem.boot_len (pa_cons (pe_ix (r := rIxT K) ix_tup (pv 3) pe_int (fun _ _ => rfl)) pa_nil)))) pss_nil))) (pss_cons (ps_ret (pv 1)) pss_nil)))), ?_⟩
    have e0 : Ex H H := Ex.refl H
    have B := bs_S lo hd (N := N__law_back) (by rw [hd.length]; exact Nat.le_of_ble_eq_true rfl)
    have B : Bs _ _ _ [.va true ((eL (eT3 eI (eTu eS) (eTu eS))) edits_), .no, .no, .no] := B
    have hk : m__law_back edits_ = (match (List.foldl (l__law_back_1) ([], (0 : Int)) edits_) with | (back_r1, shift_r1) => back_r1) := rfl
    refine q_asgN (f := true) B (en_lstM (em := (eT3 eI (eTu eS) (eTu eS))) (xs := []) ea_nil (by simp)) fun a19 σ1 H1 B => ?_
    have B : Bs _ _ _ [.va true ((eL (eT3 eI (eTu eS) (eTu eS))) edits_), .ow true a19 (([]).map (eT3 eI (eTu eS) (eTu eS))), .no, .no] := B
    refine q_asg (f := true) B ev_int fun σ1 H1 B => ?_
    have B : Bs _ _ _ [.va true ((eL (eT3 eI (eTu eS) (eTu eS))) edits_), .ow true a19 (([]).map (eT3 eI (eTu eS) (eTu eS))), .va true (eI (0 : Int)), .no] := B
    refine q_foldL (fun (s : (List (Int × (List Str) × (List Str))) × Int) => [.va true ((eL (eT3 eI (eTu eS) (eTu eS))) edits_), .ow true a19 (s.1.map (eT3 eI (eTu eS) (eTu eS))), .va true (eI s.2), .no]) (l__law_back_1) ([], (0 : Int)) (fun n s => s.1.length ≤ n) B (ev_va B rfl) (.cons (.refl _) (.cons (.refl _) (.cons (.refl _) (.cons (.no _) .nil)))) (by simp) (fun B0 e1 n s edit_t1 σ1 H1 hx hn hJ B => ?_) (fun s σ1 H1 hs hJ B => ?_)
    · rcases s with ⟨back_1, shift_1⟩
      have B : Bs _ _ _ [.va true ((eL (eT3 eI (eTu eS) (eTu eS))) edits_), .ow true a19 (back_1.map (eT3 eI (eTu eS) (eTu eS))), .va true (eI shift_1), .va true ((eT3 eI (eTu eS) (eTu eS)) edit_t1)] := B
      try simp only [List.length_reverse, rng_len, List.length_map] at hn
      have e0 := e0.trans e1
      have hk1 : l__law_back_1 (back_1, shift_1) edit_t1 = ((back_1 ++ [((edit_t1.1 + shift_1), edit_t1.2.2, edit_t1.2.1)]), ((shift_1 + (List.length edit_t1.2.2 : Int)) - (List.length edit_t1.2.1 : Int))) := rfl
      simp only at hJ
      refine q_app (f := true) B rfl (ev_tup (ds := [eI (edit_t1.1 + shift_1), (eTu eS) edit_t1.2.2, (eTu eS) edit_t1.2.1]) (B.live true) (ea_cons (ev_I0 ((ev_ixT (K := K) (d := eI edit_t1.1) ((ev_va B rfl).w0) ev_int (by rfl)).sc (.int _)) (ev_sc B rfl (.int _))) (ea_cons (ev_ixT (K := K) (d := (eTu eS) edit_t1.2.2) (ev_va B rfl) ev_int (by rfl)) (ea_cons (ev_ixT (K := K) (d := (eTu eS) edit_t1.2.1) (ev_va B rfl) ev_int (by rfl)) ea_nil))) (by simp)) (by first | omega | (simp; done) | (simp; omega) | exact cutG_le' (by omega) | (simp at *; omega)) fun H1 B => ?_
      have B : Bs _ _ _ [.va true ((eL (eT3 eI (eTu eS) (eTu eS))) edits_), .ow true a19 ((back_1 ++ [((edit_t1.1 + shift_1), edit_t1.2.2, edit_t1.2.1)]).map (eT3 eI (eTu eS) (eTu eS))), .va true (eI shift_1), .va true ((eT3 eI (eTu eS) (eTu eS)) edit_t1)] := B.le (.cons (.refl _) (.cons (.eqo (by simp)) (.cons (.refl _) (.cons (.refl _) .nil))))
      refine q_asg (f := true) B (ev_I0 (ev_I0 (ev_sc B rfl (.int _)) (ev_lenTu (ev_ixT (K := K) (d := (eTu eS) edit_t1.2.2) ((ev_va B rfl).w0) ev_int (by rfl)))) (ev_lenTu (ev_ixT (K := K) (d := (eTu eS) edit_t1.2.1) ((ev_va B rfl).w0) ev_int (by rfl)))) fun σ1 H1 B => ?_
      have B : Bs _ _ _ [.va true ((eL (eT3 eI (eTu eS) (eTu eS))) edits_), .ow true a19 ((back_1 ++ [((edit_t1.1 + shift_1), edit_t1.2.2, edit_t1.2.1)]).map (eT3 eI (eTu eS) (eTu eS))), .va true (eI ((shift_1 + (List.length edit_t1.2.2 : Int)) - (List.length edit_t1.2.1 : Int))), .va true ((eT3 eI (eTu eS) (eTu eS)) edit_t1)] := B
      exact ⟨_, hk1.symm, (by simp; omega), B.le (.cons (.refl _) (.cons (.refl _) (.cons (.refl _) (.cons (.no _) .nil))))⟩
    · rw [← hs] at hk
      try simp only [List.length_reverse, rng_len, List.length_map] at hJ
      obtain ⟨back_r1, shift_r1⟩ := s
      try dsimp only at hk
      have B : Bs _ _ _ [.va true ((eL (eT3 eI (eTu eS) (eTu eS))) edits_), .ow true a19 (back_r1.map (eT3 eI (eTu eS) (eTu eS))), .va true (eI shift_r1), .no] := B
      have B := B.le (δ' := [.va true ((eL (eT3 eI (eTu eS) (eTu eS))) edits_), .va true ((eL (eT3 eI (eTu eS) (eTu eS))) back_r1), .va true (eI shift_r1), .no]) (.cons (.refl _) (.cons (.fz _ _ _) (.cons (.refl _) (.cons (.refl _) .nil))))
      refine q_ret (f := true) B (ev_va B rfl) fun v H1 x hv => q v H1 (e0.trans x) ?_
      rw [hk]; exact hd_nil hv

end
end K2
namespace K2
open PySem PySem.Spec PyProof.Rows L2 HL
open Evl (Ex)
section
variable {P : Program} {w : World} {K : PySem.W.Frag} {mg : Str → Option Value} {base : Heap}

theorem next_J {cells : List (List Int)} {many : Int} (h : ∀ r ∈ cells, r.length = 2) : ∀ r ∈ (m__law_next cells many).2, r.length = 2 := by
  have hs : ∀ a b : Int, ∀ r ∈ setI cells 0 [a, b], r.length = 2 := fun a b r hr => by
    unfold setI at hr
    split at hr
    · rcases List.mem_or_eq_of_mem_set hr with hr | hr
      · exact h r hr
      · rw [hr]; rfl
    · exact h r hr
  unfold m__law_next
  split
  · exact h
  · split
    · intro r hr; exact hs _ _ r (List.mem_of_mem_tail hr)
    · exact hs _ _
theorem fold_E {β γ : Type} {nx : List γ → Int → β × List γ} : ∀ (l : List Int) (p : List β × List γ), ((l.foldl (stepE nx) p).1.length = p.1.length + l.length) ∧ ∀ y ∈ (l.foldl (stepE nx) p).1, y ∈ p.1 ∨ ∃ gs k, k ∈ l ∧ y = (nx gs k).1
  | [], p => ⟨by simp, fun y hy => .inl hy⟩
  | k :: l, p => by
    obtain ⟨h1, h2⟩ := fold_E l (stepE nx p k)
    rw [List.foldl_cons]
    refine ⟨by rw [h1]; simp [stepE]; omega, fun y hy => ?_⟩
    rcases h2 y hy with h | ⟨gs, k', hk, e⟩
    · simp only [stepE] at h
      rcases List.mem_append.mp h with h | h
      · exact .inl h
      · simp at h; exact .inr ⟨p.2, k, by simp, h⟩
    · exact .inr ⟨gs, k', by simp [hk], e⟩
theorem fold_E0 {β γ : Type} {nx : List γ → Int → β × List γ} {l : List Int} {ys : List β} {gs gs' : List γ} (h : (ys, gs') = l.foldl (stepE nx) ([], gs)) : ys.length = l.length ∧ ∀ y ∈ ys, ∃ gs k, k ∈ l ∧ y = (nx gs k).1 := by
  obtain ⟨h1, h2⟩ := fold_E (nx := nx) l ([], gs)
  rw [← h] at h1 h2
  refine ⟨by simpa using h1, fun y hy => ?_⟩
  rcases h2 y hy with h | h
  · simp at h
  · exact h
theorem feed_J (ns : List Int) : ∀ r ∈ m__law_feed ns, r.length = 2 := fun r hr => by
  obtain ⟨c, _, rfl⟩ := List.mem_map.mp hr
  rfl
theorem next_b {cells : List (List Int)} {many : Int} (h : 0 < many) : 0 ≤ (m__law_next cells many).1 ∧ (m__law_next cells many).1 < many := by
  unfold m__law_next
  split
  · exact ⟨Int.le_refl _, h⟩
  · split <;> exact fmod_b h
theorem fm3 (x : Int) : -1000000 ≤ Int.fmod x 3 ∧ Int.fmod x 3 ≤ 1000000 := by
  have := fmod_b (x := x) (m := 3) (by omega)
  omega
theorem fm3h (x : Int) : Int.fmod x 3 - 0 ≤ 40000 := by
  have := fmod_b (x := x) (m := 3) (by omega)
  omega
theorem fm3r (x : Int) : (rng 0 (Int.fmod x 3)).length ≤ 2 := by
  have := fmod_b (x := x) (m := 3) (by omega)
  rw [rng_len]; omega
theorem cut_end {α : Type} {xs : List α} {p : Int} {hi : Option Int} (h0 : 0 ≤ p) (h1 : p ≤ xs.length) : p + (cutG xs (some p) hi).length ≤ xs.length := by
  unfold cutG
  rw [List.length_take, List.length_drop]
  have e : HT.sIx xs.length 0 (some p) = p.toNat := by
    simp [HT.sIx]
    rw [if_neg (by omega)]
    omega
  rw [e]
  omega
def n__law_good_2 (k_t1 : Int) (cells_g2 : (List (List Int))) (j_c : Int) : Int × (List (List Int)) :=
  ((((((m__law_next cells_g2 (3 : Int)).1) + (1 : Int)) + k_t1) + j_c), (m__law_next cells_g2 (3 : Int)).2)

def l__law_good_1 (text_ : (List Str)) (lines_ : (List Str)) (s : (List (List Int)) × (List (Int × (List Str) × (List Str))) × Int) (k_t1 : Int) : (List (List Int)) × (List (Int × (List Str) × (List Str))) × Int :=
  match s with
  | (cells_1, edits_1, end_1) => (match (List.foldl (stepE (n__law_good_2 k_t1)) ([], (m__law_next ((m__law_next ((m__law_next cells_1 (((List.length text_ : Int) - end_1) + (1 : Int))).2) (3 : Int)).2) (3 : Int)).2) (rng 0 (Int.fmod ((((m__law_next ((m__law_next ((m__law_next cells_1 (((List.length text_ : Int) - end_1) + (1 : Int))).2) (3 : Int)).2) (3 : Int)).1) + (1 : Int)) + k_t1) (3 : Int)))) with | (picks_y2, cells_y2) => (if ((decide ((cutG text_ (some (end_1 + ((m__law_next cells_1 (((List.length text_ : Int) - end_1) + (1 : Int))).1))) (some ((end_1 + ((m__law_next cells_1 (((List.length text_ : Int) - end_1) + (1 : Int))).1)) + (Int.fmod (((m__law_next ((m__law_next cells_1 (((List.length text_ : Int) - end_1) + (1 : Int))).2) (3 : Int)).1) + (1 : Int)) (3 : Int))))) = ([]))) && (decide ((picks_y2.map fun (pick_c : Int) => (getI lines_ (Int.fmod pick_c (3 : Int)))) = ([])))) = true then (cells_y2, (edits_1 ++ [((end_1 + ((m__law_next cells_1 (((List.length text_ : Int) - end_1) + (1 : Int))).1)), (cutG text_ (some (end_1 + ((m__law_next cells_1 (((List.length text_ : Int) - end_1) + (1 : Int))).1))) (some ((end_1 + ((m__law_next cells_1 (((List.length text_ : Int) - end_1) + (1 : Int))).1)) + (Int.fmod (((m__law_next ((m__law_next cells_1 (((List.length text_ : Int) - end_1) + (1 : Int))).2) (3 : Int)).1) + (1 : Int)) (3 : Int))))), [(getI lines_ k_t1)])]), ((end_1 + ((m__law_next cells_1 (((List.length text_ : Int) - end_1) + (1 : Int))).1)) + (List.length (cutG text_ (some (end_1 + ((m__law_next cells_1 (((List.length text_ : Int) - end_1) + (1 : Int))).1))) (some ((end_1 + ((m__law_next cells_1 (((List.length text_ : Int) - end_1) + (1 : Int))).1)) + (Int.fmod (((m__law_next ((m__law_next cells_1 (((List.length text_ : Int) - end_1) + (1 : Int))).2) (3 : Int)).1) + (1 : Int)) (3 : Int))))) : Int))) else (cells_y2, (edits_1 ++ [((end_1 + ((m__law_next cells_1 (((List.length text_ : Int) - end_1) + (1 : Int))).1)), (cutG text_ (some (end_1 + ((m__law_next cells_1 (((List.length text_ : Int) - end_1) + (1 : Int))).1))) (some ((end_1 + ((m__law_next cells_1 (((List.length text_ : Int) - end_1) + (1 : Int))).1)) + (Int.fmod (((m__law_next ((m__law_next cells_1 (((List.length text_ : Int) - end_1) + (1 : Int))).2) (3 : Int)).1) + (1 : Int)) (3 : Int))))), (picks_y2.map fun (pick_c : Int) => (getI lines_ (Int.fmod pick_c (3 : Int)))))]), ((end_1 + ((m__law_next cells_1 (((List.length text_ : Int) - end_1) + (1 : Int))).1)) + (List.length (cutG text_ (some (end_1 + ((m__law_next cells_1 (((List.length text_ : Int) - end_1) + (1 : Int))).1))) (some ((end_1 + ((m__law_next cells_1 (((List.length text_ : Int) - end_1) + (1 : Int))).1)) + (Int.fmod (((m__law_next ((m__law_next cells_1 (((List.length text_ : Int) - end_1) + (1 : Int))).2) (3 : Int)).1) + (1 : Int)) (3 : Int))))) : Int)))))

def m__law_good (cells_ : (List (List Int))) (text_ : (List Str)) (lines_ : (List Str)) : ((List (Int × (List Str) × (List Str))) × (List (List Int))) :=
  (match (List.foldl (l__law_good_1 text_ lines_) ((m__law_next cells_ (4 : Int)).2, [], (0 : Int)) (rng 0 ((3 : Int) - ((m__law_next cells_ (4 : Int)).1)))) with | (cells_r1, edits_r1, end_r1) => (edits_r1, cells_r1))

abbrev s__law_good : Stmt := topS 17

abbrev N__law_good : List Str := ["cells", "text", "lines", "edits", "end", "k", "place", "many", "removed", "picks", "added", "j", "pick"]

theorem sc__law_good : FnScope N__law_good ["cells", "text", "lines"] (defScope s__law_good) := ⟨rfl, rfl, rfl, by decide +kernel, rfl, by decide +kernel, by decide +kernel⟩

def r__law_good : List PyData → List PyData → PyData → List PyData → Prop := fun ds rs d ds' => ∃ (cells_ : (List (List Int))) (text_ : (List Str)) (lines_ : (List Str)), ds = cells_.map (eL eI) ∧ rs = [(eL eS) text_, (eL eS) lines_] ∧ (∀ r ∈ cells_, r.length = 2) ∧ (text_.length ≤ 10) ∧ (lines_.length = 3) ∧ (∀ x ∈ text_, PyData.strOk x = true) ∧ (∀ x ∈ lines_, PyData.strOk x = true) ∧ d = (eL (eT3 eI (eTu eS) (eTu eS))) (m__law_good cells_ text_ lines_).1 ∧ ds' = (m__law_good cells_ text_ lines_).2.map (eL eI)

set_option maxHeartbeats 8000000 in
theorem ok__law_good {f : Addr} {fd : FuncData} {k : Nat} (F : Fun K "_law_good" "_law_good" s__law_good f fd) {f__law_next : Addr} {fd__law_next : FuncData} {k__law_next : Nat} (F__law_next : Fun K "_law_next" "_law_next" s__law_next f__law_next fd__law_next) (b__law_next : Binds K fd__law_next ["cells", "many"] []) (g__law_next : mg "_law_next" = some (.ref f__law_next)) (G__law_next : FnOk P w K mg base CX0 k__law_next f__law_next fd__law_next ["cells", "many"] (SpM r__law_next)) (k__law_next_ : k__law_next ≤ k) (m_range : mg "range" = none) (m_len : mg "len" = none) (m_int : mg "int" = none) (m_tuple : mg "tuple" = none) : FnOk P w K mg base CX0 (k + 1) f fd ["cells", "text", "lines"] (SpM2 r__law_good) := by
  refine F.ok sc__law_good (fun vs H Q E h => ?_) (fun cdv A outer s H vs Q E hr h => ?_)
  · obtain ⟨oa, xs, vr, o, ds, rs, d, ds', rfl, lo, ho, ha, hxs, hvr, ⟨cells_, text_, lines_, rfl, rfl, h1, h2, h3, h4, h5, rfl, rfl⟩, _⟩ := h
    have := hvr.length
    simp at this
    simp [this]
  · obtain ⟨oa, xs, vr, o, ds, rs, d, ds', rfl, lo, ho, ha, hxs, hvr, ⟨cells_, text_, lines_, rfl, rfl, h1, h2, h3, h4, h5, rfl, rfl⟩, q⟩ := h
    refine ⟨_, (pss_cons (ps_set (i := 3) sc__law_good.nd rfl (Or.inl rfl) (pe_lst pa_nil)) (pss_cons (ps_set (i := 4) sc__law_good.nd rfl (Or.inl rfl) pe_int) (pss_cons (ps_for PassesOwn.never rfl (pi_range1 rfl m_range (pa_cons (pe_op op_sub pe_int (pe_call G__law_next (hr.mono k__law_next_) (by rfl) g__law_next F__law_next.kp b__law_next .nil pass0 (pa_cons (pv 0) (pa_cons pe_int pa_nil)))) pa_nil)) (pg_name (i := 5) sc__law_good.nd rfl (Or.inr rfl)) (pss_cons (ps_set (i := 6) sc__law_good.nd rfl (Or.inl rfl) (pe_op op_add (pv 4) (pe_call G__law_next (hr.mono k__law_next_) (by rfl) g__law_next F__law_next.kp b__law_next .nil pass0 (pa_cons (pv 0) (pa_cons (pe_op op_add (pe_op op_sub (pe_callB (r := rLenK K) call_len_seq (by rfl) m_len PySem.boot_len (pa_cons (pv 1) pa_nil)) (pv 4)) pe_int) pa_nil))))) (pss_cons (ps_set (i := 7) sc__law_good.nd rfl (Or.inl rfl) (pe_op op_modN (pe_callTy call_int1 (by rfl) m_int (by decide +kernel) (pa_cons (pe_op op_add (pe_call G__law_next (hr.mono k__law_next_) (by rfl) g__law_next F__law_next.kp b__law_next .nil pass0 (pa_cons (pv 0) (pa_cons pe_int pa_nil))) pe_int) pa_nil)) pe_int)) (pss_cons (ps_set (i := 8) sc__law_good.nd rfl (Or.inl rfl) (pe_callTy (r := rTupOfK K) call_tuple_of (by rfl) m_tuple (by decide +kernel) (pa_cons (pe_slice (r := rSlL K) sl_list (pv 1) (po_some (pv 6)) (po_some (pe_op op_add (pv 6) (pv 7)))) pa_nil))) (pss_cons (ps_set (i := 7) sc__law_good.nd rfl (Or.inl rfl) (pe_op op_modN (pe_callTy call_int1 (by rfl) m_int (by decide +kernel) (pa_cons (pe_op op_add (pe_op op_add (pe_call G__law_next (hr.mono k__law_next_) (by rfl) g__law_next F__law_next.kp b__law_next .nil pass0 (pa_cons (pv 0) (pa_cons pe_int pa_nil))) pe_int) (pv 5)) pa_nil)) pe_int)) (pss_cons (ps_setLc (i := 9) (own := [("j", 11)]) (g := gName 11) (tt := tYes) rfl sc__law_good.nd rfl rfl (sw_true rfl rfl rfl (by decide +kernel)) (pi_range1 rfl m_range (pa_cons (pv 7) pa_nil)) (blkOk_by (own := [("j", 11)]) (N := N__law_good) (sc := defScope s__law_good) (by decide +kernel)) (fun _ _ _ _ _ => pg_name (i := 11) sc__law_good.nd rfl (Or.inl rfl)) (fun _ _ _ _ _ => pts_nil) (fun _ _ _ _ _ => (pe_op op_add (pe_op op_add (pe_op op_add (pe_call G__law_next (hr.mono k__law_next_) (by rfl) g__law_next F__law_next.kp b__law_next .nil pass0 (pa_cons (pv 0) (pa_cons pe_int pa_nil))) pe_int) (pv 5)) (pv 11)))) (pss_cons (ps_setLc (i := 10) (own := [("pick", 12)]) (g := gName 12) (tt := tYes) rfl sc__law_good.nd rfl rfl (sw_true rfl rfl rfl (by decide +kernel)) (pi_list (pv 9)) (blkOk_by (own := [("pick", 12)]) (N := N__law_good) (sc := defScope s__law_good) (by decide +kernel)) (fun _ _ _ _ _ => pg_name (i := 12) sc__law_good.nd rfl (Or.inl rfl)) (fun _ _ _ _ _ => pts_nil) (fun _ _ _ _ _ => (pe_ix (r := rIxL K) ix_list (pv 2) (pe_op op_modN (pe_callTy call_int1 (by rfl) m_int (by decide +kernel) (pa_cons (pv 12) pa_nil)) pe_int) (fun _ _ => rfl)))) (pss_cons (ps_if (PW.pt (pw_and (pt_cmpR (r := rEqD K) (op_eqD hr.units) (pv 8) (pe_tup pa_nil) (nomark _)) (pw_and1 (pt_cmpR (r := rEqD K) (op_eqD hr.units) (pv 10) (pe_lst pa_nil) (nomark _))))) (pss_cons (ps_set (i := 10) sc__law_good.nd rfl (Or.inl rfl) (pe_lst (pa_cons (pe_ix (r := rIxL K) ix_list (pv 2) (pv 5) (fun _ _ => rfl)) pa_nil))) pss_nil) pss_nil) (pss_cons (ps_expr (pe_bm PySem.F.plainAttrs_list PySem.F.slot_list_append PySem.F.type_list_append mt_append (pv 3) (pa_cons (pe_tup (pa_cons (pv 6) (pa_cons (pv 8) (pa_cons (pe_callTy (r := rTupOfK K) call_tuple_of (by rfl) m_tuple (by decide +kernel) (pa_cons (pv 10) pa_nil)) pa_nil)))) pa_nil))) (pss_cons (ps_set (i := 4) sc__law_good.nd rfl (Or.inl rfl) (pe_op op_add (pv 6) (pe_callB (r := rLenK K) call_len_seq (by rfl) m_len PySem.boot_len (pa_cons (pv 8) pa_nil)))) pss_nil)))))))))) (pss_cons (ps_ret (pv 3)) pss_nil)))), ?_⟩
    have B := bs_M2 (N := N__law_good) lo ho ha hxs hvr (by rw [hvr.length]; exact Nat.le_of_ble_eq_true rfl)
    have B : Bs _ _ _ [.ow true oa (cells_.map (eL eI)), .va true ((eL eS) text_), .va true ((eL eS) lines_), .no, .no, .no, .no, .no, .no, .no, .no, .no, .no] := B
    have e0 : Ex (hid (fun b => b = oa) H) (hid (fun b => b = oa) H) := Ex.refl _
    have hk : m__law_good cells_ text_ lines_ = (match (List.foldl (l__law_good_1 text_ lines_) ((m__law_next cells_ (4 : Int)).2, [], (0 : Int)) (rng 0 ((3 : Int) - ((m__law_next cells_ (4 : Int)).1)))) with | (cells_r1, edits_r1, end_r1) => (edits_r1, cells_r1)) := rfl
    have n4 := next_b (cells := cells_) (many := 4) (by omega)
    refine q_asgN (f := true) B (en_lstM (em := (eT3 eI (eTu eS) (eTu eS))) (xs := []) ea_nil (by simp)) fun a1 σ1 H1 B => ?_
    have B : Bs _ _ _ [.ow true oa (cells_.map (eL eI)), .va true ((eL eS) text_), .va true ((eL eS) lines_), .ow true a1 (([]).map (eT3 eI (eTu eS) (eTu eS))), .no, .no, .no, .no, .no, .no, .no, .no, .no] := B
    refine q_asg (f := true) B ev_int fun σ1 H1 B => ?_
    have B : Bs _ _ _ [.ow true oa (cells_.map (eL eI)), .va true ((eL eS) text_), .va true ((eL eS) lines_), .ow true a1 (([]).map (eT3 eI (eTu eS) (eTu eS))), .va true (eI (0 : Int)), .no, .no, .no, .no, .no, .no, .no, .no] := B
    refine q_rng1M (em_I0r ev_int (fun H2 e2 => by have B := B.mono e2; exact (em_call B rfl (ea_cons ev_int ea_nil) ⟨cells_, (4 : Int), rfl, rfl, by first | assumption | omega | exact next_J (by assumption) | exact next_J (next_J (by assumption)) | exact next_J (next_J (next_J (by assumption))), by first | assumption | omega | exact next_J (by assumption) | exact next_J (next_J (by assumption)) | exact next_J (next_J (next_J (by assumption))), by first | assumption | omega | exact next_J (by assumption) | exact next_J (next_J (by assumption)) | exact next_J (next_J (next_J (by assumption))), rfl, rfl⟩))) fun H1 B => ?_
    have B : Bs _ _ _ [.ow true oa (((m__law_next cells_ (4 : Int)).2).map (eL eI)), .va true ((eL eS) text_), .va true ((eL eS) lines_), .ow true a1 (([]).map (eT3 eI (eTu eS) (eTu eS))), .va true (eI (0 : Int)), .no, .no, .no, .no, .no, .no, .no, .no] := B
    refine q_foldR1 (fun (s : (List (List Int)) × (List (Int × (List Str) × (List Str))) × Int) => [.ow true oa (s.1.map (eL eI)), .va true ((eL eS) text_), .va true ((eL eS) lines_), .ow true a1 (s.2.1.map (eT3 eI (eTu eS) (eTu eS))), .va true (eI s.2.2), .no, .no, .no, .no, .no, .no, .no, .no]) (l__law_good_1 text_ lines_) ((m__law_next cells_ (4 : Int)).2, [], (0 : Int)) (fun n s => (∀ r ∈ s.1, r.length = 2) ∧ s.2.1.length ≤ n ∧ 0 ≤ s.2.2 ∧ s.2.2 ≤ text_.length) B ev_int (by first | exact fm3 _ | omega) (.cons (.refl _) (.cons (.refl _) (.cons (.refl _) (.cons (.refl _) (.cons (.refl _) (.cons (.no _) (.cons (.no _) (.cons (.no _) (.cons (.no _) (.cons (.no _) (.cons (.no _) (.cons (.no _) (.cons (.no _) .nil))))))))))))) ⟨next_J h1, by simp, by simp, by simp⟩ (fun B0 e1 n s k_t1 σ1 H1 hx hn hJ B => ?_) (fun s σ1 H1 hs hJ B => ?_)
    · rcases s with ⟨cells_1, edits_1, end_1⟩
      have B : Bs _ _ _ [.ow true oa (cells_1.map (eL eI)), .va true ((eL eS) text_), .va true ((eL eS) lines_), .ow true a1 (edits_1.map (eT3 eI (eTu eS) (eTu eS))), .va true (eI end_1), .va true (eI k_t1), .no, .no, .no, .no, .no, .no, .no] := B
      have hx_f := rng_mem.mp hx
      try simp only [List.length_reverse, rng_len, List.length_map] at hn
      have e0 := e0.trans e1
      have hk1 : l__law_good_1 text_ lines_ (cells_1, edits_1, end_1) k_t1 = (match (List.foldl (stepE (n__law_good_2 k_t1)) ([], (m__law_next ((m__law_next ((m__law_next cells_1 (((List.length text_ : Int) - end_1) + (1 : Int))).2) (3 : Int)).2) (3 : Int)).2) (rng 0 (Int.fmod ((((m__law_next ((m__law_next ((m__law_next cells_1 (((List.length text_ : Int) - end_1) + (1 : Int))).2) (3 : Int)).2) (3 : Int)).1) + (1 : Int)) + k_t1) (3 : Int)))) with | (picks_y2, cells_y2) => (if ((decide ((cutG text_ (some (end_1 + ((m__law_next cells_1 (((List.length text_ : Int) - end_1) + (1 : Int))).1))) (some ((end_1 + ((m__law_next cells_1 (((List.length text_ : Int) - end_1) + (1 : Int))).1)) + (Int.fmod (((m__law_next ((m__law_next cells_1 (((List.length text_ : Int) - end_1) + (1 : Int))).2) (3 : Int)).1) + (1 : Int)) (3 : Int))))) = ([]))) && (decide ((picks_y2.map fun (pick_c : Int) => (getI lines_ (Int.fmod pick_c (3 : Int)))) = ([])))) = true then (cells_y2, (edits_1 ++ [((end_1 + ((m__law_next cells_1 (((List.length text_ : Int) - end_1) + (1 : Int))).1)), (cutG text_ (some (end_1 + ((m__law_next cells_1 (((List.length text_ : Int) - end_1) + (1 : Int))).1))) (some ((end_1 + ((m__law_next cells_1 (((List.length text_ : Int) - end_1) + (1 : Int))).1)) + (Int.fmod (((m__law_next ((m__law_next cells_1 (((List.length text_ : Int) - end_1) + (1 : Int))).2) (3 : Int)).1) + (1 : Int)) (3 : Int))))), [(getI lines_ k_t1)])]), ((end_1 + ((m__law_next cells_1 (((List.length text_ : Int) - end_1) + (1 : Int))).1)) + (List.length (cutG text_ (some (end_1 + ((m__law_next cells_1 (((List.length text_ : Int) - end_1) + (1 : Int))).1))) (some ((end_1 + ((m__law_next cells_1 (((List.length text_ : Int) - end_1) + (1 : Int))).1)) + (Int.fmod (((m__law_next ((m__law_next cells_1 (((List.length text_ : Int) - end_1) + (1 : Int))).2) (3 : Int)).1) + (1 : Int)) (3 : Int))))) : Int))) else (cells_y2, (edits_1 ++ [((end_1 + ((m__law_next cells_1 (((List.length text_ : Int) - end_1) + (1 : Int))).1)), (cutG text_ (some (end_1 + ((m__law_next cells_1 (((List.length text_ : Int) - end_1) + (1 : Int))).1))) (some ((end_1 + ((m__law_next cells_1 (((List.length text_ : Int) - end_1) + (1 : Int))).1)) + (Int.fmod (((m__law_next ((m__law_next cells_1 (((List.length text_ : Int) - end_1) + (1 : Int))).2) (3 : Int)).1) + (1 : Int)) (3 : Int))))), (picks_y2.map fun (pick_c : Int) => (getI lines_ (Int.fmod pick_c (3 : Int)))))]), ((end_1 + ((m__law_next cells_1 (((List.length text_ : Int) - end_1) + (1 : Int))).1)) + (List.length (cutG text_ (some (end_1 + ((m__law_next cells_1 (((List.length text_ : Int) - end_1) + (1 : Int))).1))) (some ((end_1 + ((m__law_next cells_1 (((List.length text_ : Int) - end_1) + (1 : Int))).1)) + (Int.fmod (((m__law_next ((m__law_next cells_1 (((List.length text_ : Int) - end_1) + (1 : Int))).2) (3 : Int)).1) + (1 : Int)) (3 : Int))))) : Int))))) := rfl
      simp only at hJ
      obtain ⟨j1, j2, j3, j4⟩ := hJ
      have nb := next_b (cells := cells_1) (many := (((List.length text_ : Int) - end_1) + (1 : Int))) (by omega)
      have ce := cut_end (xs := text_) (p := (end_1 + ((m__law_next cells_1 (((List.length text_ : Int) - end_1) + (1 : Int))).1))) (hi := (some ((end_1 + ((m__law_next cells_1 (((List.length text_ : Int) - end_1) + (1 : Int))).1)) + (Int.fmod (((m__law_next ((m__law_next cells_1 (((List.length text_ : Int) - end_1) + (1 : Int))).2) (3 : Int)).1) + (1 : Int)) (3 : Int))))) (by omega) (by omega)
      refine q_asgM (em_I0r (ev_sc B rfl (.int _)) (fun H2 e2 => by have B := B.mono e2; exact (em_call B rfl (ea_cons (ev_I0 (ev_I0 (ev_lenM ((ev_va B rfl).w0)) (ev_sc B rfl (.int _))) ev_int) ea_nil) ⟨cells_1, (((List.length text_ : Int) - end_1) + (1 : Int)), rfl, rfl, by first | assumption | omega | exact next_J (by assumption) | exact next_J (next_J (by assumption)) | exact next_J (next_J (next_J (by assumption))), by first | assumption | omega | exact next_J (by assumption) | exact next_J (next_J (by assumption)) | exact next_J (next_J (next_J (by assumption))), by first | assumption | omega | exact next_J (by assumption) | exact next_J (next_J (by assumption)) | exact next_J (next_J (next_J (by assumption))), rfl, rfl⟩))) fun σ1 H1 B => ?_
      have B : Bs _ _ _ [.ow true oa (((m__law_next cells_1 (((List.length text_ : Int) - end_1) + (1 : Int))).2).map (eL eI)), .va true ((eL eS) text_), .va true ((eL eS) lines_), .ow true a1 (edits_1.map (eT3 eI (eTu eS) (eTu eS))), .va true (eI end_1), .va true (eI k_t1), .va true (eI (end_1 + ((m__law_next cells_1 (((List.length text_ : Int) - end_1) + (1 : Int))).1))), .no, .no, .no, .no, .no, .no] := B
      refine q_asgM (em_IC (em_int (em_I0 (em_call B rfl (ea_cons ev_int ea_nil) ⟨(m__law_next cells_1 (((List.length text_ : Int) - end_1) + (1 : Int))).2, (3 : Int), rfl, rfl, by first | assumption | omega | exact next_J (by assumption) | exact next_J (next_J (by assumption)) | exact next_J (next_J (next_J (by assumption))), by first | assumption | omega | exact next_J (by assumption) | exact next_J (next_J (by assumption)) | exact next_J (next_J (next_J (by assumption))), by first | assumption | omega | exact next_J (by assumption) | exact next_J (next_J (by assumption)) | exact next_J (next_J (next_J (by assumption))), rfl, rfl⟩) (fun H2 B => ev_int))) (fun H2 B => ev_int) (by omega)) fun σ1 H1 B => ?_
      have B : Bs _ _ _ [.ow true oa (((m__law_next ((m__law_next cells_1 (((List.length text_ : Int) - end_1) + (1 : Int))).2) (3 : Int)).2).map (eL eI)), .va true ((eL eS) text_), .va true ((eL eS) lines_), .ow true a1 (edits_1.map (eT3 eI (eTu eS) (eTu eS))), .va true (eI end_1), .va true (eI k_t1), .va true (eI (end_1 + ((m__law_next cells_1 (((List.length text_ : Int) - end_1) + (1 : Int))).1))), .va true (eI (Int.fmod (((m__law_next ((m__law_next cells_1 (((List.length text_ : Int) - end_1) + (1 : Int))).2) (3 : Int)).1) + (1 : Int)) (3 : Int))), .no, .no, .no, .no, .no] := B
      refine q_asg (f := true) B (ev_tupM (B.live true) (((en_slM ((ev_va B rfl).w0) (eo_some (ev_sc B rfl (.int _))) (eo_some (ev_I0 (ev_sc B rfl (.int _)) (ev_sc B rfl (.int _))))).scL (fun _ => (.str _))).ev (B.live true))) fun σ1 H1 B => ?_
      have B : Bs _ _ _ [.ow true oa (((m__law_next ((m__law_next cells_1 (((List.length text_ : Int) - end_1) + (1 : Int))).2) (3 : Int)).2).map (eL eI)), .va true ((eL eS) text_), .va true ((eL eS) lines_), .ow true a1 (edits_1.map (eT3 eI (eTu eS) (eTu eS))), .va true (eI end_1), .va true (eI k_t1), .va true (eI (end_1 + ((m__law_next cells_1 (((List.length text_ : Int) - end_1) + (1 : Int))).1))), .va true (eI (Int.fmod (((m__law_next ((m__law_next cells_1 (((List.length text_ : Int) - end_1) + (1 : Int))).2) (3 : Int)).1) + (1 : Int)) (3 : Int))), .va true ((eTu eS) (cutG text_ (some (end_1 + ((m__law_next cells_1 (((List.length text_ : Int) - end_1) + (1 : Int))).1))) (some ((end_1 + ((m__law_next cells_1 (((List.length text_ : Int) - end_1) + (1 : Int))).1)) + (Int.fmod (((m__law_next ((m__law_next cells_1 (((List.length text_ : Int) - end_1) + (1 : Int))).2) (3 : Int)).1) + (1 : Int)) (3 : Int)))))), .no, .no, .no, .no] := B
      refine q_asgM (em_IC (em_int (em_I0 (em_I0 (em_call B rfl (ea_cons ev_int ea_nil) ⟨(m__law_next ((m__law_next cells_1 (((List.length text_ : Int) - end_1) + (1 : Int))).2) (3 : Int)).2, (3 : Int), rfl, rfl, by first | assumption | omega | exact next_J (by assumption) | exact next_J (next_J (by assumption)) | exact next_J (next_J (next_J (by assumption))), by first | assumption | omega | exact next_J (by assumption) | exact next_J (next_J (by assumption)) | exact next_J (next_J (next_J (by assumption))), by first | assumption | omega | exact next_J (by assumption) | exact next_J (next_J (by assumption)) | exact next_J (next_J (next_J (by assumption))), rfl, rfl⟩) (fun H2 B => ev_int)) (fun H2 B => (ev_sc B rfl (.int _))))) (fun H2 B => ev_int) (by omega)) fun σ1 H1 B => ?_
      have B : Bs _ _ _ [.ow true oa (((m__law_next ((m__law_next ((m__law_next cells_1 (((List.length text_ : Int) - end_1) + (1 : Int))).2) (3 : Int)).2) (3 : Int)).2).map (eL eI)), .va true ((eL eS) text_), .va true ((eL eS) lines_), .ow true a1 (edits_1.map (eT3 eI (eTu eS) (eTu eS))), .va true (eI end_1), .va true (eI k_t1), .va true (eI (end_1 + ((m__law_next cells_1 (((List.length text_ : Int) - end_1) + (1 : Int))).1))), .va true (eI (Int.fmod ((((m__law_next ((m__law_next ((m__law_next cells_1 (((List.length text_ : Int) - end_1) + (1 : Int))).2) (3 : Int)).2) (3 : Int)).1) + (1 : Int)) + k_t1) (3 : Int))), .va true ((eTu eS) (cutG text_ (some (end_1 + ((m__law_next cells_1 (((List.length text_ : Int) - end_1) + (1 : Int))).1))) (some ((end_1 + ((m__law_next cells_1 (((List.length text_ : Int) - end_1) + (1 : Int))).1)) + (Int.fmod (((m__law_next ((m__law_next cells_1 (((List.length text_ : Int) - end_1) + (1 : Int))).2) (3 : Int)).1) + (1 : Int)) (3 : Int)))))), .no, .no, .no, .no] := B
      refine q_asgE (j := 11) (ci := 0) (emg := (eL eI)) (em2 := eI) (n__law_good_2 k_t1) (fun gs => ∀ r ∈ gs, r.length = 2) B rfl rfl (next_J (next_J (next_J j1))) (fun gs k h => next_J h) (it_R1M (ev_sc B rfl (.int _)) (by first | exact fm3 _ | omega)) (by first | omega | exact fm3h _) (fun c' cells_g2 j_c σ1 H1 hx hJ B => ?_) (fun picks_y2 cells_y2 σ1 H1 hs hJ B => ?_)
      · have hx_f := rng_mem.mp hx
        have B : Bs _ _ _ [.ow true oa (cells_g2.map (eL eI)), .va true ((eL eS) text_), .va true ((eL eS) lines_), .ow true a1 (edits_1.map (eT3 eI (eTu eS) (eTu eS))), .va true (eI end_1), .va true (eI k_t1), .va true (eI (end_1 + ((m__law_next cells_1 (((List.length text_ : Int) - end_1) + (1 : Int))).1))), .va true (eI (Int.fmod ((((m__law_next ((m__law_next ((m__law_next cells_1 (((List.length text_ : Int) - end_1) + (1 : Int))).2) (3 : Int)).2) (3 : Int)).1) + (1 : Int)) + k_t1) (3 : Int))), .va true ((eTu eS) (cutG text_ (some (end_1 + ((m__law_next cells_1 (((List.length text_ : Int) - end_1) + (1 : Int))).1))) (some ((end_1 + ((m__law_next cells_1 (((List.length text_ : Int) - end_1) + (1 : Int))).1)) + (Int.fmod (((m__law_next ((m__law_next cells_1 (((List.length text_ : Int) - end_1) + (1 : Int))).2) (3 : Int)).1) + (1 : Int)) (3 : Int)))))), .no, .no, .va true (eI j_c), .no] := B
        exact (em_I0 (em_I0 (em_I0 (em_call B rfl (ea_cons ev_int ea_nil) ⟨cells_g2, (3 : Int), rfl, rfl, by first | assumption | omega | exact next_J (by assumption) | exact next_J (next_J (by assumption)) | exact next_J (next_J (next_J (by assumption))), by first | assumption | omega | exact next_J (by assumption) | exact next_J (next_J (by assumption)) | exact next_J (next_J (next_J (by assumption))), by first | assumption | omega | exact next_J (by assumption) | exact next_J (next_J (by assumption)) | exact next_J (next_J (next_J (by assumption))), rfl, rfl⟩) (fun H2 B => ev_int)) (fun H2 B => (ev_sc B rfl (.int _)))) (fun H2 B => (ev_sc B rfl (.int _))))
      · rw [← hs] at hk1
        try dsimp only at hk1
        have B : Bs _ _ _ [.ow true oa (cells_y2.map (eL eI)), .va true ((eL eS) text_), .va true ((eL eS) lines_), .ow true a1 (edits_1.map (eT3 eI (eTu eS) (eTu eS))), .va true (eI end_1), .va true (eI k_t1), .va true (eI (end_1 + ((m__law_next cells_1 (((List.length text_ : Int) - end_1) + (1 : Int))).1))), .va true (eI (Int.fmod ((((m__law_next ((m__law_next ((m__law_next cells_1 (((List.length text_ : Int) - end_1) + (1 : Int))).2) (3 : Int)).2) (3 : Int)).1) + (1 : Int)) + k_t1) (3 : Int))), .va true ((eTu eS) (cutG text_ (some (end_1 + ((m__law_next cells_1 (((List.length text_ : Int) - end_1) + (1 : Int))).1))) (some ((end_1 + ((m__law_next cells_1 (((List.length text_ : Int) - end_1) + (1 : Int))).1)) + (Int.fmod (((m__law_next ((m__law_next cells_1 (((List.length text_ : Int) - end_1) + (1 : Int))).2) (3 : Int)).1) + (1 : Int)) (3 : Int)))))), .va true ((eL eI) picks_y2), .no, .no, .no] := B
        obtain ⟨x1, x2⟩ := fold_E0 hs
        have x4 : picks_y2.length ≤ 2 := by rw [x1]; exact fm3r _
        refine q_asg (f := true) B ((en_lcM1 (g := true) (em2 := eS) (fun pick_c => (getI lines_ (Int.fmod pick_c (3 : Int)))) B rfl (ev_va B rfl) (by first | omega | exact fm3h _) (fun c' pick_c σ1 H1 hx B => ((ev_ixM (em := eS) (xs := lines_) ((ev_va B rfl).w0) (ev_IC (ev_intI (ev_sc B rfl (.int _))) ev_int (by omega)) (show inB lines_ (Int.fmod pick_c (3 : Int)) from by first | assumption | (have := fmod_b (x := pick_c) (m := (3 : Int)) (by omega); unfold inB; first | omega | (simp; omega) | (simp at *; omega)))).sc (.str _)))).ev (B.live true)) fun σ1 H1 B => ?_
        have B : Bs _ _ _ [.ow true oa (cells_y2.map (eL eI)), .va true ((eL eS) text_), .va true ((eL eS) lines_), .ow true a1 (edits_1.map (eT3 eI (eTu eS) (eTu eS))), .va true (eI end_1), .va true (eI k_t1), .va true (eI (end_1 + ((m__law_next cells_1 (((List.length text_ : Int) - end_1) + (1 : Int))).1))), .va true (eI (Int.fmod ((((m__law_next ((m__law_next ((m__law_next cells_1 (((List.length text_ : Int) - end_1) + (1 : Int))).2) (3 : Int)).2) (3 : Int)).1) + (1 : Int)) + k_t1) (3 : Int))), .va true ((eTu eS) (cutG text_ (some (end_1 + ((m__law_next cells_1 (((List.length text_ : Int) - end_1) + (1 : Int))).1))) (some ((end_1 + ((m__law_next cells_1 (((List.length text_ : Int) - end_1) + (1 : Int))).1)) + (Int.fmod (((m__law_next ((m__law_next cells_1 (((List.length text_ : Int) - end_1) + (1 : Int))).2) (3 : Int)).1) + (1 : Int)) (3 : Int)))))), .va true ((eL eI) picks_y2), .va true ((eL eS) (picks_y2.map fun (pick_c : Int) => (getI lines_ (Int.fmod pick_c (3 : Int))))), .no, .no] := B
        refine q_if B (et_and (et_test (ev_eqM (a := (cutG text_ (some (end_1 + ((m__law_next cells_1 (((List.length text_ : Int) - end_1) + (1 : Int))).1))) (some ((end_1 + ((m__law_next cells_1 (((List.length text_ : Int) - end_1) + (1 : Int))).1)) + (Int.fmod (((m__law_next ((m__law_next cells_1 (((List.length text_ : Int) - end_1) + (1 : Int))).2) (3 : Int)).1) + (1 : Int)) (3 : Int)))))) (b := []) (emTu emS) ((ev_va B rfl).w0) (ev_tup (ds := []) live0 ea_nil (by simp)) (by first | exact gd_nil | exact (fun x hx => h4 x (cutG_mem hx)) | (intro x hx; obtain ⟨y, _, rfl⟩ := List.mem_map.mp hx; exact h5 _ (getI_mem (by have := fmod_b (x := y) (m := 3) (by omega); unfold inB; omega)))) gd_nil)) fun hc => (et_test (ev_eqM (a := (picks_y2.map fun (pick_c : Int) => (getI lines_ (Int.fmod pick_c (3 : Int))))) (b := []) (emL emS) ((ev_va B rfl).w0) ((en_lstM (em := eS) (xs := []) ea_nil (by simp)).ev live0) (by first | exact gd_nil | exact (fun x hx => h4 x (cutG_mem hx)) | (intro x hx; obtain ⟨y, _, rfl⟩ := List.mem_map.mp hx; exact h5 _ (getI_mem (by have := fmod_b (x := y) (m := 3) (by omega); unfold inB; omega)))) gd_nil))) (fun hc2 H1 B => ?_) (fun hc2 H1 B => ?_)
        · rw [if_pos hc2] at hk1
          have hc2_f := hc2
          try simp only [Bool.and_eq_true, Bool.or_eq_true, Bool.not_eq_true', Bool.and_eq_false_imp, Bool.or_eq_false_iff, Bool.not_eq_false', decide_eq_true_eq, decide_eq_false_iff_not] at hc2_f
          refine q_asg (f := true) B ((en_lstM (em := eS) (xs := [(getI lines_ k_t1)]) (ea_cons ((ev_ixM (em := eS) (xs := lines_) ((ev_va B rfl).w0) (ev_sc B rfl (.int _)) (show inB lines_ k_t1 from by first | assumption | (unfold inB; first | omega | (simp; omega) | (simp at *; omega)))).sc (.str _)) ea_nil) (by simp)).ev (B.live true)) fun σ1 H1 B => ?_
          have B : Bs _ _ _ [.ow true oa (cells_y2.map (eL eI)), .va true ((eL eS) text_), .va true ((eL eS) lines_), .ow true a1 (edits_1.map (eT3 eI (eTu eS) (eTu eS))), .va true (eI end_1), .va true (eI k_t1), .va true (eI (end_1 + ((m__law_next cells_1 (((List.length text_ : Int) - end_1) + (1 : Int))).1))), .va true (eI (Int.fmod ((((m__law_next ((m__law_next ((m__law_next cells_1 (((List.length text_ : Int) - end_1) + (1 : Int))).2) (3 : Int)).2) (3 : Int)).1) + (1 : Int)) + k_t1) (3 : Int))), .va true ((eTu eS) (cutG text_ (some (end_1 + ((m__law_next cells_1 (((List.length text_ : Int) - end_1) + (1 : Int))).1))) (some ((end_1 + ((m__law_next cells_1 (((List.length text_ : Int) - end_1) + (1 : Int))).1)) + (Int.fmod (((m__law_next ((m__law_next cells_1 (((List.length text_ : Int) - end_1) + (1 : Int))).2) (3 : Int)).1) + (1 : Int)) (3 : Int)))))), .va true ((eL eI) picks_y2), .va true ((eL eS) ([(getI lines_ k_t1)])), .no, .no] := B
          dsimp only [tNext]
          refine q_app (f := true) B rfl (ev_tup (ds := [eI (end_1 + ((m__law_next cells_1 (((List.length text_ : Int) - end_1) + (1 : Int))).1)), (eTu eS) (cutG text_ (some (end_1 + ((m__law_next cells_1 (((List.length text_ : Int) - end_1) + (1 : Int))).1))) (some ((end_1 + ((m__law_next cells_1 (((List.length text_ : Int) - end_1) + (1 : Int))).1)) + (Int.fmod (((m__law_next ((m__law_next cells_1 (((List.length text_ : Int) - end_1) + (1 : Int))).2) (3 : Int)).1) + (1 : Int)) (3 : Int))))), (eTu eS) ([(getI lines_ k_t1)])]) (B.live true) (ea_cons (ev_sc B rfl (.int _)) (ea_cons (ev_va B rfl) (ea_cons (ev_tupM (B.live true) (ev_va B rfl)) ea_nil))) (by simp)) (by first | omega | (simp; done) | (simp; omega) | exact cutG_le' (by omega) | (simp at *; omega)) fun H1 B => ?_
          have B : Bs _ _ _ [.ow true oa (cells_y2.map (eL eI)), .va true ((eL eS) text_), .va true ((eL eS) lines_), .ow true a1 ((edits_1 ++ [((end_1 + ((m__law_next cells_1 (((List.length text_ : Int) - end_1) + (1 : Int))).1)), (cutG text_ (some (end_1 + ((m__law_next cells_1 (((List.length text_ : Int) - end_1) + (1 : Int))).1))) (some ((end_1 + ((m__law_next cells_1 (((List.length text_ : Int) - end_1) + (1 : Int))).1)) + (Int.fmod (((m__law_next ((m__law_next cells_1 (((List.length text_ : Int) - end_1) + (1 : Int))).2) (3 : Int)).1) + (1 : Int)) (3 : Int))))), [(getI lines_ k_t1)])]).map (eT3 eI (eTu eS) (eTu eS))), .va true (eI end_1), .va true (eI k_t1), .va true (eI (end_1 + ((m__law_next cells_1 (((List.length text_ : Int) - end_1) + (1 : Int))).1))), .va true (eI (Int.fmod ((((m__law_next ((m__law_next ((m__law_next cells_1 (((List.length text_ : Int) - end_1) + (1 : Int))).2) (3 : Int)).2) (3 : Int)).1) + (1 : Int)) + k_t1) (3 : Int))), .va true ((eTu eS) (cutG text_ (some (end_1 + ((m__law_next cells_1 (((List.length text_ : Int) - end_1) + (1 : Int))).1))) (some ((end_1 + ((m__law_next cells_1 (((List.length text_ : Int) - end_1) + (1 : Int))).1)) + (Int.fmod (((m__law_next ((m__law_next cells_1 (((List.length text_ : Int) - end_1) + (1 : Int))).2) (3 : Int)).1) + (1 : Int)) (3 : Int)))))), .va true ((eL eI) picks_y2), .va true ((eL eS) ([(getI lines_ k_t1)])), .no, .no] := B.le (.cons (.refl _) (.cons (.refl _) (.cons (.refl _) (.cons (.eqo (by simp)) (.cons (.refl _) (.cons (.refl _) (.cons (.refl _) (.cons (.refl _) (.cons (.refl _) (.cons (.refl _) (.cons (.refl _) (.cons (.refl _) (.cons (.refl _) .nil)))))))))))))
          refine q_asg (f := true) B (ev_I0 (ev_sc B rfl (.int _)) (ev_lenTu ((ev_va B rfl).w0))) fun σ1 H1 B => ?_
          have B : Bs _ _ _ [.ow true oa (cells_y2.map (eL eI)), .va true ((eL eS) text_), .va true ((eL eS) lines_), .ow true a1 ((edits_1 ++ [((end_1 + ((m__law_next cells_1 (((List.length text_ : Int) - end_1) + (1 : Int))).1)), (cutG text_ (some (end_1 + ((m__law_next cells_1 (((List.length text_ : Int) - end_1) + (1 : Int))).1))) (some ((end_1 + ((m__law_next cells_1 (((List.length text_ : Int) - end_1) + (1 : Int))).1)) + (Int.fmod (((m__law_next ((m__law_next cells_1 (((List.length text_ : Int) - end_1) + (1 : Int))).2) (3 : Int)).1) + (1 : Int)) (3 : Int))))), [(getI lines_ k_t1)])]).map (eT3 eI (eTu eS) (eTu eS))), .va true (eI ((end_1 + ((m__law_next cells_1 (((List.length text_ : Int) - end_1) + (1 : Int))).1)) + (List.length (cutG text_ (some (end_1 + ((m__law_next cells_1 (((List.length text_ : Int) - end_1) + (1 : Int))).1))) (some ((end_1 + ((m__law_next cells_1 (((List.length text_ : Int) - end_1) + (1 : Int))).1)) + (Int.fmod (((m__law_next ((m__law_next cells_1 (((List.length text_ : Int) - end_1) + (1 : Int))).2) (3 : Int)).1) + (1 : Int)) (3 : Int))))) : Int))), .va true (eI k_t1), .va true (eI (end_1 + ((m__law_next cells_1 (((List.length text_ : Int) - end_1) + (1 : Int))).1))), .va true (eI (Int.fmod ((((m__law_next ((m__law_next ((m__law_next cells_1 (((List.length text_ : Int) - end_1) + (1 : Int))).2) (3 : Int)).2) (3 : Int)).1) + (1 : Int)) + k_t1) (3 : Int))), .va true ((eTu eS) (cutG text_ (some (end_1 + ((m__law_next cells_1 (((List.length text_ : Int) - end_1) + (1 : Int))).1))) (some ((end_1 + ((m__law_next cells_1 (((List.length text_ : Int) - end_1) + (1 : Int))).1)) + (Int.fmod (((m__law_next ((m__law_next cells_1 (((List.length text_ : Int) - end_1) + (1 : Int))).2) (3 : Int)).1) + (1 : Int)) (3 : Int)))))), .va true ((eL eI) picks_y2), .va true ((eL eS) ([(getI lines_ k_t1)])), .no, .no] := B
          exact ⟨_, hk1.symm, ⟨hJ, by simp; omega, by dsimp only; omega, by dsimp only; omega⟩, B.le (.cons (.refl _) (.cons (.refl _) (.cons (.refl _) (.cons (.refl _) (.cons (.refl _) (.cons (.no _) (.cons (.no _) (.cons (.no _) (.cons (.no _) (.cons (.no _) (.cons (.no _) (.cons (.no _) (.cons (.no _) .nil)))))))))))))⟩
        · rw [if_neg (show ¬ ((decide ((cutG text_ (some (end_1 + ((m__law_next cells_1 (((List.length text_ : Int) - end_1) + (1 : Int))).1))) (some ((end_1 + ((m__law_next cells_1 (((List.length text_ : Int) - end_1) + (1 : Int))).1)) + (Int.fmod (((m__law_next ((m__law_next cells_1 (((List.length text_ : Int) - end_1) + (1 : Int))).2) (3 : Int)).1) + (1 : Int)) (3 : Int))))) = ([]))) && (decide ((picks_y2.map fun (pick_c : Int) => (getI lines_ (Int.fmod pick_c (3 : Int)))) = ([])))) = true from by rw [hc2]; exact Bool.false_ne_true)] at hk1
          have hc2_f := hc2
          try simp only [Bool.and_eq_true, Bool.or_eq_true, Bool.not_eq_true', Bool.and_eq_false_imp, Bool.or_eq_false_iff, Bool.not_eq_false', decide_eq_true_eq, decide_eq_false_iff_not] at hc2_f
          dsimp only [tNext]
          refine q_app (f := true) B rfl (ev_tup (ds := [eI (end_1 + ((m__law_next cells_1 (((List.length text_ : Int) - end_1) + (1 : Int))).1)), (eTu eS) (cutG text_ (some (end_1 + ((m__law_next cells_1 (((List.length text_ : Int) - end_1) + (1 : Int))).1))) (some ((end_1 + ((m__law_next cells_1 (((List.length text_ : Int) - end_1) + (1 : Int))).1)) + (Int.fmod (((m__law_next ((m__law_next cells_1 (((List.length text_ : Int) - end_1) + (1 : Int))).2) (3 : Int)).1) + (1 : Int)) (3 : Int))))), (eTu eS) (picks_y2.map fun (pick_c : Int) => (getI lines_ (Int.fmod pick_c (3 : Int))))]) (B.live true) (ea_cons (ev_sc B rfl (.int _)) (ea_cons (ev_va B rfl) (ea_cons (ev_tupM (B.live true) (ev_va B rfl)) ea_nil))) (by simp)) (by first | omega | (simp; done) | (simp; omega) | exact cutG_le' (by omega) | (simp at *; omega)) fun H1 B => ?_
          have B : Bs _ _ _ [.ow true oa (cells_y2.map (eL eI)), .va true ((eL eS) text_), .va true ((eL eS) lines_), .ow true a1 ((edits_1 ++ [((end_1 + ((m__law_next cells_1 (((List.length text_ : Int) - end_1) + (1 : Int))).1)), (cutG text_ (some (end_1 + ((m__law_next cells_1 (((List.length text_ : Int) - end_1) + (1 : Int))).1))) (some ((end_1 + ((m__law_next cells_1 (((List.length text_ : Int) - end_1) + (1 : Int))).1)) + (Int.fmod (((m__law_next ((m__law_next cells_1 (((List.length text_ : Int) - end_1) + (1 : Int))).2) (3 : Int)).1) + (1 : Int)) (3 : Int))))), (picks_y2.map fun (pick_c : Int) => (getI lines_ (Int.fmod pick_c (3 : Int)))))]).map (eT3 eI (eTu eS) (eTu eS))), .va true (eI end_1), .va true (eI k_t1), .va true (eI (end_1 + ((m__law_next cells_1 (((List.length text_ : Int) - end_1) + (1 : Int))).1))), .va true (eI (Int.fmod ((((m__law_next ((m__law_next ((m__law_next cells_1 (((List.length text_ : Int) - end_1) + (1 : Int))).2) (3 : Int)).2) (3 : Int)).1) + (1 : Int)) + k_t1) (3 : Int))), .va true ((eTu eS) (cutG text_ (some (end_1 + ((m__law_next cells_1 (((List.length text_ : Int) - end_1) + (1 : Int))).1))) (some ((end_1 + ((m__law_next cells_1 (((List.length text_ : Int) - end_1) + (1 : Int))).1)) + (Int.fmod (((m__law_next ((m__law_next cells_1 (((List.length text_ : Int) - end_1) + (1 : Int))).2) (3 : Int)).1) + (1 : Int)) (3 : Int)))))), .va true ((eL eI) picks_y2), .va true ((eL eS) (picks_y2.map fun (pick_c : Int) => (getI lines_ (Int.fmod pick_c (3 : Int))))), .no, .no] := B.le (.cons (.refl _) (.cons (.refl _) (.cons (.refl _) (.cons (.eqo (by simp)) (.cons (.refl _) (.cons (.refl _) (.cons (.refl _) (.cons (.refl _) (.cons (.refl _) (.cons (.refl _) (.cons (.refl _) (.cons (.refl _) (.cons (.refl _) .nil)))))))))))))
          refine q_asg (f := true) B (ev_I0 (ev_sc B rfl (.int _)) (ev_lenTu ((ev_va B rfl).w0))) fun σ1 H1 B => ?_
          have B : Bs _ _ _ [.ow true oa (cells_y2.map (eL eI)), .va true ((eL eS) text_), .va true ((eL eS) lines_), .ow true a1 ((edits_1 ++ [((end_1 + ((m__law_next cells_1 (((List.length text_ : Int) - end_1) + (1 : Int))).1)), (cutG text_ (some (end_1 + ((m__law_next cells_1 (((List.length text_ : Int) - end_1) + (1 : Int))).1))) (some ((end_1 + ((m__law_next cells_1 (((List.length text_ : Int) - end_1) + (1 : Int))).1)) + (Int.fmod (((m__law_next ((m__law_next cells_1 (((List.length text_ : Int) - end_1) + (1 : Int))).2) (3 : Int)).1) + (1 : Int)) (3 : Int))))), (picks_y2.map fun (pick_c : Int) => (getI lines_ (Int.fmod pick_c (3 : Int)))))]).map (eT3 eI (eTu eS) (eTu eS))), .va true (eI ((end_1 + ((m__law_next cells_1 (((List.length text_ : Int) - end_1) + (1 : Int))).1)) + (List.length (cutG text_ (some (end_1 + ((m__law_next cells_1 (((List.length text_ : Int) - end_1) + (1 : Int))).1))) (some ((end_1 + ((m__law_next cells_1 (((List.length text_ : Int) - end_1) + (1 : Int))).1)) + (Int.fmod (((m__law_next ((m__law_next cells_1 (((List.length text_ : Int) - end_1) + (1 : Int))).2) (3 : Int)).1) + (1 : Int)) (3 : Int))))) : Int))), .va true (eI k_t1), .va true (eI (end_1 + ((m__law_next cells_1 (((List.length text_ : Int) - end_1) + (1 : Int))).1))), .va true (eI (Int.fmod ((((m__law_next ((m__law_next ((m__law_next cells_1 (((List.length text_ : Int) - end_1) + (1 : Int))).2) (3 : Int)).2) (3 : Int)).1) + (1 : Int)) + k_t1) (3 : Int))), .va true ((eTu eS) (cutG text_ (some (end_1 + ((m__law_next cells_1 (((List.length text_ : Int) - end_1) + (1 : Int))).1))) (some ((end_1 + ((m__law_next cells_1 (((List.length text_ : Int) - end_1) + (1 : Int))).1)) + (Int.fmod (((m__law_next ((m__law_next cells_1 (((List.length text_ : Int) - end_1) + (1 : Int))).2) (3 : Int)).1) + (1 : Int)) (3 : Int)))))), .va true ((eL eI) picks_y2), .va true ((eL eS) (picks_y2.map fun (pick_c : Int) => (getI lines_ (Int.fmod pick_c (3 : Int))))), .no, .no] := B
          exact ⟨_, hk1.symm, ⟨hJ, by simp; omega, by dsimp only; omega, by dsimp only; omega⟩, B.le (.cons (.refl _) (.cons (.refl _) (.cons (.refl _) (.cons (.refl _) (.cons (.refl _) (.cons (.no _) (.cons (.no _) (.cons (.no _) (.cons (.no _) (.cons (.no _) (.cons (.no _) (.cons (.no _) (.cons (.no _) .nil)))))))))))))⟩
    · rw [← hs] at hk
      try simp only [List.length_reverse, rng_len, List.length_map] at hJ
      obtain ⟨cells_r1, edits_r1, end_r1⟩ := s
      try dsimp only at hk
      have B : Bs _ _ _ [.ow true oa (cells_r1.map (eL eI)), .va true ((eL eS) text_), .va true ((eL eS) lines_), .ow true a1 (edits_r1.map (eT3 eI (eTu eS) (eTu eS))), .va true (eI end_r1), .no, .no, .no, .no, .no, .no, .no, .no] := B
      have B := B.le (δ' := [.ow true oa (cells_r1.map (eL eI)), .va true ((eL eS) text_), .va true ((eL eS) lines_), .va true ((eL (eT3 eI (eTu eS) (eTu eS))) edits_r1), .va true (eI end_r1), .no, .no, .no, .no, .no, .no, .no, .no]) (.cons (.refl _) (.cons (.refl _) (.cons (.refl _) (.cons (.fz _ _ _) (.cons (.refl _) (.cons (.refl _) (.cons (.refl _) (.cons (.refl _) (.cons (.refl _) (.cons (.refl _) (.cons (.refl _) (.cons (.refl _) (.cons (.refl _) .nil)))))))))))))
      refine q_retM (i := 0) B rfl (ev_va B rfl) rfl fun v xs' H' hb hp hxs hv => q v xs' H' hb hp ?_ ?_
      · rw [hk]; exact hxs
      · rw [hk]; exact hv

def l__law_bent_1 (text_ : (List Str)) (lines_ : (List Str)) (good_ : (List (Int × (List Str) × (List Str)))) (s : (List (List Int)) × (List (Int × (List Str) × (List Str))) × Int) (k_t1 : Int) : (List (List Int)) × (List (Int × (List Str) × (List Str))) × Int :=
  match s with
  | (cells_1, bent_1, end_1) => ((m__law_next ((m__law_next cells_1 (12 : Int)).2) (3 : Int)).2, (bent_1 ++ [(getI ((((((([((getI good_ k_t1).1, (getI good_ k_t1).2.1, (getI good_ k_t1).2.2)]) ++ ([((getI good_ k_t1).1, (getI good_ k_t1).2.1, (((getI good_ k_t1).2.2) ++ ([(getI lines_ ((m__law_next ((m__law_next cells_1 (12 : Int)).2) (3 : Int)).1))]))), ((getI good_ k_t1).1, [], [])])) ++ (([(((getI good_ k_t1).1) - (1 : Int)), (-1 : Int), (400 : Int), (401 : Int), (1000000000000000000000000000000 : Int)]).map fun (at_c : Int) => (at_c, (getI good_ k_t1).2.1, (getI good_ k_t1).2.2))) ++ ([((getI good_ k_t1).1, (((getI good_ k_t1).2.1) ++ ([(getI lines_ ((m__law_next ((m__law_next cells_1 (12 : Int)).2) (3 : Int)).1))])), (getI good_ k_t1).2.2)])) ++ ([((getI good_ k_t1).1, (([(getI lines_ ((m__law_next ((m__law_next cells_1 (12 : Int)).2) (3 : Int)).1))]) ++ (cutG ((getI good_ k_t1).2.1) (some (1 : Int)) none)), (getI good_ k_t1).2.2)])) ++ ([(((List.length text_ : Int) + (1 : Int)), [], [(getI lines_ ((m__law_next ((m__law_next cells_1 (12 : Int)).2) (3 : Int)).1))])])) ++ ([((end_1 - (1 : Int)), (cutG text_ (some (if (end_1 - (1 : Int)) > (0 : Int) then (end_1 - (1 : Int)) else (0 : Int))) (some end_1)), [(getI lines_ ((m__law_next ((m__law_next cells_1 (12 : Int)).2) (3 : Int)).1))])])) (Int.fmod (((m__law_next cells_1 (12 : Int)).1) + ((2 : Int) * (Int.fdiv k_t1 (2 : Int)))) (12 : Int)))]), (((getI good_ k_t1).1) + (List.length ((getI good_ k_t1).2.1) : Int)))

def m__law_bent (cells_ : (List (List Int))) (text_ : (List Str)) (lines_ : (List Str)) (good_ : (List (Int × (List Str) × (List Str)))) : ((List (Int × (List Str) × (List Str))) × (List (List Int))) :=
  (match (List.foldl (l__law_bent_1 text_ lines_ good_) (cells_, [], (0 : Int)) (rng 0 (List.length good_ : Int))) with | (cells_r1, bent_r1, end_r1) => (bent_r1, cells_r1))

abbrev s__law_bent : Stmt := topS 18

abbrev N__law_bent : List Str := ["cells", "text", "lines", "good", "bent", "end", "k", "place", "removed", "added", "kind", "line", "places", "odd", "elder", "at"]

theorem sc__law_bent : FnScope N__law_bent ["cells", "text", "lines", "good"] (defScope s__law_bent) := ⟨rfl, rfl, rfl, by decide +kernel, rfl, by decide +kernel, by decide +kernel⟩

def r__law_bent : List PyData → List PyData → PyData → List PyData → Prop := fun ds rs d ds' => ∃ (cells_ : (List (List Int))) (text_ : (List Str)) (lines_ : (List Str)) (good_ : (List (Int × (List Str) × (List Str)))), ds = cells_.map (eL eI) ∧ rs = [(eL eS) text_, (eL eS) lines_, (eL (eT3 eI (eTu eS) (eTu eS))) good_] ∧ (∀ r ∈ cells_, r.length = 2) ∧ (text_.length ≤ 10) ∧ (lines_.length = 3) ∧ (good_.length ≤ 3) ∧ (∀ e ∈ good_, e.2.1.length ≤ 10 ∧ e.2.2.length ≤ 10) ∧ d = (eL (eT3 eI (eTu eS) (eTu eS))) (m__law_bent cells_ text_ lines_ good_).1 ∧ ds' = (m__law_bent cells_ text_ lines_ good_).2.map (eL eI)

set_option maxHeartbeats 8000000 in
theorem ok__law_bent {f : Addr} {fd : FuncData} {k : Nat} (F : Fun K "_law_bent" "_law_bent" s__law_bent f fd) {f__law_next : Addr} {fd__law_next : FuncData} {k__law_next : Nat} (F__law_next : Fun K "_law_next" "_law_next" s__law_next f__law_next fd__law_next) (b__law_next : Binds K fd__law_next ["cells", "many"] []) (g__law_next : mg "_law_next" = some (.ref f__law_next)) (G__law_next : FnOk P w K mg base CX0 k__law_next f__law_next fd__law_next ["cells", "many"] (SpM r__law_next)) (k__law_next_ : k__law_next ≤ k) (m_range : mg "range" = none) (m_len : mg "len" = none) (m_int : mg "int" = none) (m_max : mg "max" = none) (m_tuple : mg "tuple" = none) : FnOk P w K mg base CX0 (k + 1) f fd ["cells", "text", "lines", "good"] (SpM2 r__law_bent) := by
  refine F.ok sc__law_bent (fun vs H Q E h => ?_) (fun cdv A outer s H vs Q E hr h => ?_)
  · obtain ⟨oa, xs, vr, o, ds, rs, d, ds', rfl, lo, ho, ha, hxs, hvr, ⟨cells_, text_, lines_, good_, rfl, rfl, h1, h2, h3, h4, h5, rfl, rfl⟩, _⟩ := h
    have := hvr.length
    simp at this
    simp [this]
  · obtain ⟨oa, xs, vr, o, ds, rs, d, ds', rfl, lo, ho, ha, hxs, hvr, ⟨cells_, text_, lines_, good_, rfl, rfl, h1, h2, h3, h4, h5, rfl, rfl⟩, q⟩ := h
    refine ⟨_, (pss_cons (ps_set (i := 4) sc__law_bent.nd rfl (Or.inl rfl) (pe_lst pa_nil)) (pss_cons (ps_set (i := 5) sc__law_bent.nd rfl (Or.inl rfl) pe_int) (pss_cons (ps_for PassesOwn.never rfl (pi_range1 rfl m_range (pa_cons (pe_callB (r := rLenK K) call_len_seq (by rfl) m_len PySem.boot_len (pa_cons (pv 3) pa_nil)) pa_nil)) (pg_name (i := 6) sc__law_bent.nd rfl (Or.inl rfl)) (pss_cons (ps_set (i := 7) sc__law_bent.nd rfl (Or.inl rfl) (pe_ix (r := rIxT K) ix_tup (pe_ix (r := rIxL K) ix_list (pv 3) (pv 6) (fun _ _ => rfl)) pe_int (fun _ _ => rfl))) (pss_cons (ps_set (i := 8) sc__law_bent.nd rfl (Or.inr rfl) (pe_ix (r := rIxT K) ix_tup (pe_ix (r := rIxL K) ix_list (pv 3) (pv 6) (fun _ _ => rfl)) pe_int (fun _ _ => rfl))) (pss_cons (ps_set (i := 9) sc__law_bent.nd rfl (Or.inr rfl) (pe_ix (r := rIxT K) ix_tup (pe_ix (r := rIxL K) ix_list (pv 3) (pv 6) (fun _ _ => rfl)) pe_int (fun _ _ => rfl))) (pss_cons (ps_set (i := 10) sc__law_bent.nd rfl (Or.inl rfl) (pe_op op_modN (pe_callTy call_int1 (by rfl) m_int (by decide +kernel) (pa_cons (pe_op op_add (pe_call G__law_next (hr.mono k__law_next_) (by rfl) g__law_next F__law_next.kp b__law_next .nil pass0 (pa_cons (pv 0) (pa_cons pe_int pa_nil))) (pe_op op_mul pe_int (pe_op op_fdivN (pv 6) pe_int))) pa_nil)) pe_int)) (pss_cons (ps_set (i := 11) sc__law_bent.nd rfl (Or.inl rfl) (pe_ix (r := rIxL K) ix_list (pv 2) (pe_call G__law_next (hr.mono k__law_next_) (by rfl) g__law_next F__law_next.kp b__law_next .nil pass0 (pa_cons (pv 0) (pa_cons pe_int pa_nil))) (fun _ _ => rfl))) (pss_cons (ps_set (i := 12) sc__law_bent.nd rfl (Or.inl rfl) (pe_lst (pa_cons (pe_op op_sub (pv 7) pe_int) (pa_cons (pe_un un_neg pe_int) (pa_cons pe_int (pa_cons pe_int (pa_cons (pe_op op_pow pe_int pe_int) pa_nil))))))) (pss_cons (ps_set (i := 13) sc__law_bent.nd rfl (Or.inl rfl) (pe_lst (pa_cons (pe_tup (pa_cons (pv 7) (pa_cons (pv 8) (pa_cons (pv 9) pa_nil)))) pa_nil))) (pss_cons (ps_set (i := 13) sc__law_bent.nd rfl (Or.inl rfl) (pe_op op_cat (pv 13) (pe_lst (pa_cons (pe_tup (pa_cons (pv 7) (pa_cons (pv 8) (pa_cons (pe_op op_catA (pv 9) (pe_tup (pa_cons (pv 11) pa_nil))) pa_nil)))) (pa_cons (pe_tup (pa_cons (pv 7) (pa_cons (pe_tup pa_nil) (pa_cons (pe_tup pa_nil) pa_nil)))) pa_nil))))) (pss_cons (ps_set (i := 13) sc__law_bent.nd rfl (Or.inl rfl) (pe_op op_cat (pv 13) (pe_lc (own := [("at", 15)]) (g := gName 15) (tt := tYes) rfl sc__law_bent.nd (pi_list (pv 12)) (blkOk_by (own := [("at", 15)]) (N := N__law_bent) (sc := defScope s__law_bent) (by decide +kernel)) (fun _ _ _ _ _ => pg_name (i := 15) sc__law_bent.nd rfl (Or.inl rfl)) (fun _ _ _ _ _ => pts_nil) (fun _ _ _ _ _ => (pe_tup (pa_cons (pv 15) (pa_cons (pv 8) (pa_cons (pv 9) pa_nil)))))))) (pss_cons (ps_set (i := 13) sc__law_bent.nd rfl (Or.inl rfl) (pe_op op_cat (pv 13) (pe_lst (pa_cons (pe_tup (pa_cons (pv 7) (pa_cons (pe_op op_catA (pv 8) (pe_tup (pa_cons (pv 11) pa_nil))) (pa_cons (pv 9) pa_nil)))) pa_nil)))) (pss_cons (ps_set (i := 13) sc__law_bent.nd rfl (Or.inl rfl) (pe_op op_cat (pv 13) (pe_lst (pa_cons (pe_tup (pa_cons (pv 7) (pa_cons (pe_op op_catA (pe_tup (pa_cons (pv 11) pa_nil)) (pe_slice (r := rSlA K) sl_tupA (pv 8) (po_some pe_int) po_none)) (pa_cons (pv 9) pa_nil)))) pa_nil)))) (pss_cons (ps_set (i := 13) sc__law_bent.nd rfl (Or.inl rfl) (pe_op op_cat (pv 13) (pe_lst (pa_cons (pe_tup (pa_cons (pe_op op_add (pe_callB (r := rLenK K) call_len_seq (by rfl) m_len PySem.boot_len (pa_cons (pv 1) pa_nil)) pe_int) (pa_cons (pe_tup pa_nil) (pa_cons (pe_tup (pa_cons (pv 11) pa_nil)) pa_nil)))) pa_nil)))) (pss_cons (ps_set (i := 14) sc__law_bent.nd rfl (Or.inl rfl) (pe_callTy (r := rTupOfK K) call_tuple_of (by rfl) m_tuple (by decide +kernel) (pa_cons (pe_slice (r := rSlL K) sl_list (pv 1) (po_some (pe_callB (call_max2 rfl) (by rfl) m_max (by decide +kernel) (pa_cons pe_int (pa_cons (pe_op op_sub (pv 5) pe_int) pa_nil)))) (po_some (pv 5))) pa_nil))) (pss_cons (ps_set (i := 13) sc__law_bent.nd rfl (Or.inl rfl) (pe_op op_cat (pv 13) (pe_lst (pa_cons (pe_tup (pa_cons (pe_op op_sub (pv 5) pe_int) (pa_cons (pv 14) (pa_cons (pe_tup (pa_cons (pv 11) pa_nil)) pa_nil)))) pa_nil)))) (pss_cons (ps_expr (pe_bm PySem.F.plainAttrs_list PySem.F.slot_list_append PySem.F.type_list_append mt_append (pv 4) (pa_cons (pe_ix (r := rIxL K) ix_list (pv 13) (pv 10) (fun _ _ => rfl)) pa_nil))) (pss_cons (ps_set (i := 5) sc__law_bent.nd rfl (Or.inl rfl) (pe_op op_add (pv 7) (pe_callB (r := rLenK K) call_len_seq (by rfl) m_len PySem.boot_len (pa_cons (pv 8) pa_nil)))) pss_nil))))))))))))))))) (pss_cons (ps_ret (pv 4)) pss_nil)))), ?_⟩
    have B := bs_M2 (N := N__law_bent) lo ho ha hxs hvr (by rw [hvr.length]; exact Nat.le_of_ble_eq_true rfl)
    have B : Bs _ _ _ [.ow true oa (cells_.map (eL eI)), .va true ((eL eS) text_), .va true ((eL eS) lines_), .va true ((eL (eT3 eI (eTu eS) (eTu eS))) good_), .no, .no, .no, .no, .no, .no, .no, .no, .no, .no, .no, .no] := B
    have e0 : Ex (hid (fun b => b = oa) H) (hid (fun b => b = oa) H) := Ex.refl _
    have hk : m__law_bent cells_ text_ lines_ good_ = (match (List.foldl (l__law_bent_1 text_ lines_ good_) (cells_, [], (0 : Int)) (rng 0 (List.length good_ : Int))) with | (cells_r1, bent_r1, end_r1) => (bent_r1, cells_r1)) := rfl
    refine q_asgN (f := true) B (en_lstM (em := (eT3 eI (eTu eS) (eTu eS))) (xs := []) ea_nil (by simp)) fun a4 σ1 H1 B => ?_
    have B : Bs _ _ _ [.ow true oa (cells_.map (eL eI)), .va true ((eL eS) text_), .va true ((eL eS) lines_), .va true ((eL (eT3 eI (eTu eS) (eTu eS))) good_), .ow true a4 (([]).map (eT3 eI (eTu eS) (eTu eS))), .no, .no, .no, .no, .no, .no, .no, .no, .no, .no, .no] := B
    refine q_asg (f := true) B ev_int fun σ1 H1 B => ?_
    have B : Bs _ _ _ [.ow true oa (cells_.map (eL eI)), .va true ((eL eS) text_), .va true ((eL eS) lines_), .va true ((eL (eT3 eI (eTu eS) (eTu eS))) good_), .ow true a4 (([]).map (eT3 eI (eTu eS) (eTu eS))), .va true (eI (0 : Int)), .no, .no, .no, .no, .no, .no, .no, .no, .no, .no] := B
    refine q_foldR1 (fun (s : (List (List Int)) × (List (Int × (List Str) × (List Str))) × Int) => [.ow true oa (s.1.map (eL eI)), .va true ((eL eS) text_), .va true ((eL eS) lines_), .va true ((eL (eT3 eI (eTu eS) (eTu eS))) good_), .ow true a4 (s.2.1.map (eT3 eI (eTu eS) (eTu eS))), .va true (eI s.2.2), .no, .no, .no, .no, .no, .no, .no, .no, .no, .no]) (l__law_bent_1 text_ lines_ good_) (cells_, [], (0 : Int)) (fun n s => (∀ r ∈ s.1, r.length = 2) ∧ s.2.1.length ≤ n) B (ev_lenM ((ev_va B rfl).w0)) (by omega) (.cons (.refl _) (.cons (.refl _) (.cons (.refl _) (.cons (.refl _) (.cons (.refl _) (.cons (.refl _) (.cons (.no _) (.cons (.no _) (.cons (.no _) (.cons (.no _) (.cons (.no _) (.cons (.no _) (.cons (.no _) (.cons (.no _) (.cons (.no _) (.cons (.no _) .nil)))))))))))))))) ⟨h1, by simp⟩ (fun B0 e1 n s k_t1 σ1 H1 hx hn hJ B => ?_) (fun s σ1 H1 hs hJ B => ?_)
    · rcases s with ⟨cells_1, bent_1, end_1⟩
      have B : Bs _ _ _ [.ow true oa (cells_1.map (eL eI)), .va true ((eL eS) text_), .va true ((eL eS) lines_), .va true ((eL (eT3 eI (eTu eS) (eTu eS))) good_), .ow true a4 (bent_1.map (eT3 eI (eTu eS) (eTu eS))), .va true (eI end_1), .va true (eI k_t1), .no, .no, .no, .no, .no, .no, .no, .no, .no] := B
      have hx_f := rng_mem.mp hx
      try simp only [List.length_reverse, rng_len, List.length_map] at hn
      have e0 := e0.trans e1
      have hk1 : l__law_bent_1 text_ lines_ good_ (cells_1, bent_1, end_1) k_t1 = ((m__law_next ((m__law_next cells_1 (12 : Int)).2) (3 : Int)).2, (bent_1 ++ [(getI ((((((([((getI good_ k_t1).1, (getI good_ k_t1).2.1, (getI good_ k_t1).2.2)]) ++ ([((getI good_ k_t1).1, (getI good_ k_t1).2.1, (((getI good_ k_t1).2.2) ++ ([(getI lines_ ((m__law_next ((m__law_next cells_1 (12 : Int)).2) (3 : Int)).1))]))), ((getI good_ k_t1).1, [], [])])) ++ (([(((getI good_ k_t1).1) - (1 : Int)), (-1 : Int), (400 : Int), (401 : Int), (1000000000000000000000000000000 : Int)]).map fun (at_c : Int) => (at_c, (getI good_ k_t1).2.1, (getI good_ k_t1).2.2))) ++ ([((getI good_ k_t1).1, (((getI good_ k_t1).2.1) ++ ([(getI lines_ ((m__law_next ((m__law_next cells_1 (12 : Int)).2) (3 : Int)).1))])), (getI good_ k_t1).2.2)])) ++ ([((getI good_ k_t1).1, (([(getI lines_ ((m__law_next ((m__law_next cells_1 (12 : Int)).2) (3 : Int)).1))]) ++ (cutG ((getI good_ k_t1).2.1) (some (1 : Int)) none)), (getI good_ k_t1).2.2)])) ++ ([(((List.length text_ : Int) + (1 : Int)), [], [(getI lines_ ((m__law_next ((m__law_next cells_1 (12 : Int)).2) (3 : Int)).1))])])) ++ ([((end_1 - (1 : Int)), (cutG text_ (some (if (end_1 - (1 : Int)) > (0 : Int) then (end_1 - (1 : Int)) else (0 : Int))) (some end_1)), [(getI lines_ ((m__law_next ((m__law_next cells_1 (12 : Int)).2) (3 : Int)).1))])])) (Int.fmod (((m__law_next cells_1 (12 : Int)).1) + ((2 : Int) * (Int.fdiv k_t1 (2 : Int)))) (12 : Int)))]), (((getI good_ k_t1).1) + (List.length ((getI good_ k_t1).2.1) : Int))) := rfl
      simp only at hJ
      obtain ⟨j1, j2⟩ := hJ
      have hin : inB good_ k_t1 := by unfold inB; omega
      have hg := h5 _ (getI_mem hin)
      have nb1 := next_b (cells := cells_1) (many := 12) (by omega)
      have nb2 := next_b (cells := (m__law_next cells_1 12).2) (many := 3) (by omega)
      have kb := fmod_b (x := ((m__law_next cells_1 12).1 + 2 * Int.fdiv k_t1 2)) (m := 12) (by omega)
      have cr := cutG_le (getI good_ k_t1).2.1 (some 1) none
      refine q_asg (f := true) B ((ev_ixT (K := K) (d := eI ((getI good_ k_t1).1)) (ev_ixM (em := (eT3 eI (eTu eS) (eTu eS))) (xs := good_) ((ev_va B rfl).w0) (ev_sc B rfl (.int _)) (show inB good_ k_t1 from by first | assumption | (unfold inB; first | omega | (simp only [List.length_append, List.length_cons, List.length_nil, List.length_map]; omega)))) ev_int (by rfl)).sc (.int _)) fun σ1 H1 B => ?_
      have B : Bs _ _ _ [.ow true oa (cells_1.map (eL eI)), .va true ((eL eS) text_), .va true ((eL eS) lines_), .va true ((eL (eT3 eI (eTu eS) (eTu eS))) good_), .ow true a4 (bent_1.map (eT3 eI (eTu eS) (eTu eS))), .va true (eI end_1), .va true (eI k_t1), .va true (eI ((getI good_ k_t1).1)), .no, .no, .no, .no, .no, .no, .no, .no] := B
      refine q_asg (f := true) B (ev_ixT (K := K) (d := (eTu eS) ((getI good_ k_t1).2.1)) (ev_ixM (em := (eT3 eI (eTu eS) (eTu eS))) (xs := good_) (ev_va B rfl) (ev_sc B rfl (.int _)) (show inB good_ k_t1 from by first | assumption | (unfold inB; first | omega | (simp only [List.length_append, List.length_cons, List.length_nil, List.length_map]; omega)))) ev_int (by rfl)) fun σ1 H1 B => ?_
      have B : Bs _ _ _ [.ow true oa (cells_1.map (eL eI)), .va true ((eL eS) text_), .va true ((eL eS) lines_), .va true ((eL (eT3 eI (eTu eS) (eTu eS))) good_), .ow true a4 (bent_1.map (eT3 eI (eTu eS) (eTu eS))), .va true (eI end_1), .va true (eI k_t1), .va true (eI ((getI good_ k_t1).1)), .va true ((eTu eS) ((getI good_ k_t1).2.1)), .no, .no, .no, .no, .no, .no, .no] := B
      refine q_asg (f := true) B (ev_ixT (K := K) (d := (eTu eS) ((getI good_ k_t1).2.2)) (ev_ixM (em := (eT3 eI (eTu eS) (eTu eS))) (xs := good_) (ev_va B rfl) (ev_sc B rfl (.int _)) (show inB good_ k_t1 from by first | assumption | (unfold inB; first | omega | (simp only [List.length_append, List.length_cons, List.length_nil, List.length_map]; omega)))) ev_int (by rfl)) fun σ1 H1 B => ?_
      have B : Bs _ _ _ [.ow true oa (cells_1.map (eL eI)), .va true ((eL eS) text_), .va true ((eL eS) lines_), .va true ((eL (eT3 eI (eTu eS) (eTu eS))) good_), .ow true a4 (bent_1.map (eT3 eI (eTu eS) (eTu eS))), .va true (eI end_1), .va true (eI k_t1), .va true (eI ((getI good_ k_t1).1)), .va true ((eTu eS) ((getI good_ k_t1).2.1)), .va true ((eTu eS) ((getI good_ k_t1).2.2)), .no, .no, .no, .no, .no, .no] := B
      refine q_asgM (em_IC (em_int (em_I0 (em_call B rfl (ea_cons ev_int ea_nil) ⟨cells_1, (12 : Int), rfl, rfl, by first | assumption | omega | exact next_J (by assumption) | exact next_J (next_J (by assumption)) | exact next_J (next_J (next_J (by assumption))), by first | assumption | omega | exact next_J (by assumption) | exact next_J (next_J (by assumption)) | exact next_J (next_J (next_J (by assumption))), by first | assumption | omega | exact next_J (by assumption) | exact next_J (next_J (by assumption)) | exact next_J (next_J (next_J (by assumption))), rfl, rfl⟩) (fun H2 B => (ev_IC ev_int (ev_IC (ev_sc B rfl (.int _)) ev_int ⟨by omega, by omega⟩) (by first | exact .inl ⟨by omega, by omega⟩ | exact .inr ⟨by omega, by omega⟩))))) (fun H2 B => ev_int) (by omega)) fun σ1 H1 B => ?_
      have B : Bs _ _ _ [.ow true oa (((m__law_next cells_1 (12 : Int)).2).map (eL eI)), .va true ((eL eS) text_), .va true ((eL eS) lines_), .va true ((eL (eT3 eI (eTu eS) (eTu eS))) good_), .ow true a4 (bent_1.map (eT3 eI (eTu eS) (eTu eS))), .va true (eI end_1), .va true (eI k_t1), .va true (eI ((getI good_ k_t1).1)), .va true ((eTu eS) ((getI good_ k_t1).2.1)), .va true ((eTu eS) ((getI good_ k_t1).2.2)), .va true (eI (Int.fmod (((m__law_next cells_1 (12 : Int)).1) + ((2 : Int) * (Int.fdiv k_t1 (2 : Int)))) (12 : Int))), .no, .no, .no, .no, .no] := B
      refine q_asgM (em_ixM (ev_va B rfl) (fun p => (adr_ow (i := 0) rfl p).symm) (fun H2 e2 => by have B := B.mono e2; exact (em_call B rfl (ea_cons ev_int ea_nil) ⟨(m__law_next cells_1 (12 : Int)).2, (3 : Int), rfl, rfl, by first | assumption | omega | exact next_J (by assumption) | exact next_J (next_J (by assumption)) | exact next_J (next_J (next_J (by assumption))), by first | assumption | omega | exact next_J (by assumption) | exact next_J (next_J (by assumption)) | exact next_J (next_J (next_J (by assumption))), by first | assumption | omega | exact next_J (by assumption) | exact next_J (next_J (by assumption)) | exact next_J (next_J (next_J (by assumption))), rfl, rfl⟩)) (show inB lines_ ((m__law_next ((m__law_next cells_1 (12 : Int)).2) (3 : Int)).1) from by first | assumption | (unfold inB; first | omega | (simp only [List.length_append, List.length_cons, List.length_nil, List.length_map]; omega)))) fun σ1 H1 B => ?_
      have B : Bs _ _ _ [.ow true oa (((m__law_next ((m__law_next cells_1 (12 : Int)).2) (3 : Int)).2).map (eL eI)), .va true ((eL eS) text_), .va true ((eL eS) lines_), .va true ((eL (eT3 eI (eTu eS) (eTu eS))) good_), .ow true a4 (bent_1.map (eT3 eI (eTu eS) (eTu eS))), .va true (eI end_1), .va true (eI k_t1), .va true (eI ((getI good_ k_t1).1)), .va true ((eTu eS) ((getI good_ k_t1).2.1)), .va true ((eTu eS) ((getI good_ k_t1).2.2)), .va true (eI (Int.fmod (((m__law_next cells_1 (12 : Int)).1) + ((2 : Int) * (Int.fdiv k_t1 (2 : Int)))) (12 : Int))), .va true (eS (getI lines_ ((m__law_next ((m__law_next cells_1 (12 : Int)).2) (3 : Int)).1))), .no, .no, .no, .no] := B
      refine q_asg (f := true) B ((en_lstM (em := eI) (xs := [(((getI good_ k_t1).1) - (1 : Int)), (-1 : Int), (400 : Int), (401 : Int), (1000000000000000000000000000000 : Int)]) (ea_cons (ev_I0 (ev_sc B rfl (.int _)) ev_int) (ea_cons (ev_neg ev_int) (ea_cons ev_int (ea_cons ev_int (ea_cons (ev_powC (i := 10) (j := 30) (n := 1000000000000000000000000000000) ev_int ev_int ⟨by decide, by decide, by decide⟩ (by decide +kernel)) ea_nil))))) (by simp)).ev (B.live true)) fun σ1 H1 B => ?_
      have B : Bs _ _ _ [.ow true oa (((m__law_next ((m__law_next cells_1 (12 : Int)).2) (3 : Int)).2).map (eL eI)), .va true ((eL eS) text_), .va true ((eL eS) lines_), .va true ((eL (eT3 eI (eTu eS) (eTu eS))) good_), .ow true a4 (bent_1.map (eT3 eI (eTu eS) (eTu eS))), .va true (eI end_1), .va true (eI k_t1), .va true (eI ((getI good_ k_t1).1)), .va true ((eTu eS) ((getI good_ k_t1).2.1)), .va true ((eTu eS) ((getI good_ k_t1).2.2)), .va true (eI (Int.fmod (((m__law_next cells_1 (12 : Int)).1) + ((2 : Int) * (Int.fdiv k_t1 (2 : Int)))) (12 : Int))), .va true (eS (getI lines_ ((m__law_next ((m__law_next cells_1 (12 : Int)).2) (3 : Int)).1))), .va true ((eL eI) ([(((getI good_ k_t1).1) - (1 : Int)), (-1 : Int), (400 : Int), (401 : Int), (1000000000000000000000000000000 : Int)])), .no, .no, .no] := B
      refine q_asg (f := true) B ((en_lstM (em := (eT3 eI (eTu eS) (eTu eS))) (xs := [((getI good_ k_t1).1, (getI good_ k_t1).2.1, (getI good_ k_t1).2.2)]) (ea_cons (ev_tup (B.live true) (ea_cons (ev_sc B rfl (.int _)) (ea_cons (ev_va B rfl) (ea_cons (ev_va B rfl) ea_nil))) (by simp)) ea_nil) (by simp)).ev (B.live true)) fun σ1 H1 B => ?_
      have B : Bs _ _ _ [.ow true oa (((m__law_next ((m__law_next cells_1 (12 : Int)).2) (3 : Int)).2).map (eL eI)), .va true ((eL eS) text_), .va true ((eL eS) lines_), .va true ((eL (eT3 eI (eTu eS) (eTu eS))) good_), .ow true a4 (bent_1.map (eT3 eI (eTu eS) (eTu eS))), .va true (eI end_1), .va true (eI k_t1), .va true (eI ((getI good_ k_t1).1)), .va true ((eTu eS) ((getI good_ k_t1).2.1)), .va true ((eTu eS) ((getI good_ k_t1).2.2)), .va true (eI (Int.fmod (((m__law_next cells_1 (12 : Int)).1) + ((2 : Int) * (Int.fdiv k_t1 (2 : Int)))) (12 : Int))), .va true (eS (getI lines_ ((m__law_next ((m__law_next cells_1 (12 : Int)).2) (3 : Int)).1))), .va true ((eL eI) ([(((getI good_ k_t1).1) - (1 : Int)), (-1 : Int), (400 : Int), (401 : Int), (1000000000000000000000000000000 : Int)])), .va true ((eL (eT3 eI (eTu eS) (eTu eS))) ([((getI good_ k_t1).1, (getI good_ k_t1).2.1, (getI good_ k_t1).2.2)])), .no, .no] := B
      refine q_asg (f := true) B ((en_catM (ev_va B rfl) ((en_lstM (em := (eT3 eI (eTu eS) (eTu eS))) (xs := [((getI good_ k_t1).1, (getI good_ k_t1).2.1, (((getI good_ k_t1).2.2) ++ ([(getI lines_ ((m__law_next ((m__law_next cells_1 (12 : Int)).2) (3 : Int)).1))]))), ((getI good_ k_t1).1, [], [])]) (ea_cons (ev_tup (ds := [eI ((getI good_ k_t1).1), (eTu eS) ((getI good_ k_t1).2.1), (eTu eS) (((getI good_ k_t1).2.2) ++ ([(getI lines_ ((m__law_next ((m__law_next cells_1 (12 : Int)).2) (3 : Int)).1))]))]) (B.live true) (ea_cons (ev_sc B rfl (.int _)) (ea_cons (ev_va B rfl) (ea_cons (ev_catTu (B.live true) (ev_va B rfl) (ev_tup (ds := [eS (getI lines_ ((m__law_next ((m__law_next cells_1 (12 : Int)).2) (3 : Int)).1))]) (B.live true) (ea_cons (ev_sc B rfl (.str _)) ea_nil) (by simp)) (by first | omega | (simp; omega) | (simp only [List.length_append, List.length_cons, List.length_nil, List.length_map]; omega))) ea_nil))) (by simp)) (ea_cons (ev_tup (ds := [eI ((getI good_ k_t1).1), (eTu eS) ([]), (eTu eS) ([])]) (B.live true) (ea_cons (ev_sc B rfl (.int _)) (ea_cons (ev_tup (ds := []) (B.live true) ea_nil (by simp)) (ea_cons (ev_tup (ds := []) (B.live true) ea_nil (by simp)) ea_nil))) (by simp)) ea_nil)) (by simp)).ev (B.live true)) (by first | omega | (simp; omega) | (simp only [List.length_append, List.length_cons, List.length_nil, List.length_map]; omega))).ev (B.live true)) fun σ1 H1 B => ?_
      have B : Bs _ _ _ [.ow true oa (((m__law_next ((m__law_next cells_1 (12 : Int)).2) (3 : Int)).2).map (eL eI)), .va true ((eL eS) text_), .va true ((eL eS) lines_), .va true ((eL (eT3 eI (eTu eS) (eTu eS))) good_), .ow true a4 (bent_1.map (eT3 eI (eTu eS) (eTu eS))), .va true (eI end_1), .va true (eI k_t1), .va true (eI ((getI good_ k_t1).1)), .va true ((eTu eS) ((getI good_ k_t1).2.1)), .va true ((eTu eS) ((getI good_ k_t1).2.2)), .va true (eI (Int.fmod (((m__law_next cells_1 (12 : Int)).1) + ((2 : Int) * (Int.fdiv k_t1 (2 : Int)))) (12 : Int))), .va true (eS (getI lines_ ((m__law_next ((m__law_next cells_1 (12 : Int)).2) (3 : Int)).1))), .va true ((eL eI) ([(((getI good_ k_t1).1) - (1 : Int)), (-1 : Int), (400 : Int), (401 : Int), (1000000000000000000000000000000 : Int)])), .va true ((eL (eT3 eI (eTu eS) (eTu eS))) (([((getI good_ k_t1).1, (getI good_ k_t1).2.1, (getI good_ k_t1).2.2)]) ++ ([((getI good_ k_t1).1, (getI good_ k_t1).2.1, (((getI good_ k_t1).2.2) ++ ([(getI lines_ ((m__law_next ((m__law_next cells_1 (12 : Int)).2) (3 : Int)).1))]))), ((getI good_ k_t1).1, [], [])]))), .no, .no] := B
      refine q_asg (f := true) B ((en_catM (ev_va B rfl) ((en_lcM1 (g := true) (em2 := (eT3 eI (eTu eS) (eTu eS))) (fun at_c => (at_c, (getI good_ k_t1).2.1, (getI good_ k_t1).2.2)) B rfl (ev_va B rfl) (by first | omega | (simp; done) | (simp; omega) | exact cutG_le' (by omega) | (simp at *; omega)) (fun c' at_c σ1 H1 hx B => (ev_tup (B.live true) (ea_cons (ev_sc B rfl (.int _)) (ea_cons (ev_va B rfl) (ea_cons (ev_va B rfl) ea_nil))) (by simp)))).ev (B.live true)) (by first | omega | (simp; omega) | (simp only [List.length_append, List.length_cons, List.length_nil, List.length_map]; omega))).ev (B.live true)) fun σ1 H1 B => ?_
      have B : Bs _ _ _ [.ow true oa (((m__law_next ((m__law_next cells_1 (12 : Int)).2) (3 : Int)).2).map (eL eI)), .va true ((eL eS) text_), .va true ((eL eS) lines_), .va true ((eL (eT3 eI (eTu eS) (eTu eS))) good_), .ow true a4 (bent_1.map (eT3 eI (eTu eS) (eTu eS))), .va true (eI end_1), .va true (eI k_t1), .va true (eI ((getI good_ k_t1).1)), .va true ((eTu eS) ((getI good_ k_t1).2.1)), .va true ((eTu eS) ((getI good_ k_t1).2.2)), .va true (eI (Int.fmod (((m__law_next cells_1 (12 : Int)).1) + ((2 : Int) * (Int.fdiv k_t1 (2 : Int)))) (12 : Int))), .va true (eS (getI lines_ ((m__law_next ((m__law_next cells_1 (12 : Int)).2) (3 : Int)).1))), .va true ((eL eI) ([(((getI good_ k_t1).1) - (1 : Int)), (-1 : Int), (400 : Int), (401 : Int), (1000000000000000000000000000000 : Int)])), .va true ((eL (eT3 eI (eTu eS) (eTu eS))) ((([((getI good_ k_t1).1, (getI good_ k_t1).2.1, (getI good_ k_t1).2.2)]) ++ ([((getI good_ k_t1).1, (getI good_ k_t1).2.1, (((getI good_ k_t1).2.2) ++ ([(getI lines_ ((m__law_next ((m__law_next cells_1 (12 : Int)).2) (3 : Int)).1))]))), ((getI good_ k_t1).1, [], [])])) ++ (([(((getI good_ k_t1).1) - (1 : Int)), (-1 : Int), (400 : Int), (401 : Int), (1000000000000000000000000000000 : Int)]).map fun (at_c : Int) => (at_c, (getI good_ k_t1).2.1, (getI good_ k_t1).2.2)))), .no, .no] := B
      refine q_asg (f := true) B ((en_catM (ev_va B rfl) ((en_lstM (em := (eT3 eI (eTu eS) (eTu eS))) (xs := [((getI good_ k_t1).1, (((getI good_ k_t1).2.1) ++ ([(getI lines_ ((m__law_next ((m__law_next cells_1 (12 : Int)).2) (3 : Int)).1))])), (getI good_ k_t1).2.2)]) (ea_cons (ev_tup (ds := [eI ((getI good_ k_t1).1), (eTu eS) (((getI good_ k_t1).2.1) ++ ([(getI lines_ ((m__law_next ((m__law_next cells_1 (12 : Int)).2) (3 : Int)).1))])), (eTu eS) ((getI good_ k_t1).2.2)]) (B.live true) (ea_cons (ev_sc B rfl (.int _)) (ea_cons (ev_catTu (B.live true) (ev_va B rfl) (ev_tup (ds := [eS (getI lines_ ((m__law_next ((m__law_next cells_1 (12 : Int)).2) (3 : Int)).1))]) (B.live true) (ea_cons (ev_sc B rfl (.str _)) ea_nil) (by simp)) (by first | omega | (simp; omega) | (simp only [List.length_append, List.length_cons, List.length_nil, List.length_map]; omega))) (ea_cons (ev_va B rfl) ea_nil))) (by simp)) ea_nil) (by simp)).ev (B.live true)) (by first | omega | (simp; omega) | (simp only [List.length_append, List.length_cons, List.length_nil, List.length_map]; omega))).ev (B.live true)) fun σ1 H1 B => ?_
      have B : Bs _ _ _ [.ow true oa (((m__law_next ((m__law_next cells_1 (12 : Int)).2) (3 : Int)).2).map (eL eI)), .va true ((eL eS) text_), .va true ((eL eS) lines_), .va true ((eL (eT3 eI (eTu eS) (eTu eS))) good_), .ow true a4 (bent_1.map (eT3 eI (eTu eS) (eTu eS))), .va true (eI end_1), .va true (eI k_t1), .va true (eI ((getI good_ k_t1).1)), .va true ((eTu eS) ((getI good_ k_t1).2.1)), .va true ((eTu eS) ((getI good_ k_t1).2.2)), .va true (eI (Int.fmod (((m__law_next cells_1 (12 : Int)).1) + ((2 : Int) * (Int.fdiv k_t1 (2 : Int)))) (12 : Int))), .va true (eS (getI lines_ ((m__law_next ((m__law_next cells_1 (12 : Int)).2) (3 : Int)).1))), .va true ((eL eI) ([(((getI good_ k_t1).1) - (1 : Int)), (-1 : Int), (400 : Int), (401 : Int), (1000000000000000000000000000000 : Int)])), .va true ((eL (eT3 eI (eTu eS) (eTu eS))) (((([((getI good_ k_t1).1, (getI good_ k_t1).2.1, (getI good_ k_t1).2.2)]) ++ ([((getI good_ k_t1).1, (getI good_ k_t1).2.1, (((getI good_ k_t1).2.2) ++ ([(getI lines_ ((m__law_next ((m__law_next cells_1 (12 : Int)).2) (3 : Int)).1))]))), ((getI good_ k_t1).1, [], [])])) ++ (([(((getI good_ k_t1).1) - (1 : Int)), (-1 : Int), (400 : Int), (401 : Int), (1000000000000000000000000000000 : Int)]).map fun (at_c : Int) => (at_c, (getI good_ k_t1).2.1, (getI good_ k_t1).2.2))) ++ ([((getI good_ k_t1).1, (((getI good_ k_t1).2.1) ++ ([(getI lines_ ((m__law_next ((m__law_next cells_1 (12 : Int)).2) (3 : Int)).1))])), (getI good_ k_t1).2.2)]))), .no, .no] := B
      refine q_asg (f := true) B ((en_catM (ev_va B rfl) ((en_lstM (em := (eT3 eI (eTu eS) (eTu eS))) (xs := [((getI good_ k_t1).1, (([(getI lines_ ((m__law_next ((m__law_next cells_1 (12 : Int)).2) (3 : Int)).1))]) ++ (cutG ((getI good_ k_t1).2.1) (some (1 : Int)) none)), (getI good_ k_t1).2.2)]) (ea_cons (ev_tup (ds := [eI ((getI good_ k_t1).1), (eTu eS) (([(getI lines_ ((m__law_next ((m__law_next cells_1 (12 : Int)).2) (3 : Int)).1))]) ++ (cutG ((getI good_ k_t1).2.1) (some (1 : Int)) none)), (eTu eS) ((getI good_ k_t1).2.2)]) (B.live true) (ea_cons (ev_sc B rfl (.int _)) (ea_cons (ev_catTu (B.live true) (ev_tup (ds := [eS (getI lines_ ((m__law_next ((m__law_next cells_1 (12 : Int)).2) (3 : Int)).1))]) (B.live true) (ea_cons (ev_sc B rfl (.str _)) ea_nil) (by simp)) (ev_slTu (B.live true) (ev_va B rfl) (eo_some ev_int) eo_none) (by first | omega | (simp; omega) | (simp only [List.length_append, List.length_cons, List.length_nil, List.length_map]; omega))) (ea_cons (ev_va B rfl) ea_nil))) (by simp)) ea_nil) (by simp)).ev (B.live true)) (by first | omega | (simp; omega) | (simp only [List.length_append, List.length_cons, List.length_nil, List.length_map]; omega))).ev (B.live true)) fun σ1 H1 B => ?_
      have B : Bs _ _ _ [.ow true oa (((m__law_next ((m__law_next cells_1 (12 : Int)).2) (3 : Int)).2).map (eL eI)), .va true ((eL eS) text_), .va true ((eL eS) lines_), .va true ((eL (eT3 eI (eTu eS) (eTu eS))) good_), .ow true a4 (bent_1.map (eT3 eI (eTu eS) (eTu eS))), .va true (eI end_1), .va true (eI k_t1), .va true (eI ((getI good_ k_t1).1)), .va true ((eTu eS) ((getI good_ k_t1).2.1)), .va true ((eTu eS) ((getI good_ k_t1).2.2)), .va true (eI (Int.fmod (((m__law_next cells_1 (12 : Int)).1) + ((2 : Int) * (Int.fdiv k_t1 (2 : Int)))) (12 : Int))), .va true (eS (getI lines_ ((m__law_next ((m__law_next cells_1 (12 : Int)).2) (3 : Int)).1))), .va true ((eL eI) ([(((getI good_ k_t1).1) - (1 : Int)), (-1 : Int), (400 : Int), (401 : Int), (1000000000000000000000000000000 : Int)])), .va true ((eL (eT3 eI (eTu eS) (eTu eS))) ((((([((getI good_ k_t1).1, (getI good_ k_t1).2.1, (getI good_ k_t1).2.2)]) ++ ([((getI good_ k_t1).1, (getI good_ k_t1).2.1, (((getI good_ k_t1).2.2) ++ ([(getI lines_ ((m__law_next ((m__law_next cells_1 (12 : Int)).2) (3 : Int)).1))]))), ((getI good_ k_t1).1, [], [])])) ++ (([(((getI good_ k_t1).1) - (1 : Int)), (-1 : Int), (400 : Int), (401 : Int), (1000000000000000000000000000000 : Int)]).map fun (at_c : Int) => (at_c, (getI good_ k_t1).2.1, (getI good_ k_t1).2.2))) ++ ([((getI good_ k_t1).1, (((getI good_ k_t1).2.1) ++ ([(getI lines_ ((m__law_next ((m__law_next cells_1 (12 : Int)).2) (3 : Int)).1))])), (getI good_ k_t1).2.2)])) ++ ([((getI good_ k_t1).1, (([(getI lines_ ((m__law_next ((m__law_next cells_1 (12 : Int)).2) (3 : Int)).1))]) ++ (cutG ((getI good_ k_t1).2.1) (some (1 : Int)) none)), (getI good_ k_t1).2.2)]))), .no, .no] := B
      refine q_asg (f := true) B ((en_catM (ev_va B rfl) ((en_lstM (em := (eT3 eI (eTu eS) (eTu eS))) (xs := [(((List.length text_ : Int) + (1 : Int)), [], [(getI lines_ ((m__law_next ((m__law_next cells_1 (12 : Int)).2) (3 : Int)).1))])]) (ea_cons (ev_tup (ds := [eI ((List.length text_ : Int) + (1 : Int)), (eTu eS) ([]), (eTu eS) ([(getI lines_ ((m__law_next ((m__law_next cells_1 (12 : Int)).2) (3 : Int)).1))])]) (B.live true) (ea_cons (ev_I0 (ev_lenM ((ev_va B rfl).w0)) ev_int) (ea_cons (ev_tup (ds := []) (B.live true) ea_nil (by simp)) (ea_cons (ev_tup (ds := [eS (getI lines_ ((m__law_next ((m__law_next cells_1 (12 : Int)).2) (3 : Int)).1))]) (B.live true) (ea_cons (ev_sc B rfl (.str _)) ea_nil) (by simp)) ea_nil))) (by simp)) ea_nil) (by simp)).ev (B.live true)) (by first | omega | (simp; omega) | (simp only [List.length_append, List.length_cons, List.length_nil, List.length_map]; omega))).ev (B.live true)) fun σ1 H1 B => ?_
      have B : Bs _ _ _ [.ow true oa (((m__law_next ((m__law_next cells_1 (12 : Int)).2) (3 : Int)).2).map (eL eI)), .va true ((eL eS) text_), .va true ((eL eS) lines_), .va true ((eL (eT3 eI (eTu eS) (eTu eS))) good_), .ow true a4 (bent_1.map (eT3 eI (eTu eS) (eTu eS))), .va true (eI end_1), .va true (eI k_t1), .va true (eI ((getI good_ k_t1).1)), .va true ((eTu eS) ((getI good_ k_t1).2.1)), .va true ((eTu eS) ((getI good_ k_t1).2.2)), .va true (eI (Int.fmod (((m__law_next cells_1 (12 : Int)).1) + ((2 : Int) * (Int.fdiv k_t1 (2 : Int)))) (12 : Int))), .va true (eS (getI lines_ ((m__law_next ((m__law_next cells_1 (12 : Int)).2) (3 : Int)).1))), .va true ((eL eI) ([(((getI good_ k_t1).1) - (1 : Int)), (-1 : Int), (400 : Int), (401 : Int), (1000000000000000000000000000000 : Int)])), .va true ((eL (eT3 eI (eTu eS) (eTu eS))) (((((([((getI good_ k_t1).1, (getI good_ k_t1).2.1, (getI good_ k_t1).2.2)]) ++ ([((getI good_ k_t1).1, (getI good_ k_t1).2.1, (((getI good_ k_t1).2.2) ++ ([(getI lines_ ((m__law_next ((m__law_next cells_1 (12 : Int)).2) (3 : Int)).1))]))), ((getI good_ k_t1).1, [], [])])) ++ (([(((getI good_ k_t1).1) - (1 : Int)), (-1 : Int), (400 : Int), (401 : Int), (1000000000000000000000000000000 : Int)]).map fun (at_c : Int) => (at_c, (getI good_ k_t1).2.1, (getI good_ k_t1).2.2))) ++ ([((getI good_ k_t1).1, (((getI good_ k_t1).2.1) ++ ([(getI lines_ ((m__law_next ((m__law_next cells_1 (12 : Int)).2) (3 : Int)).1))])), (getI good_ k_t1).2.2)])) ++ ([((getI good_ k_t1).1, (([(getI lines_ ((m__law_next ((m__law_next cells_1 (12 : Int)).2) (3 : Int)).1))]) ++ (cutG ((getI good_ k_t1).2.1) (some (1 : Int)) none)), (getI good_ k_t1).2.2)])) ++ ([(((List.length text_ : Int) + (1 : Int)), [], [(getI lines_ ((m__law_next ((m__law_next cells_1 (12 : Int)).2) (3 : Int)).1))])]))), .no, .no] := B
      refine q_asg (f := true) B (ev_tupM (B.live true) (((en_slM ((ev_va B rfl).w0) (eo_some (ev_max2 ev_int (ev_I0 (ev_sc B rfl (.int _)) ev_int))) (eo_some (ev_sc B rfl (.int _)))).scL (fun _ => (.str _))).ev (B.live true))) fun σ1 H1 B => ?_
      have B : Bs _ _ _ [.ow true oa (((m__law_next ((m__law_next cells_1 (12 : Int)).2) (3 : Int)).2).map (eL eI)), .va true ((eL eS) text_), .va true ((eL eS) lines_), .va true ((eL (eT3 eI (eTu eS) (eTu eS))) good_), .ow true a4 (bent_1.map (eT3 eI (eTu eS) (eTu eS))), .va true (eI end_1), .va true (eI k_t1), .va true (eI ((getI good_ k_t1).1)), .va true ((eTu eS) ((getI good_ k_t1).2.1)), .va true ((eTu eS) ((getI good_ k_t1).2.2)), .va true (eI (Int.fmod (((m__law_next cells_1 (12 : Int)).1) + ((2 : Int) * (Int.fdiv k_t1 (2 : Int)))) (12 : Int))), .va true (eS (getI lines_ ((m__law_next ((m__law_next cells_1 (12 : Int)).2) (3 : Int)).1))), .va true ((eL eI) ([(((getI good_ k_t1).1) - (1 : Int)), (-1 : Int), (400 : Int), (401 : Int), (1000000000000000000000000000000 : Int)])), .va true ((eL (eT3 eI (eTu eS) (eTu eS))) (((((([((getI good_ k_t1).1, (getI good_ k_t1).2.1, (getI good_ k_t1).2.2)]) ++ ([((getI good_ k_t1).1, (getI good_ k_t1).2.1, (((getI good_ k_t1).2.2) ++ ([(getI lines_ ((m__law_next ((m__law_next cells_1 (12 : Int)).2) (3 : Int)).1))]))), ((getI good_ k_t1).1, [], [])])) ++ (([(((getI good_ k_t1).1) - (1 : Int)), (-1 : Int), (400 : Int), (401 : Int), (1000000000000000000000000000000 : Int)]).map fun (at_c : Int) => (at_c, (getI good_ k_t1).2.1, (getI good_ k_t1).2.2))) ++ ([((getI good_ k_t1).1, (((getI good_ k_t1).2.1) ++ ([(getI lines_ ((m__law_next ((m__law_next cells_1 (12 : Int)).2) (3 : Int)).1))])), (getI good_ k_t1).2.2)])) ++ ([((getI good_ k_t1).1, (([(getI lines_ ((m__law_next ((m__law_next cells_1 (12 : Int)).2) (3 : Int)).1))]) ++ (cutG ((getI good_ k_t1).2.1) (some (1 : Int)) none)), (getI good_ k_t1).2.2)])) ++ ([(((List.length text_ : Int) + (1 : Int)), [], [(getI lines_ ((m__law_next ((m__law_next cells_1 (12 : Int)).2) (3 : Int)).1))])]))), .va true ((eTu eS) (cutG text_ (some (if (end_1 - (1 : Int)) > (0 : Int) then (end_1 - (1 : Int)) else (0 : Int))) (some end_1))), .no] := B
      refine q_asg (f := true) B ((en_catM (ev_va B rfl) ((en_lstM (em := (eT3 eI (eTu eS) (eTu eS))) (xs := [((end_1 - (1 : Int)), (cutG text_ (some (if (end_1 - (1 : Int)) > (0 : Int) then (end_1 - (1 : Int)) else (0 : Int))) (some end_1)), [(getI lines_ ((m__law_next ((m__law_next cells_1 (12 : Int)).2) (3 : Int)).1))])]) (ea_cons (ev_tup (ds := [eI (end_1 - (1 : Int)), (eTu eS) (cutG text_ (some (if (end_1 - (1 : Int)) > (0 : Int) then (end_1 - (1 : Int)) else (0 : Int))) (some end_1)), (eTu eS) ([(getI lines_ ((m__law_next ((m__law_next cells_1 (12 : Int)).2) (3 : Int)).1))])]) (B.live true) (ea_cons (ev_I0 (ev_sc B rfl (.int _)) ev_int) (ea_cons (ev_va B rfl) (ea_cons (ev_tup (ds := [eS (getI lines_ ((m__law_next ((m__law_next cells_1 (12 : Int)).2) (3 : Int)).1))]) (B.live true) (ea_cons (ev_sc B rfl (.str _)) ea_nil) (by simp)) ea_nil))) (by simp)) ea_nil) (by simp)).ev (B.live true)) (by first | omega | (simp; omega) | (simp only [List.length_append, List.length_cons, List.length_nil, List.length_map]; omega))).ev (B.live true)) fun σ1 H1 B => ?_
      have B : Bs _ _ _ [.ow true oa (((m__law_next ((m__law_next cells_1 (12 : Int)).2) (3 : Int)).2).map (eL eI)), .va true ((eL eS) text_), .va true ((eL eS) lines_), .va true ((eL (eT3 eI (eTu eS) (eTu eS))) good_), .ow true a4 (bent_1.map (eT3 eI (eTu eS) (eTu eS))), .va true (eI end_1), .va true (eI k_t1), .va true (eI ((getI good_ k_t1).1)), .va true ((eTu eS) ((getI good_ k_t1).2.1)), .va true ((eTu eS) ((getI good_ k_t1).2.2)), .va true (eI (Int.fmod (((m__law_next cells_1 (12 : Int)).1) + ((2 : Int) * (Int.fdiv k_t1 (2 : Int)))) (12 : Int))), .va true (eS (getI lines_ ((m__law_next ((m__law_next cells_1 (12 : Int)).2) (3 : Int)).1))), .va true ((eL eI) ([(((getI good_ k_t1).1) - (1 : Int)), (-1 : Int), (400 : Int), (401 : Int), (1000000000000000000000000000000 : Int)])), .va true ((eL (eT3 eI (eTu eS) (eTu eS))) ((((((([((getI good_ k_t1).1, (getI good_ k_t1).2.1, (getI good_ k_t1).2.2)]) ++ ([((getI good_ k_t1).1, (getI good_ k_t1).2.1, (((getI good_ k_t1).2.2) ++ ([(getI lines_ ((m__law_next ((m__law_next cells_1 (12 : Int)).2) (3 : Int)).1))]))), ((getI good_ k_t1).1, [], [])])) ++ (([(((getI good_ k_t1).1) - (1 : Int)), (-1 : Int), (400 : Int), (401 : Int), (1000000000000000000000000000000 : Int)]).map fun (at_c : Int) => (at_c, (getI good_ k_t1).2.1, (getI good_ k_t1).2.2))) ++ ([((getI good_ k_t1).1, (((getI good_ k_t1).2.1) ++ ([(getI lines_ ((m__law_next ((m__law_next cells_1 (12 : Int)).2) (3 : Int)).1))])), (getI good_ k_t1).2.2)])) ++ ([((getI good_ k_t1).1, (([(getI lines_ ((m__law_next ((m__law_next cells_1 (12 : Int)).2) (3 : Int)).1))]) ++ (cutG ((getI good_ k_t1).2.1) (some (1 : Int)) none)), (getI good_ k_t1).2.2)])) ++ ([(((List.length text_ : Int) + (1 : Int)), [], [(getI lines_ ((m__law_next ((m__law_next cells_1 (12 : Int)).2) (3 : Int)).1))])])) ++ ([((end_1 - (1 : Int)), (cutG text_ (some (if (end_1 - (1 : Int)) > (0 : Int) then (end_1 - (1 : Int)) else (0 : Int))) (some end_1)), [(getI lines_ ((m__law_next ((m__law_next cells_1 (12 : Int)).2) (3 : Int)).1))])]))), .va true ((eTu eS) (cutG text_ (some (if (end_1 - (1 : Int)) > (0 : Int) then (end_1 - (1 : Int)) else (0 : Int))) (some end_1))), .no] := B
      refine q_app (f := true) B rfl (ev_ixM (em := (eT3 eI (eTu eS) (eTu eS))) (xs := ((((((([((getI good_ k_t1).1, (getI good_ k_t1).2.1, (getI good_ k_t1).2.2)]) ++ ([((getI good_ k_t1).1, (getI good_ k_t1).2.1, (((getI good_ k_t1).2.2) ++ ([(getI lines_ ((m__law_next ((m__law_next cells_1 (12 : Int)).2) (3 : Int)).1))]))), ((getI good_ k_t1).1, [], [])])) ++ (([(((getI good_ k_t1).1) - (1 : Int)), (-1 : Int), (400 : Int), (401 : Int), (1000000000000000000000000000000 : Int)]).map fun (at_c : Int) => (at_c, (getI good_ k_t1).2.1, (getI good_ k_t1).2.2))) ++ ([((getI good_ k_t1).1, (((getI good_ k_t1).2.1) ++ ([(getI lines_ ((m__law_next ((m__law_next cells_1 (12 : Int)).2) (3 : Int)).1))])), (getI good_ k_t1).2.2)])) ++ ([((getI good_ k_t1).1, (([(getI lines_ ((m__law_next ((m__law_next cells_1 (12 : Int)).2) (3 : Int)).1))]) ++ (cutG ((getI good_ k_t1).2.1) (some (1 : Int)) none)), (getI good_ k_t1).2.2)])) ++ ([(((List.length text_ : Int) + (1 : Int)), [], [(getI lines_ ((m__law_next ((m__law_next cells_1 (12 : Int)).2) (3 : Int)).1))])])) ++ ([((end_1 - (1 : Int)), (cutG text_ (some (if (end_1 - (1 : Int)) > (0 : Int) then (end_1 - (1 : Int)) else (0 : Int))) (some end_1)), [(getI lines_ ((m__law_next ((m__law_next cells_1 (12 : Int)).2) (3 : Int)).1))])]))) (ev_va B rfl) (ev_sc B rfl (.int _)) (show inB ((((((([((getI good_ k_t1).1, (getI good_ k_t1).2.1, (getI good_ k_t1).2.2)]) ++ ([((getI good_ k_t1).1, (getI good_ k_t1).2.1, (((getI good_ k_t1).2.2) ++ ([(getI lines_ ((m__law_next ((m__law_next cells_1 (12 : Int)).2) (3 : Int)).1))]))), ((getI good_ k_t1).1, [], [])])) ++ (([(((getI good_ k_t1).1) - (1 : Int)), (-1 : Int), (400 : Int), (401 : Int), (1000000000000000000000000000000 : Int)]).map fun (at_c : Int) => (at_c, (getI good_ k_t1).2.1, (getI good_ k_t1).2.2))) ++ ([((getI good_ k_t1).1, (((getI good_ k_t1).2.1) ++ ([(getI lines_ ((m__law_next ((m__law_next cells_1 (12 : Int)).2) (3 : Int)).1))])), (getI good_ k_t1).2.2)])) ++ ([((getI good_ k_t1).1, (([(getI lines_ ((m__law_next ((m__law_next cells_1 (12 : Int)).2) (3 : Int)).1))]) ++ (cutG ((getI good_ k_t1).2.1) (some (1 : Int)) none)), (getI good_ k_t1).2.2)])) ++ ([(((List.length text_ : Int) + (1 : Int)), [], [(getI lines_ ((m__law_next ((m__law_next cells_1 (12 : Int)).2) (3 : Int)).1))])])) ++ ([((end_1 - (1 : Int)), (cutG text_ (some (if (end_1 - (1 : Int)) > (0 : Int) then (end_1 - (1 : Int)) else (0 : Int))) (some end_1)), [(getI lines_ ((m__law_next ((m__law_next cells_1 (12 : Int)).2) (3 : Int)).1))])])) (Int.fmod (((m__law_next cells_1 (12 : Int)).1) + ((2 : Int) * (Int.fdiv k_t1 (2 : Int)))) (12 : Int)) from by first | assumption | (unfold inB; first | omega | (simp only [List.length_append, List.length_cons, List.length_nil, List.length_map]; omega)))) (by first | omega | (simp; done) | (simp; omega) | exact cutG_le' (by omega) | (simp at *; omega)) fun H1 B => ?_
      have B : Bs _ _ _ [.ow true oa (((m__law_next ((m__law_next cells_1 (12 : Int)).2) (3 : Int)).2).map (eL eI)), .va true ((eL eS) text_), .va true ((eL eS) lines_), .va true ((eL (eT3 eI (eTu eS) (eTu eS))) good_), .ow true a4 ((bent_1 ++ [(getI ((((((([((getI good_ k_t1).1, (getI good_ k_t1).2.1, (getI good_ k_t1).2.2)]) ++ ([((getI good_ k_t1).1, (getI good_ k_t1).2.1, (((getI good_ k_t1).2.2) ++ ([(getI lines_ ((m__law_next ((m__law_next cells_1 (12 : Int)).2) (3 : Int)).1))]))), ((getI good_ k_t1).1, [], [])])) ++ (([(((getI good_ k_t1).1) - (1 : Int)), (-1 : Int), (400 : Int), (401 : Int), (1000000000000000000000000000000 : Int)]).map fun (at_c : Int) => (at_c, (getI good_ k_t1).2.1, (getI good_ k_t1).2.2))) ++ ([((getI good_ k_t1).1, (((getI good_ k_t1).2.1) ++ ([(getI lines_ ((m__law_next ((m__law_next cells_1 (12 : Int)).2) (3 : Int)).1))])), (getI good_ k_t1).2.2)])) ++ ([((getI good_ k_t1).1, (([(getI lines_ ((m__law_next ((m__law_next cells_1 (12 : Int)).2) (3 : Int)).1))]) ++ (cutG ((getI good_ k_t1).2.1) (some (1 : Int)) none)), (getI good_ k_t1).2.2)])) ++ ([(((List.length text_ : Int) + (1 : Int)), [], [(getI lines_ ((m__law_next ((m__law_next cells_1 (12 : Int)).2) (3 : Int)).1))])])) ++ ([((end_1 - (1 : Int)), (cutG text_ (some (if (end_1 - (1 : Int)) > (0 : Int) then (end_1 - (1 : Int)) else (0 : Int))) (some end_1)), [(getI lines_ ((m__law_next ((m__law_next cells_1 (12 : Int)).2) (3 : Int)).1))])])) (Int.fmod (((m__law_next cells_1 (12 : Int)).1) + ((2 : Int) * (Int.fdiv k_t1 (2 : Int)))) (12 : Int)))]).map (eT3 eI (eTu eS) (eTu eS))), .va true (eI end_1), .va true (eI k_t1), .va true (eI ((getI good_ k_t1).1)), .va true ((eTu eS) ((getI good_ k_t1).2.1)), .va true ((eTu eS) ((getI good_ k_t1).2.2)), .va true (eI (Int.fmod (((m__law_next cells_1 (12 : Int)).1) + ((2 : Int) * (Int.fdiv k_t1 (2 : Int)))) (12 : Int))), .va true (eS (getI lines_ ((m__law_next ((m__law_next cells_1 (12 : Int)).2) (3 : Int)).1))), .va true ((eL eI) ([(((getI good_ k_t1).1) - (1 : Int)), (-1 : Int), (400 : Int), (401 : Int), (1000000000000000000000000000000 : Int)])), .va true ((eL (eT3 eI (eTu eS) (eTu eS))) ((((((([((getI good_ k_t1).1, (getI good_ k_t1).2.1, (getI good_ k_t1).2.2)]) ++ ([((getI good_ k_t1).1, (getI good_ k_t1).2.1, (((getI good_ k_t1).2.2) ++ ([(getI lines_ ((m__law_next ((m__law_next cells_1 (12 : Int)).2) (3 : Int)).1))]))), ((getI good_ k_t1).1, [], [])])) ++ (([(((getI good_ k_t1).1) - (1 : Int)), (-1 : Int), (400 : Int), (401 : Int), (1000000000000000000000000000000 : Int)]).map fun (at_c : Int) => (at_c, (getI good_ k_t1).2.1, (getI good_ k_t1).2.2))) ++ ([((getI good_ k_t1).1, (((getI good_ k_t1).2.1) ++ ([(getI lines_ ((m__law_next ((m__law_next cells_1 (12 : Int)).2) (3 : Int)).1))])), (getI good_ k_t1).2.2)])) ++ ([((getI good_ k_t1).1, (([(getI lines_ ((m__law_next ((m__law_next cells_1 (12 : Int)).2) (3 : Int)).1))]) ++ (cutG ((getI good_ k_t1).2.1) (some (1 : Int)) none)), (getI good_ k_t1).2.2)])) ++ ([(((List.length text_ : Int) + (1 : Int)), [], [(getI lines_ ((m__law_next ((m__law_next cells_1 (12 : Int)).2) (3 : Int)).1))])])) ++ ([((end_1 - (1 : Int)), (cutG text_ (some (if (end_1 - (1 : Int)) > (0 : Int) then (end_1 - (1 : Int)) else (0 : Int))) (some end_1)), [(getI lines_ ((m__law_next ((m__law_next cells_1 (12 : Int)).2) (3 : Int)).1))])]))), .va true ((eTu eS) (cutG text_ (some (if (end_1 - (1 : Int)) > (0 : Int) then (end_1 - (1 : Int)) else (0 : Int))) (some end_1))), .no] := B.le (.cons (.refl _) (.cons (.refl _) (.cons (.refl _) (.cons (.refl _) (.cons (.eqo (by simp)) (.cons (.refl _) (.cons (.refl _) (.cons (.refl _) (.cons (.refl _) (.cons (.refl _) (.cons (.refl _) (.cons (.refl _) (.cons (.refl _) (.cons (.refl _) (.cons (.refl _) (.cons (.refl _) .nil))))))))))))))))
      refine q_asg (f := true) B (ev_I0 (ev_sc B rfl (.int _)) (ev_lenTu ((ev_va B rfl).w0))) fun σ1 H1 B => ?_
      have B : Bs _ _ _ [.ow true oa (((m__law_next ((m__law_next cells_1 (12 : Int)).2) (3 : Int)).2).map (eL eI)), .va true ((eL eS) text_), .va true ((eL eS) lines_), .va true ((eL (eT3 eI (eTu eS) (eTu eS))) good_), .ow true a4 ((bent_1 ++ [(getI ((((((([((getI good_ k_t1).1, (getI good_ k_t1).2.1, (getI good_ k_t1).2.2)]) ++ ([((getI good_ k_t1).1, (getI good_ k_t1).2.1, (((getI good_ k_t1).2.2) ++ ([(getI lines_ ((m__law_next ((m__law_next cells_1 (12 : Int)).2) (3 : Int)).1))]))), ((getI good_ k_t1).1, [], [])])) ++ (([(((getI good_ k_t1).1) - (1 : Int)), (-1 : Int), (400 : Int), (401 : Int), (1000000000000000000000000000000 : Int)]).map fun (at_c : Int) => (at_c, (getI good_ k_t1).2.1, (getI good_ k_t1).2.2))) ++ ([((getI good_ k_t1).1, (((getI good_ k_t1).2.1) ++ ([(getI lines_ ((m__law_next ((m__law_next cells_1 (12 : Int)).2) (3 : Int)).1))])), (getI good_ k_t1).2.2)])) ++ ([((getI good_ k_t1).1, (([(getI lines_ ((m__law_next ((m__law_next cells_1 (12 : Int)).2) (3 : Int)).1))]) ++ (cutG ((getI good_ k_t1).2.1) (some (1 : Int)) none)), (getI good_ k_t1).2.2)])) ++ ([(((List.length text_ : Int) + (1 : Int)), [], [(getI lines_ ((m__law_next ((m__law_next cells_1 (12 : Int)).2) (3 : Int)).1))])])) ++ ([((end_1 - (1 : Int)), (cutG text_ (some (if (end_1 - (1 : Int)) > (0 : Int) then (end_1 - (1 : Int)) else (0 : Int))) (some end_1)), [(getI lines_ ((m__law_next ((m__law_next cells_1 (12 : Int)).2) (3 : Int)).1))])])) (Int.fmod (((m__law_next cells_1 (12 : Int)).1) + ((2 : Int) * (Int.fdiv k_t1 (2 : Int)))) (12 : Int)))]).map (eT3 eI (eTu eS) (eTu eS))), .va true (eI (((getI good_ k_t1).1) + (List.length ((getI good_ k_t1).2.1) : Int))), .va true (eI k_t1), .va true (eI ((getI good_ k_t1).1)), .va true ((eTu eS) ((getI good_ k_t1).2.1)), .va true ((eTu eS) ((getI good_ k_t1).2.2)), .va true (eI (Int.fmod (((m__law_next cells_1 (12 : Int)).1) + ((2 : Int) * (Int.fdiv k_t1 (2 : Int)))) (12 : Int))), .va true (eS (getI lines_ ((m__law_next ((m__law_next cells_1 (12 : Int)).2) (3 : Int)).1))), .va true ((eL eI) ([(((getI good_ k_t1).1) - (1 : Int)), (-1 : Int), (400 : Int), (401 : Int), (1000000000000000000000000000000 : Int)])), .va true ((eL (eT3 eI (eTu eS) (eTu eS))) ((((((([((getI good_ k_t1).1, (getI good_ k_t1).2.1, (getI good_ k_t1).2.2)]) ++ ([((getI good_ k_t1).1, (getI good_ k_t1).2.1, (((getI good_ k_t1).2.2) ++ ([(getI lines_ ((m__law_next ((m__law_next cells_1 (12 : Int)).2) (3 : Int)).1))]))), ((getI good_ k_t1).1, [], [])])) ++ (([(((getI good_ k_t1).1) - (1 : Int)), (-1 : Int), (400 : Int), (401 : Int), (1000000000000000000000000000000 : Int)]).map fun (at_c : Int) => (at_c, (getI good_ k_t1).2.1, (getI good_ k_t1).2.2))) ++ ([((getI good_ k_t1).1, (((getI good_ k_t1).2.1) ++ ([(getI lines_ ((m__law_next ((m__law_next cells_1 (12 : Int)).2) (3 : Int)).1))])), (getI good_ k_t1).2.2)])) ++ ([((getI good_ k_t1).1, (([(getI lines_ ((m__law_next ((m__law_next cells_1 (12 : Int)).2) (3 : Int)).1))]) ++ (cutG ((getI good_ k_t1).2.1) (some (1 : Int)) none)), (getI good_ k_t1).2.2)])) ++ ([(((List.length text_ : Int) + (1 : Int)), [], [(getI lines_ ((m__law_next ((m__law_next cells_1 (12 : Int)).2) (3 : Int)).1))])])) ++ ([((end_1 - (1 : Int)), (cutG text_ (some (if (end_1 - (1 : Int)) > (0 : Int) then (end_1 - (1 : Int)) else (0 : Int))) (some end_1)), [(getI lines_ ((m__law_next ((m__law_next cells_1 (12 : Int)).2) (3 : Int)).1))])]))), .va true ((eTu eS) (cutG text_ (some (if (end_1 - (1 : Int)) > (0 : Int) then (end_1 - (1 : Int)) else (0 : Int))) (some end_1))), .no] := B
      exact ⟨_, hk1.symm, ⟨next_J (next_J j1), by simp; omega⟩, B.le (.cons (.refl _) (.cons (.refl _) (.cons (.refl _) (.cons (.refl _) (.cons (.refl _) (.cons (.refl _) (.cons (.no _) (.cons (.no _) (.cons (.no _) (.cons (.no _) (.cons (.no _) (.cons (.no _) (.cons (.no _) (.cons (.no _) (.cons (.no _) (.cons (.no _) .nil))))))))))))))))⟩
    · rw [← hs] at hk
      try simp only [List.length_reverse, rng_len, List.length_map] at hJ
      obtain ⟨cells_r1, bent_r1, end_r1⟩ := s
      try dsimp only at hk
      have B : Bs _ _ _ [.ow true oa (cells_r1.map (eL eI)), .va true ((eL eS) text_), .va true ((eL eS) lines_), .va true ((eL (eT3 eI (eTu eS) (eTu eS))) good_), .ow true a4 (bent_r1.map (eT3 eI (eTu eS) (eTu eS))), .va true (eI end_r1), .no, .no, .no, .no, .no, .no, .no, .no, .no, .no] := B
      have B := B.le (δ' := [.ow true oa (cells_r1.map (eL eI)), .va true ((eL eS) text_), .va true ((eL eS) lines_), .va true ((eL (eT3 eI (eTu eS) (eTu eS))) good_), .va true ((eL (eT3 eI (eTu eS) (eTu eS))) bent_r1), .va true (eI end_r1), .no, .no, .no, .no, .no, .no, .no, .no, .no, .no]) (.cons (.refl _) (.cons (.refl _) (.cons (.refl _) (.cons (.refl _) (.cons (.fz _ _ _) (.cons (.refl _) (.cons (.refl _) (.cons (.refl _) (.cons (.refl _) (.cons (.refl _) (.cons (.refl _) (.cons (.refl _) (.cons (.refl _) (.cons (.refl _) (.cons (.refl _) (.cons (.refl _) .nil))))))))))))))))
      refine q_retM (i := 0) B rfl (ev_va B rfl) rfl fun v xs' H' hb hp hxs hv => q v xs' H' hb hp ?_ ?_
      · rw [hk]; exact hxs
      · rw [hk]; exact hv

end
end K2
namespace K2
open PySem PySem.Spec PyProof.Rows L2 HL
abbrev Edt := Int × List Str × List Str
/-- the first place from i on, of n places, at which p fails -/
def ff (p : Nat → Bool) : Nat → Nat → Option Nat
  | _, 0 => none
  | i, n + 1 => if p i = true then ff p (i + 1) n else some i
theorem loopE_ff {S R α : Type} (stp : S → α → S ⊕ R) (xs : List α) (st : Nat → S) (p : Nat → Bool) (r : Nat → R)
    (h : ∀ i x, xs[i]? = some x → (∀ j, j < i → p j = true) → stp (st i) x = if p i = true then .inl (st (i + 1)) else .inr (r i)) :
    ∀ n i, i + n = xs.length → (∀ j, j < i → p j = true) → loopE stp (xs.drop i) (st i) = match ff p i n with | none => .inl (st xs.length) | some k => .inr (r k)
  | 0, i, hi, _ => by
    rw [List.drop_eq_nil_of_le (by omega)]
    simp only [loopE, ff]
    rw [← hi, Nat.add_zero]
  | n + 1, i, hi, hj => by
    have hl : i < xs.length := by omega
    rw [loopE_at (List.getElem?_eq_getElem hl), h i _ (List.getElem?_eq_getElem hl) hj]
    unfold ff
    by_cases hp : p i = true
    · rw [if_pos hp, if_pos hp]
      exact loopE_ff stp xs st p r h n (i + 1) (by omega) (fun j q => by
        by_cases z : j = i
        · rw [z]; exact hp
        · exact hj j (by omega))
    · rw [if_neg hp, if_neg hp]
theorem ff_none {p : Nat → Bool} : ∀ {n i : Nat}, ff p i n = none → ∀ j, i ≤ j → j < i + n → p j = true
  | 0, i, _, j, h1, h2 => by omega
  | n + 1, i, h, j, h1, h2 => by
    unfold ff at h
    by_cases hp : p i = true
    · rw [if_pos hp] at h
      by_cases z : j = i
      · rw [z]; exact hp
      · exact ff_none h j (by omega) (by omega)
    · rw [if_neg hp] at h; cases h
def okE (t : Option (List Str)) (es : List Edt) (k : Nat) : Bool := m__in_order es k && (match t with | none => true | some x => m__stands_in x (getI es k))
def endA (es : List Edt) : Nat → Int
  | 0 => 0
  | k + 1 => m__end (getI es k)
theorem getI_at {α : Type} [Inhabited α] {xs : List α} {i : Nat} {x : α} (h : xs[i]? = some x) : getI xs (i : Int) = x := by
  unfold getI
  rw [atI_nat h]; rfl
theorem apply_loop (old : List Str) (es : List Edt) : loopE (l_apply_edits_1 old es) (enumI es) () = match ff (okE (some old) es) 0 es.length with | none => .inl () | some k => .inr (.inl (k : Int)) := by
  have h := loopE_ff (l_apply_edits_1 old es) (enumI es) (fun _ => ()) (okE (some old) es) (fun k => .inl (k : Int)) (fun i x hx _ => by
    have hl : i < es.length := by
      have := (List.getElem?_eq_some_iff.mp hx).1
      rw [enumI_len] at this; exact this
    have e := enumI_get (List.getElem?_eq_getElem hl)
    rw [e] at hx
    cases hx
    have g : getI es (i : Int) = es[i] := getI_at (List.getElem?_eq_getElem hl)
    have key : okE (some old) es i = (m__in_order es ↑i && m__stands_in old es[i]) := by
      unfold okE
      simp only [g]
    rw [key]
    simp only [l_apply_edits_1]
    cases m__in_order es ↑i && m__stands_in old es[i] <;> rfl) es.length 0 (by rw [enumI_len]; omega) (fun j q => by omega)
  rw [List.drop_zero] at h
  exact h
theorem inverse_loop (es : List Edt) : loopE (l_inverse_edits_1 es) (rng 0 (es.length : Int)) () = match ff (okE none es) 0 es.length with | none => .inl () | some k => .inr (.inl (k : Int)) := by
  have hl : (rng 0 (es.length : Int)).length = es.length := by rw [rng_len]; omega
  have h := loopE_ff (l_inverse_edits_1 es) (rng 0 (es.length : Int)) (fun _ => ()) (okE none es) (fun k => .inl (k : Int)) (fun i x hx _ => by
    have hi := (List.getElem?_eq_some_iff.mp hx).1
    rw [rng_get (by omega)] at hx
    cases hx
    have key : okE none es i = m__in_order es ↑i := by
      unfold okE
      simp
    rw [key]
    simp only [l_inverse_edits_1, Int.zero_add]
    cases m__in_order es ↑i <;> rfl) es.length 0 (by omega) (fun j q => by omega)
  rw [List.drop_zero] at h
  exact h
theorem okE_pos {t : Option (List Str)} {es : List Edt} {k : Nat} (h : okE t es k = true) : 0 ≤ m__end (getI es k) := by
  simp only [okE, Bool.and_eq_true] at h
  have h := h.1
  unfold m__in_order at h
  split at h
  · cases h
  · rename_i q
    simp only [Bool.or_eq_true, decide_eq_true_eq, not_or] at q
    unfold m__end
    omega
theorem endA_pos {t : Option (List Str)} {es : List Edt} : ∀ {i : Nat}, (∀ j, j < i → okE t es j = true) → 0 ≤ endA es i
  | 0, _ => Int.le_refl _
  | i + 1, h => okE_pos (h i (by omega))
theorem ite_b (b c : Bool) : (if b = true then false else c) = (!b && c) := by cases b <;> rfl
theorem ord_b (p b : Int) (r a : List Str) (h : 0 ≤ b) : (!(decide (p < 0) || (decide (400 < p) || !(!decide (r = []) || !decide (a = [])))) && (false || decide (b ≤ p))) = !(decide (p < b) || (decide (400 < p) || (decide (r = []) && decide (a = [])))) := by
  by_cases h1 : p < b <;> by_cases h2 : 400 < p <;> by_cases h3 : r = [] <;> by_cases h4 : a = [] <;> by_cases h0 : p < 0 <;> simp [h0, h1, h2, h3, h4] <;> omega
theorem order_is {es : List Edt} {i : Nat} (h : 0 ≤ endA es i) : m__in_order es i = !(decide ((getI es i).1 < endA es i) || (decide ((400 : Int) < (getI es i).1) || (decide ((getI es i).2.1 = []) && decide ((getI es i).2.2 = [])))) := by
  unfold m__in_order
  have e1 : ∀ l : List Str, (!List.isEmpty l) = !decide (l = []) := fun l => by cases l <;> rfl
  rw [e1, e1, ite_b]
  cases i with
  | zero =>
    have e3 : decide (((0 : Nat) : Int) = 0) = true := rfl
    rw [e3]
    simp only [endA]
    generalize getI es ((0 : Nat) : Int) = x
    obtain ⟨p, r, a⟩ := x
    simp only
    by_cases h1 : p < 0 <;> by_cases h2 : 400 < p <;> by_cases h3 : r = [] <;> by_cases h4 : a = [] <;> simp [h1, h2, h3, h4]
  | succ i =>
    have e2 : (((i + 1 : Nat) : Int) - 1) = (i : Int) := by omega
    have e3 : decide (((i + 1 : Nat) : Int) = 0) = false := by simp; omega
    rw [e2, e3]
    exact ord_b _ _ _ _ h
theorem bad_loop (t : Option (List Str)) (es : List Edt) : loopE (l__law_first_bad_1 t es) (rng 0 (es.length : Int)) (0 : Int) = match ff (okE t es) 0 es.length with | none => .inl (endA es es.length) | some k => .inr (k : Int) := by
  have hl : (rng 0 (es.length : Int)).length = es.length := by rw [rng_len]; omega
  have h := loopE_ff (l__law_first_bad_1 t es) (rng 0 (es.length : Int)) (endA es) (okE t es) (fun k => (k : Int)) (fun i x hx hj => by
    have hi := (List.getElem?_eq_some_iff.mp hx).1
    rw [rng_get (by omega)] at hx
    cases hx
    have hp := endA_pos hj
    have key : okE t es i = (!(decide ((getI es ↑i).1 < endA es i) || (decide ((400 : Int) < (getI es ↑i).1) || (decide ((getI es ↑i).2.1 = []) && decide ((getI es ↑i).2.2 = [])))) && (match t with | none => true | some x => m__stands_in x (getI es i))) := by
      unfold okE
      rw [order_is hp]
      cases t <;> rfl
    rw [key]
    simp only [l__law_first_bad_1, Int.zero_add]
    generalize (decide ((getI es ↑i).1 < endA es i) || (decide ((400 : Int) < (getI es ↑i).1) || (decide ((getI es ↑i).2.1 = []) && decide ((getI es ↑i).2.2 = [])))) = b1
    cases b1 with
    | true => simp
    | false =>
      cases t with
      | none => simp [endA, m__end]
      | some old =>
        simp only [m__stands_in, Option.isNone, Option.getD, endA, m__end]
        by_cases q1 : (old.length : Int) < (getI es ↑i).1
        · have q2 : ¬ (getI es ↑i).1 ≤ (old.length : Int) := by omega
          simp [q1, q2]
        · have q2 : (getI es ↑i).1 ≤ (old.length : Int) := by omega
          by_cases q3 : cutG old (some (getI es ↑i).1) (some ((getI es ↑i).1 + ↑(getI es ↑i).2.1.length)) = (getI es ↑i).2.1 <;> simp [q1, q2, q3]) es.length 0 (by omega) (fun j q => by omega)
  rw [List.drop_zero, hl] at h
  exact h
/-! what edits lead to -/
theorem sIx_in {n d : Nat} {m : Int} (h0 : 0 ≤ m) (h1 : m ≤ n) : HT.sIx n d (some m) = m.toNat := by
  simp [HT.sIx]
  rw [if_neg (by omega)]
  omega
theorem cut_mid {α : Type} {xs : List α} {a b : Int} (h0 : 0 ≤ a) (h1 : a ≤ b) (h2 : b ≤ xs.length) : cutG xs (some a) (some b) = (xs.drop a.toNat).take (b.toNat - a.toNat) := by
  unfold cutG
  rw [sIx_in h0 (by omega), sIx_in (by omega) h2]
def appl (old : List Str) : Int → List Edt → List Str
  | s, [] => old.drop s.toNat
  | s, e :: es => cutG old (some s) (some e.1) ++ e.2.2 ++ appl old (m__end e) es
inductive Fit (old : List Str) : Int → List Edt → Prop
  | nil {s : Int} : 0 ≤ s → s ≤ old.length → Fit old s []
  | cons {s : Int} {e : Edt} {es : List Edt} : 0 ≤ s → s ≤ e.1 → e.1 ≤ m__end e → m__end e ≤ old.length → Fit old (m__end e) es → Fit old s (e :: es)
theorem appl_fold (old : List Str) : ∀ (es : List Edt) (acc : List Str) (s : Int), Fit old s es → (List.foldl (l_apply_edits_2 old) (acc, s) es).1 ++ cutG old (some (List.foldl (l_apply_edits_2 old) (acc, s) es).2) none = acc ++ appl old s es
  | [], acc, s, .nil h0 h1 => by
    simp only [List.foldl_nil, appl]
    rw [HL.cutG_from _ h0]
  | e :: es, acc, s, .cons h0 h1 h2 h3 h4 => by
    rw [List.foldl_cons]
    have := appl_fold old es ((acc ++ cutG old (some s) (some e.1)) ++ e.2.2) (m__end e) h4
    simp only [l_apply_edits_2, m__end] at this ⊢
    rw [this]
    simp only [appl, List.append_assoc, m__end]
theorem repl_fold (old : List Str) : ∀ (es : List Edt) (s : Int), Fit old s es → List.foldr (fun e l => l__law_replaced_1 l e) old es = old.take s.toNat ++ appl old s es
  | [], s, .nil h0 h1 => by
    simp only [List.foldr_nil, appl]
    rw [List.take_append_drop]
  | e :: es, s, .cons h0 h1 h2 h3 h4 => by
    rw [List.foldr_cons, repl_fold old es _ h4]
    have e0 : l__law_replaced_1 (old.take (m__end e).toNat ++ appl old (m__end e) es) e = cutG (old.take (m__end e).toNat ++ appl old (m__end e) es) none (some e.1) ++ e.2.2 ++ cutG (old.take (m__end e).toNat ++ appl old (m__end e) es) (some (m__end e)) none := rfl
    rw [e0, HL.cutG_to _ (by omega), HL.cutG_from _ (by omega)]
    have hlen : (old.take (m__end e).toNat).length = (m__end e).toNat := by rw [List.length_take]; omega
    rw [List.take_append_of_le_length (by omega), List.drop_left' hlen, List.take_take, Nat.min_eq_left (by omega)]
    simp only [appl]
    rw [cut_mid h0 h1 (by omega), ← List.append_assoc, ← List.append_assoc]
    congr 2
    have : e.1.toNat = s.toNat + (e.1.toNat - s.toNat) := by omega
    rw [this, List.take_add]
    congr 2
    omega
theorem fit_of {old : List Str} {es : List Edt} (h : ∀ j, j < es.length → okE (some old) es j = true) : ∀ n i, i + n = es.length → endA es i ≤ old.length → Fit old (endA es i) (es.drop i)
  | 0, i, hi, he => by
    rw [List.drop_eq_nil_of_le (by omega)]
    exact .nil (endA_pos (fun j q => h j (by omega))) he
  | n + 1, i, hi, he => by
    have hl : i < es.length := by omega
    rw [List.drop_eq_getElem_cons hl]
    have g : getI es (i : Int) = es[i] := getI_at (List.getElem?_eq_getElem hl)
    have h0 := endA_pos (t := some old) (fun j (q : j < i) => h j (by omega))
    have hk := h i hl
    simp only [okE, Bool.and_eq_true] at hk
    rw [order_is h0] at hk
    obtain ⟨k1, k2⟩ := hk
    simp only [m__stands_in, Bool.and_eq_true, decide_eq_true_eq] at k2
    simp only [Bool.not_eq_true', Bool.or_eq_false_iff, decide_eq_false_iff_not] at k1
    rw [g] at k1 k2
    have ce := cut_end (xs := old) (p := es[i].1) (hi := some (m__end es[i])) (by omega) k2.1
    rw [k2.2] at ce
    have e1 : m__end es[i] = es[i].1 + (es[i].2.1.length : Int) := rfl
    have e2 : endA es (i + 1) = m__end es[i] := by simp only [endA]; rw [g]
    have := fit_of h n (i + 1) (by omega) (by rw [e2]; omega)
    rw [e2] at this
    exact .cons h0 (by omega) (by omega) (by omega) this
theorem apply_res (old : List Str) (es : List Edt) : (∃ k : Nat, m_apply_edits old es = .inl (k : Int) ∧ m__law_first_bad (some old) es = k) ∨ (m_apply_edits old es = .inr (m__law_replaced old es) ∧ m__law_first_bad (some old) es = -1) := by
  unfold m_apply_edits m__law_first_bad
  rw [apply_loop, bad_loop]
  cases h : ff (okE (some old) es) 0 es.length with
  | some k => exact .inl ⟨k, rfl, rfl⟩
  | none =>
    refine .inr ⟨?_, rfl⟩
    have ok := ff_none h
    have fit := fit_of (fun j q => ok j (by omega) (by omega)) es.length 0 (by omega) (by simp only [endA]; omega)
    rw [List.drop_zero] at fit
    have a := appl_fold old es [] 0 fit
    have b := repl_fold old es 0 fit
    show (Sum.inr _ : Int ⊕ List Str) = _
    congr 1
    unfold m__law_replaced
    rw [List.foldl_reverse]
    show _ = List.foldr (fun e l => l__law_replaced_1 l e) old es
    rw [b]
    exact a
theorem inverse_res (es : List Edt) : (∃ k : Nat, m_inverse_edits es = .inl (k : Int) ∧ m__law_first_bad none es = k) ∨ (m_inverse_edits es = .inr (m__law_back es) ∧ m__law_first_bad none es = -1) := by
  unfold m_inverse_edits m__law_first_bad
  rw [inverse_loop, bad_loop]
  cases h : ff (okE none es) 0 es.length with
  | some k => exact .inl ⟨k, rfl, rfl⟩
  | none => exact .inr ⟨rfl, rfl⟩
theorem ap_bad {old : List Str} {es : List Edt} {r : Int} (h : m_apply_edits old es = .inl r) : r = m__law_first_bad (some old) es ∧ 0 ≤ r := by
  rcases apply_res old es with ⟨k, a, b⟩ | ⟨a, b⟩
  · rw [a] at h; cases h; exact ⟨b.symm, by omega⟩
  · rw [a] at h; cases h
theorem ap_ok {old : List Str} {es : List Edt} {r : List Str} (h : m_apply_edits old es = .inr r) : r = m__law_replaced old es ∧ m__law_first_bad (some old) es = -1 := by
  rcases apply_res old es with ⟨k, a, b⟩ | ⟨a, b⟩
  · rw [a] at h; cases h
  · rw [a] at h; cases h; exact ⟨rfl, b⟩
theorem in_bad {es : List Edt} {r : Int} (h : m_inverse_edits es = .inl r) : r = m__law_first_bad none es ∧ 0 ≤ r := by
  rcases inverse_res es with ⟨k, a, b⟩ | ⟨a, b⟩
  · rw [a] at h; cases h; exact ⟨b.symm, by omega⟩
  · rw [a] at h; cases h
theorem in_ok {es : List Edt} {r : List Edt} (h : m_inverse_edits es = .inr r) : r = m__law_back es ∧ m__law_first_bad none es = -1 := by
  rcases inverse_res es with ⟨k, a, b⟩ | ⟨a, b⟩
  · rw [a] at h; cases h
  · rw [a] at h; cases h; exact ⟨rfl, b⟩
end K2
namespace K2
open PySem PySem.Spec PyProof.Rows L2 HL
theorem foldl_inv {S α : Type} {f : S → α → S} (I : Nat → S → Prop) (h : ∀ n s x, I n s → I (n + 1) (f s x)) : ∀ (l : List α) (n : Nat) (s : S), I n s → I (n + l.length) (l.foldl f s)
  | [], n, s, q => q
  | x :: l, n, s, q => by
    have := foldl_inv I h l (n + 1) (f s x) (h n s x q)
    rw [List.foldl_cons, List.length_cons]
    rw [show n + (l.length + 1) = n + 1 + l.length by omega]
    exact this
theorem foldl_inv2 {S α : Type} {f : S → α → S} (I : Nat → S → Prop) : ∀ (l : List α) (n : Nat) (s : S), (∀ n s x, x ∈ l → I n s → I (n + 1) (f s x)) → I n s → I (n + l.length) (l.foldl f s)
  | [], n, s, h, q => q
  | x :: l, n, s, h, q => by
    have := foldl_inv2 I l (n + 1) (f s x) (fun n s y hy => h n s y (List.mem_cons_of_mem _ hy)) (h n s x List.mem_cons_self q)
    rw [List.foldl_cons, List.length_cons]
    rw [show n + (l.length + 1) = n + 1 + l.length by omega]
    exact this
def ok (x : Str) : Prop := PyData.strOk x = true
structure EOK (b : Nat) (e : Edt) : Prop where
  l1 : e.2.1.length ≤ b
  l2 : e.2.2.length ≤ b
  s1 : ∀ x ∈ e.2.1, PyData.strOk x = true
  s2 : ∀ x ∈ e.2.2, PyData.strOk x = true
theorem getI_all {α : Type} [Inhabited α] {p : α → Prop} {xs : List α} {m : Int} (h : ∀ x ∈ xs, p x) (d : p default) : p (getI xs m) := by
  unfold getI
  cases e : atI xs m with
  | none => exact d
  | some y =>
    unfold atI at e
    obtain ⟨j, _, q⟩ := Option.bind_eq_some_iff.mp e
    exact h y (List.mem_of_getElem? q)
theorem ok_def : PyData.strOk (default : Str) = true := by decide +kernel
theorem EOK.dflt {b : Nat} : EOK b default := ⟨Nat.zero_le _, Nat.zero_le _, fun x h => absurd h (by simp [default]), fun x h => absurd h (by simp [default])⟩
theorem EOK.mono {b c : Nat} {e : Edt} (h : EOK b e) (q : b ≤ c) : EOK c e := ⟨Nat.le_trans h.l1 q, Nat.le_trans h.l2 q, h.s1, h.s2⟩
theorem ok_app {xs ys : List Str} (h : ∀ x ∈ xs, PyData.strOk x = true) (q : ∀ x ∈ ys, PyData.strOk x = true) : ∀ x ∈ xs ++ ys, PyData.strOk x = true := fun x hx => by
  rcases List.mem_append.mp hx with z | z
  · exact h x z
  · exact q x z
theorem ok_one {x : Str} (h : PyData.strOk x = true) : ∀ y ∈ [x], PyData.strOk y = true := fun y hy => by
  rw [List.mem_singleton.mp hy]; exact h
theorem ok_nil : ∀ y ∈ ([] : List Str), PyData.strOk y = true := fun y hy => by simp at hy
theorem repl_ok {text : List Str} {es : List Edt} {b : Nat} (h1 : ∀ x ∈ text, PyData.strOk x = true) (h2 : ∀ e ∈ es, EOK b e) : ∀ x ∈ m__law_replaced text es, PyData.strOk x = true := by
  unfold m__law_replaced
  exact foldl_inv2 (f := l__law_replaced_1) (fun _ s => ∀ x ∈ s, PyData.strOk x = true) es.reverse 0 text (fun n s e he q => ok_app (ok_app (fun x hx => q x (cutG_mem hx)) (h2 e (List.mem_reverse.mp he)).s2) (fun x hx => q x (cutG_mem hx))) h1
theorem repl_len {text : List Str} {es : List Edt} (h0 : text.length ≤ 10) (h1 : es.length ≤ 6) (h2 : ∀ e ∈ es, EOK 10 e) : (m__law_replaced text es).length ≤ 2000 := by
  have h := foldl_inv2 (f := l__law_replaced_1) (fun n s => s.length + 10 ≤ 20 * 2 ^ n) es.reverse 0 text (fun n s e he q => by
    have a := (h2 e (List.mem_reverse.mp he)).l2
    have b := cutG_le s none (some e.1)
    have c := cutG_le s (some (e.1 + (e.2.1.length : Int))) none
    have e1 : l__law_replaced_1 s e = cutG s none (some e.1) ++ e.2.2 ++ cutG s (some (e.1 + (e.2.1.length : Int))) none := rfl
    rw [e1, List.length_append, List.length_append, Nat.pow_succ]
    omega) (by simp; omega)
  rw [List.length_reverse] at h
  have p6 : 2 ^ (0 + es.length) ≤ 2 ^ 6 := Nat.pow_le_pow_right (by omega) (by omega)
  have e2 : m__law_replaced text es = List.foldl l__law_replaced_1 text es.reverse := rfl
  rw [e2]
  omega
theorem back_inv {es : List Edt} {b : Nat} (h : ∀ e ∈ es, EOK b e) : (m__law_back es).length ≤ es.length ∧ ∀ e ∈ m__law_back es, EOK b e := by
  have h := foldl_inv2 (f := l__law_back_1) (fun n s => s.1.length ≤ n ∧ ∀ e ∈ s.1, EOK b e) es 0 ([], 0) (fun n s e he q => by
    obtain ⟨s1, s2⟩ := s
    simp only [l__law_back_1]
    refine ⟨by simp; exact q.1, fun x hx => ?_⟩
    rcases List.mem_append.mp hx with z | z
    · exact q.2 x z
    · rw [List.mem_singleton.mp z]
      have := h e he
      exact ⟨this.l2, this.l1, this.s2, this.s1⟩) ⟨by simp, fun e he => by simp at he⟩
  simpa [m__law_back] using h
theorem okEds {es : List Edt} {b : Nat} (hl : es.length ≤ 1000) (hb : b ≤ 1000) (h : ∀ e ∈ es, EOK b e) : okD (eL (eT3 eI (eTu eS) (eTu eS)) es) = true :=
  okL (by omega) fun e he => okT3 rfl (okTu (by have := (h e he).l1; omega) (h e he).s1) (okTu (by have := (h e he).l2; omega) (h e he).s2)
theorem depEds (es : List Edt) : (eL (eT3 eI (eTu eS) (eTu eS)) es).depth < 5 := by
  have := (emL (emT3 emI (emTu emS) (emTu emS))).dep es
  omega
theorem good_inv {cells : List (List Int)} {text lines : List Str} (h0 : text.length ≤ 4) (h1 : ∀ x ∈ text, PyData.strOk x = true) (h2 : ∀ x ∈ lines, PyData.strOk x = true) : (m__law_good cells text lines).1.length ≤ 3 ∧ ∀ e ∈ (m__law_good cells text lines).1, EOK 4 e := by
  have nb := next_b (cells := cells) (many := 4) (by omega)
  have h := foldl_inv (f := l__law_good_1 text lines) (fun n s => s.2.1.length ≤ n ∧ ∀ e ∈ s.2.1, EOK 4 e) (fun n s k q => by
    obtain ⟨c1, e1, end1⟩ := s
    simp only [l__law_good_1]
    have pl : ∀ (C : List (List Int)) (X : Int), (List.foldl (stepE (n__law_good_2 k)) ([], C) (rng 0 (Int.fmod X 3))).1.length ≤ 4 := fun C X => by
      rw [(fold_E _ ([], C)).1]
      have := fm3r X
      simp
      omega
    have cl : ∀ a b, (cutG text a b).length ≤ 4 := fun a b => by have := cutG_le text a b; omega
    have cs : ∀ a b, ∀ x ∈ cutG text a b, PyData.strOk x = true := fun a b x hx => h1 x (cutG_mem hx)
    have gl : ∀ m, PyData.strOk (getI lines m) = true := fun m => getI_all (p := fun x => PyData.strOk x = true) h2 ok_def
    split
    · refine ⟨by simp; exact q.1, fun x hx => ?_⟩
      rcases List.mem_append.mp hx with z | z
      · exact q.2 x z
      · rw [List.mem_singleton.mp z]
        exact ⟨cl _ _, by simp, cs _ _, ok_one (gl _)⟩
    · refine ⟨by simp; exact q.1, fun x hx => ?_⟩
      rcases List.mem_append.mp hx with z | z
      · exact q.2 x z
      · rw [List.mem_singleton.mp z]
        refine ⟨cl _ _, by rw [List.length_map]; exact pl _ _, cs _ _, fun y hy => ?_⟩
        obtain ⟨w, _, rfl⟩ := List.mem_map.mp hy
        exact gl _) (rng 0 ((3 : Int) - (m__law_next cells 4).1)) 0 ((m__law_next cells 4).2, [], 0) ⟨by simp, fun e he => by simp at he⟩
  rw [rng_len] at h
  have e1 : (m__law_good cells text lines).1 = (List.foldl (l__law_good_1 text lines) ((m__law_next cells 4).2, [], 0) (rng 0 ((3 : Int) - (m__law_next cells 4).1))).2.1 := rfl
  rw [e1]
  exact ⟨by have := h.1; omega, h.2⟩
theorem bent_inv {cells : List (List Int)} {text lines : List Str} {good : List Edt} (h0 : text.length ≤ 4) (h1 : ∀ x ∈ text, PyData.strOk x = true) (h2 : ∀ x ∈ lines, PyData.strOk x = true) (h3 : ∀ e ∈ good, EOK 4 e) : (m__law_bent cells text lines good).1.length ≤ good.length ∧ ∀ e ∈ (m__law_bent cells text lines good).1, EOK 6 e := by
  have h := foldl_inv (f := l__law_bent_1 text lines good) (fun n s => s.2.1.length ≤ n ∧ ∀ e ∈ s.2.1, EOK 6 e) (fun n s k q => by
    obtain ⟨c1, e1, end1⟩ := s
    simp only [l__law_bent_1]
    have cl : ∀ a b, (cutG text a b).length ≤ 6 := fun a b => by have := cutG_le text a b; omega
    have cs : ∀ a b, ∀ x ∈ cutG text a b, PyData.strOk x = true := fun a b x hx => h1 x (cutG_mem hx)
    have gl : ∀ m, PyData.strOk (getI lines m) = true := fun m => getI_all (p := fun x => PyData.strOk x = true) h2 ok_def
    have gg := getI_all (p := fun e => EOK 4 e) (m := k) h3 EOK.dflt
    generalize getI good k = g at gg ⊢
    obtain ⟨p, r, a⟩ := g
    obtain ⟨g1, g2, g3, g4⟩ := gg
    simp only at g1 g2 g3 g4
    refine ⟨by simp; exact q.1, fun x hx => ?_⟩
    rcases List.mem_append.mp hx with z | z
    · exact q.2 x z
    · rw [List.mem_singleton.mp z]
      refine getI_all (p := fun e => EOK 6 e) (fun x hx => ?_) EOK.dflt
      simp only [List.mem_append, List.mem_cons, List.mem_map, List.not_mem_nil, or_false] at hx
      have cr : ∀ a b, (cutG r a b).length ≤ 4 := fun a b => by have := cutG_le r a b; omega
      rcases hx with (((((rfl | rfl | rfl) | ⟨y, _, rfl⟩) | rfl) | rfl) | rfl) | rfl
      · exact ⟨by simp only; omega, by simp only; omega, g3, g4⟩
      · exact ⟨by simp only; omega, by simp; omega, g3, ok_app g4 (ok_one (gl _))⟩
      · exact ⟨by simp, by simp, ok_nil, ok_nil⟩
      · exact ⟨by simp only; omega, by simp only; omega, g3, g4⟩
      · exact ⟨by simp; omega, by simp only; omega, ok_app g3 (ok_one (gl _)), g4⟩
      · exact ⟨by simp; have := cr (some 1) none; omega, by simp only; omega, ok_app (ok_one (gl _)) (fun x hx => g3 x (cutG_mem hx)), g4⟩
      · exact ⟨by simp, by simp, ok_nil, ok_one (gl _)⟩
      · exact ⟨cl _ _, by simp, cs _ _, ok_one (gl _)⟩) (rng 0 (good.length : Int)) 0 (cells, [], 0) ⟨by simp, fun e he => by simp at he⟩
  rw [rng_len] at h
  have e1 : (m__law_bent cells text lines good).1 = (List.foldl (l__law_bent_1 text lines good) (cells, [], 0) (rng 0 (good.length : Int))).2.1 := rfl
  rw [e1]
  exact ⟨by have := h.1; omega, h.2⟩
end K2
namespace K2
open PySem PySem.Spec PyProof.Rows L2 HL
open Evl (Ex)
section
variable {P : Program} {w : World} {K : PySem.W.Frag} {mg : Str → Option Value} {base : Heap}

def m__law_applies (text_ : (List Str)) (edits_ : (List (Int × (List Str) × (List Str)))) : Bool :=
  (match (m_apply_edits (text_) (edits_)) with | .inl er2 => (if ((decide ((m__law_first_bad (some text_) (edits_)) < (0 : Int))) || ((!decide ((([true, true]) ++ ([false, false])) = ([true, true, false, false]))) || (!decide ((text_, edits_) = (text_, edits_))))) = true then false else (mH__law_same (er2) ((m__law_first_bad (some text_) (edits_))))) | .inr tv2 => (if ((decide ((0 : Int) ≤ (m__law_first_bad (some text_) (edits_)))) || (!(m__law_same ((eL eS) tv2) ((eL eS) (m__law_replaced (text_) (edits_)))))) = true then false else (decide ((text_, edits_) = (text_, edits_)))))

abbrev s__law_applies : Stmt := topS 22

abbrev N__law_applies : List Str := ["text", "edits", "bad", "passed", "told", "e", "kinds"]

theorem sc__law_applies : FnScope N__law_applies ["text", "edits"] (defScope s__law_applies) := ⟨rfl, rfl, rfl, by decide +kernel, rfl, by decide +kernel, by decide +kernel⟩

def r__law_applies : List PyData → PyData → Prop := fun ds d => ∃ (text_ : (List Str)) (edits_ : (List (Int × (List Str) × (List Str)))), ds = [(eL eS) text_, (eL (eT3 eI (eTu eS) (eTu eS))) edits_] ∧ (text_.length ≤ 10) ∧ (edits_.length ≤ 6) ∧ (∀ e ∈ edits_, EOK 10 e) ∧ (∀ x ∈ text_, PyData.strOk x = true) ∧ d = eB (m__law_applies text_ edits_)

set_option maxHeartbeats 8000000 in
theorem ok__law_applies {f : Addr} {fd : FuncData} {k : Nat} (F : Fun K "_law_applies" "_law_applies" s__law_applies f fd) {C_BadEdit fI_BadEdit : Addr} {qi_BadEdit : Str} (T_BadEdit : Erplace.Fx K mg "BadEdit" qi_BadEdit C_BadEdit fI_BadEdit) {f__law_first_bad : Addr} {fd__law_first_bad : FuncData} {k__law_first_bad : Nat} (F__law_first_bad : Fun K "_law_first_bad" "_law_first_bad" s__law_first_bad f__law_first_bad fd__law_first_bad) (b__law_first_bad : Binds K fd__law_first_bad ["text", "edits"] []) (g__law_first_bad : mg "_law_first_bad" = some (.ref f__law_first_bad)) (G__law_first_bad : FnOk P w K mg base CX0 k__law_first_bad f__law_first_bad fd__law_first_bad ["text", "edits"] (SpF r__law_first_bad)) (k__law_first_bad_ : k__law_first_bad ≤ k) {f_apply_edits : Addr} {fd_apply_edits : FuncData} {k_apply_edits : Nat} (F_apply_edits : Fun K "apply_edits" "apply_edits" s_apply_edits f_apply_edits fd_apply_edits) (b_apply_edits : Binds K fd_apply_edits ["old", "edits"] []) (g_apply_edits : mg "apply_edits" = some (.ref f_apply_edits)) (G_apply_edits : FnOk P w K mg base (L2N.CX P w) k_apply_edits f_apply_edits fd_apply_edits ["old", "edits"] (SpXplace C_BadEdit r_apply_edits)) (k_apply_edits_ : k_apply_edits ≤ k) {f__law_same : Addr} {fd__law_same : FuncData} {k__law_same : Nat} (F__law_same : Fun K "_law_same" "_law_same" s__law_same f__law_same fd__law_same) (b__law_same : Binds K fd__law_same ["told", "due"] []) (g__law_same : mg "_law_same" = some (.ref f__law_same)) (G__law_same : FnOk P w K mg base CX0 k__law_same f__law_same fd__law_same ["told", "due"] (SpF r__law_same)) (k__law_same_ : k__law_same ≤ k) {f__law_replaced : Addr} {fd__law_replaced : FuncData} {k__law_replaced : Nat} (F__law_replaced : Fun K "_law_replaced" "_law_replaced" s__law_replaced f__law_replaced fd__law_replaced) (b__law_replaced : Binds K fd__law_replaced ["text", "edits"] []) (g__law_replaced : mg "_law_replaced" = some (.ref f__law_replaced)) (G__law_replaced : FnOk P w K mg base CX0 k__law_replaced f__law_replaced fd__law_replaced ["text", "edits"] (SpF r__law_replaced)) (k__law_replaced_ : k__law_replaced ≤ k) {kH__law_same : Nat} (GH__law_same : L2H.FnH P w K mg base CX0 kH__law_same f__law_same fd__law_same ["told", "due"] (SpF rH__law_same)) (kH__law_same_ : kH__law_same ≤ k) (XC_BadEdit : ExcC K C_BadEdit) {D_PartError : Addr} (cl_PartError : mg "PartError" = some (.ref D_PartError)) (kt_BadEdit_PartError : PySem.W.kitOne K (.ref C_BadEdit) (.ref D_PartError) = some true) (kt_BadEdit_ValueError : PySem.W.kitOne K (.ref C_BadEdit) (.type "ValueError") = some true) {D_BadText : Addr} (cl_BadText : mg "BadText" = some (.ref D_BadText)) (kt_BadEdit_BadText : PySem.W.kitOne K (.ref C_BadEdit) (.ref D_BadText) = some false) {D_Misfit : Addr} (cl_Misfit : mg "Misfit" = some (.ref D_Misfit)) (kt_BadEdit_Misfit : PySem.W.kitOne K (.ref C_BadEdit) (.ref D_Misfit) = some false) (m_isinstance : mg "isinstance" = none) (m_ValueError : mg "ValueError" = none) (m_list : mg "list" = none) : FnOk P w K mg base CX0 (k + 1) f fd ["text", "edits"] (SpF r__law_applies) := by
  refine F.ok sc__law_applies (fun vs H Q E h => ?_) (fun cdv A outer s H vs Q E hr h => ?_)
  · obtain ⟨ds, d, hd, ⟨text_, edits_, rfl, h1, h2, h3, h4, rfl⟩, _⟩ := h
    exact hd.length
  · obtain ⟨ds, d, hd, ⟨text_, edits_, rfl, h1, h2, h3, h4, rfl⟩, q⟩ := h
    refine ⟨_, (pss_cons (ps_set (i := 2) sc__law_applies.nd rfl (Or.inl rfl) (pe_call G__law_first_bad (hr.mono k__law_first_bad_) (by rfl) g__law_first_bad F__law_first_bad.kp b__law_first_bad .nil pass0 (pa_cons (pv 0) (pa_cons (pv 1) pa_nil)))) (pss_cons (ps_set (i := 3) sc__law_applies.nd rfl (Or.inl rfl) (pe_lst (pa_cons (pe_callTy (r := rListOfK K) call_list_of (by rfl) m_list (by decide +kernel) (pa_cons (pv 0) pa_nil)) (pa_cons (pe_callTy (r := rListOfK K) call_list_of (by rfl) m_list (by decide +kernel) (pa_cons (pv 1) pa_nil)) pa_nil)))) (pss_cons (L2N.ps_try_as (i := 5) (Wout := fun _ _ _ _ => False) rfl rfl sc__law_applies.nd rfl rfl ⟨rfl, by decide, Or.inl T_BadEdit.nam⟩ takes0N (fun W pn xe tk _ => pss_one (ps_set (i := 4) sc__law_applies.nd rfl (Or.inl rfl) (by exact (pe_callS G_apply_edits (hr.mono k_apply_edits_) (by rfl) g_apply_edits F_apply_edits.kp b_apply_edits (fun σ => L2N.passAt tk σ) (pa_cons (pe_ix (r := rIxL K) ix_list (pv 3) pe_int (fun _ _ => rfl)) (pa_cons (pe_ix (r := rIxL K) ix_list (pv 3) pe_int (fun _ _ => rfl)) pa_nil)))))) (fun a oe cls d pn hz hf => (pss_cons (ps_set (i := 6) sc__law_applies.nd rfl (Or.inl rfl) (pe_lst (pa_cons (pe_callB (r := rIsD K C_BadEdit _ _ _) (call_isD XC_BadEdit (L2N.Zn.zc hz) hf) (by rfl) m_isinstance (by decide +kernel) (pa_cons (pv 5) (pa_cons (pe_glob (v := .ref D_PartError) rfl cl_PartError rfl) pa_nil))) (pa_cons (pe_callB (r := rIsD K C_BadEdit _ _ _) (call_isD XC_BadEdit (L2N.Zn.zc hz) hf) (by rfl) m_isinstance (by decide +kernel) (pa_cons (pv 5) (pa_cons (pe_bltn (v := .ty "ValueError") (by rfl) m_ValueError (by decide +kernel) rfl) pa_nil))) pa_nil)))) (pss_cons (ps_set (i := 6) sc__law_applies.nd rfl (Or.inl rfl) (pe_op op_cat (pv 6) (pe_lst (pa_cons (pe_callB (r := rIsD K C_BadEdit _ _ _) (call_isD XC_BadEdit (L2N.Zn.zc hz) hf) (by rfl) m_isinstance (by decide +kernel) (pa_cons (pv 5) (pa_cons (pe_glob (v := .ref D_BadText) rfl cl_BadText rfl) pa_nil))) (pa_cons (pe_callB (r := rIsD K C_BadEdit _ _ _) (call_isD XC_BadEdit (L2N.Zn.zc hz) hf) (by rfl) m_isinstance (by decide +kernel) (pa_cons (pv 5) (pa_cons (pe_glob (v := .ref D_Misfit) rfl cl_Misfit rfl) pa_nil))) pa_nil))))) (pss_cons (ps_if (PW.pt (pw_or (pt_cmpR (op_lt) (pv 2) pe_int (nomark _)) (pw_or (pt_cmpR (r := rNeD K) (op_neD hr.units) (pv 6) (pe_lst (pa_cons pe_bl (pa_cons pe_bl (pa_cons pe_bl (pa_cons pe_bl pa_nil))))) (nomark _)) (pw_or1 (pt_cmpR (r := rNeD K) (op_neD hr.units) (pv 3) (pe_lst (pa_cons (pv 0) (pa_cons (pv 1) pa_nil))) (nomark _)))))) (pss_cons (ps_ret pe_bl) pss_nil) pss_nil) (pss_cons (ps_ret (L2H.pe_callH (E := fun _ => E0) GH__law_same (rmH (hr.mono kH__law_same_)) (hotS hz hf) (by rfl) g__law_same F__law_same.kp b__law_same passA0 (pa_cons (fd_place T_BadEdit hz hf (pv 5)) (pa_cons (pv 2) pa_nil)))) pss_nil)))))) (pss_cons (ps_if (PW.pt (pw_or (pt_cmpR (op_ge) (pv 2) pe_int (nomark _)) (pw_or1 (pt_not (pt_val (pe_call G__law_same (hr.mono k__law_same_) (by rfl) g__law_same F__law_same.kp b__law_same .nil pass0 (pa_cons (pv 4) (pa_cons (pe_call G__law_replaced (hr.mono k__law_replaced_) (by rfl) g__law_replaced F__law_replaced.kp b__law_replaced .nil pass0 (pa_cons (pv 0) (pa_cons (pv 1) pa_nil))) pa_nil)))))))) (pss_cons (ps_ret pe_bl) pss_nil) pss_nil) (pss_cons (ps_expr (pe_bm PySem.F.plainAttrs_list PySem.F.slot_list_append PySem.F.type_list_append mt_append (pv 4) (pa_cons pe_str pa_nil))) (pss_cons (ps_ret (pe_cmpR (r := rEqD K) (op_eqD hr.units) (pv 3) (pe_lst (pa_cons (pv 0) (pa_cons (pv 1) pa_nil))) (nomark _))) pss_nil)))))), ?_⟩
    have e0 : Ex H H := Ex.refl H
    have B := bs_F hd (N := N__law_applies) (by rw [hd.length]; exact Nat.le_of_ble_eq_true rfl)
    have B : Bs _ _ _ [.va false ((eL eS) text_), .va false ((eL (eT3 eI (eTu eS) (eTu eS))) edits_), .no, .no, .no, .no, .no] := B
    have hk : m__law_applies text_ edits_ = (match (m_apply_edits (text_) (edits_)) with | .inl er2 => (if ((decide ((m__law_first_bad (some text_) (edits_)) < (0 : Int))) || ((!decide ((([true, true]) ++ ([false, false])) = ([true, true, false, false]))) || (!decide ((text_, edits_) = (text_, edits_))))) = true then false else (mH__law_same (er2) ((m__law_first_bad (some text_) (edits_))))) | .inr tv2 => (if ((decide ((0 : Int) ≤ (m__law_first_bad (some text_) (edits_)))) || (!(m__law_same ((eL eS) tv2) ((eL eS) (m__law_replaced (text_) (edits_)))))) = true then false else (decide ((text_, edits_) = (text_, edits_))))) := rfl
    refine q_asg (f := true) B ((ev_callF (B.live true) (ea_cons ((ev_va B rfl).w0) (ea_cons ((ev_va B rfl).w0) ea_nil)) ⟨some text_, edits_, rfl, (fun t e => by cases e; exact h4), fun e he => (h3 e he).s1, by omega, fun e he => (h3 e he).s2, rfl⟩).sc (.int _)) fun σ1 H1 B => ?_
    have B : Bs _ _ _ [.va false ((eL eS) text_), .va false ((eL (eT3 eI (eTu eS) (eTu eS))) edits_), .va true (eI (m__law_first_bad (some text_) (edits_))), .no, .no, .no, .no] := B
    refine q_pass2 (ds := text_.map eS) (es := edits_.map (eT3 eI (eTu eS) (eTu eS))) B rfl (ev_va B rfl) (fun _ _ B => (ev_va B rfl)) (fun p0_1 p1_1 pp1 vs0_1 vs1_1 c1 σ1 H1 ec1 np0_1 np1_1 ne1 nea1 neb1 hO1 hk0_1 hk1_1 B1 => ?_)
    have np0_1 := none_back e0 B np0_1
    have np1_1 := none_back e0 B np1_1
    have e0 := e0.trans ec1
    have B : Bs _ _ _ [.va false ((eL eS) text_), .va false ((eL (eT3 eI (eTu eS) (eTu eS))) edits_), .va true (eI (m__law_first_bad (some text_) (edits_))), .rw (.ref pp1), .no, .no, .no] := B1
    cases hm2 : (m_apply_edits (text_) (edits_)) with
    | inl er2 =>
      rw [hm2] at hk
      dsimp only at hk
      refine qt_place (f := true) (o := (.inl (.int er2))) B rfl (ea_cons (ev_raIx B rfl hO1 (atI_nat (j := 0) rfl) hk0_1) (ea_cons (ev_raIx B rfl hO1 (atI_nat (j := 1) rfl) hk1_1) ea_nil)) ⟨text_, edits_, rfl, by omega, by omega, fun e he => by have := (h3 e he).l2; omega, h4, fun e he => (h3 e he).s1, by rw [hm2]⟩ T_BadEdit.own (fun _ h => nomatch h) (fun _ h => nomatch h) (fun e he ae2 de2 B1 H1 ec2 hdd2 B => ?_)
      cases he
      have B : Bs _ _ _ [.va false ((eL eS) text_), .va false ((eL (eT3 eI (eTu eS) (eTu eS))) edits_), .va true (eI (m__law_first_bad (some text_) (edits_))), .rw (.ref pp1), .no, .rw (.ref ae2), .no] := B
      have e0 := e0.trans ec2
      have hO1 := PO.mono hO1 ec2
      have hk0_1 := PK.mono hk0_1 ec2
      have hk1_1 := PK.mono hk1_1 ec2
      refine q_asg (f := true) B ((en_lstM (em := eB) (xs := [true, true]) (ea_cons (ev_isD B rfl hdd2 kt_BadEdit_PartError (by exact fun u h => h) (fun _ _ q => q)) (ea_cons (ev_isD B rfl hdd2 kt_BadEdit_ValueError (by exact fun u h => h) (fun _ _ q => q)) ea_nil)) (by simp)).ev (B.live true)) fun σ1 H1 B => ?_
      have B : Bs _ _ _ [.va false ((eL eS) text_), .va false ((eL (eT3 eI (eTu eS) (eTu eS))) edits_), .va true (eI (m__law_first_bad (some text_) (edits_))), .rw (.ref pp1), .no, .rw (.ref ae2), .va true ((eL eB) ([true, true]))] := B
      refine q_asg (f := true) B (((en_catM ((ev_va B rfl).w0) ((en_lstM (em := eB) (xs := [false, false]) (ea_cons (ev_isD B rfl hdd2 kt_BadEdit_BadText (by exact fun u h => h) (fun _ _ q => q)) (ea_cons (ev_isD B rfl hdd2 kt_BadEdit_Misfit (by exact fun u h => h) (fun _ _ q => q)) ea_nil)) (by simp)).ev live0) (by first | omega | (simp; done) | (simp; omega) | exact cutG_le' (by omega) | (simp at *; omega))).scL (fun _ => (.bl _))).ev (B.live true)) fun σ1 H1 B => ?_
      have B : Bs _ _ _ [.va false ((eL eS) text_), .va false ((eL (eT3 eI (eTu eS) (eTu eS))) edits_), .va true (eI (m__law_first_bad (some text_) (edits_))), .rw (.ref pp1), .no, .rw (.ref ae2), .va true ((eL eB) (([true, true]) ++ ([false, false])))] := B
      refine q_if B (et_or (et_test (ev_B0 (ev_sc B rfl (.int _)) ev_int)) fun hc => (et_or (et_test (ev_neM (a := (([true, true]) ++ ([false, false]))) (b := [true, true, false, false]) (emL emB) ((ev_va B rfl).w0) ((en_lstM (em := eB) (xs := [true, true, false, false]) (ea_cons ev_bl (ea_cons ev_bl (ea_cons ev_bl (ea_cons ev_bl ea_nil)))) (by simp)).ev live0) (by first | assumption | exact gd_nil | (intros; trivial) | simp_all) (by first | assumption | exact gd_nil | (intros; trivial) | simp_all))) fun hc => (et_test (ev_neM (a := (text_, edits_)) (b := (text_, edits_)) (emP2 (emL emS) (emL (emT3 emI (emTu emS) (emTu emS)))) (ev_ra2 B rfl hO1 hk0_1 hk1_1) ((en_lst (ea_cons ((ev_va B rfl).w0) (ea_cons ((ev_va B rfl).w0) ea_nil)) (by simp)).ev0) ⟨h4, fun e he => ⟨trivial, (h3 e he).s1, (h3 e he).s2⟩⟩ ⟨h4, fun e he => ⟨trivial, (h3 e he).s1, (h3 e he).s2⟩⟩)))) (fun hc3 H1 B => ?_) (fun hc3 H1 B => ?_)
      · rw [if_pos hc3] at hk
        have hc3_f := hc3
        try simp only [Bool.and_eq_true, Bool.or_eq_true, Bool.not_eq_true', Bool.and_eq_false_imp, Bool.or_eq_false_iff, Bool.not_eq_false', decide_eq_true_eq, decide_eq_false_iff_not] at hc3_f
        refine q_ret (f := true) B ev_bl fun v H1 x hv => q v H1 (e0.trans x) ?_
        rw [hk]; exact Dn.sc (.bl _) hv
      · rw [if_neg (show ¬ ((decide ((m__law_first_bad (some text_) (edits_)) < (0 : Int))) || ((!decide ((([true, true]) ++ ([false, false])) = ([true, true, false, false]))) || (!decide ((text_, edits_) = (text_, edits_))))) = true from by rw [hc3]; exact Bool.false_ne_true)] at hk
        have hc3_f := hc3
        try simp only [Bool.and_eq_true, Bool.or_eq_true, Bool.not_eq_true', Bool.and_eq_false_imp, Bool.or_eq_false_iff, Bool.not_eq_false', decide_eq_true_eq, decide_eq_false_iff_not] at hc3_f
        dsimp only [tNext]
        refine q_ret (f := true) B ((ev_callFS (B.live true) (ea_cons (ev_fdplace B rfl rfl hdd2 (fun _ => .int _)) (ea_cons (ev_sc B rfl (.int _)) ea_nil)) ⟨er2, (m__law_first_bad (some text_) (edits_)), rfl, (ap_bad (by assumption)).1, rfl⟩).sc (.bl _)) fun v H1 x hv => q v H1 (e0.trans x) ?_
        rw [hk]; exact Dn.sc (.bl _) hv
    | inr tv2 =>
      rw [hm2] at hk
      dsimp only at hk
      refine qt_place (f := true) (o := (.inr ((eL eS) tv2))) B rfl (ea_cons (ev_raIx B rfl hO1 (atI_nat (j := 0) rfl) hk0_1) (ea_cons (ev_raIx B rfl hO1 (atI_nat (j := 1) rfl) hk1_1) ea_nil)) ⟨text_, edits_, rfl, by omega, by omega, fun e he => by have := (h3 e he).l2; omega, h4, fun e he => (h3 e he).s1, by rw [hm2]⟩ T_BadEdit.own (fun _ he at2 σ1 H1 B => ?_) (fun d h => ⟨tv2.map eS, by cases h; rfl⟩) (fun _ h => nomatch h)
      cases he
      have B : Bs _ _ _ [.va false ((eL eS) text_), .va false ((eL (eT3 eI (eTu eS) (eTu eS))) edits_), .va true (eI (m__law_first_bad (some text_) (edits_))), .rw (.ref pp1), .ow true at2 (tv2.map eS), .no, .no] := B
      refine q_if B (et_or (et_test (ev_B0 (ev_sc B rfl (.int _)) ev_int)) fun hc => (et_not (et_B ((ev_callF (B.live true) (ea_cons (ev_owM B rfl) (ea_cons (ev_callF live0 (ea_cons ((ev_va B rfl).w0) (ea_cons ((ev_va B rfl).w0) ea_nil)) ⟨text_, edits_, rfl, h1, h2, fun e he => (h3 e he).l2, rfl⟩) ea_nil)) ⟨(eL eS) tv2, (eL eS) (m__law_replaced (text_) (edits_)), rfl, congrArg (eL eS) (ap_ok (by assumption)).1, okLs (by have := repl_len h1 h2 h3; omega) (repl_ok h4 h3), depLs _, rfl⟩).sc (.bl _))))) (fun hc4 H1 B => ?_) (fun hc4 H1 B => ?_)
      · rw [if_pos hc4] at hk
        have hc4_f := hc4
        try simp only [Bool.and_eq_true, Bool.or_eq_true, Bool.not_eq_true', Bool.and_eq_false_imp, Bool.or_eq_false_iff, Bool.not_eq_false', decide_eq_true_eq, decide_eq_false_iff_not] at hc4_f
        refine q_ret (f := true) B ev_bl fun v H1 x hv => q v H1 (e0.trans x) ?_
        rw [hk]; exact Dn.sc (.bl _) hv
      · rw [if_neg (show ¬ ((decide ((0 : Int) ≤ (m__law_first_bad (some text_) (edits_)))) || (!(m__law_same ((eL eS) tv2) ((eL eS) (m__law_replaced (text_) (edits_)))))) = true from by rw [hc4]; exact Bool.false_ne_true)] at hk
        have hc4_f := hc4
        try simp only [Bool.and_eq_true, Bool.or_eq_true, Bool.not_eq_true', Bool.and_eq_false_imp, Bool.or_eq_false_iff, Bool.not_eq_false', decide_eq_true_eq, decide_eq_false_iff_not] at hc4_f
        dsimp only [tNext]
        refine q_app (f := true) B rfl ev_str (by have q := (ap_ok (by assumption)).1; rw [q, List.length_map]; have := repl_len h1 h2 h3; omega) fun H1 B => ?_
        have B : Bs _ _ _ [.va false ((eL eS) text_), .va false ((eL (eT3 eI (eTu eS) (eTu eS))) edits_), .va true (eI (m__law_first_bad (some text_) (edits_))), .rw (.ref pp1), .ow true at2 ((tv2 ++ [("c" : Str)]).map eS), .no, .no] := B.le (.cons (.refl _) (.cons (.refl _) (.cons (.refl _) (.cons (.refl _) (.cons (.eqo (by simp)) (.cons (.refl _) (.cons (.refl _) .nil)))))))
        refine q_ret (f := true) B (ev_eqM (a := (text_, edits_)) (b := (text_, edits_)) (emP2 (emL emS) (emL (emT3 emI (emTu emS) (emTu emS)))) (ev_ra2 B rfl hO1 hk0_1 hk1_1) ((en_lst (ea_cons ((ev_va B rfl).w0) (ea_cons ((ev_va B rfl).w0) ea_nil)) (by simp)).ev0) ⟨h4, fun e he => ⟨trivial, (h3 e he).s1, (h3 e he).s2⟩⟩ ⟨h4, fun e he => ⟨trivial, (h3 e he).s1, (h3 e he).s2⟩⟩) fun v H1 x hv => q v H1 (e0.trans x) ?_
        rw [hk]; exact Dn.sc (.bl _) hv

def m__law_turns (edits_ : (List (Int × (List Str) × (List Str)))) : Bool :=
  (match (m_inverse_edits (edits_)) with | .inl er6 => (if ((decide ((m__law_first_bad (none) (edits_)) < (0 : Int))) || ((!decide ((([true, true]) ++ ([false, false])) = ([true, true, false, false]))) || (!decide (edits_ = edits_)))) = true then false else (mH__law_same (er6) ((m__law_first_bad (none) (edits_))))) | .inr tv6 => (if ((decide ((0 : Int) ≤ (m__law_first_bad (none) (edits_)))) || (!(m__law_same ((eL (eT3 eI (eTu eS) (eTu eS))) tv6) ((eL (eT3 eI (eTu eS) (eTu eS))) (m__law_back (edits_)))))) = true then false else (decide (edits_ = edits_))))

abbrev s__law_turns : Stmt := topS 23

abbrev N__law_turns : List Str := ["edits", "bad", "passed", "told", "e", "kinds"]

theorem sc__law_turns : FnScope N__law_turns ["edits"] (defScope s__law_turns) := ⟨rfl, rfl, rfl, by decide +kernel, rfl, by decide +kernel, by decide +kernel⟩

def r__law_turns : List PyData → PyData → Prop := fun ds d => ∃ (edits_ : (List (Int × (List Str) × (List Str)))), ds = [(eL (eT3 eI (eTu eS) (eTu eS))) edits_] ∧ (edits_.length ≤ 6) ∧ (∀ e ∈ edits_, EOK 10 e) ∧ d = eB (m__law_turns edits_)

set_option maxHeartbeats 8000000 in
theorem ok__law_turns {f : Addr} {fd : FuncData} {k : Nat} (F : Fun K "_law_turns" "_law_turns" s__law_turns f fd) {C_BadEdit fI_BadEdit : Addr} {qi_BadEdit : Str} (T_BadEdit : Erplace.Fx K mg "BadEdit" qi_BadEdit C_BadEdit fI_BadEdit) {f__law_first_bad : Addr} {fd__law_first_bad : FuncData} {k__law_first_bad : Nat} (F__law_first_bad : Fun K "_law_first_bad" "_law_first_bad" s__law_first_bad f__law_first_bad fd__law_first_bad) (b__law_first_bad : Binds K fd__law_first_bad ["text", "edits"] []) (g__law_first_bad : mg "_law_first_bad" = some (.ref f__law_first_bad)) (G__law_first_bad : FnOk P w K mg base CX0 k__law_first_bad f__law_first_bad fd__law_first_bad ["text", "edits"] (SpF r__law_first_bad)) (k__law_first_bad_ : k__law_first_bad ≤ k) {f_inverse_edits : Addr} {fd_inverse_edits : FuncData} {k_inverse_edits : Nat} (F_inverse_edits : Fun K "inverse_edits" "inverse_edits" s_inverse_edits f_inverse_edits fd_inverse_edits) (b_inverse_edits : Binds K fd_inverse_edits ["edits"] []) (g_inverse_edits : mg "inverse_edits" = some (.ref f_inverse_edits)) (G_inverse_edits : FnOk P w K mg base (L2N.CX P w) k_inverse_edits f_inverse_edits fd_inverse_edits ["edits"] (SpXMplace C_BadEdit r_inverse_edits)) (k_inverse_edits_ : k_inverse_edits ≤ k) {f__law_same : Addr} {fd__law_same : FuncData} {k__law_same : Nat} (F__law_same : Fun K "_law_same" "_law_same" s__law_same f__law_same fd__law_same) (b__law_same : Binds K fd__law_same ["told", "due"] []) (g__law_same : mg "_law_same" = some (.ref f__law_same)) (G__law_same : FnOk P w K mg base CX0 k__law_same f__law_same fd__law_same ["told", "due"] (SpF r__law_same)) (k__law_same_ : k__law_same ≤ k) {f__law_back : Addr} {fd__law_back : FuncData} {k__law_back : Nat} (F__law_back : Fun K "_law_back" "_law_back" s__law_back f__law_back fd__law_back) (b__law_back : Binds K fd__law_back ["edits"] []) (g__law_back : mg "_law_back" = some (.ref f__law_back)) (G__law_back : FnOk P w K mg base CX0 k__law_back f__law_back fd__law_back ["edits"] (SpS r__law_back)) (k__law_back_ : k__law_back ≤ k) {kH__law_same : Nat} (GH__law_same : L2H.FnH P w K mg base CX0 kH__law_same f__law_same fd__law_same ["told", "due"] (SpF rH__law_same)) (kH__law_same_ : kH__law_same ≤ k) (XC_BadEdit : ExcC K C_BadEdit) {D_PartError : Addr} (cl_PartError : mg "PartError" = some (.ref D_PartError)) (kt_BadEdit_PartError : PySem.W.kitOne K (.ref C_BadEdit) (.ref D_PartError) = some true) (kt_BadEdit_ValueError : PySem.W.kitOne K (.ref C_BadEdit) (.type "ValueError") = some true) {D_BadText : Addr} (cl_BadText : mg "BadText" = some (.ref D_BadText)) (kt_BadEdit_BadText : PySem.W.kitOne K (.ref C_BadEdit) (.ref D_BadText) = some false) {D_Misfit : Addr} (cl_Misfit : mg "Misfit" = some (.ref D_Misfit)) (kt_BadEdit_Misfit : PySem.W.kitOne K (.ref C_BadEdit) (.ref D_Misfit) = some false) (m_list : mg "list" = none) (m_isinstance : mg "isinstance" = none) (m_ValueError : mg "ValueError" = none) : FnOk P w K mg base CX0 (k + 1) f fd ["edits"] (SpF r__law_turns) := by
  refine F.ok sc__law_turns (fun vs H Q E h => ?_) (fun cdv A outer s H vs Q E hr h => ?_)
  · obtain ⟨ds, d, hd, ⟨edits_, rfl, h1, h2, rfl⟩, _⟩ := h
    exact hd.length
  · obtain ⟨ds, d, hd, ⟨edits_, rfl, h1, h2, rfl⟩, q⟩ := h
    refine ⟨_, (pss_cons (ps_set (i := 1) sc__law_turns.nd rfl (Or.inl rfl) (pe_call G__law_first_bad (hr.mono k__law_first_bad_) (by rfl) g__law_first_bad F__law_first_bad.kp b__law_first_bad .nil pass0 (pa_cons pe_non (pa_cons (pv 0) pa_nil)))) (pss_cons (ps_set (i := 2) sc__law_turns.nd rfl (Or.inl rfl) (pe_callTy (r := rListOfK K) call_list_of (by rfl) m_list (by decide +kernel) (pa_cons (pv 0) pa_nil))) (pss_cons (L2N.ps_try_as (i := 4) (Wout := fun _ _ _ _ => False) rfl rfl sc__law_turns.nd rfl rfl ⟨rfl, by decide, Or.inl T_BadEdit.nam⟩ takes0N (fun W pn xe tk _ => pss_one (ps_set (i := 3) sc__law_turns.nd rfl (Or.inl rfl) (by exact (pe_callS G_inverse_edits (hr.mono k_inverse_edits_) (by rfl) g_inverse_edits F_inverse_edits.kp b_inverse_edits (fun σ => L2N.passAt tk σ) (pa_cons (pv 2) pa_nil))))) (fun a oe cls d pn hz hf => (pss_cons (ps_set (i := 5) sc__law_turns.nd rfl (Or.inl rfl) (pe_lst (pa_cons (pe_callB (r := rIsD K C_BadEdit _ _ _) (call_isD XC_BadEdit (L2N.Zn.zc hz) hf) (by rfl) m_isinstance (by decide +kernel) (pa_cons (pv 4) (pa_cons (pe_glob (v := .ref D_PartError) rfl cl_PartError rfl) pa_nil))) (pa_cons (pe_callB (r := rIsD K C_BadEdit _ _ _) (call_isD XC_BadEdit (L2N.Zn.zc hz) hf) (by rfl) m_isinstance (by decide +kernel) (pa_cons (pv 4) (pa_cons (pe_bltn (v := .ty "ValueError") (by rfl) m_ValueError (by decide +kernel) rfl) pa_nil))) pa_nil)))) (pss_cons (ps_set (i := 5) sc__law_turns.nd rfl (Or.inl rfl) (pe_op op_cat (pv 5) (pe_lst (pa_cons (pe_callB (r := rIsD K C_BadEdit _ _ _) (call_isD XC_BadEdit (L2N.Zn.zc hz) hf) (by rfl) m_isinstance (by decide +kernel) (pa_cons (pv 4) (pa_cons (pe_glob (v := .ref D_BadText) rfl cl_BadText rfl) pa_nil))) (pa_cons (pe_callB (r := rIsD K C_BadEdit _ _ _) (call_isD XC_BadEdit (L2N.Zn.zc hz) hf) (by rfl) m_isinstance (by decide +kernel) (pa_cons (pv 4) (pa_cons (pe_glob (v := .ref D_Misfit) rfl cl_Misfit rfl) pa_nil))) pa_nil))))) (pss_cons (ps_if (PW.pt (pw_or (pt_cmpR (op_lt) (pv 1) pe_int (nomark _)) (pw_or (pt_cmpR (r := rNeD K) (op_neD hr.units) (pv 5) (pe_lst (pa_cons pe_bl (pa_cons pe_bl (pa_cons pe_bl (pa_cons pe_bl pa_nil))))) (nomark _)) (pw_or1 (pt_cmpR (r := rNeD K) (op_neD hr.units) (pv 2) (pv 0) (nomark _)))))) (pss_cons (ps_ret pe_bl) pss_nil) pss_nil) (pss_cons (ps_ret (L2H.pe_callH (E := fun _ => E0) GH__law_same (rmH (hr.mono kH__law_same_)) (hotS hz hf) (by rfl) g__law_same F__law_same.kp b__law_same passA0 (pa_cons (fd_place T_BadEdit hz hf (pv 4)) (pa_cons (pv 1) pa_nil)))) pss_nil)))))) (pss_cons (ps_if (PW.pt (pw_or (pt_cmpR (op_ge) (pv 1) pe_int (nomark _)) (pw_or1 (pt_not (pt_val (pe_call G__law_same (hr.mono k__law_same_) (by rfl) g__law_same F__law_same.kp b__law_same .nil pass0 (pa_cons (pv 3) (pa_cons (pe_call G__law_back (hr.mono k__law_back_) (by rfl) g__law_back F__law_back.kp b__law_back .nil pass0 (pa_cons (pv 0) pa_nil)) pa_nil)))))))) (pss_cons (ps_ret pe_bl) pss_nil) pss_nil) (pss_cons (ps_expr (pe_bm PySem.F.plainAttrs_list PySem.F.slot_list_append PySem.F.type_list_append mt_append (pv 3) (pa_cons (pe_tup (pa_cons pe_int (pa_cons (pe_tup (pa_cons pe_str pa_nil)) (pa_cons (pe_tup pa_nil) pa_nil)))) pa_nil))) (pss_cons (ps_ret (pe_cmpR (r := rEqD K) (op_eqD hr.units) (pv 2) (pv 0) (nomark _))) pss_nil)))))), ?_⟩
    have e0 : Ex H H := Ex.refl H
    have B := bs_F hd (N := N__law_turns) (by rw [hd.length]; exact Nat.le_of_ble_eq_true rfl)
    have B : Bs _ _ _ [.va false ((eL (eT3 eI (eTu eS) (eTu eS))) edits_), .no, .no, .no, .no, .no] := B
    have hk : m__law_turns edits_ = (match (m_inverse_edits (edits_)) with | .inl er6 => (if ((decide ((m__law_first_bad (none) (edits_)) < (0 : Int))) || ((!decide ((([true, true]) ++ ([false, false])) = ([true, true, false, false]))) || (!decide (edits_ = edits_)))) = true then false else (mH__law_same (er6) ((m__law_first_bad (none) (edits_))))) | .inr tv6 => (if ((decide ((0 : Int) ≤ (m__law_first_bad (none) (edits_)))) || (!(m__law_same ((eL (eT3 eI (eTu eS) (eTu eS))) tv6) ((eL (eT3 eI (eTu eS) (eTu eS))) (m__law_back (edits_)))))) = true then false else (decide (edits_ = edits_)))) := rfl
    refine q_asg (f := true) B ((ev_callF (B.live true) (ea_cons ev_non (ea_cons ((ev_va B rfl).w0) ea_nil)) ⟨none, edits_, rfl, (fun t e => nomatch e), fun e he => (h2 e he).s1, by omega, fun e he => (h2 e he).s2, rfl⟩).sc (.int _)) fun σ1 H1 B => ?_
    have B : Bs _ _ _ [.va false ((eL (eT3 eI (eTu eS) (eTu eS))) edits_), .va true (eI (m__law_first_bad (none) (edits_))), .no, .no, .no, .no] := B
    refine q_asgN (f := false) B (en_listM (ev_va B rfl)) fun a5 σ1 H1 B => ?_
    have B : Bs _ _ _ [.va false ((eL (eT3 eI (eTu eS) (eTu eS))) edits_), .va true (eI (m__law_first_bad (none) (edits_))), .ow false a5 (edits_.map (eT3 eI (eTu eS) (eTu eS))), .no, .no, .no] := B
    cases hm6 : (m_inverse_edits (edits_)) with
    | inl er6 =>
      rw [hm6] at hk
      dsimp only at hk
      refine qtM_place (w := (.inl (.int er6))) B rfl (by decide) (by decide) rfl ⟨edits_, rfl, rfl, by omega, by rw [hm6]⟩ (noLs_map _) T_BadEdit.own (fun _ h => nomatch h) (fun _ h => nomatch h) (fun e he ae6 de6 B1 H1 ec6 hdd6 B => ?_)
      cases he
      have B : Bs _ _ _ [.va false ((eL (eT3 eI (eTu eS) (eTu eS))) edits_), .va true (eI (m__law_first_bad (none) (edits_))), .ow false a5 (edits_.map (eT3 eI (eTu eS) (eTu eS))), .no, .rw (.ref ae6), .no] := B
      have e0 := e0.trans ec6
      refine q_asg (f := true) B ((en_lstM (em := eB) (xs := [true, true]) (ea_cons (ev_isD B rfl hdd6 kt_BadEdit_PartError (by exact fun u h => h) (fun _ _ q => q)) (ea_cons (ev_isD B rfl hdd6 kt_BadEdit_ValueError (by exact fun u h => h) (fun _ _ q => q)) ea_nil)) (by simp)).ev (B.live true)) fun σ1 H1 B => ?_
      have B : Bs _ _ _ [.va false ((eL (eT3 eI (eTu eS) (eTu eS))) edits_), .va true (eI (m__law_first_bad (none) (edits_))), .ow false a5 (edits_.map (eT3 eI (eTu eS) (eTu eS))), .no, .rw (.ref ae6), .va true ((eL eB) ([true, true]))] := B
      refine q_asg (f := true) B (((en_catM ((ev_va B rfl).w0) ((en_lstM (em := eB) (xs := [false, false]) (ea_cons (ev_isD B rfl hdd6 kt_BadEdit_BadText (by exact fun u h => h) (fun _ _ q => q)) (ea_cons (ev_isD B rfl hdd6 kt_BadEdit_Misfit (by exact fun u h => h) (fun _ _ q => q)) ea_nil)) (by simp)).ev live0) (by first | omega | (simp; done) | (simp; omega) | exact cutG_le' (by omega) | (simp at *; omega))).scL (fun _ => (.bl _))).ev (B.live true)) fun σ1 H1 B => ?_
      have B : Bs _ _ _ [.va false ((eL (eT3 eI (eTu eS) (eTu eS))) edits_), .va true (eI (m__law_first_bad (none) (edits_))), .ow false a5 (edits_.map (eT3 eI (eTu eS) (eTu eS))), .no, .rw (.ref ae6), .va true ((eL eB) (([true, true]) ++ ([false, false])))] := B
      refine q_if B (et_or (et_test (ev_B0 (ev_sc B rfl (.int _)) ev_int)) fun hc => (et_or (et_test (ev_neM (a := (([true, true]) ++ ([false, false]))) (b := [true, true, false, false]) (emL emB) ((ev_va B rfl).w0) ((en_lstM (em := eB) (xs := [true, true, false, false]) (ea_cons ev_bl (ea_cons ev_bl (ea_cons ev_bl (ea_cons ev_bl ea_nil)))) (by simp)).ev live0) (by first | exact (fun e he => ⟨trivial, (h2 e he).s1, (h2 e he).s2⟩) | (intros; trivial)) (by first | exact (fun e he => ⟨trivial, (h2 e he).s1, (h2 e he).s2⟩) | (intros; trivial)))) fun hc => (et_test (ev_neM (a := edits_) (b := edits_) (emL (emT3 emI (emTu emS) (emTu emS))) (ev_owM B rfl) ((ev_va B rfl).w0) (by first | exact (fun e he => ⟨trivial, (h2 e he).s1, (h2 e he).s2⟩) | (intros; trivial)) (by first | exact (fun e he => ⟨trivial, (h2 e he).s1, (h2 e he).s2⟩) | (intros; trivial)))))) (fun hc7 H1 B => ?_) (fun hc7 H1 B => ?_)
      · rw [if_pos hc7] at hk
        have hc7_f := hc7
        try simp only [Bool.and_eq_true, Bool.or_eq_true, Bool.not_eq_true', Bool.and_eq_false_imp, Bool.or_eq_false_iff, Bool.not_eq_false', decide_eq_true_eq, decide_eq_false_iff_not] at hc7_f
        refine q_ret (f := true) B ev_bl fun v H1 x hv => q v H1 (e0.trans x) ?_
        rw [hk]; exact Dn.sc (.bl _) hv
      · rw [if_neg (show ¬ ((decide ((m__law_first_bad (none) (edits_)) < (0 : Int))) || ((!decide ((([true, true]) ++ ([false, false])) = ([true, true, false, false]))) || (!decide (edits_ = edits_)))) = true from by rw [hc7]; exact Bool.false_ne_true)] at hk
        have hc7_f := hc7
        try simp only [Bool.and_eq_true, Bool.or_eq_true, Bool.not_eq_true', Bool.and_eq_false_imp, Bool.or_eq_false_iff, Bool.not_eq_false', decide_eq_true_eq, decide_eq_false_iff_not] at hc7_f
        dsimp only [tNext]
        refine q_ret (f := true) B ((ev_callFS (B.live true) (ea_cons (ev_fdplace B rfl rfl hdd6 (fun _ => .int _)) (ea_cons (ev_sc B rfl (.int _)) ea_nil)) ⟨er6, (m__law_first_bad (none) (edits_)), rfl, (in_bad (by assumption)).1, rfl⟩).sc (.bl _)) fun v H1 x hv => q v H1 (e0.trans x) ?_
        rw [hk]; exact Dn.sc (.bl _) hv
    | inr tv6 =>
      rw [hm6] at hk
      dsimp only at hk
      refine qtM_place (w := (.inr ((eL (eT3 eI (eTu eS) (eTu eS))) tv6))) B rfl (by decide) (by decide) rfl ⟨edits_, rfl, rfl, by omega, by rw [hm6]⟩ (noLs_map _) T_BadEdit.own (fun d h => ⟨tv6.map (eT3 eI (eTu eS) (eTu eS)), by cases h; rfl, noLs_map _⟩) (fun _ he at6 σ1 H1 B => ?_) (fun _ h => nomatch h)
      cases he
      have B : Bs _ _ _ [.va false ((eL (eT3 eI (eTu eS) (eTu eS))) edits_), .va true (eI (m__law_first_bad (none) (edits_))), .ow false a5 (edits_.map (eT3 eI (eTu eS) (eTu eS))), .ow false at6 (tv6.map (eT3 eI (eTu eS) (eTu eS))), .no, .no] := B
      refine q_if B (et_or (et_test (ev_B0 (ev_sc B rfl (.int _)) ev_int)) fun hc => (et_not (et_B ((ev_callF (B.live true) (ea_cons (ev_owM B rfl) (ea_cons (ev_callS live0 (ea_cons ((ev_va B rfl).w0) ea_nil) ⟨edits_, rfl, by omega, rfl⟩) ea_nil)) ⟨(eL (eT3 eI (eTu eS) (eTu eS))) tv6, (eL (eT3 eI (eTu eS) (eTu eS))) (m__law_back (edits_)), rfl, congrArg (eL (eT3 eI (eTu eS) (eTu eS))) (in_ok (by assumption)).1, okEds (by have := (back_inv h2).1; omega) (by omega) (back_inv h2).2, depEds _, rfl⟩).sc (.bl _))))) (fun hc8 H1 B => ?_) (fun hc8 H1 B => ?_)
      · rw [if_pos hc8] at hk
        have hc8_f := hc8
        try simp only [Bool.and_eq_true, Bool.or_eq_true, Bool.not_eq_true', Bool.and_eq_false_imp, Bool.or_eq_false_iff, Bool.not_eq_false', decide_eq_true_eq, decide_eq_false_iff_not] at hc8_f
        refine q_ret (f := true) B ev_bl fun v H1 x hv => q v H1 (e0.trans x) ?_
        rw [hk]; exact Dn.sc (.bl _) hv
      · rw [if_neg (show ¬ ((decide ((0 : Int) ≤ (m__law_first_bad (none) (edits_)))) || (!(m__law_same ((eL (eT3 eI (eTu eS) (eTu eS))) tv6) ((eL (eT3 eI (eTu eS) (eTu eS))) (m__law_back (edits_)))))) = true from by rw [hc8]; exact Bool.false_ne_true)] at hk
        have hc8_f := hc8
        try simp only [Bool.and_eq_true, Bool.or_eq_true, Bool.not_eq_true', Bool.and_eq_false_imp, Bool.or_eq_false_iff, Bool.not_eq_false', decide_eq_true_eq, decide_eq_false_iff_not] at hc8_f
        dsimp only [tNext]
        refine q_app (f := false) B rfl (ev_tup (ds := [eI (0 : Int), (eTu eS) ([("c" : Str)]), (eTu eS) ([])]) (B.live false) (ea_cons ev_int (ea_cons (ev_tup (ds := [eS ("c" : Str)]) (B.live false) (ea_cons ev_str ea_nil) (by simp)) (ea_cons (ev_tup (ds := []) (B.live false) ea_nil (by simp)) ea_nil))) (by simp)) (by have q := (in_ok (by assumption)).1; rw [q, List.length_map]; have := (back_inv h2).1; omega) fun H1 B => ?_
        have B : Bs _ _ _ [.va false ((eL (eT3 eI (eTu eS) (eTu eS))) edits_), .va true (eI (m__law_first_bad (none) (edits_))), .ow false a5 (edits_.map (eT3 eI (eTu eS) (eTu eS))), .ow false at6 ((tv6 ++ [((0 : Int), [("c" : Str)], [])]).map (eT3 eI (eTu eS) (eTu eS))), .no, .no] := B.le (.cons (.refl _) (.cons (.refl _) (.cons (.refl _) (.cons (.eqo (by simp)) (.cons (.refl _) (.cons (.refl _) .nil))))))
        refine q_ret (f := true) B (ev_eqM (a := edits_) (b := edits_) (emL (emT3 emI (emTu emS) (emTu emS))) (ev_owM B rfl) ((ev_va B rfl).w0) (by first | exact (fun e he => ⟨trivial, (h2 e he).s1, (h2 e he).s2⟩) | (intros; trivial)) (by first | exact (fun e he => ⟨trivial, (h2 e he).s1, (h2 e he).s2⟩) | (intros; trivial))) fun v H1 x hv => q v H1 (e0.trans x) ?_
        rw [hk]; exact Dn.sc (.bl _) hv

end
end K2
namespace K2
open PySem PySem.Spec PyProof.Rows L2 HL
open Evl (Ex)
section
variable {P : Program} {w : World} {K : PySem.W.Frag} {mg : Str → Option Value} {base : Heap}

def n_law_1 (cells_g1 : (List (List Int))) (k_c : Int) : Str × (List (List Int)) :=
  ((m__law_menu (((m__law_next cells_g1 (16 : Int)).1) + ((5 : Int) * k_c))), (m__law_next cells_g1 (16 : Int)).2)

def n_law_2 (lines_y1 : (List Str)) (cells_g2 : (List (List Int))) (k_c : Int) : Str × (List (List Int)) :=
  ((getI lines_y1 (Int.fmod (((m__law_next cells_g2 (3 : Int)).1) + k_c) (3 : Int))), (m__law_next cells_g2 (3 : Int)).2)

def l_law_3 (text_y2 : (List Str)) (s : Unit) (edits_t3 : (List (Int × (List Str) × (List Str)))) : (Unit) ⊕ Bool :=
  match s with
  | () => (if ((!(m__law_applies (text_y2) (edits_t3))) || (!(m__law_turns (edits_t3)))) = true then (.inr false) else (.inl ()))

def m_law (ns : List Int) : Bool :=
  (match (List.foldl (stepE (n_law_1)) ([], (m__law_feed ns)) (rng 0 (3 : Int))) with | (lines_y1, cells_y1) => (match (List.foldl (stepE (n_law_2 lines_y1)) ([], (m__law_next cells_y1 (5 : Int)).2) (rng 0 (Int.fmod (((m__law_next cells_y1 (5 : Int)).1) + (4 : Int)) (5 : Int)))) with | (text_y2, cells_y2) => (match (loopE (l_law_3 text_y2) ([(m__law_good cells_y2 text_y2 lines_y1).1, (m__law_bent ((m__law_good cells_y2 text_y2 lines_y1).2) text_y2 lines_y1 ((m__law_good cells_y2 text_y2 lines_y1).1)).1, (((m__law_good cells_y2 text_y2 lines_y1).1) ++ ((m__law_bent ((m__law_good cells_y2 text_y2 lines_y1).2) text_y2 lines_y1 ((m__law_good cells_y2 text_y2 lines_y1).1)).1)), (m__law_good cells_y2 text_y2 lines_y1).1]) ()) with | .inl _ => true | .inr r => r)))

theorem fold_EJ {β γ : Type} {nx : List γ → Int → β × List γ} {J : List γ → Prop} (h : ∀ gs k, J gs → J (nx gs k).2) : ∀ (l : List Int) (ys : List β) (gs : List γ), J gs → J (l.foldl (stepE nx) (ys, gs)).2
  | [], ys, gs, q => q
  | k :: l, ys, gs, q => by
    rw [List.foldl_cons]
    exact fold_EJ h l _ _ (h _ _ q)
theorem good_J {cells : List (List Int)} {text lines : List Str} (h : ∀ r ∈ cells, r.length = 2) : ∀ r ∈ (m__law_good cells text lines).2, r.length = 2 := by
  have q := foldl_inv (f := l__law_good_1 text lines) (fun n s => ∀ r ∈ s.1, r.length = 2) (fun n s k q => by
    obtain ⟨c1, e1, end1⟩ := s
    simp only [l__law_good_1]
    split <;> exact fold_EJ (nx := n__law_good_2 k) (J := fun (gs : List (List Int)) => ∀ r ∈ gs, r.length = 2) (fun gs k z => next_J z) _ _ _ (next_J (next_J (next_J q)))) (rng 0 ((3 : Int) - (m__law_next cells 4).1)) 0 ((m__law_next cells 4).2, [], 0) (next_J h)
  exact q
theorem menu_ok (p : Int) : PyData.strOk (m__law_menu p) = true := by
  unfold m__law_menu
  exact getI_all (p := fun x => PyData.strOk x = true) (by decide +kernel) ok_def
theorem law_n2 {ls : List Str} (hs : ∀ x ∈ ls, PyData.strOk x = true) {gs : List (List Int)} {k : Int} : PyData.strOk (n_law_2 ls gs k).1 = true := getI_all (p := fun x => PyData.strOk x = true) hs ok_def
theorem law_ed {c1 c2 : List (List Int)} {text lines : List Str} (h0 : text.length ≤ 4) (h1 : ∀ x ∈ text, PyData.strOk x = true) (h2 : ∀ x ∈ lines, PyData.strOk x = true) :
    ∀ x ∈ [(m__law_good c1 text lines).1, (m__law_bent c2 text lines (m__law_good c1 text lines).1).1, (m__law_good c1 text lines).1 ++ (m__law_bent c2 text lines (m__law_good c1 text lines).1).1, (m__law_good c1 text lines).1], x.length ≤ 6 ∧ ∀ e ∈ x, EOK 10 e := by
  obtain ⟨a1, a2⟩ := good_inv (cells := c1) (text := text) (lines := lines) h0 h1 h2
  obtain ⟨b1, b2⟩ := bent_inv (cells := c2) (text := text) (lines := lines) (good := (m__law_good c1 text lines).1) h0 h1 h2 a2
  intro x hx
  simp only [List.mem_cons, List.not_mem_nil, or_false] at hx
  have A : ∀ e ∈ (m__law_good c1 text lines).1, EOK 10 e := fun e he => (a2 e he).mono (by omega)
  have B : ∀ e ∈ (m__law_bent c2 text lines (m__law_good c1 text lines).1).1, EOK 10 e := fun e he => (b2 e he).mono (by omega)
  rcases hx with rfl | rfl | rfl | rfl
  · exact ⟨by omega, A⟩
  · exact ⟨by omega, B⟩
  · refine ⟨by rw [List.length_append]; omega, fun e he => ?_⟩
    rcases List.mem_append.mp he with z | z
    · exact A e z
    · exact B e z
  · exact ⟨by omega, A⟩


abbrev s_law : Stmt := topS 24

abbrev N_law : List Str := ["script", "cells", "lines", "size", "text", "good", "bent", "edits", "k"]

theorem sc_law : FnScope N_law ["script"] (defScope s_law) := ⟨rfl, rfl, rfl, by decide +kernel, rfl, by decide +kernel, by decide +kernel⟩

def sp_law (K : PySem.W.Frag) : Sp := fun vs H Q _ => ∃ (a : Addr) (ns : List Int), vs = [.ref a] ∧ SqL K H a (ns.map V.int) ∧ ns.length ≤ 63 ∧ ∀ v H', Dn H' v (.bool (m_law ns)) → Q v H'

set_option maxHeartbeats 16000000 in
theorem ok_law {f : Addr} {fd : FuncData} {k : Nat} (F : Fun K "law" "law" s_law f fd) {f__law_feed : Addr} {fd__law_feed : FuncData} {k__law_feed : Nat} (F__law_feed : Fun K "_law_feed" "_law_feed" s__law_feed f__law_feed fd__law_feed) (b__law_feed : Binds K fd__law_feed ["script"] []) (g__law_feed : mg "_law_feed" = some (.ref f__law_feed)) (G__law_feed : FnOk P w K mg base CX0 k__law_feed f__law_feed fd__law_feed ["script"] (sp__law_feed K)) (k__law_feed_ : k__law_feed ≤ k) {f__law_menu : Addr} {fd__law_menu : FuncData} {k__law_menu : Nat} (F__law_menu : Fun K "_law_menu" "_law_menu" s__law_menu f__law_menu fd__law_menu) (b__law_menu : Binds K fd__law_menu ["place"] []) (g__law_menu : mg "_law_menu" = some (.ref f__law_menu)) (G__law_menu : FnOk P w K mg base CX0 k__law_menu f__law_menu fd__law_menu ["place"] (SpF r__law_menu)) (k__law_menu_ : k__law_menu ≤ k) {f__law_next : Addr} {fd__law_next : FuncData} {k__law_next : Nat} (F__law_next : Fun K "_law_next" "_law_next" s__law_next f__law_next fd__law_next) (b__law_next : Binds K fd__law_next ["cells", "many"] []) (g__law_next : mg "_law_next" = some (.ref f__law_next)) (G__law_next : FnOk P w K mg base CX0 k__law_next f__law_next fd__law_next ["cells", "many"] (SpM r__law_next)) (k__law_next_ : k__law_next ≤ k) {f__law_good : Addr} {fd__law_good : FuncData} {k__law_good : Nat} (F__law_good : Fun K "_law_good" "_law_good" s__law_good f__law_good fd__law_good) (b__law_good : Binds K fd__law_good ["cells", "text", "lines"] []) (g__law_good : mg "_law_good" = some (.ref f__law_good)) (G__law_good : FnOk P w K mg base CX0 k__law_good f__law_good fd__law_good ["cells", "text", "lines"] (SpM2 r__law_good)) (k__law_good_ : k__law_good ≤ k) {f__law_bent : Addr} {fd__law_bent : FuncData} {k__law_bent : Nat} (F__law_bent : Fun K "_law_bent" "_law_bent" s__law_bent f__law_bent fd__law_bent) (b__law_bent : Binds K fd__law_bent ["cells", "text", "lines", "good"] []) (g__law_bent : mg "_law_bent" = some (.ref f__law_bent)) (G__law_bent : FnOk P w K mg base CX0 k__law_bent f__law_bent fd__law_bent ["cells", "text", "lines", "good"] (SpM2 r__law_bent)) (k__law_bent_ : k__law_bent ≤ k) {f__law_applies : Addr} {fd__law_applies : FuncData} {k__law_applies : Nat} (F__law_applies : Fun K "_law_applies" "_law_applies" s__law_applies f__law_applies fd__law_applies) (b__law_applies : Binds K fd__law_applies ["text", "edits"] []) (g__law_applies : mg "_law_applies" = some (.ref f__law_applies)) (G__law_applies : FnOk P w K mg base CX0 k__law_applies f__law_applies fd__law_applies ["text", "edits"] (SpF r__law_applies)) (k__law_applies_ : k__law_applies ≤ k) {f__law_turns : Addr} {fd__law_turns : FuncData} {k__law_turns : Nat} (F__law_turns : Fun K "_law_turns" "_law_turns" s__law_turns f__law_turns fd__law_turns) (b__law_turns : Binds K fd__law_turns ["edits"] []) (g__law_turns : mg "_law_turns" = some (.ref f__law_turns)) (G__law_turns : FnOk P w K mg base CX0 k__law_turns f__law_turns fd__law_turns ["edits"] (SpF r__law_turns)) (k__law_turns_ : k__law_turns ≤ k) (m_range : mg "range" = none) (m_int : mg "int" = none) : FnOk P w K mg base CX0 (k + 1) f fd ["script"] (sp_law K) := by
  refine F.ok sc_law (fun vs H Q E h => ?_) (fun cdv A outer s H vs Q E hr h => ?_)
  · obtain ⟨a, ns, rfl, _⟩ := h; rfl
  · obtain ⟨a, ns, rfl, hS, hl, q⟩ := h
    refine ⟨_, (pss_cons (ps_set (i := 1) sc_law.nd rfl (Or.inr rfl) (pe_call G__law_feed (hr.mono k__law_feed_) (by rfl) g__law_feed F__law_feed.kp b__law_feed .nil pass0 (pa_cons (pv 0) pa_nil))) (pss_cons (ps_set (i := 2) sc_law.nd rfl (Or.inr rfl) (pe_lc (own := [("k", 8)]) (g := gName 8) (tt := tYes) rfl sc_law.nd (pi_range1 rfl m_range (pa_cons pe_int pa_nil)) (blkOk_by (own := [("k", 8)]) (N := N_law) (sc := defScope s_law) (by decide +kernel)) (fun _ _ _ _ _ => pg_name (i := 8) sc_law.nd rfl (Or.inl rfl)) (fun _ _ _ _ _ => pts_nil) (fun _ _ _ _ _ => (pe_call G__law_menu (hr.mono k__law_menu_) (by rfl) g__law_menu F__law_menu.kp b__law_menu .nil pass0 (pa_cons (pe_op op_add (pe_call G__law_next (hr.mono k__law_next_) (by rfl) g__law_next F__law_next.kp b__law_next .nil pass0 (pa_cons (pv 1) (pa_cons pe_int pa_nil))) (pe_op op_mul pe_int (pv 8))) pa_nil))))) (pss_cons (ps_set (i := 3) sc_law.nd rfl (Or.inl rfl) (pe_op op_modN (pe_callTy call_int1 (by rfl) m_int (by decide +kernel) (pa_cons (pe_op op_add (pe_call G__law_next (hr.mono k__law_next_) (by rfl) g__law_next F__law_next.kp b__law_next .nil pass0 (pa_cons (pv 1) (pa_cons pe_int pa_nil))) pe_int) pa_nil)) pe_int)) (pss_cons (ps_setLc (i := 4) (own := [("k", 8)]) (g := gName 8) (tt := tYes) rfl sc_law.nd rfl rfl (sw_true rfl rfl rfl (by decide +kernel)) (pi_range1 rfl m_range (pa_cons (pv 3) pa_nil)) (blkOk_by (own := [("k", 8)]) (N := N_law) (sc := defScope s_law) (by decide +kernel)) (fun _ _ _ _ _ => pg_name (i := 8) sc_law.nd rfl (Or.inl rfl)) (fun _ _ _ _ _ => pts_nil) (fun _ _ _ _ _ => (pe_ix (r := rIxL K) ix_list (pv 2) (pe_op op_modN (pe_callTy call_int1 (by rfl) m_int (by decide +kernel) (pa_cons (pe_op op_add (pe_call G__law_next (hr.mono k__law_next_) (by rfl) g__law_next F__law_next.kp b__law_next .nil pass0 (pa_cons (pv 1) (pa_cons pe_int pa_nil))) (pv 8)) pa_nil)) pe_int) (fun _ _ => rfl)))) (pss_cons (ps_set (i := 5) sc_law.nd rfl (Or.inl rfl) (pe_call G__law_good (hr.mono k__law_good_) (by rfl) g__law_good F__law_good.kp b__law_good .nil pass0 (pa_cons (pv 1) (pa_cons (pv 4) (pa_cons (pv 2) pa_nil))))) (pss_cons (ps_set (i := 6) sc_law.nd rfl (Or.inl rfl) (pe_call G__law_bent (hr.mono k__law_bent_) (by rfl) g__law_bent F__law_bent.kp b__law_bent .nil pass0 (pa_cons (pv 1) (pa_cons (pv 4) (pa_cons (pv 2) (pa_cons (pv 5) pa_nil)))))) (pss_cons (ps_for PassesOwn.never rfl (pi_list (pe_lst (pa_cons (pv 5) (pa_cons (pv 6) (pa_cons (pe_op op_cat (pv 5) (pv 6)) (pa_cons (pv 5) pa_nil)))))) (pg_name (i := 7) sc_law.nd rfl (Or.inl rfl)) (pss_cons (ps_if (PW.pt (pw_or (pt_not (pt_val (pe_call G__law_applies (hr.mono k__law_applies_) (by rfl) g__law_applies F__law_applies.kp b__law_applies .nil pass0 (pa_cons (pv 4) (pa_cons (pv 7) pa_nil))))) (pw_or1 (pt_not (pt_val (pe_call G__law_turns (hr.mono k__law_turns_) (by rfl) g__law_turns F__law_turns.kp b__law_turns .nil pass0 (pa_cons (pv 7) pa_nil))))))) (pss_cons (ps_ret pe_bl) pss_nil) pss_nil) pss_nil)) (pss_cons (ps_ret pe_bl) pss_nil)))))))), ?_⟩
    have B := bs_0 (N := N_law) (vs := [.ref a]) (H := H) (Nat.le_of_ble_eq_true rfl)
    have B : Bs _ _ _ [.no, .no, .no, .no, .no, .no, .no, .no, .no] := B
    have e0 : Ex H H := Ex.refl H
    have hk : m_law ns = (match (List.foldl (stepE (n_law_1)) ([], (m__law_feed ns)) (rng 0 (3 : Int))) with | (lines_y1, cells_y1) => (match (List.foldl (stepE (n_law_2 lines_y1)) ([], (m__law_next cells_y1 (5 : Int)).2) (rng 0 (Int.fmod (((m__law_next cells_y1 (5 : Int)).1) + (4 : Int)) (5 : Int)))) with | (text_y2, cells_y2) => (match (loopE (l_law_3 text_y2) ([(m__law_good cells_y2 text_y2 lines_y1).1, (m__law_bent ((m__law_good cells_y2 text_y2 lines_y1).2) text_y2 lines_y1 ((m__law_good cells_y2 text_y2 lines_y1).1)).1, (((m__law_good cells_y2 text_y2 lines_y1).1) ++ ((m__law_bent ((m__law_good cells_y2 text_y2 lines_y1).2) text_y2 lines_y1 ((m__law_good cells_y2 text_y2 lines_y1).1)).1)), (m__law_good cells_y2 text_y2 lines_y1).1]) ()) with | .inl _ => true | .inr r => r))) := rfl
    refine q_asgN (f := true) B (en__law_feed (B.live true) rfl hS hl) fun a1 σ1 H1 B => ?_
    have B : Bs _ _ _ [.no, .ow true a1 ((m__law_feed ns).map (eL eI)), .no, .no, .no, .no, .no, .no, .no] := B
    refine q_asgE (j := 8) (ci := 1) (emg := (eL eI)) (em2 := eS) (n_law_1) (fun gs => ∀ r ∈ gs, r.length = 2) B rfl rfl (feed_J ns) (fun gs k h => next_J h) (it_R1M ev_int (by omega)) (by first | omega | (simp; done) | (simp; omega) | exact cutG_le' (by omega) | (simp at *; omega)) (fun c' cells_g1 k_c σ1 H1 hx hJ B => ?_) (fun lines_y1 cells_y1 σ1 H1 hs hJ B => ?_)
    · have hx_f := rng_mem.mp hx
      have B : Bs _ _ _ [.no, .ow true a1 (cells_g1.map (eL eI)), .no, .no, .no, .no, .no, .no, .va true (eI k_c)] := B
      exact (em_callF1 (em_I0 (em_call B rfl (ea_cons ev_int ea_nil) ⟨cells_g1, (16 : Int), rfl, rfl, by first | assumption | omega | exact next_J (by assumption) | exact next_J (next_J (by assumption)) | exact next_J (next_J (next_J (by assumption))), by first | assumption | omega | exact next_J (by assumption) | exact next_J (next_J (by assumption)) | exact next_J (next_J (next_J (by assumption))), by first | assumption | omega | exact next_J (by assumption) | exact next_J (next_J (by assumption)) | exact next_J (next_J (next_J (by assumption))), rfl, rfl⟩) (fun H2 B => (ev_IC ev_int (ev_sc B rfl (.int _)) (by first | exact .inl ⟨by omega, by omega⟩ | exact .inr ⟨by omega, by omega⟩)))) ⟨(((m__law_next cells_g1 (16 : Int)).1) + ((5 : Int) * k_c)), rfl, rfl⟩)
    · rw [← hs] at hk
      try dsimp only at hk
      have B : Bs _ _ _ [.no, .ow true a1 (cells_y1.map (eL eI)), .va true ((eL eS) lines_y1), .no, .no, .no, .no, .no, .no] := B
      obtain ⟨y1, y2⟩ := fold_E0 hs
      rw [rng_len] at y1
      have y3 : ∀ x ∈ lines_y1, PyData.strOk x = true := fun x hx => by
        obtain ⟨gs, k, _, rfl⟩ := y2 x hx
        exact menu_ok _
      have y4 : lines_y1.length = 3 := by omega
      have f5 := fmod_b (x := (m__law_next cells_y1 5).1 + 4) (m := 5) (by omega)
      refine q_asgM (em_IC (em_int (em_I0 (em_call B rfl (ea_cons ev_int ea_nil) ⟨cells_y1, (5 : Int), rfl, rfl, by first | assumption | omega | exact next_J (by assumption) | exact next_J (next_J (by assumption)) | exact next_J (next_J (next_J (by assumption))), by first | assumption | omega | exact next_J (by assumption) | exact next_J (next_J (by assumption)) | exact next_J (next_J (next_J (by assumption))), by first | assumption | omega | exact next_J (by assumption) | exact next_J (next_J (by assumption)) | exact next_J (next_J (next_J (by assumption))), rfl, rfl⟩) (fun H2 B => ev_int))) (fun H2 B => ev_int) (by omega)) fun σ1 H1 B => ?_
      have B : Bs _ _ _ [.no, .ow true a1 (((m__law_next cells_y1 (5 : Int)).2).map (eL eI)), .va true ((eL eS) lines_y1), .va true (eI (Int.fmod (((m__law_next cells_y1 (5 : Int)).1) + (4 : Int)) (5 : Int))), .no, .no, .no, .no, .no] := B
      refine q_asgE (j := 8) (ci := 1) (emg := (eL eI)) (em2 := eS) (n_law_2 lines_y1) (fun gs => ∀ r ∈ gs, r.length = 2) B rfl rfl (next_J hJ) (fun gs k h => next_J h) (it_R1M (ev_sc B rfl (.int _)) (by omega)) (by first | omega | (simp; done) | (simp; omega) | exact cutG_le' (by omega) | (simp at *; omega)) (fun c' cells_g2 k_c σ1 H1 hx hJ B => ?_) (fun text_y2 cells_y2 σ1 H1 hs hJ B => ?_)
      · have hx_f := rng_mem.mp hx
        have B : Bs _ _ _ [.no, .ow true a1 (cells_g2.map (eL eI)), .va true ((eL eS) lines_y1), .va true (eI (Int.fmod (((m__law_next cells_y1 (5 : Int)).1) + (4 : Int)) (5 : Int))), .no, .no, .no, .no, .va true (eI k_c)] := B
        exact (em_ixM (ev_va B rfl) (fun p => (adr_ow (i := 1) rfl p).symm) (fun H2 e2 => by have B := B.mono e2; exact (em_IC (em_int (em_I0 (em_call B rfl (ea_cons ev_int ea_nil) ⟨cells_g2, (3 : Int), rfl, rfl, by first | assumption | omega | exact next_J (by assumption) | exact next_J (next_J (by assumption)) | exact next_J (next_J (next_J (by assumption))), by first | assumption | omega | exact next_J (by assumption) | exact next_J (next_J (by assumption)) | exact next_J (next_J (next_J (by assumption))), by first | assumption | omega | exact next_J (by assumption) | exact next_J (next_J (by assumption)) | exact next_J (next_J (next_J (by assumption))), rfl, rfl⟩) (fun H2 B => (ev_sc B rfl (.int _))))) (fun H2 B => ev_int) (by omega))) (show inB lines_y1 (Int.fmod (((m__law_next cells_g2 (3 : Int)).1) + k_c) (3 : Int)) from by first | assumption | (have := fmod_b (x := (((m__law_next cells_g2 (3 : Int)).1) + k_c)) (m := (3 : Int)) (by omega); unfold inB; first | omega | (simp; omega) | (simp at *; omega))))
      · rw [← hs] at hk
        try dsimp only at hk
        have B : Bs _ _ _ [.no, .ow true a1 (cells_y2.map (eL eI)), .va true ((eL eS) lines_y1), .va true (eI (Int.fmod (((m__law_next cells_y1 (5 : Int)).1) + (4 : Int)) (5 : Int))), .va true ((eL eS) text_y2), .no, .no, .no, .no] := B
        obtain ⟨x1, x2⟩ := fold_E0 hs
        rw [rng_len] at x1
        have x3 : ∀ x ∈ text_y2, PyData.strOk x = true := fun x hx => by
          obtain ⟨gs, k, _, rfl⟩ := x2 x hx
          exact law_n2 y3
        have x4 : text_y2.length ≤ 4 := by omega
        have gi := good_inv (cells := cells_y2) (text := text_y2) (lines := lines_y1) x4 x3 y3
        have g5 : ∀ e ∈ (m__law_good cells_y2 text_y2 lines_y1).1, e.2.1.length ≤ 10 ∧ e.2.2.length ≤ 10 := fun e he => ⟨by have := (gi.2 e he).l1; omega, by have := (gi.2 e he).l2; omega⟩
        have gJ := good_J (text := text_y2) (lines := lines_y1) hJ
        have bi := bent_inv (cells := (m__law_good cells_y2 text_y2 lines_y1).2) (text := text_y2) (lines := lines_y1) (good := (m__law_good cells_y2 text_y2 lines_y1).1) x4 x3 y3 gi.2
        refine q_asgM (em_call2 B rfl (ea_cons (ev_va B rfl) (ea_cons (ev_va B rfl) ea_nil)) ⟨cells_y2, text_y2, lines_y1, rfl, rfl, hJ, by omega, by omega, x3, y3, rfl, rfl⟩) fun σ1 H1 B => ?_
        have B : Bs _ _ _ [.no, .ow true a1 (((m__law_good cells_y2 text_y2 lines_y1).2).map (eL eI)), .va true ((eL eS) lines_y1), .va true (eI (Int.fmod (((m__law_next cells_y1 (5 : Int)).1) + (4 : Int)) (5 : Int))), .va true ((eL eS) text_y2), .va true ((eL (eT3 eI (eTu eS) (eTu eS))) ((m__law_good cells_y2 text_y2 lines_y1).1)), .no, .no, .no] := B
        refine q_asgM (em_call2 B rfl (ea_cons (ev_va B rfl) (ea_cons (ev_va B rfl) (ea_cons (ev_va B rfl) ea_nil))) ⟨(m__law_good cells_y2 text_y2 lines_y1).2, text_y2, lines_y1, (m__law_good cells_y2 text_y2 lines_y1).1, rfl, rfl, gJ, by omega, by omega, gi.1, g5, rfl, rfl⟩) fun σ1 H1 B => ?_
        have B : Bs _ _ _ [.no, .ow true a1 (((m__law_bent ((m__law_good cells_y2 text_y2 lines_y1).2) text_y2 lines_y1 ((m__law_good cells_y2 text_y2 lines_y1).1)).2).map (eL eI)), .va true ((eL eS) lines_y1), .va true (eI (Int.fmod (((m__law_next cells_y1 (5 : Int)).1) + (4 : Int)) (5 : Int))), .va true ((eL eS) text_y2), .va true ((eL (eT3 eI (eTu eS) (eTu eS))) ((m__law_good cells_y2 text_y2 lines_y1).1)), .va true ((eL (eT3 eI (eTu eS) (eTu eS))) ((m__law_bent ((m__law_good cells_y2 text_y2 lines_y1).2) text_y2 lines_y1 ((m__law_good cells_y2 text_y2 lines_y1).1)).1)), .no, .no] := B
        refine q_exitL (fun (s : Unit) => [.no, .ow true a1 (((m__law_bent ((m__law_good cells_y2 text_y2 lines_y1).2) text_y2 lines_y1 ((m__law_good cells_y2 text_y2 lines_y1).1)).2).map (eL eI)), .va true ((eL eS) lines_y1), .va true (eI (Int.fmod (((m__law_next cells_y1 (5 : Int)).1) + (4 : Int)) (5 : Int))), .va true ((eL eS) text_y2), .va true ((eL (eT3 eI (eTu eS) (eTu eS))) ((m__law_good cells_y2 text_y2 lines_y1).1)), .va true ((eL (eT3 eI (eTu eS) (eTu eS))) ((m__law_bent ((m__law_good cells_y2 text_y2 lines_y1).2) text_y2 lines_y1 ((m__law_good cells_y2 text_y2 lines_y1).1)).1)), .no, .no]) (l_law_3 text_y2) () (fun _ _ => True) B ((en_lstM (em := (eL (eT3 eI (eTu eS) (eTu eS)))) (xs := [(m__law_good cells_y2 text_y2 lines_y1).1, (m__law_bent ((m__law_good cells_y2 text_y2 lines_y1).2) text_y2 lines_y1 ((m__law_good cells_y2 text_y2 lines_y1).1)).1, (((m__law_good cells_y2 text_y2 lines_y1).1) ++ ((m__law_bent ((m__law_good cells_y2 text_y2 lines_y1).2) text_y2 lines_y1 ((m__law_good cells_y2 text_y2 lines_y1).1)).1)), (m__law_good cells_y2 text_y2 lines_y1).1]) (ea_cons (ev_va B rfl) (ea_cons (ev_va B rfl) (ea_cons ((en_catM (ev_va B rfl) (ev_va B rfl) (by first | omega | (simp; done) | (simp; omega) | exact cutG_le' (by omega) | (simp at *; omega))).ev (B.live true)) (ea_cons (ev_va B rfl) ea_nil)))) (by simp)).ev (B.live true)) (.cons (.no _) (.cons (.refl _) (.cons (.refl _) (.cons (.refl _) (.cons (.refl _) (.cons (.refl _) (.cons (.refl _) (.cons (.no _) (.cons (.no _) .nil))))))))) trivial (fun B0 e1 n s edits_t3 σ1 H1 hx hn hE hJ B => ?_) (fun s σ1 H1 hs hJ B => ?_)
        · skip
          have B : Bs _ _ _ [.no, .ow true a1 (((m__law_bent ((m__law_good cells_y2 text_y2 lines_y1).2) text_y2 lines_y1 ((m__law_good cells_y2 text_y2 lines_y1).1)).2).map (eL eI)), .va true ((eL eS) lines_y1), .va true (eI (Int.fmod (((m__law_next cells_y1 (5 : Int)).1) + (4 : Int)) (5 : Int))), .va true ((eL eS) text_y2), .va true ((eL (eT3 eI (eTu eS) (eTu eS))) ((m__law_good cells_y2 text_y2 lines_y1).1)), .va true ((eL (eT3 eI (eTu eS) (eTu eS))) ((m__law_bent ((m__law_good cells_y2 text_y2 lines_y1).2) text_y2 lines_y1 ((m__law_good cells_y2 text_y2 lines_y1).1)).1)), .va true ((eL (eT3 eI (eTu eS) (eTu eS))) edits_t3), .no] := B
          try simp only [List.length_reverse, rng_len, List.length_map] at hn
          have e0 := e0.trans e1
          have hk3 : l_law_3 text_y2 () edits_t3 = (if ((!(m__law_applies (text_y2) (edits_t3))) || (!(m__law_turns (edits_t3)))) = true then (.inr false) else (.inl ())) := rfl
          obtain ⟨he1, he2⟩ := law_ed x4 x3 y3 _ hx
          refine q_if B (et_or (et_not (et_B ((ev_callF (B.live true) (ea_cons ((ev_va B rfl).w0) (ea_cons ((ev_va B rfl).w0) ea_nil)) ⟨text_y2, edits_t3, rfl, by omega, he1, he2, x3, rfl⟩).sc (.bl _)))) fun hc => (et_not (et_B ((ev_callF (B.live true) (ea_cons ((ev_va B rfl).w0) ea_nil) ⟨edits_t3, rfl, he1, he2, rfl⟩).sc (.bl _))))) (fun hc2 H1 B => ?_) (fun hc2 H1 B => ?_)
          · rw [if_pos hc2] at hk3
            have hc2_f := hc2
            try simp only [Bool.and_eq_true, Bool.or_eq_true, Bool.not_eq_true', Bool.and_eq_false_imp, Bool.or_eq_false_iff, Bool.not_eq_false', decide_eq_true_eq, decide_eq_false_iff_not] at hc2_f
            have hz := hE _ hk3
            rw [hz] at hk
            try dsimp only at hk
            refine q_ret (f := true) B ev_bl fun v H1 x hv => q v H1 ?_
            rw [hk]; exact hv.up
          · rw [if_neg (show ¬ ((!(m__law_applies (text_y2) (edits_t3))) || (!(m__law_turns (edits_t3)))) = true from by rw [hc2]; exact Bool.false_ne_true)] at hk3
            have hc2_f := hc2
            try simp only [Bool.and_eq_true, Bool.or_eq_true, Bool.not_eq_true', Bool.and_eq_false_imp, Bool.or_eq_false_iff, Bool.not_eq_false', decide_eq_true_eq, decide_eq_false_iff_not] at hc2_f
            exact ⟨_, hk3, trivial, B.le (.cons (.no _) (.cons (.refl _) (.cons (.refl _) (.cons (.refl _) (.cons (.refl _) (.cons (.refl _) (.cons (.refl _) (.cons (.no _) (.cons (.no _) .nil)))))))))⟩
        · rw [hs] at hk
          try simp only [List.length_reverse, rng_len, List.length_map] at hJ
          try dsimp only at hk
          have B : Bs _ _ _ [.no, .ow true a1 (((m__law_bent ((m__law_good cells_y2 text_y2 lines_y1).2) text_y2 lines_y1 ((m__law_good cells_y2 text_y2 lines_y1).1)).2).map (eL eI)), .va true ((eL eS) lines_y1), .va true (eI (Int.fmod (((m__law_next cells_y1 (5 : Int)).1) + (4 : Int)) (5 : Int))), .va true ((eL eS) text_y2), .va true ((eL (eT3 eI (eTu eS) (eTu eS))) ((m__law_good cells_y2 text_y2 lines_y1).1)), .va true ((eL (eT3 eI (eTu eS) (eTu eS))) ((m__law_bent ((m__law_good cells_y2 text_y2 lines_y1).2) text_y2 lines_y1 ((m__law_good cells_y2 text_y2 lines_y1).1)).1)), .no, .no] := B
          refine q_ret (f := true) B ev_bl fun v H1 x hv => q v H1 ?_
          rw [hk]; exact hv.up

end
end K2
namespace K2
open PySem PySem.Spec PyProof.Rows L2 HL
theorem applies_true (a : List Str) (b : List Edt) : m__law_applies a b = true := by
  unfold m__law_applies
  rcases apply_res a b with ⟨k, h, q⟩ | ⟨h, q⟩
  · rw [h, q]
    simp [mH__law_same]
  · rw [h, q]
    simp [m__law_same]
theorem turns_true (b : List Edt) : m__law_turns b = true := by
  unfold m__law_turns
  rcases inverse_res b with ⟨k, h, q⟩ | ⟨h, q⟩
  · rw [h, q]
    simp [mH__law_same]
  · rw [h, q]
    simp [m__law_same]
theorem law_true (ns : List Int) : m_law ns = true := by
  unfold m_law
  split
  split
  simp only [loopE, l_law_3, applies_true, turns_true]
  rfl
def spLaw (K : PySem.W.Frag) : Sp := fun vs H Q _ => ∃ (a : Addr) (ns : List Int), vs = [.ref a] ∧ SqL K H a (ns.map V.int) ∧ ns.length ≤ 63 ∧ ∀ H', Q (.bl true) H'
theorem law_imp {P : Program} {w : World} {K : PySem.W.Frag} {mg : Str → Option Value} {base : Heap} {k : Nat} {f : Addr} {fd : FuncData} (G : FnOk P w K mg base CX0 k f fd ["script"] (sp_law K)) : FnOk P w K mg base CX0 k f fd ["script"] (spLaw K) :=
  G.imp fun vs H Q E ⟨a, ns, h1, h2, h3, h4⟩ => ⟨a, ns, h1, h2, h3, fun v H' hv => by
    rw [law_true] at hv
    cases hv
    exact h4 H'⟩
theorem own_exc {K : PySem.W.Frag} {C : Addr} (a : PySem.W.subIn K (.ref C) (.type "BaseException") = some true) (b : PySem.W.isClsIn K C = true) (c : PySem.W.typeIn K (.ref C) = some (.type "type")) (d : PySem.W.subIn K (.ref C) (.ref C) = some true) : PySem.W.exmOne K (.ref C) (.ref C) = some true := by
  have b' : (PySem.W.clsIn K C).isSome = true := b
  simp [PySem.W.exmOne, PySem.W.kitCls, PySem.W.isClsIn, a, b', c, d]
theorem all_mk {l : PySem.W.OpenLaw} {w : World} {K : PySem.W.Frag} {h : Heap} {mg : Str → Option Value} {fa : Addr} (X : K.In h) (G : h.Ns mainGlobals mg) (hfa : mg "law" = some (.ref fa))
    {f0 : Addr} {od0 an0 : Option Addr} {sl0 : Array (Option Value)} {oc0 kV0 dc0 pm0 cd0 ct0 : Value}
    {f1 : Addr} {od1 an1 : Option Addr} {sl1 : Array (Option Value)} {oc1 kV1 dc1 pm1 cd1 ct1 : Value}
    {f2 : Addr} {od2 an2 : Option Addr} {sl2 : Array (Option Value)} {oc2 kV2 dc2 pm2 cd2 ct2 : Value}
    {f3 : Addr} {od3 an3 : Option Addr} {sl3 : Array (Option Value)} {oc3 kV3 dc3 pm3 cd3 ct3 : Value}
    {f4 : Addr} {od4 an4 : Option Addr} {sl4 : Array (Option Value)} {oc4 kV4 dc4 pm4 cd4 ct4 : Value}
    {f5 : Addr} {od5 an5 : Option Addr} {sl5 : Array (Option Value)} {oc5 kV5 dc5 pm5 cd5 ct5 : Value}
    {f6 : Addr} {od6 an6 : Option Addr} {sl6 : Array (Option Value)} {oc6 kV6 dc6 pm6 cd6 ct6 : Value}
    {f7 : Addr} {od7 an7 : Option Addr} {sl7 : Array (Option Value)} {oc7 kV7 dc7 pm7 cd7 ct7 : Value}
    {f8 : Addr} {od8 an8 : Option Addr} {sl8 : Array (Option Value)} {oc8 kV8 dc8 pm8 cd8 ct8 : Value}
    {f9 : Addr} {od9 an9 : Option Addr} {sl9 : Array (Option Value)} {oc9 kV9 dc9 pm9 cd9 ct9 : Value}
    {f10 : Addr} {od10 an10 : Option Addr} {sl10 : Array (Option Value)} {oc10 kV10 dc10 pm10 cd10 ct10 : Value}
    {f11 : Addr} {od11 an11 : Option Addr} {sl11 : Array (Option Value)} {oc11 kV11 dc11 pm11 cd11 ct11 : Value}
    {f12 : Addr} {od12 an12 : Option Addr} {sl12 : Array (Option Value)} {oc12 kV12 dc12 pm12 cd12 ct12 : Value}
    {f13 : Addr} {od13 an13 : Option Addr} {sl13 : Array (Option Value)} {oc13 kV13 dc13 pm13 cd13 ct13 : Value}
    {f14 : Addr} {od14 an14 : Option Addr} {sl14 : Array (Option Value)} {oc14 kV14 dc14 pm14 cd14 ct14 : Value}
    {f15 : Addr} {od15 an15 : Option Addr} {sl15 : Array (Option Value)} {oc15 kV15 dc15 pm15 cd15 ct15 : Value}
    {f16 : Addr} {od16 an16 : Option Addr} {sl16 : Array (Option Value)} {oc16 kV16 dc16 pm16 cd16 ct16 : Value}
    (a0 : PySem.W.nsIn K mainGlobals "_end" = some (some (.ref f0))) (l0 : K.lookup f0 = some ⟨oc0, od0, .func (PySem.W.fnOf "_end" "_end" (defArgs s__end) (defBody s__end) (defScope s__end) .none kV0 dc0 pm0 an0 cd0 ct0), sl0⟩) (c0 : PySem.W.codeIn K cd0 "_end" = true) (k0 : PySem.W.keepIn K (.ref f0) = true)
    (a1 : PySem.W.nsIn K mainGlobals "_in_order" = some (some (.ref f1))) (l1 : K.lookup f1 = some ⟨oc1, od1, .func (PySem.W.fnOf "_in_order" "_in_order" (defArgs s__in_order) (defBody s__in_order) (defScope s__in_order) .none kV1 dc1 pm1 an1 cd1 ct1), sl1⟩) (c1 : PySem.W.codeIn K cd1 "_in_order" = true) (k1 : PySem.W.keepIn K (.ref f1) = true)
    (a2 : PySem.W.nsIn K mainGlobals "_stands_in" = some (some (.ref f2))) (l2 : K.lookup f2 = some ⟨oc2, od2, .func (PySem.W.fnOf "_stands_in" "_stands_in" (defArgs s__stands_in) (defBody s__stands_in) (defScope s__stands_in) .none kV2 dc2 pm2 an2 cd2 ct2), sl2⟩) (c2 : PySem.W.codeIn K cd2 "_stands_in" = true) (k2 : PySem.W.keepIn K (.ref f2) = true)
    (a3 : PySem.W.nsIn K mainGlobals "apply_edits" = some (some (.ref f3))) (l3 : K.lookup f3 = some ⟨oc3, od3, .func (PySem.W.fnOf "apply_edits" "apply_edits" (defArgs s_apply_edits) (defBody s_apply_edits) (defScope s_apply_edits) .none kV3 dc3 pm3 an3 cd3 ct3), sl3⟩) (c3 : PySem.W.codeIn K cd3 "apply_edits" = true) (k3 : PySem.W.keepIn K (.ref f3) = true)
    (a4 : PySem.W.nsIn K mainGlobals "inverse_edits" = some (some (.ref f4))) (l4 : K.lookup f4 = some ⟨oc4, od4, .func (PySem.W.fnOf "inverse_edits" "inverse_edits" (defArgs s_inverse_edits) (defBody s_inverse_edits) (defScope s_inverse_edits) .none kV4 dc4 pm4 an4 cd4 ct4), sl4⟩) (c4 : PySem.W.codeIn K cd4 "inverse_edits" = true) (k4 : PySem.W.keepIn K (.ref f4) = true)
    (a5 : PySem.W.nsIn K mainGlobals "_law_feed" = some (some (.ref f5))) (l5 : K.lookup f5 = some ⟨oc5, od5, .func (PySem.W.fnOf "_law_feed" "_law_feed" (defArgs s__law_feed) (defBody s__law_feed) (defScope s__law_feed) .none kV5 dc5 pm5 an5 cd5 ct5), sl5⟩) (c5 : PySem.W.codeIn K cd5 "_law_feed" = true) (k5 : PySem.W.keepIn K (.ref f5) = true)
    (a6 : PySem.W.nsIn K mainGlobals "_law_next" = some (some (.ref f6))) (l6 : K.lookup f6 = some ⟨oc6, od6, .func (PySem.W.fnOf "_law_next" "_law_next" (defArgs s__law_next) (defBody s__law_next) (defScope s__law_next) .none kV6 dc6 pm6 an6 cd6 ct6), sl6⟩) (c6 : PySem.W.codeIn K cd6 "_law_next" = true) (k6 : PySem.W.keepIn K (.ref f6) = true)
    (a7 : PySem.W.nsIn K mainGlobals "_law_same" = some (some (.ref f7))) (l7 : K.lookup f7 = some ⟨oc7, od7, .func (PySem.W.fnOf "_law_same" "_law_same" (defArgs s__law_same) (defBody s__law_same) (defScope s__law_same) .none kV7 dc7 pm7 an7 cd7 ct7), sl7⟩) (c7 : PySem.W.codeIn K cd7 "_law_same" = true) (k7 : PySem.W.keepIn K (.ref f7) = true)
    (a8 : PySem.W.nsIn K mainGlobals "_law_menu" = some (some (.ref f8))) (l8 : K.lookup f8 = some ⟨oc8, od8, .func (PySem.W.fnOf "_law_menu" "_law_menu" (defArgs s__law_menu) (defBody s__law_menu) (defScope s__law_menu) .none kV8 dc8 pm8 an8 cd8 ct8), sl8⟩) (c8 : PySem.W.codeIn K cd8 "_law_menu" = true) (k8 : PySem.W.keepIn K (.ref f8) = true)
    (a9 : PySem.W.nsIn K mainGlobals "_law_good" = some (some (.ref f9))) (l9 : K.lookup f9 = some ⟨oc9, od9, .func (PySem.W.fnOf "_law_good" "_law_good" (defArgs s__law_good) (defBody s__law_good) (defScope s__law_good) .none kV9 dc9 pm9 an9 cd9 ct9), sl9⟩) (c9 : PySem.W.codeIn K cd9 "_law_good" = true) (k9 : PySem.W.keepIn K (.ref f9) = true)
    (a10 : PySem.W.nsIn K mainGlobals "_law_bent" = some (some (.ref f10))) (l10 : K.lookup f10 = some ⟨oc10, od10, .func (PySem.W.fnOf "_law_bent" "_law_bent" (defArgs s__law_bent) (defBody s__law_bent) (defScope s__law_bent) .none kV10 dc10 pm10 an10 cd10 ct10), sl10⟩) (c10 : PySem.W.codeIn K cd10 "_law_bent" = true) (k10 : PySem.W.keepIn K (.ref f10) = true)
    (a11 : PySem.W.nsIn K mainGlobals "_law_first_bad" = some (some (.ref f11))) (l11 : K.lookup f11 = some ⟨oc11, od11, .func (PySem.W.fnOf "_law_first_bad" "_law_first_bad" (defArgs s__law_first_bad) (defBody s__law_first_bad) (defScope s__law_first_bad) .none kV11 dc11 pm11 an11 cd11 ct11), sl11⟩) (c11 : PySem.W.codeIn K cd11 "_law_first_bad" = true) (k11 : PySem.W.keepIn K (.ref f11) = true)
    (a12 : PySem.W.nsIn K mainGlobals "_law_replaced" = some (some (.ref f12))) (l12 : K.lookup f12 = some ⟨oc12, od12, .func (PySem.W.fnOf "_law_replaced" "_law_replaced" (defArgs s__law_replaced) (defBody s__law_replaced) (defScope s__law_replaced) .none kV12 dc12 pm12 an12 cd12 ct12), sl12⟩) (c12 : PySem.W.codeIn K cd12 "_law_replaced" = true) (k12 : PySem.W.keepIn K (.ref f12) = true)
    (a13 : PySem.W.nsIn K mainGlobals "_law_back" = some (some (.ref f13))) (l13 : K.lookup f13 = some ⟨oc13, od13, .func (PySem.W.fnOf "_law_back" "_law_back" (defArgs s__law_back) (defBody s__law_back) (defScope s__law_back) .none kV13 dc13 pm13 an13 cd13 ct13), sl13⟩) (c13 : PySem.W.codeIn K cd13 "_law_back" = true) (k13 : PySem.W.keepIn K (.ref f13) = true)
    (a14 : PySem.W.nsIn K mainGlobals "_law_applies" = some (some (.ref f14))) (l14 : K.lookup f14 = some ⟨oc14, od14, .func (PySem.W.fnOf "_law_applies" "_law_applies" (defArgs s__law_applies) (defBody s__law_applies) (defScope s__law_applies) .none kV14 dc14 pm14 an14 cd14 ct14), sl14⟩) (c14 : PySem.W.codeIn K cd14 "_law_applies" = true) (k14 : PySem.W.keepIn K (.ref f14) = true)
    (a15 : PySem.W.nsIn K mainGlobals "_law_turns" = some (some (.ref f15))) (l15 : K.lookup f15 = some ⟨oc15, od15, .func (PySem.W.fnOf "_law_turns" "_law_turns" (defArgs s__law_turns) (defBody s__law_turns) (defScope s__law_turns) .none kV15 dc15 pm15 an15 cd15 ct15), sl15⟩) (c15 : PySem.W.codeIn K cd15 "_law_turns" = true) (k15 : PySem.W.keepIn K (.ref f15) = true)
    (a16 : PySem.W.nsIn K mainGlobals "law" = some (some (.ref f16))) (l16 : K.lookup f16 = some ⟨oc16, od16, .func (PySem.W.fnOf "law" "law" (defArgs s_law) (defBody s_law) (defScope s_law) .none kV16 dc16 pm16 an16 cd16 ct16), sl16⟩) (c16 : PySem.W.codeIn K cd16 "law" = true) (k16 : PySem.W.keepIn K (.ref f16) = true)
    (z0 : PySem.W.nsIn K mainGlobals "len" = some none)
    (z1 : PySem.W.nsIn K mainGlobals "tuple" = some none)
    (z2 : PySem.W.nsIn K mainGlobals "enumerate" = some none)
    (z3 : PySem.W.nsIn K mainGlobals "range" = some none)
    (z4 : PySem.W.nsIn K mainGlobals "int" = some none)
    (z5 : PySem.W.nsIn K mainGlobals "max" = some none)
    (z6 : PySem.W.nsIn K mainGlobals "list" = some none)
    (z7 : PySem.W.nsIn K mainGlobals "isinstance" = some none)
    (z8 : PySem.W.nsIn K mainGlobals "ValueError" = some none)
    (z9 : PySem.W.nsIn K mainGlobals "reversed" = some none)
    (z10 : PySem.W.nsIn K mainGlobals "bool" = some none)
    (z11 : PySem.W.nsIn K mainGlobals "str" = some none)
    (z12 : PySem.W.nsIn K mainGlobals "abs" = some none)
    {y0 : _} (u0 : PySem.W.nsIn K mainGlobals "LAST_PLACE" = some (some (.int 400 y0)))
    {C0 g0 N0 : Addr} {n0 q0 : Str} {bs0 bm0 sb0 : List Value} {sn0 : List Str} {ab0 : Bool} {col0 : Option Bool} {dd0 : Option Addr} {m00 m10 m20 m30 m50 : Option Value}
    {ioc0 idc0 ipm0 icd0 ict0 : Value} {iod0 ian0 : Option Addr} {isl0 : Array (Option Value)} {pu0 pv0 pr0 ps0 px0 py0 : Pos}
    (ea0 : PySem.W.nsIn K mainGlobals "BadEdit" = some (some (.ref C0))) (eb0 : K.lookup C0 = some (PySem.excClassObj n0 q0 C0 N0 bs0 bm0 true sn0 sb0 ab0 col0 dd0 m00 m10 m20 m30 m50 "ValueError.__new__")) (ec0 : PySem.HandSPX.refsVE bm0 = true)
    (ed0 : PySem.W.findIn K (.ref C0) "__setattr__" = some (some (.builtin "object.__setattr__"))) (ee0 : PySem.W.findIn K (.ref C0) "__getattribute__" = some (some (.builtin "BaseException.__getattribute__"))) (ef0 : PySem.W.findIn K (.ref C0) "__getattr__" = some none) (eg0 : PySem.W.findIn K (.ref C0) "place" = some none)
    (eh0 : PySem.W.findIn K (.ref C0) "__init__" = some (some (.ref g0))) (ei0 : PySem.W.typeIn K (.ref g0) = some (.type "function")) (ej0 : PySem.W.keepIn K (.ref C0) = true) (ek0 : PySem.W.subIn K (.ref C0) (.type "BaseException") = some true) (el0 : PySem.W.typeIn K (.ref C0) = some (.type "type")) (em0 : PySem.W.hasDictIn K C0 = true) (en0 : PySem.W.isClsIn K C0 = true) (eo0 : PySem.W.subIn K (.ref C0) (.ref C0) = some true)
    (ep0 : K.lookup g0 = some ⟨ioc0, iod0, .func (PySem.W.fnOf "__init__" "BadEdit.__init__" (Erplace.args2 pu0 pv0) (Erplace.put1 pr0 ps0 px0 py0) Erplace.loc2 .none .none idc0 ipm0 ian0 icd0 ict0), isl0⟩) (eq0 : PySem.W.codeIn K icd0 "BadEdit.__init__" = true)
    (er0 : PySem.W.findIn K (.ref C0) "__class__" = some (some (.builtin "object.__class__"))) (es0 : PySem.W.mroIn K C0 (.type "object") = some true)
    (xn : PySem.W.specialIn K (.builtin "object.__class__") "__get__" = some (some (.builtin "getset_descriptor.__get__"))) (xt : PySem.W.takesIn K (.builtin "object.__class__") = some true)
    {D0 : Addr} (ow0 : PySem.W.nsIn K mainGlobals "BadText" = some (some (.ref D0)))
    {D1 : Addr} (ow1 : PySem.W.nsIn K mainGlobals "Misfit" = some (some (.ref D1)))
    {D2 : Addr} (ow2 : PySem.W.nsIn K mainGlobals "PartError" = some (some (.ref D2)))
    (kt0 : PySem.W.kitOne K (.ref C0) (.ref D2) = some true)
    (kt1 : PySem.W.kitOne K (.ref C0) (.type "ValueError") = some true)
    (kt2 : PySem.W.kitOne K (.ref C0) (.ref D0) = some false)
    (kt3 : PySem.W.kitOne K (.ref C0) (.ref D1) = some false)
    : ∃ fd : FuncData, (∀ (s : Shared) (v : Value), BindsTo s fd ⟨[v], []⟩ [("script", v)]) ∧ ∀ base : Heap, K.In base → base.Ns mainGlobals mg → FnOk l.prog w K mg base CX0 7 fa fd ["script"] (spLaw K) := by
  have e := hfa.symm.trans (PySem.W.mg_of X G a16)
  cases e
  have F__end := fun_mk (st := s__end) l0 c0 k0
  have b__end := F__end.binds (ps := ["edit"]) fun _ _ _ _ _ _ us hl => match us, hl with | [_], _ => rfl
  have g__end := PySem.W.mg_of X G a0
  have F__in_order := fun_mk (st := s__in_order) l1 c1 k1
  have b__in_order := F__in_order.binds (ps := ["edits", "at"]) fun _ _ _ _ _ _ us hl => match us, hl with | [_, _], _ => rfl
  have g__in_order := PySem.W.mg_of X G a1
  have F__stands_in := fun_mk (st := s__stands_in) l2 c2 k2
  have b__stands_in := F__stands_in.binds (ps := ["old", "edit"]) fun _ _ _ _ _ _ us hl => match us, hl with | [_, _], _ => rfl
  have g__stands_in := PySem.W.mg_of X G a2
  have F_apply_edits := fun_mk (st := s_apply_edits) l3 c3 k3
  have b_apply_edits := F_apply_edits.binds (ps := ["old", "edits"]) fun _ _ _ _ _ _ us hl => match us, hl with | [_, _], _ => rfl
  have g_apply_edits := PySem.W.mg_of X G a3
  have F_inverse_edits := fun_mk (st := s_inverse_edits) l4 c4 k4
  have b_inverse_edits := F_inverse_edits.binds (ps := ["edits"]) fun _ _ _ _ _ _ us hl => match us, hl with | [_], _ => rfl
  have g_inverse_edits := PySem.W.mg_of X G a4
  have F__law_feed := fun_mk (st := s__law_feed) l5 c5 k5
  have b__law_feed := F__law_feed.binds (ps := ["script"]) fun _ _ _ _ _ _ us hl => match us, hl with | [_], _ => rfl
  have g__law_feed := PySem.W.mg_of X G a5
  have F__law_next := fun_mk (st := s__law_next) l6 c6 k6
  have b__law_next := F__law_next.binds (ps := ["cells", "many"]) fun _ _ _ _ _ _ us hl => match us, hl with | [_, _], _ => rfl
  have g__law_next := PySem.W.mg_of X G a6
  have F__law_same := fun_mk (st := s__law_same) l7 c7 k7
  have b__law_same := F__law_same.binds (ps := ["told", "due"]) fun _ _ _ _ _ _ us hl => match us, hl with | [_, _], _ => rfl
  have g__law_same := PySem.W.mg_of X G a7
  have F__law_menu := fun_mk (st := s__law_menu) l8 c8 k8
  have b__law_menu := F__law_menu.binds (ps := ["place"]) fun _ _ _ _ _ _ us hl => match us, hl with | [_], _ => rfl
  have g__law_menu := PySem.W.mg_of X G a8
  have F__law_good := fun_mk (st := s__law_good) l9 c9 k9
  have b__law_good := F__law_good.binds (ps := ["cells", "text", "lines"]) fun _ _ _ _ _ _ us hl => match us, hl with | [_, _, _], _ => rfl
  have g__law_good := PySem.W.mg_of X G a9
  have F__law_bent := fun_mk (st := s__law_bent) l10 c10 k10
  have b__law_bent := F__law_bent.binds (ps := ["cells", "text", "lines", "good"]) fun _ _ _ _ _ _ us hl => match us, hl with | [_, _, _, _], _ => rfl
  have g__law_bent := PySem.W.mg_of X G a10
  have F__law_first_bad := fun_mk (st := s__law_first_bad) l11 c11 k11
  have b__law_first_bad := F__law_first_bad.binds (ps := ["text", "edits"]) fun _ _ _ _ _ _ us hl => match us, hl with | [_, _], _ => rfl
  have g__law_first_bad := PySem.W.mg_of X G a11
  have F__law_replaced := fun_mk (st := s__law_replaced) l12 c12 k12
  have b__law_replaced := F__law_replaced.binds (ps := ["text", "edits"]) fun _ _ _ _ _ _ us hl => match us, hl with | [_, _], _ => rfl
  have g__law_replaced := PySem.W.mg_of X G a12
  have F__law_back := fun_mk (st := s__law_back) l13 c13 k13
  have b__law_back := F__law_back.binds (ps := ["edits"]) fun _ _ _ _ _ _ us hl => match us, hl with | [_], _ => rfl
  have g__law_back := PySem.W.mg_of X G a13
  have F__law_applies := fun_mk (st := s__law_applies) l14 c14 k14
  have b__law_applies := F__law_applies.binds (ps := ["text", "edits"]) fun _ _ _ _ _ _ us hl => match us, hl with | [_, _], _ => rfl
  have g__law_applies := PySem.W.mg_of X G a14
  have F__law_turns := fun_mk (st := s__law_turns) l15 c15 k15
  have b__law_turns := F__law_turns.binds (ps := ["edits"]) fun _ _ _ _ _ _ us hl => match us, hl with | [_], _ => rfl
  have g__law_turns := PySem.W.mg_of X G a15
  have F_law := fun_mk (st := s_law) l16 c16 k16
  have m_len := PySem.W.mg_none_of X G z0
  have m_tuple := PySem.W.mg_none_of X G z1
  have m_enumerate := PySem.W.mg_none_of X G z2
  have m_range := PySem.W.mg_none_of X G z3
  have m_int := PySem.W.mg_none_of X G z4
  have m_max := PySem.W.mg_none_of X G z5
  have m_list := PySem.W.mg_none_of X G z6
  have m_isinstance := PySem.W.mg_none_of X G z7
  have m_ValueError := PySem.W.mg_none_of X G z8
  have m_reversed := PySem.W.mg_none_of X G z9
  have m_bool := PySem.W.mg_none_of X G z10
  have m_str := PySem.W.mg_none_of X G z11
  have m_abs := PySem.W.mg_none_of X G z12
  have c_LAST_PLACE := PySem.W.mg_of X G u0
  have T_BadEdit : Erplace.Fx K mg "BadEdit" "BadEdit.__init__" C0 g0 := ⟨PySem.W.mg_of X G ea0, ⟨_, _, _, _, _, _, _, _, _, _, _, _, _, _, _, eb0, ec0⟩, ed0, ee0, ef0, eg0, eh0, ei0, ej0, ek0, el0, em0, own_exc ek0 en0 el0 eo0, ⟨_, _, _, _, _, _, _, _, _, _, _, _, _, _, ep0, eq0⟩⟩
  have XC_BadEdit : ExcC K C0 := ⟨ee0, ef0, ek0, em0, er0, xn, xt, es0⟩
  have cl_BadText := PySem.W.mg_of X G ow0
  have cl_Misfit := PySem.W.mg_of X G ow1
  have cl_PartError := PySem.W.mg_of X G ow2
  have kt_BadEdit_PartError := kt0
  have kt_BadEdit_ValueError := kt1
  have kt_BadEdit_BadText := kt2
  have kt_BadEdit_Misfit := kt3
  refine ⟨PySem.W.fnOf "law" "law" (defArgs s_law) (defBody s_law) (defScope s_law) .none kV16 dc16 pm16 an16 cd16 ct16, fun s v => .of_eq rfl, fun base _ _ => ?_⟩
  have G__end := ok__end (P := l.prog) (w := w) (mg := mg) (base := base) (k := 0) F__end  m_len
  have G__in_order := ok__in_order (P := l.prog) (w := w) (mg := mg) (base := base) (k := 1) F__in_order  F__end b__end g__end G__end (by omega) c_LAST_PLACE 
  have G__stands_in := ok__stands_in (P := l.prog) (w := w) (mg := mg) (base := base) (k := 1) F__stands_in  F__end b__end g__end G__end (by omega) m_len m_tuple
  have G_apply_edits := ok_apply_edits (P := l.prog) (w := w) (mg := mg) (base := base) (k := 2) F_apply_edits  T_BadEdit F__in_order b__in_order g__in_order G__in_order (by omega) F__stands_in b__stands_in g__stands_in G__stands_in (by omega) m_enumerate m_len
  have G_inverse_edits := ok_inverse_edits (P := l.prog) (w := w) (mg := mg) (base := base) (k := 2) F_inverse_edits  T_BadEdit F__in_order b__in_order g__in_order G__in_order (by omega) m_range m_len
  have G__law_feed := ok__law_feed (P := l.prog) (w := w) (mg := mg) (base := base) (k := 0) F__law_feed m_abs m_int
  have G__law_next := ok__law_next (P := l.prog) (w := w) (mg := mg) (base := base) (k := 0) F__law_next  m_int
  have G__law_same := same_imp (ok__law_same (P := l.prog) (w := w) (mg := mg) (base := base) F__law_same b__law_same g__law_same m_isinstance m_list m_tuple m_int m_bool m_str m_len m_range 5)
  have GH__law_same := okH__law_same (P := l.prog) (w := w) (mg := mg) (base := base) (k := 0) F__law_same m_isinstance m_list m_tuple m_int m_bool
  have G__law_menu := ok__law_menu (P := l.prog) (w := w) (mg := mg) (base := base) (k := 0) F__law_menu  m_int
  have G__law_good := ok__law_good (P := l.prog) (w := w) (mg := mg) (base := base) (k := 1) F__law_good  F__law_next b__law_next g__law_next G__law_next (by omega) m_range m_len m_int m_tuple
  have G__law_bent := ok__law_bent (P := l.prog) (w := w) (mg := mg) (base := base) (k := 1) F__law_bent  F__law_next b__law_next g__law_next G__law_next (by omega) m_range m_len m_int m_max m_tuple
  have G__law_first_bad := ok__law_first_bad (P := l.prog) (w := w) (mg := mg) (base := base) (k := 0) F__law_first_bad  m_range m_len m_list
  have G__law_replaced := ok__law_replaced (P := l.prog) (w := w) (mg := mg) (base := base) (k := 0) F__law_replaced  m_list m_len
  have G__law_back := ok__law_back (P := l.prog) (w := w) (mg := mg) (base := base) (k := 0) F__law_back  m_len
  have G__law_applies := ok__law_applies (P := l.prog) (w := w) (mg := mg) (base := base) (k := 5) F__law_applies  T_BadEdit F__law_first_bad b__law_first_bad g__law_first_bad G__law_first_bad (by omega) F_apply_edits b_apply_edits g_apply_edits G_apply_edits (by omega) F__law_same b__law_same g__law_same G__law_same (by omega) F__law_replaced b__law_replaced g__law_replaced G__law_replaced (by omega) GH__law_same (by omega) XC_BadEdit cl_PartError kt_BadEdit_PartError kt_BadEdit_ValueError cl_BadText kt_BadEdit_BadText cl_Misfit kt_BadEdit_Misfit m_isinstance m_ValueError m_list
  have G__law_turns := ok__law_turns (P := l.prog) (w := w) (mg := mg) (base := base) (k := 5) F__law_turns  T_BadEdit F__law_first_bad b__law_first_bad g__law_first_bad G__law_first_bad (by omega) F_inverse_edits b_inverse_edits g_inverse_edits G_inverse_edits (by omega) F__law_same b__law_same g__law_same G__law_same (by omega) F__law_back b__law_back g__law_back G__law_back (by omega) GH__law_same (by omega) XC_BadEdit cl_PartError kt_BadEdit_PartError kt_BadEdit_ValueError cl_BadText kt_BadEdit_BadText cl_Misfit kt_BadEdit_Misfit m_list m_isinstance m_ValueError
  have G_law := ok_law (P := l.prog) (w := w) (mg := mg) (base := base) (k := 6) F_law  F__law_feed b__law_feed g__law_feed G__law_feed (by omega) F__law_menu b__law_menu g__law_menu G__law_menu (by omega) F__law_next b__law_next g__law_next G__law_next (by omega) F__law_good b__law_good g__law_good G__law_good (by omega) F__law_bent b__law_bent g__law_bent G__law_bent (by omega) F__law_applies b__law_applies g__law_applies G__law_applies (by omega) F__law_turns b__law_turns g__law_turns G__law_turns (by omega) m_range m_int
  exact law_imp G_law
end K2
open PySem PySem.W PyProof.Rows
set_option maxHeartbeats 0 in
theorem PySem.Challenge.cw_partclones_k02_edits_refused_holds : PySem.Challenge.rw_partclones_k02_edits_refused.Holds := by
  w_on; o_law; k_head; (case hw => w_witness2)
  k_fill
  refine L2.walk_of (l := PySem.Challenge.rw_partclones_k02_edits_refused) (n := 63) (k := 7) (x := "script") (CX := fun _ => L2.CX0) (sp := fun w => K2.spLaw _) rfl (by decide) rfl ⟨rfl, by decide, by decide⟩ (fun w h Y => PySem.W.kIn_of Y) ?F (fun _ _ a ns hl _ hS => ⟨a, ns, rfl, hS, hl, fun _ => rfl⟩) (fun _ _ _ _ _ h => h)
  case F =>
    intro w mg fa h KX G hmg
    refine' K2.all_mk KX G hmg ?a0 ?l0 ?c0 ?k0 ?a1 ?l1 ?c1 ?k1 ?a2 ?l2 ?c2 ?k2 ?a3 ?l3 ?c3 ?k3 ?a4 ?l4 ?c4 ?k4 ?a5 ?l5 ?c5 ?k5 ?a6 ?l6 ?c6 ?k6 ?a7 ?l7 ?c7 ?k7 ?a8 ?l8 ?c8 ?k8 ?a9 ?l9 ?c9 ?k9 ?a10 ?l10 ?c10 ?k10 ?a11 ?l11 ?c11 ?k11 ?a12 ?l12 ?c12 ?k12 ?a13 ?l13 ?c13 ?k13 ?a14 ?l14 ?c14 ?k14 ?a15 ?l15 ?c15 ?k15 ?a16 ?l16 ?c16 ?k16 ?z0 ?z1 ?z2 ?z3 ?z4 ?z5 ?z6 ?z7 ?z8 ?z9 ?z10 ?z11 ?z12 ?u0 ?ea0 ?eb0 ?ec0 ?ed0 ?ee0 ?ef0 ?eg0 ?eh0 ?ei0 ?ej0 ?ek0 ?el0 ?em0 ?en0 ?eo0 ?ep0 ?eq0 ?er0 ?es0 ?xn ?xt ?ow0 ?ow1 ?ow2 ?kt0 ?kt1 ?kt2 ?kt3
    (case a0 => k_is); (case l0 => k_is); (case c0 => k_is); (case k0 => k_is); (case a1 => k_is); (case l1 => k_is); (case c1 => k_is); (case k1 => k_is); (case a2 => k_is); (case l2 => k_is); (case c2 => k_is); (case k2 => k_is); (case a3 => k_is); (case l3 => k_is); (case c3 => k_is); (case k3 => k_is); (case a4 => k_is); (case l4 => k_is); (case c4 => k_is); (case k4 => k_is); (case a5 => k_is); (case l5 => k_is); (case c5 => k_is); (case k5 => k_is); (case a6 => k_is); (case l6 => k_is); (case c6 => k_is); (case k6 => k_is); (case a7 => k_is); (case l7 => k_is); (case c7 => k_is); (case k7 => k_is); (case a8 => k_is); (case l8 => k_is); (case c8 => k_is); (case k8 => k_is); (case a9 => k_is); (case l9 => k_is); (case c9 => k_is); (case k9 => k_is); (case a10 => k_is); (case l10 => k_is); (case c10 => k_is); (case k10 => k_is); (case a11 => k_is); (case l11 => k_is); (case c11 => k_is); (case k11 => k_is); (case a12 => k_is); (case l12 => k_is); (case c12 => k_is); (case k12 => k_is); (case a13 => k_is); (case l13 => k_is); (case c13 => k_is); (case k13 => k_is); (case a14 => k_is); (case l14 => k_is); (case c14 => k_is); (case k14 => k_is); (case a15 => k_is); (case l15 => k_is); (case c15 => k_is); (case k15 => k_is); (case a16 => k_is); (case l16 => k_is); (case c16 => k_is); (case k16 => k_is); (case z0 => k_is); (case z1 => k_is); (case z2 => k_is); (case z3 => k_is); (case z4 => k_is); (case z5 => k_is); (case z6 => k_is); (case z7 => k_is); (case z8 => k_is); (case z9 => k_is); (case z10 => k_is); (case z11 => k_is); (case z12 => k_is); (case u0 => k_is); (case ea0 => k_is); (case eb0 => k_is); (case ec0 => first | rfl | decide +kernel | k_is); (case ed0 => k_is); (case ee0 => k_is); (case ef0 => k_is); (case eg0 => k_is); (case eh0 => k_is); (case ei0 => k_is); (case ej0 => k_is); (case ek0 => k_is); (case el0 => k_is); (case em0 => k_is); (case en0 => k_is); (case eo0 => first | rfl | k_is); (case ep0 => k_is); (case eq0 => k_is); (case er0 => k_is); (case es0 => k_is); (case xn => k_is); (case xt => k_is); (case ow0 => k_is); (case ow1 => k_is); (case ow2 => k_is); (case kt0 => first | k_is | decide +kernel | rfl); (case kt1 => first | k_is | decide +kernel | rfl); (case kt2 => first | k_is | decide +kernel | rfl); (case kt3 => first | k_is | decide +kernel | rfl)
