import PyProof.Rows.All
import Wide.All
import OpenK.AllK
import Wide.FinOn
import PySem.Challenge.RW_partclones_k38_line_origins
import HandS.ForMost
import HandS.Evl
import HandS.Flow
import HandS.Style
import HandS.RevRange
import HandS.Conv
import HandS.More
import HandS.IsInst
import HandS.Iter
import PyProof.AutoSeq1
import HandS.TupAny
import HandS.HotCalls
import HandS.ForSpec
set_option Elab.async false
set_option linter.all false
set_option maxRecDepth 100000
set_option maxHeartbeats 4000000
namespace HL
open PySem PySem.Spec PyProof.Rows L2
open Evl (Ex)

abbrev Sta := L2.St
def keyD : Key → PyData
  | .inl i => .int i
  | .inr x => .str x
mutual
inductive Dn (H : Hp) : V → PyData → Prop
  | non : Dn H .non .none
  | bl (b : Bool) : Dn H (.bl b) (.bool b)
  | int (i : Int) : Dn H (.int i) (.int i)
  | str (x : Str) : Dn H (.str x) (.str x)
  | lst {a : Addr} {xs : List V} {ds : List PyData} : H a = some (.lst xs) → DnA H xs ds → Dn H (.ref a) (.list ds)
  | tup {a : Addr} {xs : List V} {ds : List PyData} : H a = some (.tup xs) → DnA H xs ds → Dn H (.ref a) (.tuple ds)
  | dct {a : Addr} {xs : List (Key × V)} {ds : List (PyData × PyData)} : H a = some (.dK xs) → DnK H xs ds → Dn H (.ref a) (.dict ds)
inductive DnA (H : Hp) : List V → List PyData → Prop
  | nil : DnA H [] []
  | cons {v : V} {d : PyData} {vs : List V} {ds : List PyData} : Dn H v d → DnA H vs ds → DnA H (v :: vs) (d :: ds)
inductive DnK (H : Hp) : List (Key × V) → List (PyData × PyData) → Prop
  | nil : DnK H [] []
  | cons {k : Key} {v : V} {d : PyData} {vs : List (Key × V)} {ds : List (PyData × PyData)} : Dn H v d → DnK H vs ds → DnK H ((k, v) :: vs) ((keyD k, d) :: ds)
end
mutual
theorem Dn.mono {H H' : Hp} (e : Ex H H') : ∀ {v : V} {d : PyData}, Dn H v d → Dn H' v d
  | _, _, .non => .non
  | _, _, .bl b => .bl b
  | _, _, .int i => .int i
  | _, _, .str x => .str x
  | _, _, .lst h r => .lst (e _ _ h) (DnA.mono e r)
  | _, _, .tup h r => .tup (e _ _ h) (DnA.mono e r)
  | _, _, .dct h r => .dct (e _ _ h) (DnK.mono e r)
theorem DnA.mono {H H' : Hp} (e : Ex H H') : ∀ {vs : List V} {ds : List PyData}, DnA H vs ds → DnA H' vs ds
  | _, _, .nil => .nil
  | _, _, .cons h r => .cons (Dn.mono e h) (DnA.mono e r)
theorem DnK.mono {H H' : Hp} (e : Ex H H') : ∀ {vs : List (Key × V)} {ds : List (PyData × PyData)}, DnK H vs ds → DnK H' vs ds
  | _, _, .nil => .nil
  | _, _, .cons h r => .cons (Dn.mono e h) (DnK.mono e r)
end
mutual
def flatD : PyData → Bool
  | .dict _ => false
  | .list ds => flatDs ds
  | .tuple ds => flatDs ds
  | _ => true
def flatDs : List PyData → Bool
  | [] => true
  | d :: ds => flatD d && flatDs ds
end
mutual
/-- data without dicts, in the layer's own words -/
theorem Dn.dp {K : PySem.W.Frag} {H : Hp} : ∀ {v : V} {d : PyData}, Dn H v d → flatD d = true → Dp K H v d
  | _, _, .non, _ => .non
  | _, _, .bl b, _ => .bl b
  | _, _, .int i, _ => .int i
  | _, _, .str x, _ => .str x
  | _, _, .lst h r, e => .lst (Or.inl (Or.inl h)) (DnA.dp r (by simpa [flatD] using e))
  | _, _, .tup h r, e => .tup (Or.inl (Or.inl h)) (DnA.dp r (by simpa [flatD] using e))
theorem DnA.dp {K : PySem.W.Frag} {H : Hp} : ∀ {vs : List V} {ds : List PyData}, DnA H vs ds → flatDs ds = true → DpAll K H vs ds
  | _, _, .nil, _ => .nil
  | _, _, .cons h r, e => .cons (Dn.dp h (by simp [flatDs] at e; exact e.1)) (DnA.dp r (by simp [flatDs] at e; exact e.2))
end
theorem DnA.length {H : Hp} : ∀ {vs : List V} {ds : List PyData}, DnA H vs ds → vs.length = ds.length
  | _, _, .nil => rfl
  | _, _, .cons _ r => by simp [DnA.length r]
theorem DnA.get {H : Hp} : ∀ {vs : List V} {ds : List PyData} {i : Nat} {d : PyData}, DnA H vs ds → ds[i]? = some d → ∃ v, vs[i]? = some v ∧ Dn H v d
  | _, _, _, _, .nil, e => by simp at e
  | _, _, 0, _, .cons h r, e => by simp at e; subst e; exact ⟨_, rfl, h⟩
  | _, _, i + 1, d, .cons h r, e => by
    obtain ⟨v, h1, h2⟩ := DnA.get (i := i) (d := d) r (by simpa using e)
    exact ⟨v, by simpa using h1, h2⟩
theorem DnA.get' {H : Hp} : ∀ {vs : List V} {ds : List PyData} {i : Nat} {v : V}, DnA H vs ds → vs[i]? = some v → ∃ d, ds[i]? = some d ∧ Dn H v d
  | _, _, _, _, .nil, e => by simp at e
  | _, _, 0, _, .cons h r, e => by simp at e; subst e; exact ⟨_, rfl, h⟩
  | _, _, i + 1, d, .cons h r, e => by
    obtain ⟨v, h1, h2⟩ := DnA.get' (i := i) (v := d) r (by simpa using e)
    exact ⟨v, by simpa using h1, h2⟩
theorem DnA.append {H : Hp} : ∀ {vs ws : List V} {ds es : List PyData}, DnA H vs ds → DnA H ws es → DnA H (vs ++ ws) (ds ++ es)
  | _, _, _, _, .nil, s => s
  | _, _, _, _, .cons h r, s => .cons h (DnA.append r s)
theorem DnA.one {H : Hp} {v : V} {d : PyData} (h : Dn H v d) : DnA H [v] [d] := .cons h .nil
theorem DnA.drop {H : Hp} : ∀ {vs : List V} {ds : List PyData} (n : Nat), DnA H vs ds → DnA H (vs.drop n) (ds.drop n)
  | _, _, 0, h => h
  | _, _, _ + 1, .nil => .nil
  | _, _, n + 1, .cons _ r => DnA.drop n r
theorem DnA.take {H : Hp} : ∀ {vs : List V} {ds : List PyData} (n : Nat), DnA H vs ds → DnA H (vs.take n) (ds.take n)
  | _, _, 0, _ => .nil
  | _, _, _ + 1, .nil => .nil
  | _, _, n + 1, .cons h r => .cons h (DnA.take n r)
theorem DnA.reverse {H : Hp} : ∀ {vs : List V} {ds : List PyData}, DnA H vs ds → DnA H vs.reverse ds.reverse
  | _, _, .nil => .nil
  | _, _, .cons h r => by simpa using DnA.append (DnA.reverse r) (.one h)
theorem DnA.set {H : Hp} {v : V} {d : PyData} (h : Dn H v d) : ∀ {vs : List V} {ds : List PyData} (i : Nat), DnA H vs ds → DnA H (vs.set i v) (ds.set i d)
  | _, _, _, .nil => .nil
  | _, _, 0, .cons _ r => .cons h r
  | _, _, i + 1, .cons h' r => .cons h' (DnA.set h i r)
theorem DnA.replicate {H : Hp} {v : V} {d : PyData} (h : Dn H v d) : ∀ n : Nat, DnA H (List.replicate n v) (List.replicate n d)
  | 0 => .nil
  | n + 1 => .cons h (DnA.replicate h n)
theorem DnA.flatten_rep {H : Hp} {vs : List V} {ds : List PyData} (h : DnA H vs ds) : ∀ n : Nat, DnA H (List.replicate n vs).flatten (List.replicate n ds).flatten
  | 0 => .nil
  | n + 1 => by
    rw [List.replicate_succ, List.replicate_succ, List.flatten_cons, List.flatten_cons]
    exact h.append (DnA.flatten_rep h n)
theorem DnA.eraseIdx {H : Hp} : ∀ {vs : List V} {ds : List PyData} (i : Nat), DnA H vs ds → DnA H (vs.eraseIdx i) (ds.eraseIdx i)
  | _, _, _, .nil => .nil
  | _, _, 0, .cons _ r => r
  | _, _, i + 1, .cons h' r => .cons h' (DnA.eraseIdx i r)
theorem DnA.strs {H : Hp} : ∀ {vs : List V} {xs : List Str}, DnA H vs (xs.map .str) → vs = xs.map .str
  | _, [], .nil => rfl
  | _, x :: xs, .cons h r => by cases h; simp [DnA.strs r]
theorem DnA.ints {H : Hp} : ∀ {vs : List V} {xs : List Int}, DnA H vs (xs.map .int) → vs = xs.map .int
  | _, [], .nil => rfl
  | _, x :: xs, .cons h r => by cases h; simp [DnA.ints r]
theorem DnA.of_strs {H : Hp} : ∀ (xs : List Str), DnA H (xs.map .str) (xs.map .str)
  | [] => .nil
  | x :: xs => .cons (.str x) (DnA.of_strs xs)
theorem DnA.of_ints {H : Hp} : ∀ (xs : List Int), DnA H (xs.map .int) (xs.map .int)
  | [] => .nil
  | x :: xs => .cons (.int x) (DnA.of_ints xs)

/-! ### heaps with some addresses hidden -/
abbrev Hd := Addr → Prop
open Classical in
noncomputable def hid (o : Hd) (H : Hp) : Hp := fun b => if o b then none else H b
theorem hid_at {o : Hd} {H : Hp} {b : Addr} (h : ¬ o b) : hid o H b = H b := by unfold hid; rw [if_neg h]
theorem hid_in {o : Hd} {H : Hp} {b : Addr} (h : o b) : hid o H b = none := by unfold hid; rw [if_pos h]
theorem hid_ex {o : Hd} {H : Hp} : Ex (hid o H) H := fun a u h => by
  unfold hid at h
  split at h
  · cases h
  · exact h
theorem hid_of {o : Hd} {H : Hp} {a : Addr} {u : HO} (h : hid o H a = some u) : ¬ o a ∧ H a = some u := by
  unfold hid at h
  split at h
  · cases h
  · exact ⟨by assumption, h⟩
theorem hid_mono {o : Hd} {H H' : Hp} (e : Ex H H') : Ex (hid o H) (hid o H') := fun a u h => by
  obtain ⟨h1, h2⟩ := hid_of h
  rw [hid_at h1]; exact e _ _ h2
theorem hid_sub {o o' : Hd} {H : Hp} (s : ∀ a, o' a → o a) : Ex (hid o H) (hid o' H) := fun a u h => by
  obtain ⟨h1, h2⟩ := hid_of h
  rw [hid_at fun z => h1 (s a z)]; exact h2
theorem hid_sub_mono {o o' : Hd} {H H' : Hp} (s : ∀ a, o' a → o a) (e : Ex H H') : Ex (hid o H) (hid o' H') := (hid_sub s).trans (hid_mono e)
theorem hid_none {H : Hp} : hid (fun _ => False) H = H := by funext b; exact hid_at id
def Live (o : Hd) (H : Hp) : Prop := ∀ a, o a → H a ≠ none
theorem Live.mono {o : Hd} {H H' : Hp} (l : Live o H) (e : Ex H H') : Live o H' := fun a h z => by
  cases q : H a with
  | none => exact l a h q
  | some u => rw [e a u q] at z; cases z
theorem Live.fresh {o : Hd} {H : Hp} {p : Addr} (l : Live o H) (h : H p = none) : ¬ o p := fun z => l p z h
abbrev o0 : Hd := fun _ => False
theorem live0 {H : Hp} : Live o0 H := fun _ h => h.elim
theorem Dn.up {H : Hp} {o : Hd} {v : V} {d : PyData} (h : Dn (hid o H) v d) : Dn H v d := h.mono hid_ex
theorem DnA.up {H : Hp} {o : Hd} {vs : List V} {ds : List PyData} (h : DnA (hid o H) vs ds) : DnA H vs ds := h.mono hid_ex
theorem Dn.to0 {H : Hp} {o : Hd} {v : V} {d : PyData} (h : Dn (hid o H) v d) : Dn (hid o0 H) v d := h.mono (hid_sub fun _ z => z.elim)
theorem Dn.of0 {H : Hp} {v : V} {d : PyData} (h : Dn (hid o0 H) v d) : Dn H v d := h.mono hid_ex
theorem hid_upd_new {o : Hd} {H : Hp} {p : Addr} {u : HO} (h : H p = none) : Ex (hid o H) (hid o (upd H p u)) := hid_mono (Evl.Ex.new h)
/-- a hidden object may be rewritten -/
theorem hid_upd_in {o : Hd} {H : Hp} {p : Addr} {u : HO} (h : o p) : hid o (upd H p u) = hid o H := by
  funext b
  by_cases q : o b
  · rw [hid_in q, hid_in q]
  · rw [hid_at q, hid_at q, upd_ne (fun z => q (by rw [z]; exact h))]
theorem at_new {o : Hd} {H : Hp} {p : Addr} {u : HO} (l : Live o H) (h : H p = none) : hid o (upd H p u) p = some u := by
  rw [hid_at (l.fresh h), upd_same]

/-! ### readings: which data comes out, with nothing changed -/
def Ev (o : Hd) (te : TE) (σ : Sta) (H : Hp) (d : PyData) : Prop := ∀ H1, Ex H H1 → ∀ Q : VK, (∀ v H2, Ex H1 H2 → Dn (hid o H2) v d → Q v H2) → te σ H1 Q
/-- a new list, hidden from what it holds -/
def EvN (o : Hd) (te : TE) (σ : Sta) (H : Hp) (ds : List PyData) : Prop := ∀ H1, Ex H H1 → ∀ Q : VK, (∀ p vs H2, H1 p = none → Ex H1 H2 → H2 p = some (.lst vs) → DnA (hid (fun a => o a ∨ a = p) H2) vs ds → Q (.ref p) H2) → te σ H1 Q
def EvT (tt : TT) (σ : Sta) (H : Hp) (b : Bool) : Prop := ∀ H1, Ex H H1 → ∀ Q : Bool → Hp → Prop, (∀ H2, Ex H1 H2 → Q b H2) → tt σ H1 Q
def EvA (o : Hd) (ta : TA) (σ : Sta) (H : Hp) (ds : List PyData) : Prop := ∀ H1, Ex H H1 → ∀ Q : List V → Hp → Prop, (∀ vs H2, Ex H1 H2 → DnA (hid o H2) vs ds → Q vs H2) → ta σ H1 Q
def EvO (to : TO) (σ : Sta) (H : Hp) (i : Option Int) : Prop := ∀ H1, Ex H H1 → ∀ Q : Option Int → Hp → Prop, (∀ H2, Ex H1 H2 → Q i H2) → to σ H1 Q

section
variable {K : PySem.W.Frag} {o o' : Hd} {σ : Sta} {H H' : Hp} {ta tb te tx : TE} {t u : TT} {d e : PyData} {ds es : List PyData} {r : R2}
theorem Ev.mono (x : Ex H H') (h : Ev o te σ H d) : Ev o te σ H' d := fun H1 a Q q => h H1 (x.trans a) Q q
theorem EvN.mono (x : Ex H H') (h : EvN o te σ H ds) : EvN o te σ H' ds := fun H1 a Q q => h H1 (x.trans a) Q q
theorem EvT.mono {b : Bool} (x : Ex H H') (h : EvT t σ H b) : EvT t σ H' b := fun H1 a Q q => h H1 (x.trans a) Q q
theorem EvA.mono {ta : TA} (x : Ex H H') (h : EvA o ta σ H ds) : EvA o ta σ H' ds := fun H1 a Q q => h H1 (x.trans a) Q q
theorem Ev.weak (s : ∀ a, o' a → o a) (h : Ev o te σ H d) : Ev o' te σ H d := fun H1 a Q q => h H1 a Q fun v H2 e2 hv => q v H2 e2 (hv.mono (hid_sub s))
theorem Ev.w0 (h : Ev o te σ H d) : Ev o0 te σ H d := h.weak fun _ z => z.elim
theorem Ev.is (h : Ev o te σ H d) (x : d = e) : Ev o te σ H e := x ▸ h
theorem EvN.is (h : EvN o te σ H ds) (x : ds = es) : EvN o te σ H es := x ▸ h
theorem EvT.is {a b : Bool} (h : EvT t σ H a) (x : a = b) : EvT t σ H b := x ▸ h
theorem Ev.go {Q : VK} (h : Ev o te σ H d) (k : ∀ v H2, Ex H H2 → Dn (hid o H2) v d → Q v H2) : te σ H Q := h H (Ex.refl H) Q k
/-- data without objects -/
inductive Sc : PyData → Prop
  | non : Sc .none
  | bl (b : Bool) : Sc (.bool b)
  | int (i : Int) : Sc (.int i)
  | str (x : Str) : Sc (.str x)
theorem Dn.sc (s : Sc d) {v : V} (h : Dn H v d) : Dn H' v d := by
  cases s <;> cases h <;> constructor
theorem Ev.sc (h : Ev o te σ H d) (s : Sc d) : Ev o' te σ H d := fun H1 a Q q => h H1 a Q fun v H2 e2 hv => q v H2 e2 (Dn.sc s hv)
theorem EvN.ev (l : Live o H) (h : EvN o te σ H ds) : Ev o te σ H (.list ds) := fun H1 a Q q => h H1 a Q fun p vs H2 np e2 hp hv =>
  q _ H2 e2 (.lst (by rw [hid_at ((l.mono a).fresh np)]; exact hp) (hv.mono (hid_sub fun _ z => .inl z)))
theorem EvN.ev0 (h : EvN o te σ H ds) : Ev o0 te σ H (.list ds) := fun H1 a Q q => h H1 a Q fun p vs H2 np e2 hp hv =>
  q _ H2 e2 (.lst (by rw [hid_at id]; exact hp) (hv.mono (hid_sub fun _ z => z.elim)))

/-! constants and operators -/
theorem ev_int {i : Int} : Ev o (tC (.int i)) σ H (.int i) := fun H1 _ _ q => q _ H1 (Ex.refl H1) (.int i)
theorem ev_str {x : Str} : Ev o (tC (.str x)) σ H (.str x) := fun H1 _ _ q => q _ H1 (Ex.refl H1) (.str x)
theorem ev_bl {b : Bool} : Ev o (tC (.bl b)) σ H (.bool b) := fun H1 _ _ q => q _ H1 (Ex.refl H1) (.bl b)
theorem ev_non : Ev o (tC .non) σ H .none := fun H1 _ _ q => q _ H1 (Ex.refl H1) .non
theorem ev_I0 {g : Int → Int → Int} {i j : Int} (ha : Ev o0 ta σ H (.int i)) (hb : Ev o0 tb σ H (.int j)) : Ev o (tOp (rI0 fun i j => .int (g i j)) ta tb) σ H (.int (g i j)) := fun H1 a Q q =>
  ha H1 a _ fun v H2 e2 hv => hb H2 (a.trans e2) _ fun w H3 e3 hw => by
    cases hv; cases hw
    exact ⟨i, j, rfl, rfl, q _ H3 (e2.trans e3) (.int _)⟩
theorem ev_B0 {g : Int → Int → Bool} {i j : Int} (ha : Ev o0 ta σ H (.int i)) (hb : Ev o0 tb σ H (.int j)) : Ev o (tOp (rI0 fun i j => .bl (g i j)) ta tb) σ H (.bool (g i j)) := fun H1 a Q q =>
  ha H1 a _ fun v H2 e2 hv => hb H2 (a.trans e2) _ fun w H3 e3 hw => by
    cases hv; cases hw
    exact ⟨i, j, rfl, rfl, q _ H3 (e2.trans e3) (.bl _)⟩
theorem ev_IC {C : Int → Int → Prop} {g : Int → Int → Int} {i j : Int} (ha : Ev o0 ta σ H (.int i)) (hb : Ev o0 tb σ H (.int j)) (hc : C i j) : Ev o (tOp (rI C fun i j => .int (g i j)) ta tb) σ H (.int (g i j)) := fun H1 a Q q =>
  ha H1 a _ fun v H2 e2 hv => hb H2 (a.trans e2) _ fun w H3 e3 hw => by
    cases hv; cases hw
    exact ⟨i, j, rfl, rfl, hc, q _ H3 (e2.trans e3) (.int _)⟩
theorem ev_neg {i : Int} (ha : Ev o0 ta σ H (.int i)) : Ev o (tUn (rU fun i => .int (-i)) ta) σ H (.int (-i)) := fun H1 a Q q =>
  ha H1 a _ fun v H2 e2 hv => by
    cases hv
    exact ⟨i, rfl, q _ H2 e2 (.int _)⟩
/-- == of flat values of one kind, or with None -/
def scV : PyData → V
  | .none => .non
  | .bool b => .bl b
  | .int i => .int i
  | .str x => .str x
  | _ => .non
theorem Dn.scV {v : V} (s : Sc d) (h : Dn H v d) : v = scV d := by cases s <;> cases h <;> rfl
theorem ev_eq (sd : Sc d) (se : Sc e) (ha : Ev o0 ta σ H d) (hb : Ev o0 tb σ H e) (hs : scal (scV d) (scV e) = true) : Ev o (tOp rEq ta tb) σ H (.bool (decide (scV d = scV e))) := fun H1 a Q q =>
  ha H1 a _ fun v H2 e2 hv => hb H2 (a.trans e2) _ fun w H3 e3 hw => by
    rw [hv.scV sd, hw.scV se]
    exact ⟨hs, q _ H3 (e2.trans e3) (.bl _)⟩
theorem ev_ne (sd : Sc d) (se : Sc e) (ha : Ev o0 ta σ H d) (hb : Ev o0 tb σ H e) (hs : scal (scV d) (scV e) = true) : Ev o (tOp rNe ta tb) σ H (.bool (!decide (scV d = scV e))) := fun H1 a Q q =>
  ha H1 a _ fun v H2 e2 hv => hb H2 (a.trans e2) _ fun w H3 e3 hw => by
    rw [hv.scV sd, hw.scV se]
    exact ⟨hs, q _ H3 (e2.trans e3) (.bl _)⟩
theorem ev_eqS {x y : Str} (ha : Ev o0 ta σ H (.str x)) (hb : Ev o0 tb σ H (.str y)) : Ev o (tOp rEq ta tb) σ H (.bool (decide (x = y))) :=
  (ev_eq (.str x) (.str y) ha hb rfl).is (by simp [scV])
theorem ev_neS {x y : Str} (ha : Ev o0 ta σ H (.str x)) (hb : Ev o0 tb σ H (.str y)) : Ev o (tOp rNe ta tb) σ H (.bool (!decide (x = y))) :=
  (ev_ne (.str x) (.str y) ha hb rfl).is (by simp [scV])
theorem ev_eqI {x y : Int} (ha : Ev o0 ta σ H (.int x)) (hb : Ev o0 tb σ H (.int y)) : Ev o (tOp rEq ta tb) σ H (.bool (decide (x = y))) :=
  (ev_eq (.int x) (.int y) ha hb rfl).is (by simp [scV])
theorem ev_neI {x y : Int} (ha : Ev o0 ta σ H (.int x)) (hb : Ev o0 tb σ H (.int y)) : Ev o (tOp rNe ta tb) σ H (.bool (!decide (x = y))) :=
  (ev_ne (.int x) (.int y) ha hb rfl).is (by simp [scV])
theorem ev_eqB {x y : Bool} (ha : Ev o0 ta σ H (.bool x)) (hb : Ev o0 tb σ H (.bool y)) : Ev o (tOp rEq ta tb) σ H (.bool (decide (x = y))) :=
  (ev_eq (.bl x) (.bl y) ha hb rfl).is (by simp [scV])
theorem ev_neB {x y : Bool} (ha : Ev o0 ta σ H (.bool x)) (hb : Ev o0 tb σ H (.bool y)) : Ev o (tOp rNe ta tb) σ H (.bool (!decide (x = y))) :=
  (ev_ne (.bl x) (.bl y) ha hb rfl).is (by simp [scV])
/-- x is None -/
def isNoneD : PyData → Bool
  | .none => true
  | _ => false
theorem ev_isN (ha : Ev o0 ta σ H d) : Ev o (tOp (fun x y H Q => y = .non ∧ Q (.bl (decide (x = .non))) H) ta (tC .non)) σ H (.bool (isNoneD d)) := fun H1 a Q q =>
  ha H1 a _ fun v H2 e2 hv => ⟨rfl, by
    have z : decide (v = V.non) = (isNoneD d) := by cases hv <;> rfl
    rw [z]; exact q _ H2 e2 (.bl _)⟩
theorem ev_notN (ha : Ev o0 ta σ H d) : Ev o (tOp (fun x y H Q => y = .non ∧ Q (.bl (!decide (x = .non))) H) ta (tC .non)) σ H (.bool (!(isNoneD d))) := fun H1 a Q q =>
  ha H1 a _ fun v H2 e2 hv => ⟨rfl, by
    have z : decide (v = V.non) = (isNoneD d) := by cases hv <;> rfl
    rw [z]; exact q _ H2 e2 (.bl _)⟩
/-- == of data -/
theorem ev_eqD {b : Bool} (ha : Ev o0 ta σ H d) (hb : Ev o0 tb σ H e) (fd : flatD d = true) (fe : flatD e = true) (sd : SeqAt.shaped d = true) (se : SeqAt.shaped e = true) (h : PyData.eqv d e = b) : Ev o (tOp (rEqD K) ta tb) σ H (.bool b) := fun H1 a Q q =>
  ha H1 a _ fun v H2 e2 hv => hb H2 (a.trans e2) _ fun w H3 e3 hw =>
    ⟨d, e, (hv.up.mono e3).dp fd, hw.up.dp fe, sd, se, by rw [h]; exact q _ H3 (e2.trans e3) (.bl _)⟩
theorem ev_neD {b : Bool} (ha : Ev o0 ta σ H d) (hb : Ev o0 tb σ H e) (fd : flatD d = true) (fe : flatD e = true) (sd : SeqAt.shaped d = true) (se : SeqAt.shaped e = true) (h : PyData.eqv d e = b) : Ev o (tOp (rNeD K) ta tb) σ H (.bool !b) := fun H1 a Q q =>
  ha H1 a _ fun v H2 e2 hv => hb H2 (a.trans e2) _ fun w H3 e3 hw =>
    ⟨d, e, (hv.up.mono e3).dp fd, hw.up.dp fe, sd, se, by rw [h]; exact q _ H3 (e2.trans e3) (.bl _)⟩

/-! tests -/
theorem et_test {b : Bool} (h : Ev o0 te σ H (.bool b)) : EvT (tTest te) σ H b := fun H1 a _ q => h H1 a _ fun v H2 e2 hv => by cases hv; exact ⟨b, rfl, q H2 e2⟩
theorem et_B {b : Bool} (h : Ev o0 te σ H (.bool b)) : EvT (tB te) σ H b := fun H1 a _ q => h H1 a _ fun v H2 e2 hv => by cases hv; exact ⟨b, rfl, q H2 e2⟩
theorem et_and {a b : Bool} (h1 : EvT t σ H a) (h2 : a = true → EvT u σ H b) : EvT (tAnd t u) σ H (a && b) := fun H1 x Q q => h1 H1 x _ fun H2 e2 => by
  cases a with
  | true => rw [if_pos rfl]; exact h2 rfl H2 (x.trans e2) Q fun H3 e3 => q H3 (e2.trans e3)
  | false => rw [if_neg Bool.false_ne_true]; exact q H2 e2
theorem et_or {a b : Bool} (h1 : EvT t σ H a) (h2 : a = false → EvT u σ H b) : EvT (tOr t u) σ H (a || b) := fun H1 x Q q => h1 H1 x _ fun H2 e2 => by
  cases a with
  | true => rw [if_pos rfl]; exact q H2 e2
  | false => rw [if_neg Bool.false_ne_true]; exact h2 rfl H2 (x.trans e2) Q fun H3 e3 => q H3 (e2.trans e3)
theorem et_not {a : Bool} (h1 : EvT t σ H a) : EvT (tNot t) σ H (!a) := fun H1 x _ q => h1 H1 x _ fun H2 e2 => q H2 e2
theorem ev_andV {a b : Bool} (h1 : Ev o0 ta σ H (.bool a)) (h2 : a = true → Ev o0 tb σ H (.bool b)) : Ev o (tAndV ta tb) σ H (.bool (a && b)) := fun H1 x Q q => h1 H1 x _ fun v H2 e2 hv => by
  cases hv
  refine ⟨a, rfl, ?_⟩
  cases a with
  | true => rw [if_pos rfl]; exact h2 rfl H2 (x.trans e2) Q fun w H3 e3 hw => q w H3 (e2.trans e3) (Dn.sc (.bl _) hw)
  | false => rw [if_neg Bool.false_ne_true]; exact q _ H2 e2 (.bl _)
theorem ev_orV {a b : Bool} (h1 : Ev o0 ta σ H (.bool a)) (h2 : a = false → Ev o0 tb σ H (.bool b)) : Ev o (tOrV ta tb) σ H (.bool (a || b)) := fun H1 x Q q => h1 H1 x _ fun v H2 e2 hv => by
  cases hv
  refine ⟨a, rfl, ?_⟩
  cases a with
  | true => rw [if_pos rfl]; exact q _ H2 e2 (.bl _)
  | false => rw [if_neg Bool.false_ne_true]; exact h2 rfl H2 (x.trans e2) Q fun w H3 e3 hw => q w H3 (e2.trans e3) (Dn.sc (.bl _) hw)
theorem ev_notV {a : Bool} (h1 : Ev o0 ta σ H (.bool a)) : Ev o (tNotV ta) σ H (.bool (!a)) := fun H1 x _ q => h1 H1 x _ fun v H2 e2 hv => by cases hv; exact ⟨a, rfl, q _ H2 e2 (.bl _)⟩
theorem ev_if {b : Bool} (h : EvT t σ H b) (h1 : b = true → Ev o ta σ H d) (h2 : b = false → Ev o tb σ H e) : Ev o (tIf t ta tb) σ H (if b = true then d else e) := fun H1 x Q q => h H1 x _ fun H2 e2 => by
  cases b with
  | true => rw [if_pos rfl]; rw [if_pos rfl] at q; exact h1 rfl H2 (x.trans e2) Q fun v H3 e3 hv => q v H3 (e2.trans e3) hv
  | false => rw [if_neg Bool.false_ne_true]; rw [if_neg Bool.false_ne_true] at q; exact h2 rfl H2 (x.trans e2) Q fun v H3 e3 hv => q v H3 (e2.trans e3) hv

/-! arguments, displays -/
theorem ea_nil : EvA o tNil σ H [] := fun H1 _ _ q => q _ H1 (Ex.refl H1) .nil
theorem ea_cons {tr : TA} (h : Ev o ta σ H d) (hr : EvA o tr σ H ds) : EvA o (tCons ta tr) σ H (d :: ds) := fun H1 a _ q =>
  h H1 a _ fun v H2 e2 hv => hr H2 (a.trans e2) _ fun vs H3 e3 hvs => q _ H3 (e2.trans e3) (.cons (hv.mono (hid_mono e3)) hvs)
theorem ev_tup {tr : TA} (l : Live o H) (h : EvA o tr σ H ds) (hz : ds.length ≤ 100000) : Ev o (tTup tr) σ H (.tuple ds) := fun H1 a _ q =>
  h H1 a _ fun vs H2 e2 hv => ⟨Evl.sz_of (by rw [hv.length]; exact hz), fun p np => q _ _ (e2.trans (Evl.Ex.new np)) (.tup (at_new ((l.mono a).mono e2) np) (hv.mono (hid_upd_new np)))⟩
theorem en_lst {tr : TA} (h : EvA o tr σ H ds) (hz : ds.length ≤ 100000) : EvN o (tLst tr) σ H ds := fun H1 a _ q =>
  h H1 a _ fun vs H2 e2 hv => ⟨Evl.sz_of (by rw [hv.length]; exact hz), fun p np => q p vs _ (Evl.fresh_back e2 np) (e2.trans (Evl.Ex.new np)) upd_same (hv.mono (fun b u hb => by
    obtain ⟨h1, h2⟩ := hid_of hb
    have nb : b ≠ p := ne_of_none h2 np
    rw [hid_at (fun z => z.elim h1 nb), upd_ne nb]; exact h2))⟩
end
end HL
namespace HL
open PySem PySem.Spec PyProof.Rows L2
open Evl (Ex)

/-! ### the state of a body -/
/-- what a slot holds: nothing that is known; a value (f: of the body's own making); a list that the body may change -/
inductive Ent where
  | no
  | va (f : Bool) (d : PyData)
  | ow (f : Bool) (a : Addr) (ds : List PyData)
  | rw (v : V)
def Adr (δ : List Ent) (a : Addr) : Prop := ∃ (i : Nat) (f : Bool) (ds : List PyData), δ[i]? = some (.ow f a ds)
/-- the heap at the entry; what a made value may not hold; what no value may hold -/
structure Wd where
  B : Hp
  O : Hd
  N : Hd
def Wd.hd (c : Wd) (f : Bool) (δ : List Ent) : Hd := fun a => (f = true ∧ c.O a) ∨ c.N a ∨ Adr δ a
def EntOk (c : Wd) (δ : List Ent) (H : Hp) (x : Option (Option V)) : Ent → Prop
  | .no => True
  | .va f d => ∃ v, x = some (some v) ∧ Dn (hid (c.hd f δ) H) v d
  | .ow f a ds => ∃ vs, x = some (some (.ref a)) ∧ H a = some (.lst vs) ∧ DnA (hid (c.hd f δ) H) vs ds
  | .rw v => x = some (some v)
structure Bs (c : Wd) (H : Hp) (σ : Sta) (δ : List Ent) : Prop where
  base : Ex c.B H
  liO : Live c.O H
  liN : Live c.N H
  own : ∀ a, Adr δ a → c.B a = none ∧ ¬ c.O a ∧ ¬ c.N a
  one : ∀ (i j : Nat) (f g : Bool) (a : Addr) (ds es : List PyData), δ[i]? = some (.ow f a ds) → δ[j]? = some (.ow g a es) → i = j
  len : σ.length = δ.length
  ent : ∀ (i : Nat) (e : Ent), δ[i]? = some e → EntOk c δ H σ[i]? e

section
variable {K : PySem.W.Frag} {c : Wd} {H H1 H' : Hp} {σ : Sta} {δ δ' : List Ent} {i j : Nat} {f g : Bool} {a : Addr} {d : PyData} {ds : List PyData} {ta tb te : TE}
theorem Bs.live (S : Bs c H σ δ) (f : Bool) : Live (c.hd f δ) H := fun b h z => by
  rcases h with ⟨_, h⟩ | h | ⟨i, f, ds, h⟩
  · exact S.liO b h z
  · exact S.liN b h z
  · obtain ⟨vs, _, q, _⟩ := S.ent i _ h
    rw [q] at z; cases z
theorem EntOk.mono {x : Option (Option V)} {e : Ent} (he : Ex H H') (h : EntOk c δ H x e) : EntOk c δ H' x e := by
  cases e with
  | no => trivial
  | va f d => obtain ⟨v, e, q⟩ := h; exact ⟨v, e, q.mono (hid_mono he)⟩
  | ow f a ds => obtain ⟨vs, e, q, r⟩ := h; exact ⟨vs, e, he _ _ q, r.mono (hid_mono he)⟩
  | rw v => exact h
theorem Bs.mono (he : Ex H H') (S : Bs c H σ δ) : Bs c H' σ δ :=
  ⟨S.base.trans he, S.liO.mono he, S.liN.mono he, S.own, S.one, S.len, fun i e h => (S.ent i e h).mono he⟩
/-- one entry is worth another -/
inductive Le1 : Ent → Ent → Prop
  | refl (e : Ent) : Le1 e e
  | no (e : Ent) : Le1 e .no
  | rd (d : PyData) : Le1 (.va true d) (.va false d)
  | fz (f : Bool) (a : Addr) (ds : List PyData) : Le1 (.ow f a ds) (.va f (.list ds))
  | eq {f : Bool} {d d' : PyData} (h : d = d') : Le1 (.va f d) (.va f d')
  | eqo {f : Bool} {a : Addr} {ds ds' : List PyData} (h : ds = ds') : Le1 (.ow f a ds) (.ow f a ds')
  | sc {d : PyData} (s : Sc d) : Le1 (.va false d) (.va true d)
inductive LeA : List Ent → List Ent → Prop
  | nil : LeA [] []
  | cons {e e' : Ent} {r r' : List Ent} : Le1 e e' → LeA r r' → LeA (e :: r) (e' :: r')
theorem LeA.refl : ∀ δ : List Ent, LeA δ δ
  | [] => .nil
  | e :: r => .cons (.refl e) (LeA.refl r)
theorem LeA.len : ∀ {δ δ' : List Ent}, LeA δ δ' → δ.length = δ'.length
  | _, _, .nil => rfl
  | _, _, .cons _ r => by simp [LeA.len r]
theorem LeA.get : ∀ {δ δ' : List Ent} {i : Nat} {e' : Ent}, LeA δ δ' → δ'[i]? = some e' → ∃ e, δ[i]? = some e ∧ Le1 e e'
  | _, _, _, _, .nil, h => by simp at h
  | _, _, 0, _, .cons h r, e => by simp at e; subst e; exact ⟨_, rfl, h⟩
  | _, _, i + 1, e', .cons h r, e => by
    obtain ⟨x, h1, h2⟩ := LeA.get (i := i) (e' := e') r (by simpa using e)
    exact ⟨x, by simpa using h1, h2⟩
theorem LeA.adr (l : LeA δ δ') (h : Adr δ' a) : Adr δ a := by
  obtain ⟨i, f, ds, h⟩ := h
  obtain ⟨e, h1, h2⟩ := l.get h
  cases h2 with
  | refl _ => exact ⟨i, f, ds, h1⟩
  | eqo _ => exact ⟨i, f, _, h1⟩
theorem hd_sub (l : ∀ a, Adr δ' a → Adr δ a) : ∀ a, c.hd f δ' a → c.hd f δ a := fun a h => by
  rcases h with h | h | h
  · exact .inl h
  · exact .inr (.inl h)
  · exact .inr (.inr (l a h))
theorem hd_ft : ∀ a, c.hd false δ a → c.hd true δ a := fun a h => by
  rcases h with ⟨h, _⟩ | h | h
  · cases h
  · exact .inr (.inl h)
  · exact .inr (.inr h)
theorem hd_le (h : f = true → g = true) : ∀ a, c.hd f δ a → c.hd g δ a := fun a z => by
  rcases z with ⟨z, y⟩ | z | z
  · exact .inl ⟨h z, y⟩
  · exact .inr (.inl z)
  · exact .inr (.inr z)
theorem Bs.le (S : Bs c H σ δ) (l : LeA δ δ') : Bs c H σ δ' := by
  refine ⟨S.base, S.liO, S.liN, fun a h => S.own a (l.adr h), fun i j f g a ds es h1 h2 => ?_, S.len.trans l.len, fun i e h => ?_⟩
  · have q : ∀ {i : Nat} {f : Bool} {ds : List PyData}, δ'[i]? = some (.ow f a ds) → ∃ (f : Bool) (ds : List PyData), δ[i]? = some (.ow f a ds) := fun h => by
      obtain ⟨e, h1, h2⟩ := l.get h
      cases h2 with
      | refl _ => exact ⟨_, _, h1⟩
      | eqo _ => exact ⟨_, _, h1⟩
    obtain ⟨f1, d1, q1⟩ := q h1
    obtain ⟨f2, d2, q2⟩ := q h2
    exact S.one _ _ _ _ _ _ _ q1 q2
  · obtain ⟨e0, h1, h2⟩ := l.get h
    have q := S.ent i e0 h1
    have hs : ∀ f, Ex (hid (c.hd f δ) H) (hid (c.hd f δ') H) := fun f => hid_sub (hd_sub fun a => l.adr)
    cases h2 with
    | refl _ =>
      cases e with
      | no => trivial
      | va f d => obtain ⟨v, e, q⟩ := q; exact ⟨v, e, q.mono (hs f)⟩
      | ow f a ds => obtain ⟨vs, e, q, r⟩ := q; exact ⟨vs, e, q, r.mono (hs f)⟩
      | rw v => exact q
    | no _ => trivial
    | rd d => obtain ⟨v, e, q⟩ := q; exact ⟨v, e, (q.mono (hid_sub hd_ft)).mono (hs false)⟩
    | fz f a ds =>
      obtain ⟨vs, e, q, r⟩ := q
      refine ⟨.ref a, e, .lst ?_ (r.mono (hs f))⟩
      rw [hid_at]
      · exact q
      · intro z
        obtain ⟨_, o1, o2⟩ := S.own a ⟨i, f, ds, h1⟩
        rcases z with ⟨_, z⟩ | z | z
        · exact o1 z
        · exact o2 z
        · obtain ⟨k, f2, ds2, z⟩ := z
          obtain ⟨e2, h3, h4⟩ := l.get z
          have hk : k = i := by
            cases h4 with
            | refl _ => exact S.one _ _ _ _ _ _ _ h3 h1
            | eqo _ => exact S.one _ _ _ _ _ _ _ h3 h1
          subst hk
          rw [z] at h; cases h
    | eq hh => obtain ⟨v, e, q⟩ := q; subst hh; exact ⟨v, e, q.mono (hs _)⟩
    | eqo hh => obtain ⟨vs, e, q, r⟩ := q; subst hh; exact ⟨vs, e, q, r.mono (hs _)⟩
    | sc s => obtain ⟨v, e, q⟩ := q; exact ⟨v, e, q.sc s⟩

/-! names -/
theorem ev_va (S : Bs c H σ δ) (h : δ[i]? = some (.va f d)) : Ev (c.hd f δ) (tVar i) σ H d := fun H1 x Q q => by
  obtain ⟨v, e, hv⟩ := S.ent i _ h
  exact ⟨v, e, q v H1 (Ex.refl H1) (hv.mono (hid_mono x))⟩
theorem ev_sc {o : Hd} (S : Bs c H σ δ) (h : δ[i]? = some (.va f d)) (s : Sc d) : Ev o (tVar i) σ H d := (ev_va S h).sc s
theorem ev_owR (S : Bs c H σ δ) (h : δ[i]? = some (.ow f a ds)) : Ev o0 (tVar i) σ H (.list ds) := fun H1 x Q q => by
  obtain ⟨vs, e, hq, hv⟩ := S.ent i _ h
  exact ⟨.ref a, e, q _ H1 (Ex.refl H1) (.lst (by rw [hid_at id]; exact x _ _ hq) ((hv.mono (hid_mono x)).mono (hid_sub fun _ z => z.elim)))⟩

/-! stores -/
theorem adr_set {e : Ent} (h : Adr (δ.set i e) a) : Adr δ a ∨ ∃ f ds, e = .ow f a ds := by
  obtain ⟨k, f, ds, h⟩ := h
  by_cases q : i = k
  · subst q
    rw [List.getElem?_set] at h
    simp at h
    exact .inr ⟨f, ds, h.2⟩
  · rw [List.getElem?_set_ne q] at h
    exact .inl ⟨k, f, ds, h⟩
theorem set_va (S : Bs c H σ δ) {v : V} (hv : Dn (hid (c.hd f δ) H) v d) : Bs c H (σ.set i (some v)) (δ.set i (.va f d)) := by
  have sub : ∀ b, Adr (δ.set i (.va f d)) b → Adr δ b := fun b z => by
    rcases adr_set z with z | ⟨_, _, z⟩
    · exact z
    · cases z
  have hs : ∀ f', Ex (hid (c.hd f' δ) H) (hid (c.hd f' (δ.set i (.va f d))) H) := fun f' => hid_sub (hd_sub sub)
  refine ⟨S.base, S.liO, S.liN, fun a h => S.own a (sub a h), fun x y f1 f2 a ds es h1 h2 => ?_, by simp [S.len], fun k e h => ?_⟩
  · have q : ∀ {k : Nat} {f' : Bool} {ds : List PyData}, (δ.set i (.va f d))[k]? = some (.ow f' a ds) → δ[k]? = some (.ow f' a ds) := fun {k f' ds} h => by
      by_cases z : i = k
      · subst z
        rw [List.getElem?_set] at h
        simp at h
      · rwa [List.getElem?_set_ne z] at h
    exact S.one _ _ _ _ _ _ _ (q h1) (q h2)
  · by_cases z : i = k
    · subst z
      rw [List.getElem?_set] at h
      simp at h
      obtain ⟨hl, h⟩ := h
      subst h
      exact ⟨v, by rw [List.getElem?_set]; simp [S.len, hl], hv.mono (hs f)⟩
    · rw [List.getElem?_set_ne z] at h
      rw [List.getElem?_set_ne z]
      have q := S.ent k e h
      cases e with
      | no => trivial
      | va f d => obtain ⟨v, e, q⟩ := q; exact ⟨v, e, q.mono (hs _)⟩
      | ow f a ds => obtain ⟨vs, e, q, r⟩ := q; exact ⟨vs, e, q, r.mono (hs _)⟩
      | rw v => exact q
/-- a new list of the body's own -/
theorem set_ow (S : Bs c H σ δ) (he : Ex H H') {vs : List V} (np : H a = none) (hp : H' a = some (.lst vs)) (hv : DnA (hid (fun b => c.hd f δ b ∨ b = a) H') vs ds) : Bs c H' (σ.set i (some (.ref a))) (δ.set i (.ow f a ds)) := by
  have nad : ¬ Adr δ a := fun ⟨k, f, ds, h⟩ => by
    obtain ⟨vs, _, q, _⟩ := S.ent k _ h
    rw [q] at np; cases np
  have sub : ∀ b, Adr (δ.set i (.ow f a ds)) b → Adr δ b ∨ b = a := fun b z => by
    rcases adr_set z with z | ⟨_, _, z⟩
    · exact .inl z
    · injection z with z1 z2 z3; exact .inr z2.symm
  have hsub : ∀ f' b, c.hd f' (δ.set i (.ow f a ds)) b → c.hd f' δ b ∨ b = a := fun f' b z => by
    rcases z with z | z | z
    · exact .inl (.inl z)
    · exact .inl (.inr (.inl z))
    · rcases sub b z with z | z
      · exact .inl (.inr (.inr z))
      · exact .inr z
  have hs : ∀ f', Ex (hid (c.hd f' δ) H) (hid (c.hd f' (δ.set i (.ow f a ds))) H') := fun f' b u q => by
    obtain ⟨q1, q2⟩ := hid_of q
    rw [hid_at]
    · exact he _ _ q2
    · intro z
      rcases hsub f' b z with z | z
      · exact q1 z
      · subst z; rw [q2] at np; cases np
  refine ⟨S.base.trans he, S.liO.mono he, S.liN.mono he, fun b h => ?_, fun x y f1 f2 b ds1 es h1 h2 => ?_, by simp [S.len], fun k e h => ?_⟩
  · rcases sub b h with z | z
    · exact S.own b z
    · subst z
      refine ⟨?_, S.liO.fresh np, S.liN.fresh np⟩
      cases q : c.B b with
      | none => rfl
      | some u => rw [S.base _ _ q] at np; cases np
  · by_cases zx : i = x
    · by_cases zy : i = y
      · omega
      · subst zx
        rw [List.getElem?_set] at h1
        simp at h1
        rw [List.getElem?_set_ne zy] at h2
        obtain ⟨_, _, e, _⟩ := h1
        subst e
        exact absurd ⟨y, f2, es, h2⟩ nad
    · rw [List.getElem?_set_ne zx] at h1
      by_cases zy : i = y
      · subst zy
        rw [List.getElem?_set] at h2
        simp at h2
        obtain ⟨_, _, e, _⟩ := h2
        subst e
        exact absurd ⟨x, f1, ds1, h1⟩ nad
      · rw [List.getElem?_set_ne zy] at h2
        exact S.one _ _ _ _ _ _ _ h1 h2
  · by_cases z : i = k
    · subst z
      rw [List.getElem?_set] at h
      simp at h
      obtain ⟨hl, h⟩ := h
      subst h
      exact ⟨vs, by rw [List.getElem?_set]; simp [S.len, hl], hp, hv.mono (hid_sub (hsub f))⟩
    · rw [List.getElem?_set_ne z] at h
      rw [List.getElem?_set_ne z]
      have q := S.ent k e h
      cases e with
      | no => trivial
      | va f d => obtain ⟨v, e, q⟩ := q; exact ⟨v, e, q.mono (hs _)⟩
      | ow f a ds => obtain ⟨vs, e, q, r⟩ := q; exact ⟨vs, e, he _ _ q, r.mono (hs _)⟩
      | rw v => exact q
/-- the body's own list is changed -/
theorem set_in (S : Bs c H σ δ) (h : δ[i]? = some (.ow f a ds)) {vs' : List V} {ds' : List PyData} (hv : DnA (hid (c.hd f δ) H) vs' ds') : Bs c (upd H a (.lst vs')) σ (δ.set i (.ow f a ds')) := by
  obtain ⟨vs, e1, ha, _⟩ := S.ent i _ h
  have hl : i < δ.length := by
    rw [List.getElem?_eq_some_iff] at h
    exact h.1
  obtain ⟨b1, b2, b3⟩ := S.own a ⟨i, f, ds, h⟩
  have adr : ∀ b, Adr (δ.set i (.ow f a ds')) b ↔ Adr δ b := fun b => by
    constructor
    · intro z
      rcases adr_set z with z | ⟨_, _, z⟩
      · exact z
      · injection z with _ z _; subst z; exact ⟨i, f, ds, h⟩
    · rintro ⟨k, g, es, z⟩
      by_cases q : i = k
      · subst q
        rw [h] at z
        injection z with z; injection z with z1 z2 z3
        subst z1; subst z2
        exact ⟨i, f, ds', by rw [List.getElem?_set]; simp [hl]⟩
      · exact ⟨k, g, es, by rw [List.getElem?_set_ne q]; exact z⟩
  have ehd : ∀ g, c.hd g (δ.set i (.ow f a ds')) = c.hd g δ := fun g => by
    funext b; unfold Wd.hd; rw [adr b]
  have inn : ∀ g, c.hd g δ a := fun g => .inr (.inr ⟨i, f, ds, h⟩)
  have hh : ∀ g, hid (c.hd g (δ.set i (.ow f a ds'))) (upd H a (.lst vs')) = hid (c.hd g δ) H := fun g => by
    rw [ehd g, hid_upd_in (inn g)]
  have lv : ∀ {o : Hd}, Live o H → Live o (upd H a (.lst vs')) := fun {o} l b hb z => by
    by_cases q : b = a
    · subst q; rw [upd_same] at z; cases z
    · rw [upd_ne q] at z; exact l b hb z
  refine ⟨fun b u q => ?_, lv S.liO, lv S.liN, fun b z => S.own b ((adr b).mp z), fun x y f1 f2 b ds1 es h1 h2 => ?_, by simp [S.len], fun k e q => ?_⟩
  · rw [upd_ne (fun z => by subst z; rw [b1] at q; cases q)]
    exact S.base _ _ q
  · have q : ∀ {k : Nat} {f' : Bool} {ds1 : List PyData}, (δ.set i (.ow f a ds'))[k]? = some (.ow f' b ds1) → ∃ (f' : Bool) (ds1 : List PyData), δ[k]? = some (.ow f' b ds1) := fun {k f' ds1} z => by
      by_cases w : i = k
      · subst w
        rw [List.getElem?_set] at z
        simp at z
        obtain ⟨_, _, e, _⟩ := z
        subst e
        exact ⟨f, ds, h⟩
      · rw [List.getElem?_set_ne w] at z; exact ⟨_, _, z⟩
    obtain ⟨_, _, q1⟩ := q h1
    obtain ⟨_, _, q2⟩ := q h2
    exact S.one _ _ _ _ _ _ _ q1 q2
  · by_cases z : i = k
    · subst z
      rw [List.getElem?_set] at q
      simp at q
      obtain ⟨_, q⟩ := q
      subst q
      exact ⟨vs', e1, upd_same, by rw [hh]; exact hv⟩
    · rw [List.getElem?_set_ne z] at q
      have w := S.ent k e q
      cases e with
      | no => trivial
      | va f d => obtain ⟨v, e, w⟩ := w; exact ⟨v, e, by rw [hh]; exact w⟩
      | ow g b es =>
        obtain ⟨ws, e, w, r⟩ := w
        refine ⟨ws, e, ?_, by rw [hh]; exact r⟩
        rw [upd_ne]
        · exact w
        · intro y
          subst y
          exact z (S.one _ _ _ _ _ _ _ h q)
      | rw v => exact w

/-! statements -/
variable {D : Ends} {tu tw : TS} {t : TT} {b : Bool}
theorem s_asg (S : Bs c H σ δ) (h : Ev (c.hd f δ) te σ H d) (k : ∀ σ1 H1, Bs c H1 σ1 (δ.set i (.va f d)) → D.nx σ1 H1) : tAsg te (gName i) D σ H :=
  h.go fun v H2 e2 hv => k _ _ (set_va (S.mono e2) hv)
theorem s_asgN (S : Bs c H σ δ) (h : EvN (c.hd f δ) te σ H ds) (k : ∀ a σ1 H1, Bs c H1 σ1 (δ.set i (.ow f a ds)) → D.nx σ1 H1) : tAsg te (gName i) D σ H :=
  h H (Ex.refl H) _ fun p vs H2 np e2 hp hv => k p _ _ (set_ow S e2 np hp hv)
theorem s_asg2 (S : Bs c H σ δ) (h : Ev (c.hd f δ) te σ H d) (k : ∀ σ1 H1, Bs c H1 σ1 ((δ.set i (.va f d)).set j (.va f d)) → D.nx σ1 H1) : tAsg2 te (gName i) (gName j) D σ H :=
  h.go fun v H2 e2 hv => k _ _ (set_va (set_va (S.mono e2) hv) (hv.mono (hid_sub (hd_sub fun b z => by
    rcases adr_set z with z | ⟨_, _, z⟩
    · exact z
    · cases z))))
theorem s_ret (S : Bs c H σ δ) (h : Ev (c.hd f δ) te σ H d) (k : ∀ v H1, Ex c.B H1 → Live c.O H1 → Dn (hid (c.hd f []) H1) v d → D.rt v H1) : tRet te D σ H :=
  h.go fun v H2 e2 hv => k v H2 (S.base.trans e2) (S.liO.mono e2) (hv.mono (hid_sub (hd_sub fun b ⟨i, f, ds, z⟩ => by simp at z)))
theorem s_if (S : Bs c H σ δ) (h : EvT t σ H b) (h1 : b = true → ∀ H1, Bs c H1 σ δ → tu D σ H1) (h2 : b = false → ∀ H1, Bs c H1 σ δ → tw D σ H1) : tIfS t tu tw D σ H :=
  h H (Ex.refl H) _ fun H1 e => by
    cases b with
    | true => rw [if_pos rfl]; exact h1 rfl H1 (S.mono e)
    | false => rw [if_neg Bool.false_ne_true]; exact h2 rfl H1 (S.mono e)
theorem s_drop (S : Bs c H σ δ) (h : Ev o0 te σ H d) (k : ∀ H1, Bs c H1 σ δ → D.nx σ H1) : tDrop te D σ H := h.go fun v H2 e2 _ => k H2 (S.mono e2)
theorem s_aug {x y : Int} {p : Int → Int → Int} (S : Bs c H σ δ) (hx : δ[i]? = some (.va f (.int x))) (h : Ev o0 te σ H (.int y)) (k : ∀ σ1 H1, Bs c H1 σ1 (δ.set i (.va true (.int (p x y)))) → D.nx σ1 H1) : tAug i te (ipI p) D σ H := by
  obtain ⟨v, e, hv⟩ := S.ent i _ hx
  cases hv
  refine ⟨_, e, h.go fun v H2 e2 hv => ?_⟩
  cases hv
  exact ⟨x, y, rfl, rfl, k _ _ (set_va (S.mono e2) (.int _))⟩
theorem s_app (S : Bs c H σ δ) (hx : δ[i]? = some (.ow f a ds)) (h : Ev (c.hd f δ) te σ H d) (hz : ds.length < 100000) (k : ∀ H1, Bs c H1 σ (δ.set i (.ow f a (ds ++ [d]))) → D.nx σ H1) :
    tDrop (tBM K "list" rAppend (tVar i) (tCons te tNil)) D σ H := by
  obtain ⟨vs, e, ha, hv⟩ := S.ent i _ hx
  refine ⟨.ref a, e, .inl ⟨rfl, vs, .inl (.inl ha)⟩, h.go fun v H2 e2 hd => ⟨a, vs, v, rfl, rfl, e2 _ _ ha, Evl.sz_lt (by rw [hv.length]; exact hz), k _ ?_⟩⟩
  exact set_in (S.mono e2) hx ((hv.mono (hid_mono e2)).append (.one hd))
theorem s_setI {ti : TE} {m : Int} {n : Nat} (S : Bs c H σ δ) (hx : δ[i]? = some (.ow f a ds)) (h : Ev (c.hd f δ) te σ H d) (hi : Ev o0 ti σ H (.int m)) (hm : ixN ds.length m = some n) (k : ∀ H1, Bs c H1 σ (δ.set i (.ow f a (ds.set n d))) → D.nx σ H1) :
    tAsg te (gSub (tVar i) ti rSetL) D σ H :=
  h.go fun v H2 e2 hd => by
    have S2 := S.mono e2
    obtain ⟨vs, e, ha, hv⟩ := S2.ent i _ hx
    refine ⟨.ref a, e, (hi.mono e2).go fun w H3 e3 hw => ?_⟩
    cases hw
    refine ⟨a, vs, m, n, rfl, rfl, e3 _ _ ha, by rw [hv.length]; exact hm, k _ ?_⟩
    exact set_in (S2.mono e3) hx ((hv.mono (hid_mono e3)).set (hd.mono (hid_mono e3)) n)
end
end HL
namespace HL
open PySem PySem.Spec PyProof.Rows L2
open Evl (Ex)

/-- slices of any list -/
def cutG {α : Type} (xs : List α) (lo hi : Option Int) : List α := (xs.drop (HT.sIx xs.length 0 lo)).take (HT.sIx xs.length xs.length hi - HT.sIx xs.length 0 lo)
theorem DnA.cut {H : Hp} {vs : List V} {ds : List PyData} (h : DnA H vs ds) (lo hi : Option Int) : DnA H (cutV vs lo hi) (cutG ds lo hi) := by
  unfold cutV cutG
  rw [h.length]
  exact (h.drop _).take _
theorem DnA.atI {H : Hp} {vs : List V} {ds : List PyData} {m : Int} {d : PyData} (h : DnA H vs ds) (e : L2.atI ds m = some d) : ∃ v, L2.atI vs m = some v ∧ Dn H v d := by
  unfold L2.atI at e ⊢
  rw [h.length]
  cases q : ixN ds.length m with
  | none => rw [q] at e; cases e
  | some j => rw [q] at e; exact h.get e
theorem DnA.hidNew {o : Hd} {H : Hp} {vs : List V} {ds : List PyData} {p : Addr} {u : HO} (h : DnA (hid o H) vs ds) (np : H p = none) : DnA (hid (fun a => o a ∨ a = p) (upd H p u)) vs ds := h.mono (fun b x hb => by
  obtain ⟨h1, h2⟩ := hid_of hb
  have nb : b ≠ p := ne_of_none h2 np
  rw [hid_at (fun z => z.elim h1 nb), upd_ne nb]; exact h2)

section
variable {K : PySem.W.Frag} {c : Wd} {o : Hd} {H H1 H' : Hp} {σ : Sta} {δ δ' : List Ent} {i j : Nat} {f g : Bool} {a : Addr} {d e : PyData} {ds es : List PyData} {ta tb te : TE} {tl th : TO}

/-! len, items, slices -/
theorem ev_len (ha : Ev o0 ta σ H (.list ds)) : Ev o (tCB (fun xs H Q => ∃ p ys, xs = [.ref p] ∧ (SqL K H p ys ∨ SqT K H p ys) ∧ Q (.int ys.length) H) (tCons ta tNil)) σ H (.int ds.length) := fun H1 x Q q =>
  ha H1 x _ fun v H2 e2 hv => by
    cases hv.up with
    | lst h r => exact ⟨_, _, rfl, .inl (.inl (.inl h)), by rw [r.length]; exact q _ H2 e2 (.int _)⟩
theorem ev_lenT (ha : Ev o0 ta σ H (.tuple ds)) : Ev o (tCB (fun xs H Q => ∃ p ys, xs = [.ref p] ∧ (SqL K H p ys ∨ SqT K H p ys) ∧ Q (.int ys.length) H) (tCons ta tNil)) σ H (.int ds.length) := fun H1 x Q q =>
  ha H1 x _ fun v H2 e2 hv => by
    cases hv.up with
    | tup h r => exact ⟨_, _, rfl, .inr (.inl (.inl h)), by rw [r.length]; exact q _ H2 e2 (.int _)⟩
theorem ev_lenS {z : Str} (ha : Ev o0 ta σ H (.str z)) (hz : z.length ≤ 100000) : Ev o (tCB (fun xs H Q => ∃ z, xs = [.str z] ∧ z.length ≤ sizeLine ∧ Q (.int z.length) H) (tCons ta tNil)) σ H (.int z.length) := fun H1 x Q q =>
  ha H1 x _ fun v H2 e2 hv => by
    cases hv
    exact ⟨z, rfl, Evl.sz_of hz, q _ H2 e2 (.int _)⟩
theorem ev_ixL {m : Int} (ha : Ev o ta σ H (.list ds)) (hi : Ev o0 tb σ H (.int m)) (hg : atI ds m = some d) : Ev o (tOp (rIxL K) ta tb) σ H d := fun H1 x Q q =>
  ha H1 x _ fun v H2 e2 hv => hi H2 (x.trans e2) _ fun w H3 e3 hw => by
    cases hw
    cases hv with
    | lst h r =>
      obtain ⟨y, y1, y2⟩ := (r.mono (hid_mono e3)).atI hg
      exact ⟨_, _, m, y, rfl, rfl, .inl (.inl (e3 _ _ (hid_ex _ _ h))), y1, q _ H3 (e2.trans e3) y2⟩
theorem ev_ixT {m : Int} (ha : Ev o ta σ H (.tuple ds)) (hi : Ev o0 tb σ H (.int m)) (hg : atI ds m = some d) : Ev o (tOp (rIxT K) ta tb) σ H d := fun H1 x Q q =>
  ha H1 x _ fun v H2 e2 hv => hi H2 (x.trans e2) _ fun w H3 e3 hw => by
    cases hw
    cases hv with
    | tup h r =>
      obtain ⟨y, y1, y2⟩ := (r.mono (hid_mono e3)).atI hg
      exact ⟨_, _, m, y, rfl, rfl, .inl (.inl (e3 _ _ (hid_ex _ _ h))), y1, q _ H3 (e2.trans e3) y2⟩
/-- an item of the body's own list -/
theorem ev_ixO {m : Int} (S : Bs c H σ δ) (hx : δ[i]? = some (.ow f a ds)) (hi : Ev o0 tb σ H (.int m)) (hg : atI ds m = some d) : Ev (c.hd f δ) (tOp (rIxL K) (tVar i) tb) σ H d := fun H1 x Q q => by
  obtain ⟨vs, e, ha, r⟩ := S.ent i _ hx
  refine ⟨.ref a, e, hi H1 x _ fun w H3 e3 hw => ?_⟩
  cases hw
  obtain ⟨y, y1, y2⟩ := (r.mono (hid_mono (x.trans e3))).atI hg
  exact ⟨a, vs, m, y, rfl, rfl, .inl (.inl (e3 _ _ (x _ _ ha))), y1, q _ H3 e3 y2⟩
theorem eo_none : EvO tNoPart σ H none := fun H1 _ _ q => q H1 (Ex.refl H1)
theorem eo_some {m : Int} (h : Ev o0 te σ H (.int m)) : EvO (tPart te) σ H (some m) := fun H1 x _ q => h H1 x _ fun v H2 e2 hv => by cases hv; exact ⟨m, rfl, q H2 e2⟩
theorem en_sl {lo hi : Option Int} (h : Ev o te σ H (.list ds)) (h1 : EvO tl σ H lo) (h2 : EvO th σ H hi) : EvN o (tSl (rSlL K) te tl th) σ H (cutG ds lo hi) := fun H1 x _ q =>
  h H1 x _ fun v H2 e2 hv => h1 H2 (x.trans e2) _ fun H3 e3 => h2 H3 ((x.trans e2).trans e3) _ fun H4 e4 => by
    cases hv with
    | lst h r =>
      refine ⟨_, _, rfl, .inl (.inl (e4 _ _ (e3 _ _ (hid_ex _ _ h)))), fun p np => ?_⟩
      exact q p _ _ (Evl.fresh_back (e2.trans (e3.trans e4)) np) ((e2.trans (e3.trans e4)).trans (Evl.Ex.new np)) upd_same ((((r.mono (hid_mono (e3.trans e4)))).cut lo hi).hidNew np)
theorem en_rev (h : Ev o te σ H (.list ds)) : EvN o (tRevL K te) σ H ds.reverse := fun H1 x _ q =>
  h H1 x _ fun v H2 e2 hv => by
    cases hv with
    | lst h r => exact ⟨_, _, rfl, .inl (.inl (hid_ex _ _ h)), fun p np => q p _ _ (Evl.fresh_back e2 np) (e2.trans (Evl.Ex.new np)) upd_same (r.reverse.hidNew np)⟩
theorem en_cat (ha : Ev o ta σ H (.list ds)) (hb : Ev o tb σ H (.list es)) (hz : ds.length + es.length ≤ 100000) : EvN o (tOp rCat ta tb) σ H (ds ++ es) := fun H1 x _ q =>
  ha H1 x _ fun v H2 e2 hv => hb H2 (x.trans e2) _ fun w H3 e3 hw => by
    cases hv with
    | lst h r =>
      cases hw with
      | lst h' r' =>
        exact ⟨_, _, _, _, rfl, rfl, e3 _ _ (hid_ex _ _ h), hid_ex _ _ h', Evl.sz_of (by rw [r.length, r'.length]; exact hz), fun p np =>
          q p _ _ (Evl.fresh_back (e2.trans e3) np) ((e2.trans e3).trans (Evl.Ex.new np)) upd_same (((r.mono (hid_mono e3)).append r').hidNew np)⟩
theorem en_rep {m : Int} (ha : Ev o ta σ H (.list ds)) (hb : Ev o0 tb σ H (.int m)) (h0 : -100000 ≤ m) (h1 : m ≤ 100000) (hz : ds.length * m.toNat ≤ 100000) : EvN o (tOp rRep ta tb) σ H (List.replicate m.toNat ds).flatten := fun H1 x _ q =>
  ha H1 x _ fun v H2 e2 hv => hb H2 (x.trans e2) _ fun w H3 e3 hw => by
    cases hw
    cases hv with
    | lst h r =>
      exact ⟨_, m, _, rfl, rfl, e3 _ _ (hid_ex _ _ h), by omega, by omega, Evl.sz_of (by rw [r.length]; exact hz), fun p np =>
        q p _ _ (Evl.fresh_back (e2.trans e3) np) ((e2.trans e3).trans (Evl.Ex.new np)) upd_same (((r.mono (hid_mono e3)).flatten_rep _).hidNew np)⟩
theorem en_listL (ha : Ev o ta σ H (.list ds)) : EvN o (tCB (fun xs H Q => ∃ p ys, xs = [.ref p] ∧ (SqL K H p ys ∨ SqT K H p ys) ∧ ∀ l, H l = none → Q (.ref l) (upd H l (.lst ys))) (tCons ta tNil)) σ H ds := fun H1 x _ q =>
  ha H1 x _ fun v H2 e2 hv => by
    cases hv with
    | lst h r => exact ⟨_, _, rfl, .inl (.inl (.inl (hid_ex _ _ h))), fun p np => q p _ _ (Evl.fresh_back e2 np) (e2.trans (Evl.Ex.new np)) upd_same (r.hidNew np)⟩
theorem en_listT (ha : Ev o ta σ H (.tuple ds)) : EvN o (tCB (fun xs H Q => ∃ p ys, xs = [.ref p] ∧ (SqL K H p ys ∨ SqT K H p ys) ∧ ∀ l, H l = none → Q (.ref l) (upd H l (.lst ys))) (tCons ta tNil)) σ H ds := fun H1 x _ q =>
  ha H1 x _ fun v H2 e2 hv => by
    cases hv with
    | tup h r => exact ⟨_, _, rfl, .inr (.inl (.inl (hid_ex _ _ h))), fun p np => q p _ _ (Evl.fresh_back e2 np) (e2.trans (Evl.Ex.new np)) upd_same (r.hidNew np)⟩
theorem ev_tupL (l : Live o H) (ha : Ev o ta σ H (.list ds)) : Ev o (tCB (fun xs H Q => ∃ p ys, xs = [.ref p] ∧ ((SqL K H p ys ∧ ∀ l, H l = none → Q (.ref l) (upd H l (.tup ys))) ∨ (SqT K H p ys ∧ Q (.ref p) H))) (tCons ta tNil)) σ H (.tuple ds) := fun H1 x _ q =>
  ha H1 x _ fun v H2 e2 hv => by
    cases hv with
    | lst h r => exact ⟨_, _, rfl, .inl ⟨.inl (.inl (hid_ex _ _ h)), fun p np => q _ _ (e2.trans (Evl.Ex.new np)) (.tup (at_new ((l.mono x).mono e2) np) (r.mono (hid_upd_new np)))⟩⟩
theorem ev_tupT (ha : Ev o ta σ H (.tuple ds)) : Ev o (tCB (fun xs H Q => ∃ p ys, xs = [.ref p] ∧ ((SqL K H p ys ∧ ∀ l, H l = none → Q (.ref l) (upd H l (.tup ys))) ∨ (SqT K H p ys ∧ Q (.ref p) H))) (tCons ta tNil)) σ H (.tuple ds) := fun H1 x _ q =>
  ha H1 x _ fun v H2 e2 hv => by
    cases hv with
    | tup h r => exact ⟨_, _, rfl, .inr ⟨.inl (.inl (hid_ex _ _ h)), q _ _ e2 (.tup h r)⟩⟩

/-! built-in functions of numbers -/
theorem ev_abs {m : Int} (ha : Ev o0 ta σ H (.int m)) : Ev o (tCB (fun xs H Q => ∃ i, xs = [.int i] ∧ Q (.int (if i < 0 then -i else i)) H) (tCons ta tNil)) σ H (.int (if m < 0 then -m else m)) := fun H1 x _ q =>
  ha H1 x _ fun v H2 e2 hv => by cases hv; exact ⟨m, rfl, q _ H2 e2 (.int _)⟩
theorem ev_intI {m : Int} (ha : Ev o0 ta σ H (.int m)) : Ev o (tCB (fun xs H Q => (∃ i, xs = [.int i] ∧ Q (.int i) H) ∨ ∃ k, xs = [.bl k] ∧ Q (.int (if k then 1 else 0)) H) (tCons ta tNil)) σ H (.int m) := fun H1 x _ q =>
  ha H1 x _ fun v H2 e2 hv => by cases hv; exact .inl ⟨m, rfl, q _ H2 e2 (.int _)⟩
theorem ev_max2 {m n : Int} (ha : Ev o0 ta σ H (.int m)) (hb : Ev o0 tb σ H (.int n)) : Ev o (tCB (fun xs H Q => ∃ i j, xs = [.int i, .int j] ∧ Q (.int (if j > i then j else i)) H) (tCons ta (tCons tb tNil))) σ H (.int (if n > m then n else m)) := fun H1 x _ q =>
  ha H1 x _ fun v H2 e2 hv => hb H2 (x.trans e2) _ fun w H3 e3 hw => by cases hv; cases hw; exact ⟨m, n, rfl, q _ H3 (e2.trans e3) (.int _)⟩
theorem ev_min2 {m n : Int} (ha : Ev o0 ta σ H (.int m)) (hb : Ev o0 tb σ H (.int n)) : Ev o (tCB (fun xs H Q => ∃ i j, xs = [.int i, .int j] ∧ Q (.int (if j < i then j else i)) H) (tCons ta (tCons tb tNil))) σ H (.int (if n < m then n else m)) := fun H1 x _ q =>
  ha H1 x _ fun v H2 e2 hv => hb H2 (x.trans e2) _ fun w H3 e3 hw => by cases hv; cases hw; exact ⟨m, n, rfl, q _ H3 (e2.trans e3) (.int _)⟩
/-- the greatest of whole numbers -/
def maxI : List Int → Int
  | [] => 0
  | [x] => x
  | x :: y :: r => max x (maxI (y :: r))
theorem maxI_is : ∀ (xs : List Int) (m : Int), m ∈ xs → (∀ x ∈ xs, x ≤ m) → maxI xs = m
  | [], m, h, _ => by simp at h
  | [x], m, h, _ => by simp at h; simp [maxI, h]
  | x :: y :: r, m, h, hle => by
    have h1 := hle x (by simp)
    by_cases q : m ∈ y :: r
    · have ih := maxI_is (y :: r) m q (fun z hz => hle z (by simp at hz ⊢; right; exact hz))
      simp only [maxI] at ih ⊢
      rw [ih]; omega
    · have hx : x = m := by simp at h q; rcases h with h | h | h
                            · exact h.symm
                            · exact absurd h q.1
                            · exact absurd h q.2
      subst hx
      have hb : maxI (y :: r) ≤ x := by
        have : maxI (y :: r) ∈ y :: r := by
          clear q h h1 hle
          induction r generalizing y with
          | nil => simp [maxI]
          | cons z r ih =>
            simp only [maxI]
            have := ih z
            rcases Int.le_total y (maxI (z :: r)) with q | q
            · rw [Int.max_eq_right q]; exact List.mem_cons_of_mem _ this
            · rw [Int.max_eq_left q]; simp
        exact hle _ (List.mem_cons_of_mem _ this)
      simp only [maxI]; omega
theorem ev_maxL {ns : List Int} (ha : Ev o0 ta σ H (.list (ns.map .int))) (hne : 0 < ns.length) : Ev o (tCB (rMax K) (tCons ta tNil)) σ H (.int (maxI ns)) := fun H1 x _ q =>
  ha H1 x _ fun v H2 e2 hv => by
    cases hv with
    | lst h r =>
      have er := r.ints
      subst er
      exact ⟨_, ns, rfl, .inl (.inl (hid_ex _ _ h)), hne, fun m hm hle => by rw [← maxI_is ns m hm hle]; exact q _ H2 e2 (.int _)⟩

/-! isinstance -/
def tyN : PyData → String
  | .none => "NoneType" | .bool _ => "bool" | .int _ => "int" | .str _ => "str" | .list _ => "list" | .tuple _ => "tuple" | .dict _ => "dict"
theorem Dn.ty {v : V} (h : Dn H v d) : TyX K H v (.type (tyN d)) := by
  cases h with
  | non => exact .base .non
  | bl b => exact .base (.bl b)
  | int i => exact .base (.int i)
  | str x => exact .base (.str x)
  | lst h _ => exact .base (.lst h)
  | tup h _ => exact .base (.tup h)
  | dct h _ => exact .base (.dK h)
def isAN (t T : String) : Bool := t == T || (T == "int" && t == "bool")
def isA (d : PyData) (T : String) : Bool := isAN (tyN d) T
theorem kit_all : ∀ t ∈ ["NoneType", "bool", "int", "str", "list", "tuple", "dict"], ∀ T ∈ ["list", "tuple", "int", "bool", "str", "dict"], kitB t T = some (isAN t T) := by decide +kernel
theorem tyN_mem : tyN d ∈ ["NoneType", "bool", "int", "str", "list", "tuple", "dict"] := by cases d <;> simp [tyN]
theorem kit_is {T : String} (hT : T = "list" ∨ T = "tuple" ∨ T = "int" ∨ T = "bool" ∨ T = "str" ∨ T = "dict") : PySem.W.kitOne K (.type (tyN d)) (.type T) = some (isA d T) := by
  exact kit_ty (kit_all _ tyN_mem _ (by rcases hT with rfl | rfl | rfl | rfl | rfl | rfl <;> simp))
theorem ev_isi {T : String} (hT : T = "list" ∨ T = "tuple" ∨ T = "int" ∨ T = "bool" ∨ T = "str" ∨ T = "dict") (ha : Ev o0 ta σ H d) : Ev o (tCB (rIsi K) (tCons ta (tCons (tC (.ty T)) tNil))) σ H (.bool (isA d T)) := fun H1 x _ q =>
  ha H1 x _ fun v H2 e2 hv => ⟨v, .ty T, _, _, _, rfl, .ty T, hv.up.ty, kit_is hT, q _ H2 e2 (.bl _)⟩
theorem ev_isi2 {T U : String} (hT : T = "list" ∨ T = "tuple" ∨ T = "int" ∨ T = "bool" ∨ T = "str" ∨ T = "dict") (hU : U = "list" ∨ U = "tuple" ∨ U = "int" ∨ U = "bool" ∨ U = "str" ∨ U = "dict") (ha : Ev o0 ta σ H d) :
    Ev o (tCB (rIsiT K) (tCons ta (tCons (tTup (tCons (tC (.ty T)) (tCons (tC (.ty U)) tNil))) tNil))) σ H (.bool (isA d T || isA d U)) := fun H1 x _ q =>
  ha H1 x _ fun v H2 e2 hv => ⟨by show 2 ≤ sizeLine; decide, fun p np => ⟨v, p, _, _, _, _, rfl, upd_same, .cons (.ty T) (.cons (.ty U) .nil), (hv.up.mono (Evl.Ex.new np)).ty, (by
    refine kitAny_cons (kit_is hT) (fun h => ?_) (fun h => ?_) (r := isA d T || isA d U)
    · rw [h, Bool.false_or]
      exact kitAny_cons (kit_is hU) (fun h => by rw [h]; exact kitAny_nil) (fun h => h)
    · rw [h]; rfl), q _ _ (e2.trans (Evl.Ex.new np)) (.bl _)⟩⟩

/-! ### promises of defs, calls -/
/-- all that comes back is new -/
noncomputable def new (H H' : Hp) : Hp := hid (fun a => H a ≠ none) H'
def SpF (R : List PyData → PyData → Prop) : Sp := fun vs H Q _ => ∃ ds d, DnA H vs ds ∧ R ds d ∧ ∀ v H', Ex H H' → Dn (new H H') v d → Q v H'
/-- what comes back may hold what was passed -/
def SpS (R : List PyData → PyData → Prop) : Sp := fun vs H Q _ => ∃ (o : Hd) (ds : List PyData) (d : PyData), Live o H ∧ DnA (hid o H) vs ds ∧ R ds d ∧ ∀ v H', Ex H H' → Dn (hid o H') v d → Q v H'
theorem ev_callF {R : List PyData → PyData → Prop} {E : XK} {tr : TA} (l : Live o H) (h : EvA o0 tr σ H ds) (hr : R ds d) : Ev o (tCall (SpF R) [] E tr) σ H d := fun H1 x Q q =>
  h H1 x _ fun vs H2 e2 hv => ⟨ds, d, by rw [List.append_nil]; exact hv.up, hr, fun v H3 e3 hd => q v H3 (e2.trans e3) (hd.mono (hid_sub ((l.mono x).mono e2)))⟩
theorem ev_callS {R : List PyData → PyData → Prop} {E : XK} {tr : TA} (l : Live o H) (h : EvA o tr σ H ds) (hr : R ds d) : Ev o (tCall (SpS R) [] E tr) σ H d := fun H1 x Q q =>
  h H1 x _ fun vs H2 e2 hv => ⟨o, ds, d, (l.mono x).mono e2, by rw [List.append_nil]; exact hv, hr, fun v H3 e3 hd => q v H3 (e2.trans e3) hd⟩
end

/-! the state at a def's entry -/
theorem start_get {N : List Str} {vs : List V} {k : Nat} (h : k < vs.length) (hN : vs.length ≤ N.length) : (L2.start N vs)[k]? = some (some vs[k]) := by
  unfold L2.start
  rw [List.getElem?_append_left (by simpa using h)]
  simp [h]
end HL
namespace HL
open PySem PySem.Spec PyProof.Rows L2
open Evl (Ex)

/-- while the loop runs, all that stands at its start but the body's own lists stays -/
noncomputable def Wd.at_ (c : Wd) (δ : List Ent) (H : Hp) : Wd := { c with B := hid (fun a => Adr δ a) H }
section
variable {K : PySem.W.Frag} {c : Wd} {o : Hd} {H H1 H' : Hp} {σ : Sta} {δ δ' : List Ent} {i j : Nat} {f g : Bool} {a : Addr} {d e : PyData} {ds es : List PyData} {ta tb te tl : TE} {t : TT} {ts : TS} {D : Ends} {S : Type}
theorem Bs.under (B : Bs c H σ δ) : Ex c.B (hid (fun a => Adr δ a) H) := fun a u h => by
  rw [hid_at]
  · exact B.base _ _ h
  · intro z; rw [(B.own a z).1] at h; cases h
theorem Bs.rebase (B : Bs c H σ δ) : Bs (c.at_ δ H) H σ δ := by
  refine ⟨hid_ex, B.liO, B.liN, fun a h => ⟨hid_in h, (B.own a h).2⟩, B.one, B.len, fun i e h => B.ent i e h⟩
theorem Bs.debase {B0 : Hp} (e : Ex c.B B0) (B : Bs { c with B := B0 } H σ δ) : Bs c H σ δ := by
  refine ⟨e.trans B.base, B.liO, B.liN, fun a h => ⟨?_, (B.own a h).2⟩, B.one, B.len, fun i e h => B.ent i e h⟩
  cases q : c.B a with
  | none => rfl
  | some u => have := (B.own a h).1; simp only at this; rw [e _ _ q] at this; cases this
/-- what stood at the loop's start is still to be used -/
theorem Bs.pers {B0 : Hp} {H2 : Hp} {σ2 : Sta} (B : Bs { c with B := B0 } H2 σ2 δ') (h : ∀ a u, hid (c.hd f δ) H a = some u → B0 a = some u) : Ex (hid (c.hd f δ) H) (hid (c.hd f δ') H2) := fun a u q => by
  have q0 := h a u q
  obtain ⟨q1, q2⟩ := hid_of q
  rw [hid_at]
  · exact B.base _ _ q0
  · intro z
    rcases z with z | z | z
    · exact q1 (.inl z)
    · exact q1 (.inr (.inl z))
    · have := (B.own a z).1; simp only at this; rw [q0] at this; cases this
theorem at_has {a : Addr} {u : HO} (q : hid (c.hd f δ) H a = some u) : hid (fun a => Adr δ a) H a = some u := by
  obtain ⟨q1, q2⟩ := hid_of q
  rw [hid_at]
  · exact q2
  · intro z; exact q1 (.inr (.inr z))

/-- what holds between two turns -/
def NX (c : Wd) (B0 : Hp) (S : Type) (Δ : S → List Ent) (I : Nat → S → Prop) (n : Nat) : Sta → Hp → Prop := fun σ H => ∃ s, I n s ∧ Bs { c with B := B0 } H σ (Δ s)
/-- for x in a list -/
theorem s_forL (S : Type) (I : Nat → S → Prop) (Δ : S → List Ent) (s0 : S) (B : Bs c H σ δ) (h : Ev (c.hd f δ) tl σ H (.list ds)) (w : LeA δ (Δ s0)) (i0 : I 0 s0)
    (body : ∀ (B0 : Hp), Ex c.B B0 → ∀ (n : Nat) (s : S) (d : PyData) (σ1 : Sta) (H1 : Hp), ds[n]? = some d → I n s → Bs { c with B := B0 } H1 σ1 ((Δ s).set j (.va f d)) →
      ts { D with nx := NX c B0 S Δ I (n + 1), ct := NX c B0 S Δ I (n + 1), bk := D.nx } σ1 H1)
    (done : ∀ s σ1 H1, I ds.length s → Bs c H1 σ1 (Δ s) → D.nx σ1 H1) : tFor (iList K tl) (gName j) ts D σ H := by
  refine h.go fun v H2 e2 hv => ?_
  have B2 := B.mono e2
  cases hv with
  | @lst p vs _ hp hr =>
    have u := B2.under
    have W : ∀ {H3 σ3 s}, Bs { c with B := hid (fun a => Adr δ a) H2 } H3 σ3 (Δ s) → Ex (hid (c.hd f δ) H2) (hid (c.hd f (Δ s)) H3) := fun B3 => B3.pers fun a u q => at_has q
    refine ⟨p, rfl, ⟨vs, .inl (.inl (hid_ex _ _ hp))⟩, for_list (xs := vs) (NX c _ S Δ I) ⟨s0, i0, (B2.rebase).le w⟩ (fun n σ3 H3 _ ⟨s, _, B3⟩ => ?_) (fun n x σ3 H3 hx ⟨s, hi, B3⟩ => ?_) (fun σ3 H3 ⟨s, hi, B3⟩ => ?_)⟩
    · exact .inl (.inl (hid_ex _ _ (W B3 _ _ hp)))
    · obtain ⟨d, hd, q⟩ := hr.get' hx
      exact body _ u n s d _ _ hd hi (set_va B3 (q.mono (W B3)))
    · rw [hr.length] at hi
      exact done s _ _ hi (B3.debase u)
/-- for x in a tuple -/
theorem s_forT (S : Type) (I : Nat → S → Prop) (Δ : S → List Ent) (s0 : S) (B : Bs c H σ δ) (h : Ev (c.hd f δ) tl σ H (.tuple ds)) (w : LeA δ (Δ s0)) (i0 : I 0 s0)
    (body : ∀ (B0 : Hp), Ex c.B B0 → ∀ (n : Nat) (s : S) (d : PyData) (σ1 : Sta) (H1 : Hp), ds[n]? = some d → I n s → Bs { c with B := B0 } H1 σ1 ((Δ s).set j (.va f d)) →
      ts { D with nx := NX c B0 S Δ I (n + 1), ct := NX c B0 S Δ I (n + 1), bk := D.nx } σ1 H1)
    (done : ∀ s σ1 H1, I ds.length s → Bs c H1 σ1 (Δ s) → D.nx σ1 H1) : tFor (iTup K tl) (gName j) ts D σ H := by
  refine h.go fun v H2 e2 hv => ?_
  have B2 := B.mono e2
  cases hv with
  | @tup p vs _ hp hr =>
    have u := B2.under
    have W : ∀ {H3 σ3 s}, Bs { c with B := hid (fun a => Adr δ a) H2 } H3 σ3 (Δ s) → Ex (hid (c.hd f δ) H2) (hid (c.hd f (Δ s)) H3) := fun B3 => B3.pers fun a u q => at_has q
    refine ⟨p, rfl, ⟨vs, .inl (.inl (hid_ex _ _ hp))⟩, for_tup (xs := vs) (NX c _ S Δ I) ⟨s0, i0, (B2.rebase).le w⟩ (fun n σ3 H3 _ ⟨s, _, B3⟩ => ?_) (fun n x σ3 H3 hx ⟨s, hi, B3⟩ => ?_) (fun σ3 H3 ⟨s, hi, B3⟩ => ?_)⟩
    · exact .inl (.inl (hid_ex _ _ (W B3 _ _ hp)))
    · obtain ⟨d, hd, q⟩ := hr.get' hx
      exact body _ u n s d _ _ hd hi (set_va B3 (q.mono (W B3)))
    · rw [hr.length] at hi
      exact done s _ _ hi (B3.debase u)
/-- for x in a list of the body's own, that the loop leaves as it is -/
theorem s_forO (S : Type) (I : Nat → S → Prop) (Δ : S → List Ent) (s0 : S) (B : Bs c H σ δ) (hk : ∀ s, (Δ s)[i]? = some (.ow f a ds)) (w : LeA δ (Δ s0)) (i0 : I 0 s0)
    (body : ∀ (B0 : Hp), Ex c.B B0 → ∀ (n : Nat) (s : S) (d : PyData) (σ1 : Sta) (H1 : Hp), ds[n]? = some d → I n s → Bs { c with B := B0 } H1 σ1 ((Δ s).set j (.va f d)) →
      ts { D with nx := NX c B0 S Δ I (n + 1), ct := NX c B0 S Δ I (n + 1), bk := D.nx } σ1 H1)
    (done : ∀ s σ1 H1, I ds.length s → Bs c H1 σ1 (Δ s) → D.nx σ1 H1) : tFor (iList K (tVar i)) (gName j) ts D σ H := by
  obtain ⟨vs, e, hp, hr⟩ := (B.le w).ent i _ (hk s0)
  have u := B.under
  have hl := hr.length
  refine ⟨.ref a, e, a, rfl, ⟨vs, .inl (.inl hp)⟩, ⟨fun n m σ3 H3 => m = ds.length - n ∧ n ≤ ds.length ∧ NX c (hid (fun a => Adr δ a) H) S Δ I n σ3 H3, ⟨ds.length, rfl, Nat.zero_le _, s0, i0, B.rebase.le w⟩, ?_⟩⟩
  rintro n m σ3 H3 ⟨rfl, hn, s, hi, B3⟩
  obtain ⟨vs3, e3, hp3, hr3⟩ := B3.ent i _ (hk s)
  by_cases hlt : n < ds.length
  · obtain ⟨v, hv, hd⟩ := hr3.get (List.getElem?_eq_getElem hlt)
    refine .inr ⟨⟨vs3, v, .inl (.inl hp3), hv⟩, NX c _ S Δ I (n + 1), fun σ' H' q => ⟨ds.length - (n + 1), by omega, rfl, hlt, q⟩, ?_⟩
    rintro x H' ⟨rfl, hx⟩
    have ex : v = x := Option.some.inj (hv.symm.trans (hx _ (.inl (.inl hp3))))
    subst ex
    exact body _ u n s _ _ _ (List.getElem?_eq_getElem hlt) hi (set_va B3 hd)
  · have en : n = ds.length := by omega
    subst en
    exact .inl ⟨⟨vs3, .inl (.inl hp3), by rw [hr3.length]; exact Nat.le_refl _⟩, done s _ _ hi (B3.debase u)⟩
/-- for k in range(..) -/
theorem forR_core {lo : Int} {m : Nat} (S : Type) (I : Nat → S → Prop) (Δ : S → List Ent) (s0 : S) (B : Bs c H σ δ) (w : LeA δ (Δ s0)) (i0 : I 0 s0)
    (body : ∀ (B0 : Hp), Ex c.B B0 → ∀ (n : Nat) (s : S) (σ1 : Sta) (H1 : Hp), n < m → I n s → Bs { c with B := B0 } H1 σ1 ((Δ s).set j (.va true (.int (lo + n)))) →
      ts { D with nx := NX c B0 S Δ I (n + 1), ct := NX c B0 S Δ I (n + 1), bk := D.nx } σ1 H1)
    (done : ∀ s σ1 H1, I m s → Bs c H1 σ1 (Δ s) → D.nx σ1 H1) :
    ∃ W : Nat → Nat → L2.St → Hp → Prop, (∃ m, W 0 m σ H) ∧ ∀ i k σ H, W i k σ H →
      ((Itr lo m).stop i H ∧ D.nx σ H) ∨ ((Itr lo m).go i H ∧ ∃ N : L2.St → Hp → Prop, (∀ σ' H', N σ' H' → ∃ m', m' < k ∧ W (i + 1) m' σ' H') ∧ ∀ x H', (Itr lo m).yld i H x H' → gName j x σ H' fun σ2 H2 => ts { D with nx := N, ct := N, bk := D.nx } σ2 H2) := by
  have u := B.under
  exact for_range (lo := lo) (n := m) (NX c (hid (fun a => Adr δ a) H) S Δ I) ⟨s0, i0, B.rebase.le w⟩ (fun n σ3 H3 hn ⟨s, hi, B3⟩ => body _ u n s _ _ hn hi (set_va B3 (.int _))) (fun σ3 H3 ⟨s, hi, B3⟩ => done s _ _ hi (B3.debase u))
theorem s_forR1 {m : Int} (S : Type) (I : Nat → S → Prop) (Δ : S → List Ent) (s0 : S) (B : Bs c H σ δ) (h : Ev o0 te σ H (.int m)) (hm : -1000000 ≤ m ∧ m ≤ 1000000) (w : LeA δ (Δ s0)) (i0 : I 0 s0)
    (body : ∀ (B0 : Hp), Ex c.B B0 → ∀ (n : Nat) (s : S) (σ1 : Sta) (H1 : Hp), n < m.toNat → I n s → Bs { c with B := B0 } H1 σ1 ((Δ s).set j (.va true (.int (0 + n)))) →
      ts { D with nx := NX c B0 S Δ I (n + 1), ct := NX c B0 S Δ I (n + 1), bk := D.nx } σ1 H1)
    (done : ∀ s σ1 H1, I m.toNat s → Bs c H1 σ1 (Δ s) → D.nx σ1 H1) : tFor (iRng1 (tCons te tNil)) (gName j) ts D σ H := by
  refine h.go fun v H2 e2 hv => ?_
  cases hv
  exact ⟨m, rfl, by omega, by omega, forR_core S I Δ s0 (B.mono e2) w i0 body done⟩
theorem s_forR2 {lo m : Int} (S : Type) (I : Nat → S → Prop) (Δ : S → List Ent) (s0 : S) (B : Bs c H σ δ) (h1 : Ev o0 ta σ H (.int lo)) (h2 : Ev o0 te σ H (.int m)) (hm : -1000000 ≤ lo ∧ lo ≤ 1000000 ∧ -1000000 ≤ m ∧ m ≤ 1000000) (w : LeA δ (Δ s0)) (i0 : I 0 s0)
    (body : ∀ (B0 : Hp), Ex c.B B0 → ∀ (n : Nat) (s : S) (σ1 : Sta) (H1 : Hp), n < (m - lo).toNat → I n s → Bs { c with B := B0 } H1 σ1 ((Δ s).set j (.va true (.int (lo + n)))) →
      ts { D with nx := NX c B0 S Δ I (n + 1), ct := NX c B0 S Δ I (n + 1), bk := D.nx } σ1 H1)
    (done : ∀ s σ1 H1, I (m - lo).toNat s → Bs c H1 σ1 (Δ s) → D.nx σ1 H1) : tFor (iRng2 (tCons ta (tCons te tNil))) (gName j) ts D σ H := by
  refine h1.go fun v H2 e2 hv => (h2.mono e2).go fun v' H3 e3 hv' => ?_
  cases hv; cases hv'
  exact ⟨lo, m, rfl, by omega, forR_core S I Δ s0 (B.mono (e2.trans e3)) w i0 body done⟩
/-- for k in reversed(range(m)) -/
theorem s_forRev {m : Int} (S : Type) (I : Nat → S → Prop) (Δ : S → List Ent) (s0 : S) (B : Bs c H σ δ) (h : Ev o0 te σ H (.int m)) (hm : -1000000 ≤ m ∧ m ≤ 1000000) (w : LeA δ (Δ s0)) (i0 : I 0 s0)
    (body : ∀ (B0 : Hp), Ex c.B B0 → ∀ (n : Nat) (s : S) (σ1 : Sta) (H1 : Hp), n < m.toNat → I n s → Bs { c with B := B0 } H1 σ1 ((Δ s).set j (.va true (.int (m - 1 - n)))) →
      ts { D with nx := NX c B0 S Δ I (n + 1), ct := NX c B0 S Δ I (n + 1), bk := D.nx } σ1 H1)
    (done : ∀ s σ1 H1, I m.toNat s → Bs c H1 σ1 (Δ s) → D.nx σ1 H1) : tFor (iRevR (tRg1 te)) (gName j) ts D σ H := by
  refine h.go fun v H2 e2 hv => ?_
  cases hv
  have B2 := B.mono e2
  have u := B2.under
  refine ⟨m, rfl, by omega, by omega, by omega, by omega, ?_⟩
  have em : (m - 0).toNat = m.toNat := by rw [Int.sub_zero]
  rw [em]
  refine for_rangeC (n := m.toNat) (NX c (hid (fun a => Adr δ a) H2) S Δ I) ⟨s0, i0, B2.rebase.le w⟩ (fun n σ3 H3 hn ⟨s, hi, B3⟩ => ?_) (fun σ3 H3 ⟨s, hi, B3⟩ => done s _ _ hi (B3.debase u))
  have ev : (0 + ((m.toNat : Nat) : Int) - 1 + (n : Nat) * -1) = m - 1 - n := by omega
  rw [ev]
  exact body _ u n s _ _ hn hi (set_va B3 (.int _))
/-- while: M falls -/
theorem s_while (S : Type) (I : S → Prop) (M : S → Nat) (Δ : S → List Ent) (s0 : S) (b : S → Bool) (B : Bs c H σ δ) (w : LeA δ (Δ s0)) (i0 : I s0)
    (test : ∀ (B0 : Hp), Ex c.B B0 → ∀ (s : S) (σ1 : Sta) (H1 : Hp), I s → Bs { c with B := B0 } H1 σ1 (Δ s) → EvT t σ1 H1 (b s))
    (body : ∀ (B0 : Hp), Ex c.B B0 → ∀ (s : S) (σ1 : Sta) (H1 : Hp), I s → b s = true → Bs { c with B := B0 } H1 σ1 (Δ s) →
      ts { D with nx := fun σ' H' => ∃ s', (I s' ∧ M s' < M s) ∧ Bs { c with B := B0 } H' σ' (Δ s'), ct := fun σ' H' => ∃ s', (I s' ∧ M s' < M s) ∧ Bs { c with B := B0 } H' σ' (Δ s'), bk := D.nx } σ1 H1)
    (done : ∀ s σ1 H1, I s → b s = false → Bs c H1 σ1 (Δ s) → D.nx σ1 H1) : tWhile t ts D σ H := by
  have u := B.under
  refine ⟨fun m σ' H' => ∃ s, m = M s ∧ I s ∧ Bs { c with B := hid (fun a => Adr δ a) H } H' σ' (Δ s), ⟨_, s0, rfl, i0, B.rebase.le w⟩, ?_⟩
  rintro m σ1 H1 ⟨s, rfl, hi, B1⟩
  refine test _ u s σ1 H1 hi B1 H1 (Ex.refl H1) _ fun H2 e2 => ?_
  cases q : b s with
  | true =>
    rw [if_pos rfl]
    exact ⟨_, fun σ' H' ⟨s', ⟨h1, h2⟩, h3⟩ => ⟨M s', h2, s', rfl, h1, h3⟩, body _ u s σ1 H2 hi q (B1.mono e2)⟩
  | false =>
    rw [if_neg Bool.false_ne_true]
    exact done s _ _ hi q ((B1.mono e2).debase u)

/-! comprehensions with one for, over a list -/
theorem en_lcL {α : Type} (xs : List α) (em : α → PyData) (cs : α → Bool) (e : α → PyData) (B : Bs c H σ δ) (h : Ev (c.hd f δ) tl σ H (.list (xs.map em))) (hz : xs.length ≤ 40000)
    (body : ∀ (c' : Wd) (x : α) (σ1 : Sta) (H1 : Hp), x ∈ xs → Bs c' H1 σ1 (δ.set j (.va f (em x))) → EvT t σ1 H1 (cs x) ∧ (cs x = true → Ev (c'.hd g (δ.set j (.va f (em x)))) te σ1 H1 (e x)))
    (hj : δ[j]? = some .no) : EvN (c.hd g δ) (tLc (iList K tl) (gName j) t te [j]) σ H ((xs.filter cs).map e) := fun H1 x1 Q q => by
  refine h H1 x1 _ fun v H2 e2 hv => ?_
  have B2 : Bs c H2 σ δ := B.mono (x1.trans e2)
  cases hv with
  | @lst p vs _ hp hr =>
    refine ⟨p, rfl, ⟨vs, .inl (.inl (hid_ex _ _ hp))⟩, fun C nC => ?_⟩
    -- the block's world: the new list may not be met
    let c' : Wd := { c with B := hid (fun a => Adr δ a ∨ a = C) H2, N := fun a => c.N a ∨ a = C }
    have eC : ∀ {u}, Ex H2 (upd H2 C u) := fun {u} => Evl.Ex.new nC
    have hdn : ∀ f' a, c'.hd f' δ a ↔ c.hd f' δ a ∨ a = C := fun f' a => by
      constructor
      · rintro (z | (z | z) | z)
        · exact .inl (.inl z)
        · exact .inl (.inr (.inl z))
        · exact .inr z
        · exact .inl (.inr (.inr z))
      · rintro ((z | z | z) | z)
        · exact .inl z
        · exact .inr (.inl (.inl z))
        · exact .inr (.inr z)
        · exact .inr (.inl (.inr z))
    have lift : ∀ {H3 : Hp} (f' : Bool), Ex (hid (fun a => Adr δ a ∨ a = C) H2) H3 → Ex (hid (c.hd f' δ) H2) (hid (c'.hd f' δ) H3) := fun {H3} f' e3 a u q => by
      obtain ⟨q1, q2⟩ := hid_of q
      have ha : ¬ a = C := ne_of_none q2 nC
      rw [hid_at (fun z => ((hdn f' a).mp z).elim q1 ha)]
      exact e3 a u (by rw [hid_at (fun z => z.elim (fun z => q1 (.inr (.inr z))) ha)]; exact q2)
    have mk : ∀ {H3 : Hp} {acc : List V}, Ex (hid (fun a => Adr δ a ∨ a = C) H2) H3 → (∀ a u, Adr δ a → H2 a = some u → H3 a = some u) → H3 C = some (.lst acc) → Live c.O H3 → Live c.N H3 → Bs c' H3 (wipe σ [j]) δ := fun {H3 acc} e3 eo hC lO lN => by
      refine ⟨e3, lO, fun a ha => ?_, fun a ha => ⟨(show hid (fun a => Adr δ a ∨ a = C) H2 a = none from hid_in (Or.inl ha)), (B2.own a ha).2.1, fun z => ?_⟩, B2.one, by rw [wipe_length]; exact B2.len, fun i e he => ?_⟩
      · rcases ha with ha | ha
        · exact lN a ha
        · subst ha; rw [hC]; simp
      · rcases z with z | z
        · exact (B2.own a ha).2.2 z
        · subst z
          obtain ⟨k, f, ds, ha⟩ := ha
          obtain ⟨vs, _, q, _⟩ := B2.ent k _ ha
          rw [q] at nC; cases nC
      · have w := B2.ent i e he
        have nj : ∀ f d, e = .va f d → i ≠ j := fun f d z y => by subst y; subst z; rw [hj] at he; cases he
        have nj2 : ∀ f a d, e = .ow f a d → i ≠ j := fun f a d z y => by subst y; subst z; rw [hj] at he; cases he
        have nj3 : ∀ v, e = .rw v → i ≠ j := fun v z y => by subst y; subst z; rw [hj] at he; cases he
        cases e with
        | no => trivial
        | va f' d =>
          obtain ⟨v, e, w⟩ := w
          refine ⟨v, ?_, w.mono (lift f' e3)⟩
          show ((wipe σ []).set j none)[i]? = _
          rw [List.getElem?_set_ne (fun z => nj _ _ rfl z.symm)]; exact e
        | ow f' b es =>
          obtain ⟨ws, e, w, r⟩ := w
          refine ⟨ws, ?_, eo _ _ ⟨i, f', es, he⟩ w, r.mono (lift f' e3)⟩
          show ((wipe σ []).set j none)[i]? = _
          rw [List.getElem?_set_ne (fun z => nj2 _ _ _ rfl z.symm)]; exact e
        | rw v =>
          show ((wipe σ []).set j none)[i]? = _
          rw [List.getElem?_set_ne (fun z => nj3 _ rfl z.symm)]; exact w
    refine lc_list (xs := vs) (fun n H3 => ∃ acc, Ex (hid (fun a => Adr δ a ∨ a = C) H2) H3 ∧ (∀ a u, a ≠ C → H2 a = some u → H3 a = some u) ∧ H3 C = some (.lst acc) ∧ DnA (hid (c'.hd g δ) H3) acc (((xs.take n).filter cs).map e) ∧ Live c.O H3 ∧ Live c.N H3) ?_ (fun n H3 _ ⟨acc, e3, en, _, _, _, _⟩ => ?_) (fun n x H3 hx hP => ?_) (fun H3 hP => ?_)
    · refine ⟨[], fun a u h => ?_, fun a u na h => ?_, upd_same, ?_, (B2.liO).mono eC, (B2.liN).mono eC⟩
      · obtain ⟨h1, h2⟩ := hid_of h
        rw [upd_ne (fun z => h1 (.inr z))]; exact h2
      · rw [upd_ne na]; exact h
      · simp; exact .nil
    · refine .inl (.inl (en _ _ ?_ (hid_ex _ _ hp)))
      intro z; subst z; rw [hid_ex _ _ hp] at nC; cases nC
    · obtain ⟨acc, e3, en, hC, hacc, lO, lN⟩ := hP
      obtain ⟨dd, hdd, hdv⟩ := hr.get' hx
      rw [List.getElem?_map] at hdd
      obtain ⟨y, hy, ey⟩ := Option.map_eq_some_iff.mp hdd
      subst ey
      have B3 : Bs c' H3 (wipe σ [j]) δ := mk e3 (fun a u ha h => en a u (fun z => by
        subst z
        obtain ⟨k, f, ds, ha⟩ := ha
        obtain ⟨vs, _, q, _⟩ := B2.ent k _ ha
        rw [q] at nC; cases nC) h) hC lO lN
      have B4 := set_va (i := j) B3 (hdv.mono (lift f e3))
      have hyx : y ∈ xs := List.mem_of_getElem? hy
      obtain ⟨t1, t2⟩ := body c' y _ _ hyx B4
      have hn : n < xs.length := by rw [List.getElem?_eq_some_iff] at hy; exact hy.1
      have tk : xs.take (n + 1) = xs.take n ++ [y] := by rw [List.take_add_one, hy]; rfl
      have keepAdr : ∀ {H4 : Hp}, Ex H3 H4 → Ex (hid (fun a => Adr δ a ∨ a = C) H2) H4 ∧ (∀ a u, a ≠ C → H2 a = some u → H4 a = some u) := fun e4 => ⟨e3.trans e4, fun a u na h => e4 _ _ (en a u na h)⟩
      refine ⟨?_, t1 H3 (Ex.refl H3) _ fun H4 e4 => ?_⟩
      · show ((((wipe σ []).set j none).set j (some x)).set j none) = _
        rw [List.set_set, List.set_set]; rfl
      · cases hb : cs y with
        | false =>
          rw [if_neg Bool.false_ne_true]
          refine ⟨acc, (keepAdr e4).1, (keepAdr e4).2, e4 _ _ hC, ?_, lO.mono e4, lN.mono e4⟩
          rw [tk, List.filter_append]
          simp only [List.filter_cons, hb, List.filter_nil, Bool.false_eq_true, if_false, List.append_nil]
          exact hacc.mono (hid_mono e4)
        | true =>
          rw [if_pos rfl]
          refine t2 hb H4 e4 _ fun v5 H5 e5 h5 => ?_
          have e45 := e4.trans e5
          refine ⟨acc, e45 _ _ hC, ?_, acc ++ [v5], ?_, ?_, upd_same, ?_, ?_, ?_⟩
          · refine Evl.sz_lt ?_
            rw [hacc.length, List.length_map]
            have h1 : ((xs.take n).filter cs).length ≤ (xs.take n).length := List.length_filter_le _ _
            have h2 : (xs.take n).length ≤ n := List.length_take_le _ _
            omega
          · intro a u h
            obtain ⟨h1, h2⟩ := hid_of h
            rw [upd_ne (fun z => h1 (.inr z))]
            exact (keepAdr e45).1 a u h
          · intro a u na h
            rw [upd_ne na]
            exact (keepAdr e45).2 a u na h
          · rw [hid_upd_in ((hdn g C).mpr (.inr rfl)), tk, List.filter_append, List.map_append]
            simp only [List.filter_cons, hb, List.filter_nil, if_true, List.map_cons, List.map_nil]
            refine (hacc.mono (hid_mono e45)).append (.one (h5.mono (hid_sub (hd_sub fun b z => ?_))))
            obtain ⟨k, f', ds', z⟩ := z
            exact ⟨k, f', ds', by rw [List.getElem?_set_ne (fun y => by subst y; rw [hj] at z; cases z)]; exact z⟩
          · intro b hb z
            by_cases q : b = C
            · subst q; rw [upd_same] at z; cases z
            · rw [upd_ne q] at z; exact (lO.mono e45) b hb z
          · intro b hb z
            by_cases q : b = C
            · subst q; rw [upd_same] at z; cases z
            · rw [upd_ne q] at z; exact (lN.mono e45) b hb z
    · obtain ⟨acc, e3, en, hC, hacc, lO, lN⟩ := hP
      have el : vs.length = xs.length := by rw [hr.length, List.length_map]
      rw [el, List.take_length] at hacc
      refine q C acc H3 (Evl.fresh_back e2 nC) (e2.trans fun a u h => ?_) hC (hacc.mono (hid_sub fun a z => (hdn g a).mpr z))
      exact en a u (ne_of_none h nC) h
end
end HL
namespace HL
open PySem PySem.Spec PyProof.Rows L2
open Evl (Ex)
section
variable {K : PySem.W.Frag} {c : Wd} {o : Hd} {H H1 H' : Hp} {σ : Sta} {δ δ' : List Ent} {i j : Nat} {f g : Bool} {a : Addr} {d e : PyData} {ds es : List PyData} {ta tb te tl : TE} {t : TT} {ts : TS} {D : Ends} {S : Type}
theorem it_R1 {m : Int} (h : Ev o0 te σ H (.int m)) (hm : -1000000 ≤ m ∧ m ≤ 1000000) : ∀ H1, Ex H H1 → ∀ R : It → Hp → Prop, (∀ H2, Ex H1 H2 → R (Itr 0 m.toNat) H2) → iRng1 (tCons te tNil) σ H1 R := fun H1 x R q => h H1 x _ fun v H2 e2 hv => by
  cases hv
  exact ⟨m, rfl, by omega, by omega, q H2 e2⟩
theorem it_R2 {lo m : Int} (h1 : Ev o0 ta σ H (.int lo)) (h : Ev o0 te σ H (.int m)) (hm : -1000000 ≤ lo ∧ lo ≤ 1000000 ∧ -1000000 ≤ m ∧ m ≤ 1000000) : ∀ H1, Ex H H1 → ∀ R : It → Hp → Prop, (∀ H2, Ex H1 H2 → R (Itr lo (m - lo).toNat) H2) → iRng2 (tCons ta (tCons te tNil)) σ H1 R := fun H1 x R q => h1 H1 x _ fun v H2 e2 hv => h H2 (x.trans e2) _ fun w H3 e3 hw => by
  cases hv; cases hw
  exact ⟨lo, m, rfl, by omega, q H3 (e2.trans e3)⟩
/-! the same over a range -/
theorem en_lcR {lo : Int} {m : Nat} (cs : Nat → Bool) (e : Nat → PyData) {tr : TI} (B : Bs c H σ δ) (h : ∀ H1, Ex H H1 → ∀ R : It → Hp → Prop, (∀ H2, Ex H1 H2 → R (Itr lo m) H2) → tr σ H1 R) (hz : m ≤ 40000)
    (body : ∀ (c' : Wd) (x : Nat) (σ1 : Sta) (H1 : Hp), x < m → Bs c' H1 σ1 (δ.set j (.va true (.int (lo + x)))) → EvT t σ1 H1 (cs x) ∧ (cs x = true → Ev (c'.hd g (δ.set j (.va true (.int (lo + x))))) te σ1 H1 (e x)))
    (hj : δ[j]? = some .no) : EvN (c.hd g δ) (tLc tr (gName j) t te [j]) σ H (((List.range m).filter cs).map e) := fun H1 x1 Q q => by
  refine h H1 x1 _ fun H2 e2 => ?_
  have B2 : Bs c H2 σ δ := B.mono (x1.trans e2)
  · refine fun C nC => ?_
    -- the block's world: the new list may not be met
    let c' : Wd := { c with B := hid (fun a => Adr δ a ∨ a = C) H2, N := fun a => c.N a ∨ a = C }
    have eC : ∀ {u}, Ex H2 (upd H2 C u) := fun {u} => Evl.Ex.new nC
    have hdn : ∀ f' a, c'.hd f' δ a ↔ c.hd f' δ a ∨ a = C := fun f' a => by
      constructor
      · rintro (z | (z | z) | z)
        · exact .inl (.inl z)
        · exact .inl (.inr (.inl z))
        · exact .inr z
        · exact .inl (.inr (.inr z))
      · rintro ((z | z | z) | z)
        · exact .inl z
        · exact .inr (.inl (.inl z))
        · exact .inr (.inr z)
        · exact .inr (.inl (.inr z))
    have lift : ∀ {H3 : Hp} (f' : Bool), Ex (hid (fun a => Adr δ a ∨ a = C) H2) H3 → Ex (hid (c.hd f' δ) H2) (hid (c'.hd f' δ) H3) := fun {H3} f' e3 a u q => by
      obtain ⟨q1, q2⟩ := hid_of q
      have ha : ¬ a = C := ne_of_none q2 nC
      rw [hid_at (fun z => ((hdn f' a).mp z).elim q1 ha)]
      exact e3 a u (by rw [hid_at (fun z => z.elim (fun z => q1 (.inr (.inr z))) ha)]; exact q2)
    have mk : ∀ {H3 : Hp} {acc : List V}, Ex (hid (fun a => Adr δ a ∨ a = C) H2) H3 → (∀ a u, Adr δ a → H2 a = some u → H3 a = some u) → H3 C = some (.lst acc) → Live c.O H3 → Live c.N H3 → Bs c' H3 (wipe σ [j]) δ := fun {H3 acc} e3 eo hC lO lN => by
      refine ⟨e3, lO, fun a ha => ?_, fun a ha => ⟨(show hid (fun a => Adr δ a ∨ a = C) H2 a = none from hid_in (Or.inl ha)), (B2.own a ha).2.1, fun z => ?_⟩, B2.one, by rw [wipe_length]; exact B2.len, fun i e he => ?_⟩
      · rcases ha with ha | ha
        · exact lN a ha
        · subst ha; rw [hC]; simp
      · rcases z with z | z
        · exact (B2.own a ha).2.2 z
        · subst z
          obtain ⟨k, f, ds, ha⟩ := ha
          obtain ⟨vs, _, q, _⟩ := B2.ent k _ ha
          rw [q] at nC; cases nC
      · have w := B2.ent i e he
        have nj : ∀ f d, e = .va f d → i ≠ j := fun f d z y => by subst y; subst z; rw [hj] at he; cases he
        have nj2 : ∀ f a d, e = .ow f a d → i ≠ j := fun f a d z y => by subst y; subst z; rw [hj] at he; cases he
        have nj3 : ∀ v, e = .rw v → i ≠ j := fun v z y => by subst y; subst z; rw [hj] at he; cases he
        cases e with
        | no => trivial
        | va f' d =>
          obtain ⟨v, e, w⟩ := w
          refine ⟨v, ?_, w.mono (lift f' e3)⟩
          show ((wipe σ []).set j none)[i]? = _
          rw [List.getElem?_set_ne (fun z => nj _ _ rfl z.symm)]; exact e
        | ow f' b es =>
          obtain ⟨ws, e, w, r⟩ := w
          refine ⟨ws, ?_, eo _ _ ⟨i, f', es, he⟩ w, r.mono (lift f' e3)⟩
          show ((wipe σ []).set j none)[i]? = _
          rw [List.getElem?_set_ne (fun z => nj2 _ _ _ rfl z.symm)]; exact e
        | rw v =>
          show ((wipe σ []).set j none)[i]? = _
          rw [List.getElem?_set_ne (fun z => nj3 _ rfl z.symm)]; exact w
    refine lc_range (lo := lo) (n := m) (fun n H3 => ∃ acc, Ex (hid (fun a => Adr δ a ∨ a = C) H2) H3 ∧ (∀ a u, a ≠ C → H2 a = some u → H3 a = some u) ∧ H3 C = some (.lst acc) ∧ DnA (hid (c'.hd g δ) H3) acc (((List.range n).filter cs).map e) ∧ Live c.O H3 ∧ Live c.N H3) ?_ (fun n H3 hn hP => ?_) (fun H3 hP => ?_)
    · refine ⟨[], fun a u h => ?_, fun a u na h => ?_, upd_same, ?_, (B2.liO).mono eC, (B2.liN).mono eC⟩
      · obtain ⟨h1, h2⟩ := hid_of h
        rw [upd_ne (fun z => h1 (.inr z))]; exact h2
      · rw [upd_ne na]; exact h
      · simp; exact .nil
    · obtain ⟨acc, e3, en, hC, hacc, lO, lN⟩ := hP
      have B3 : Bs c' H3 (wipe σ [j]) δ := mk e3 (fun a u ha h => en a u (fun z => by
        subst z
        obtain ⟨k, f, ds, ha⟩ := ha
        obtain ⟨vs, _, q, _⟩ := B2.ent k _ ha
        rw [q] at nC; cases nC) h) hC lO lN
      have B4 := set_va (i := j) (f := true) B3 (.int (lo + n))
      obtain ⟨t1, t2⟩ := body c' n _ _ hn B4
      have tk : List.range (n + 1) = List.range n ++ [n] := List.range_succ
      have keepAdr : ∀ {H4 : Hp}, Ex H3 H4 → Ex (hid (fun a => Adr δ a ∨ a = C) H2) H4 ∧ (∀ a u, a ≠ C → H2 a = some u → H4 a = some u) := fun e4 => ⟨e3.trans e4, fun a u na h => e4 _ _ (en a u na h)⟩
      refine ⟨?_, t1 H3 (Ex.refl H3) _ fun H4 e4 => ?_⟩
      · show ((((wipe σ []).set j none).set j (some (.int (lo + n)))).set j none) = _
        rw [List.set_set, List.set_set]; rfl
      · cases hb : cs n with
        | false =>
          rw [if_neg Bool.false_ne_true]
          refine ⟨acc, (keepAdr e4).1, (keepAdr e4).2, e4 _ _ hC, ?_, lO.mono e4, lN.mono e4⟩
          rw [tk, List.filter_append]
          simp only [List.filter_cons, hb, List.filter_nil, Bool.false_eq_true, if_false, List.append_nil]
          exact hacc.mono (hid_mono e4)
        | true =>
          rw [if_pos rfl]
          refine t2 hb H4 e4 _ fun v5 H5 e5 h5 => ?_
          have e45 := e4.trans e5
          refine ⟨acc, e45 _ _ hC, ?_, acc ++ [v5], ?_, ?_, upd_same, ?_, ?_, ?_⟩
          · refine Evl.sz_lt ?_
            rw [hacc.length, List.length_map]
            have h1 : ((List.range n).filter cs).length ≤ (List.range n).length := List.length_filter_le _ _
            rw [List.length_range] at h1
            omega
          · intro a u h
            obtain ⟨h1, h2⟩ := hid_of h
            rw [upd_ne (fun z => h1 (.inr z))]
            exact (keepAdr e45).1 a u h
          · intro a u na h
            rw [upd_ne na]
            exact (keepAdr e45).2 a u na h
          · rw [hid_upd_in ((hdn g C).mpr (.inr rfl)), tk, List.filter_append, List.map_append]
            simp only [List.filter_cons, hb, List.filter_nil, if_true, List.map_cons, List.map_nil]
            refine (hacc.mono (hid_mono e45)).append (.one (h5.mono (hid_sub (hd_sub fun b z => ?_))))
            obtain ⟨k, f', ds', z⟩ := z
            exact ⟨k, f', ds', by rw [List.getElem?_set_ne (fun y => by subst y; rw [hj] at z; cases z)]; exact z⟩
          · intro b hb z
            by_cases q : b = C
            · subst q; rw [upd_same] at z; cases z
            · rw [upd_ne q] at z; exact (lO.mono e45) b hb z
          · intro b hb z
            by_cases q : b = C
            · subst q; rw [upd_same] at z; cases z
            · rw [upd_ne q] at z; exact (lN.mono e45) b hb z
    · obtain ⟨acc, e3, en, hC, hacc, lO, lN⟩ := hP
      refine q C acc H3 (Evl.fresh_back e2 nC) (e2.trans fun a u h => ?_) hC (hacc.mono (hid_sub fun a z => (hdn g a).mpr z))
      exact en a u (ne_of_none h nC) h
end
end HL
namespace HL
open PySem PySem.Spec PyProof.Rows L2
open Evl (Ex)

/-! ### at a def's entry -/
theorem Adr_none {δ : List Ent} (h : ∀ (e : Ent), e ∈ δ → ∀ f a ds, e ≠ .ow f a ds) (a : Addr) : ¬ Adr δ a := fun ⟨i, f, ds, q⟩ => h _ (List.mem_of_getElem? q) f a ds rfl
theorem start_len {N : List Str} {vs : List V} (h : vs.length ≤ N.length) : (L2.start N vs).length = N.length := by
  unfold L2.start
  simp; omega
def args (f : Bool) (n : Nat) (ds : List PyData) : List Ent := ds.map (.va f) ++ List.replicate (n - ds.length) .no
theorem bs_start {N : List Str} {vs : List V} {ds : List PyData} {H : Hp} {o : Hd} (f : Bool) (l : Live o H) (hf : DnA (hid (fun a => f = true ∧ o a) H) vs ds) (hN : vs.length ≤ N.length) : Bs ⟨H, o, o0⟩ H (L2.start N vs) (args f N.length ds) := by
  have hl := hf.length
  have na : ∀ a, ¬ Adr (args f N.length ds) a := Adr_none (fun e he f' a ds' z => by
    subst z
    unfold args at he
    rcases List.mem_append.mp he with he | he
    · obtain ⟨d, _, q⟩ := List.mem_map.mp he; cases q
    · have := (List.mem_replicate.mp he).2; cases this)
  refine ⟨Ex.refl H, l, live0, fun a h => (na a h).elim, fun i j f1 g a d1 es h1 h2 => (na a ⟨i, f1, d1, h1⟩).elim, ?_, fun i e he => ?_⟩
  · rw [start_len hN]; unfold args; simp; omega
  · unfold args at he
    by_cases hi : i < ds.length
    · rw [List.getElem?_append_left (by simpa using hi), List.getElem?_map] at he
      obtain ⟨d, hd, q⟩ := Option.map_eq_some_iff.mp he
      subst q
      obtain ⟨v, hv, q⟩ := hf.get hd
      refine ⟨v, ?_, q.mono (hid_sub fun a z => ?_)⟩
      · rw [start_get (by rw [hl]; exact hi) hN]
        rw [List.getElem?_eq_some_iff] at hv
        rw [hv.2]
      · rcases z with z | z | z
        · exact z
        · exact z.elim
        · exact (na a z).elim
    · rw [List.getElem?_append_right (by simp; omega)] at he
      have := (List.mem_replicate.mp (List.mem_of_getElem? he)).2
      subst this
      trivial
theorem bs_F {N : List Str} {vs : List V} {ds : List PyData} {H : Hp} (h : DnA H vs ds) (hN : vs.length ≤ N.length) : Bs ⟨H, fun a => H a ≠ none, o0⟩ H (L2.start N vs) (args false N.length ds) :=
  bs_start false (fun _ h => h) (h.mono (fun a u q => by rw [hid_at (fun z => Bool.noConfusion z.1)]; exact q)) hN
theorem bs_S {N : List Str} {vs : List V} {ds : List PyData} {H : Hp} {o : Hd} (l : Live o H) (h : DnA (hid o H) vs ds) (hN : vs.length ≤ N.length) : Bs ⟨H, o, o0⟩ H (L2.start N vs) (args true N.length ds) :=
  bs_start true l (h.mono (hid_sub fun a z => z.2)) hN
theorem new_of {H H1 : Hp} {v : V} {d : PyData} (h : Dn (hid ((⟨H, fun a => H a ≠ none, o0⟩ : Wd).hd true []) H1) v d) : Dn (new H H1) v d := h.mono (hid_sub fun a z => .inl ⟨rfl, z⟩)
theorem hd_nil {c : Wd} {H1 : Hp} {v : V} {d : PyData} (h : Dn (hid (c.hd true []) H1) v d) : Dn (hid c.O H1) v d := h.mono (hid_sub fun a z => .inl ⟨rfl, z⟩)

/-! ### readings that change the body's own lists -/
def EvM (c : Wd) (te : TE) (σ : Sta) (H : Hp) (δ : List Ent) (d : PyData) (δ' : List Ent) : Prop := ∀ Q : VK, (∀ v H2, Bs c H2 σ δ' → (∀ a u, ¬ Adr δ a → H a = some u → H2 a = some u) → Dn (hid (c.hd true δ') H2) v d → Q v H2) → te σ H Q
/-- a def that changes the list that it is passed first -/
def SpM (R : List PyData → List PyData → PyData → List PyData → Prop) : Sp := fun vs H Q _ => ∃ (a : Addr) (xs vr : List V) (o : Hd) (ds rs : List PyData) (d : PyData) (ds' : List PyData), vs = .ref a :: vr ∧ Live o H ∧ o a ∧ H a = some (.lst xs) ∧ DnA (hid o H) xs ds ∧ DnA H vr rs ∧ R ds rs d ds' ∧
  ∀ v xs' H', (∀ b u, b ≠ a → H b = some u → H' b = some u) → H' a = some (.lst xs') → DnA (hid o H') xs' ds' → Dn (hid o H') v d → Q v H'
section
variable {K : PySem.W.Frag} {c : Wd} {o : Hd} {H H1 H' : Hp} {σ : Sta} {δ δ' δ'' : List Ent} {i j : Nat} {f g : Bool} {a : Addr} {d e : PyData} {ds ds' es : List PyData} {ta tb te tl : TE} {t : TT} {ts : TS} {D : Ends}
theorem Bs.exN (B : Bs c H σ δ) (e : Ex H H') : ∀ a u, ¬ Adr δ a → H a = some u → H' a = some u := fun a u _ h => e a u h
theorem em_pure (B : Bs c H σ δ) (h : Ev (c.hd true δ) te σ H d) : EvM c te σ H δ d δ := fun Q q => h.go fun v H2 e2 hv => q v H2 (B.mono e2) (B.exN e2) hv
theorem em_int {m : Int} (h : EvM c ta σ H δ (.int m) δ') : EvM c (tCB (fun xs H Q => (∃ i, xs = [.int i] ∧ Q (.int i) H) ∨ ∃ k, xs = [.bl k] ∧ Q (.int (if k then 1 else 0)) H) (tCons ta tNil)) σ H δ (.int m) δ' := fun Q q =>
  h _ fun v H2 B2 k2 hv => by cases hv; exact .inl ⟨m, rfl, q _ H2 B2 k2 (.int _)⟩
theorem em_I0 {p : Int → Int → Int} {x y : Int} (h : EvM c ta σ H δ (.int x) δ') (hb : ∀ H2, Bs c H2 σ δ' → Ev o0 tb σ H2 (.int y)) : EvM c (tOp (rI0 fun i j => .int (p i j)) ta tb) σ H δ (.int (p x y)) δ' := fun Q q =>
  h _ fun v H2 B2 k2 hv => (hb H2 B2).go fun w H3 e3 hw => by cases hv; cases hw; exact ⟨x, y, rfl, rfl, q _ H3 (B2.mono e3) (fun a u na h => e3 _ _ (k2 a u na h)) (.int _)⟩
theorem em_IC {C : Int → Int → Prop} {p : Int → Int → Int} {x y : Int} (h : EvM c ta σ H δ (.int x) δ') (hb : ∀ H2, Bs c H2 σ δ' → Ev o0 tb σ H2 (.int y)) (hc : C x y) : EvM c (tOp (rI C fun i j => .int (p i j)) ta tb) σ H δ (.int (p x y)) δ' := fun Q q =>
  h _ fun v H2 B2 k2 hv => (hb H2 B2).go fun w H3 e3 hw => by cases hv; cases hw; exact ⟨x, y, rfl, rfl, hc, q _ H3 (B2.mono e3) (fun a u na h => e3 _ _ (k2 a u na h)) (.int _)⟩
/-- an item of a list at a place that is drawn -/
theorem em_ixL {m : Int} (ha : Ev (c.hd true δ) ta σ H (.list ds)) (stay : ∀ p, Adr δ p ↔ Adr δ' p) (h : ∀ H2, Ex H H2 → EvM c tb σ H2 δ (.int m) δ') (hg : atI ds m = some d) : EvM c (tOp (rIxL K) ta tb) σ H δ d δ' := fun Q q =>
  ha.go fun v H2 e2 hv => h H2 e2 _ fun w H3 B3 k3 hw => by
    cases hw
    cases hv with
    | lst h r =>
      have up : Ex (hid (c.hd true δ) H2) (hid (c.hd true δ') H3) := fun b u q => by
        obtain ⟨q1, q2⟩ := hid_of q
        rw [hid_at (fun z => q1 (by
          rcases z with z | z | z
          · exact .inl z
          · exact .inr (.inl z)
          · exact .inr (.inr ((stay b).mpr z))))]
        exact k3 b u (fun z => q1 (.inr (.inr z))) q2
      obtain ⟨y, y1, y2⟩ := (r.mono up).atI hg
      exact ⟨_, _, m, y, rfl, rfl, .inl (.inl (hid_ex _ _ (up _ _ h))), y1, q _ H3 B3 (fun a u na h => k3 a u na (e2 _ _ h)) y2⟩
/-- the call of a def that changes the own list in slot i -/
theorem em_call {R : List PyData → List PyData → PyData → List PyData → Prop} {E : XK} {tr : TA} (B : Bs c H σ δ) (hx : δ[i]? = some (.ow true a ds)) (h : EvA o0 tr σ H es) (hr : R ds es d ds') :
    EvM c (tCall (SpM R) [] E (tCons (tVar i) tr)) σ H δ d (δ.set i (.ow true a ds')) := fun Q q => by
  obtain ⟨vs, e1, ha, hv⟩ := B.ent i _ hx
  refine ⟨.ref a, e1, h H (Ex.refl H) _ fun ws H2 e2 hw => ?_⟩
  have B2 := B.mono e2
  refine ⟨a, vs, ws, c.hd true δ, ds, es, d, ds', by rw [List.append_nil], B2.live true, .inr (.inr ⟨i, true, ds, hx⟩), e2 _ _ ha, hv.mono (hid_mono e2), hw.up, hr, fun v xs' H' hk hp hxs hvd => ?_⟩
  have ex : Ex H2 (upd H' a (.lst vs)) := fun b u qq => by
    by_cases z : b = a
    · subst z; rw [upd_same]; rw [e2 _ _ ha] at qq; exact qq
    · rw [upd_ne z]; exact hk b u z qq
  have ia : ∀ g, c.hd g δ a := fun g => .inr (.inr ⟨i, true, ds, hx⟩)
  have B3 := B2.mono ex
  have B4 := set_in (vs' := xs') (ds' := ds') B3 hx (by rw [hid_upd_in (ia true)]; exact hxs)
  have eH : upd (upd H' a (.lst vs)) a (.lst xs') = H' := by
    funext b
    by_cases z : b = a
    · subst z; rw [upd_same, hp]
    · rw [upd_ne z, upd_ne z]
  rw [eH] at B4
  have hl : i < δ.length := by rw [List.getElem?_eq_some_iff] at hx; exact hx.1
  refine q v H' B4 (fun b u nb hb => hk b u (fun z => nb ⟨i, true, ds, by rw [z] ; exact hx⟩) (e2 _ _ hb)) (hvd.mono (hid_sub (hd_sub fun b z => ?_)))
  rcases adr_set z with z | ⟨_, _, z⟩
  · exact z
  · injection z with _ z _; subst z; exact ⟨i, true, ds, hx⟩
theorem s_asgM (h : EvM c te σ H δ d δ') (k : ∀ σ1 H1, Bs c H1 σ1 (δ'.set i (.va true d)) → D.nx σ1 H1) : tAsg te (gName i) D σ H := h _ fun v H2 B2 _ hv => k _ _ (set_va B2 hv)
theorem s_retM {Q : V → Hp → Prop} (hD : D.rt = Q) (h : EvM c te σ H δ d δ') (k : ∀ v H1, Bs c H1 σ δ' → Dn (hid (c.hd true δ') H1) v d → Q v H1) : tRet te D σ H := h _ fun v H2 B2 _ hv => by rw [hD]; exact k v H2 B2 hv

/-! own lists -/
theorem s_pop0 {m : Int} {n : Nat} {x : PyData} (B : Bs c H σ δ) (hx : δ[i]? = some (.ow f a ds)) (h : Ev o0 te σ H (.int m)) (hb : -1000000 ≤ m ∧ m ≤ 1000000) (hm : ixN ds.length m = some n) (hd : ds[n]? = some x) (k : ∀ H1, Bs c H1 σ (δ.set i (.ow f a (ds.eraseIdx n))) → D.nx σ H1) :
    tDrop (tBM K "list" rPopAt (tVar i) (tCons te tNil)) D σ H := by
  obtain ⟨vs, e, ha, hv⟩ := B.ent i _ hx
  refine ⟨.ref a, e, .inl ⟨rfl, vs, .inl (.inl ha)⟩, h.go fun v H2 e2 hw => ?_⟩
  cases hw
  obtain ⟨y, hy, _⟩ := hv.get hd
  refine ⟨a, vs, m, n, y, rfl, rfl, e2 _ _ ha, by omega, by omega, ?_, hy, k _ ?_⟩
  · rw [hv.length]; exact (ixN_seq hm).1
  · exact set_in (B.mono e2) hx ((hv.mono (hid_mono e2)).eraseIdx n)
theorem s_ins0 {m : Int} (B : Bs c H σ δ) (hx : δ[i]? = some (.ow f a ds)) (h : Ev o0 te σ H (.int m)) (hb : 0 ≤ m ∧ m ≤ 1000000) (hd : Ev (c.hd f δ) ta σ H d) (hz : ds.length < 100000) (k : ∀ H1, Bs c H1 σ (δ.set i (.ow f a (ds.take m.toNat ++ [d] ++ ds.drop m.toNat))) → D.nx σ H1) :
    tDrop (tBM K "list" (fun x vs H Q => ∃ (l : Addr) (xs : List V) (i : Int) (y : V), x = .ref l ∧ vs = [.int i, y] ∧ H l = some (.lst xs) ∧ xs.length < sizeLine ∧ 0 ≤ i ∧ i < 2 ^ 63 ∧ Q .non (upd H l (.lst (xs.take i.toNat ++ [y] ++ xs.drop i.toNat)))) (tVar i) (tCons te (tCons ta tNil))) D σ H := by
  obtain ⟨vs, e, ha, hv⟩ := B.ent i _ hx
  refine ⟨.ref a, e, .inl ⟨rfl, vs, .inl (.inl ha)⟩, h.go fun v H2 e2 hw => (hd.mono e2).go fun y H3 e3 hy => ?_⟩
  cases hw
  have e23 := e2.trans e3
  refine ⟨a, vs, m, y, rfl, rfl, e23 _ _ ha, Evl.sz_lt (by rw [hv.length]; exact hz), hb.1, by omega, k _ ?_⟩
  have r := hv.mono (hid_mono e23)
  exact set_in (B.mono e23) hx (((r.take _).append (.one hy)).append (r.drop _))
end
end HL
namespace HL
open PySem PySem.Spec PyProof.Rows L2
open Evl (Ex)
section
variable {K : PySem.W.Frag} {c : Wd} {o : Hd} {H H1 H' : Hp} {σ : Sta} {δ δ' : List Ent} {i j : Nat} {f g b : Bool} {a : Addr} {d e : PyData} {ds es : List PyData} {ta tb te tl : TE} {t : TT} {ts tu tw tz : TS} {D : Ends} {S : Type}
theorem q_asg (S : Bs c H σ δ) (h : Ev (c.hd f δ) te σ H d) (k : ∀ σ1 H1, Bs c H1 σ1 (δ.set i (.va f d)) → tz D σ1 H1) :
    tSeq (tAsg te (gName i)) tz D σ H := s_asg (D := { D with nx := tz D }) S h k
theorem q_asgN (S : Bs c H σ δ) (h : EvN (c.hd f δ) te σ H ds) (k : ∀ a σ1 H1, Bs c H1 σ1 (δ.set i (.ow f a ds)) → tz D σ1 H1) :
    tSeq (tAsg te (gName i)) tz D σ H := s_asgN (D := { D with nx := tz D }) S h k
theorem q_asg2 (S : Bs c H σ δ) (h : Ev (c.hd f δ) te σ H d) (k : ∀ σ1 H1, Bs c H1 σ1 ((δ.set i (.va f d)).set j (.va f d)) → tz D σ1 H1) :
    tSeq (tAsg2 te (gName i) (gName j)) tz D σ H := s_asg2 (D := { D with nx := tz D }) S h k
theorem q_if (S : Bs c H σ δ) (h : EvT t σ H b) (h1 : b = true → ∀ H1, Bs c H1 σ δ → tu { D with nx := tz D } σ H1) (h2 : b = false → ∀ H1, Bs c H1 σ δ → tw { D with nx := tz D } σ H1) :
    tSeq (tIfS t tu tw) tz D σ H := s_if (D := { D with nx := tz D }) S h h1 h2
theorem q_drop (S : Bs c H σ δ) (h : Ev o0 te σ H d) (k : ∀ H1, Bs c H1 σ δ → tz D σ H1) :
    tSeq (tDrop te) tz D σ H := s_drop (D := { D with nx := tz D }) S h k
theorem q_aug {x y : Int} {p : Int → Int → Int} (S : Bs c H σ δ) (hx : δ[i]? = some (.va f (.int x))) (h : Ev o0 te σ H (.int y)) (k : ∀ σ1 H1, Bs c H1 σ1 (δ.set i (.va true (.int (p x y)))) → tz D σ1 H1) :
    tSeq (tAug i te (ipI p)) tz D σ H := s_aug (D := { D with nx := tz D }) S hx h k
theorem q_app (S : Bs c H σ δ) (hx : δ[i]? = some (.ow f a ds)) (h : Ev (c.hd f δ) te σ H d) (hz : ds.length < 100000) (k : ∀ H1, Bs c H1 σ (δ.set i (.ow f a (ds ++ [d]))) → tz D σ H1) :
    tSeq (tDrop (tBM K "list" rAppend (tVar i) (tCons te tNil))) tz D σ H := s_app (D := { D with nx := tz D }) S hx h hz k
theorem q_setI {ti : TE} {m : Int} {n : Nat} (S : Bs c H σ δ) (hx : δ[i]? = some (.ow f a ds)) (h : Ev (c.hd f δ) te σ H d) (hi : Ev o0 ti σ H (.int m)) (hm : ixN ds.length m = some n) (k : ∀ H1, Bs c H1 σ (δ.set i (.ow f a (ds.set n d))) → tz D σ H1) :
    tSeq (tAsg te (gSub (tVar i) ti rSetL)) tz D σ H := s_setI (D := { D with nx := tz D }) S hx h hi hm k
theorem q_forL (S : Type) (I : Nat → S → Prop) (Δ : S → List Ent) (s0 : S) (B : Bs c H σ δ) (h : Ev (c.hd f δ) tl σ H (.list ds)) (w : LeA δ (Δ s0)) (i0 : I 0 s0)
    (body : ∀ (B0 : Hp), Ex c.B B0 → ∀ (n : Nat) (s : S) (d : PyData) (σ1 : Sta) (H1 : Hp), ds[n]? = some d → I n s → Bs { c with B := B0 } H1 σ1 ((Δ s).set j (.va f d)) →
      ts { D with nx := NX c B0 S Δ I (n + 1), ct := NX c B0 S Δ I (n + 1), bk := tz D } σ1 H1)
    (done : ∀ s σ1 H1, I ds.length s → Bs c H1 σ1 (Δ s) → tz D σ1 H1) :
    tSeq (tFor (iList K tl) (gName j) ts) tz D σ H := s_forL (D := { D with nx := tz D }) S I Δ s0 B h w i0 body done
theorem q_forT (S : Type) (I : Nat → S → Prop) (Δ : S → List Ent) (s0 : S) (B : Bs c H σ δ) (h : Ev (c.hd f δ) tl σ H (.tuple ds)) (w : LeA δ (Δ s0)) (i0 : I 0 s0)
    (body : ∀ (B0 : Hp), Ex c.B B0 → ∀ (n : Nat) (s : S) (d : PyData) (σ1 : Sta) (H1 : Hp), ds[n]? = some d → I n s → Bs { c with B := B0 } H1 σ1 ((Δ s).set j (.va f d)) →
      ts { D with nx := NX c B0 S Δ I (n + 1), ct := NX c B0 S Δ I (n + 1), bk := tz D } σ1 H1)
    (done : ∀ s σ1 H1, I ds.length s → Bs c H1 σ1 (Δ s) → tz D σ1 H1) :
    tSeq (tFor (iTup K tl) (gName j) ts) tz D σ H := s_forT (D := { D with nx := tz D }) S I Δ s0 B h w i0 body done
theorem q_forO (S : Type) (I : Nat → S → Prop) (Δ : S → List Ent) (s0 : S) (B : Bs c H σ δ) (hk : ∀ s, (Δ s)[i]? = some (.ow f a ds)) (w : LeA δ (Δ s0)) (i0 : I 0 s0)
    (body : ∀ (B0 : Hp), Ex c.B B0 → ∀ (n : Nat) (s : S) (d : PyData) (σ1 : Sta) (H1 : Hp), ds[n]? = some d → I n s → Bs { c with B := B0 } H1 σ1 ((Δ s).set j (.va f d)) →
      ts { D with nx := NX c B0 S Δ I (n + 1), ct := NX c B0 S Δ I (n + 1), bk := tz D } σ1 H1)
    (done : ∀ s σ1 H1, I ds.length s → Bs c H1 σ1 (Δ s) → tz D σ1 H1) :
    tSeq (tFor (iList K (tVar i)) (gName j) ts) tz D σ H := s_forO (D := { D with nx := tz D }) S I Δ s0 B hk w i0 body done
theorem q_forR1 {m : Int} (S : Type) (I : Nat → S → Prop) (Δ : S → List Ent) (s0 : S) (B : Bs c H σ δ) (h : Ev o0 te σ H (.int m)) (hm : -1000000 ≤ m ∧ m ≤ 1000000) (w : LeA δ (Δ s0)) (i0 : I 0 s0)
    (body : ∀ (B0 : Hp), Ex c.B B0 → ∀ (n : Nat) (s : S) (σ1 : Sta) (H1 : Hp), n < m.toNat → I n s → Bs { c with B := B0 } H1 σ1 ((Δ s).set j (.va true (.int (0 + n)))) →
      ts { D with nx := NX c B0 S Δ I (n + 1), ct := NX c B0 S Δ I (n + 1), bk := tz D } σ1 H1)
    (done : ∀ s σ1 H1, I m.toNat s → Bs c H1 σ1 (Δ s) → tz D σ1 H1) :
    tSeq (tFor (iRng1 (tCons te tNil)) (gName j) ts) tz D σ H := s_forR1 (D := { D with nx := tz D }) S I Δ s0 B h hm w i0 body done
theorem q_forR2 {lo m : Int} (S : Type) (I : Nat → S → Prop) (Δ : S → List Ent) (s0 : S) (B : Bs c H σ δ) (h1 : Ev o0 ta σ H (.int lo)) (h2 : Ev o0 te σ H (.int m)) (hm : -1000000 ≤ lo ∧ lo ≤ 1000000 ∧ -1000000 ≤ m ∧ m ≤ 1000000) (w : LeA δ (Δ s0)) (i0 : I 0 s0)
    (body : ∀ (B0 : Hp), Ex c.B B0 → ∀ (n : Nat) (s : S) (σ1 : Sta) (H1 : Hp), n < (m - lo).toNat → I n s → Bs { c with B := B0 } H1 σ1 ((Δ s).set j (.va true (.int (lo + n)))) →
      ts { D with nx := NX c B0 S Δ I (n + 1), ct := NX c B0 S Δ I (n + 1), bk := tz D } σ1 H1)
    (done : ∀ s σ1 H1, I (m - lo).toNat s → Bs c H1 σ1 (Δ s) → tz D σ1 H1) :
    tSeq (tFor (iRng2 (tCons ta (tCons te tNil))) (gName j) ts) tz D σ H := s_forR2 (D := { D with nx := tz D }) S I Δ s0 B h1 h2 hm w i0 body done
theorem q_forRev {m : Int} (S : Type) (I : Nat → S → Prop) (Δ : S → List Ent) (s0 : S) (B : Bs c H σ δ) (h : Ev o0 te σ H (.int m)) (hm : -1000000 ≤ m ∧ m ≤ 1000000) (w : LeA δ (Δ s0)) (i0 : I 0 s0)
    (body : ∀ (B0 : Hp), Ex c.B B0 → ∀ (n : Nat) (s : S) (σ1 : Sta) (H1 : Hp), n < m.toNat → I n s → Bs { c with B := B0 } H1 σ1 ((Δ s).set j (.va true (.int (m - 1 - n)))) →
      ts { D with nx := NX c B0 S Δ I (n + 1), ct := NX c B0 S Δ I (n + 1), bk := tz D } σ1 H1)
    (done : ∀ s σ1 H1, I m.toNat s → Bs c H1 σ1 (Δ s) → tz D σ1 H1) :
    tSeq (tFor (iRevR (tRg1 te)) (gName j) ts) tz D σ H := s_forRev (D := { D with nx := tz D }) S I Δ s0 B h hm w i0 body done
theorem q_while (S : Type) (I : S → Prop) (M : S → Nat) (Δ : S → List Ent) (s0 : S) (b : S → Bool) (B : Bs c H σ δ) (w : LeA δ (Δ s0)) (i0 : I s0)
    (test : ∀ (B0 : Hp), Ex c.B B0 → ∀ (s : S) (σ1 : Sta) (H1 : Hp), I s → Bs { c with B := B0 } H1 σ1 (Δ s) → EvT t σ1 H1 (b s))
    (body : ∀ (B0 : Hp), Ex c.B B0 → ∀ (s : S) (σ1 : Sta) (H1 : Hp), I s → b s = true → Bs { c with B := B0 } H1 σ1 (Δ s) →
      ts { D with nx := fun σ' H' => ∃ s', (I s' ∧ M s' < M s) ∧ Bs { c with B := B0 } H' σ' (Δ s'), ct := fun σ' H' => ∃ s', (I s' ∧ M s' < M s) ∧ Bs { c with B := B0 } H' σ' (Δ s'), bk := tz D } σ1 H1)
    (done : ∀ s σ1 H1, I s → b s = false → Bs c H1 σ1 (Δ s) → tz D σ1 H1) :
    tSeq (tWhile t ts) tz D σ H := s_while (D := { D with nx := tz D }) S I M Δ s0 b B w i0 test body done
theorem q_asgM (h : EvM c te σ H δ d δ') (k : ∀ σ1 H1, Bs c H1 σ1 (δ'.set i (.va true d)) → tz D σ1 H1) :
    tSeq (tAsg te (gName i)) tz D σ H := s_asgM (D := { D with nx := tz D }) h k
theorem q_pop0 {m : Int} {n : Nat} {x : PyData} (B : Bs c H σ δ) (hx : δ[i]? = some (.ow f a ds)) (h : Ev o0 te σ H (.int m)) (hb : -1000000 ≤ m ∧ m ≤ 1000000) (hm : ixN ds.length m = some n) (hd : ds[n]? = some x) (k : ∀ H1, Bs c H1 σ (δ.set i (.ow f a (ds.eraseIdx n))) → tz D σ H1) :
    tSeq (tDrop (tBM K "list" rPopAt (tVar i) (tCons te tNil))) tz D σ H := s_pop0 (D := { D with nx := tz D }) B hx h hb hm hd k
theorem q_ins0 {m : Int} (B : Bs c H σ δ) (hx : δ[i]? = some (.ow f a ds)) (h : Ev o0 te σ H (.int m)) (hb : 0 ≤ m ∧ m ≤ 1000000) (hd : Ev (c.hd f δ) ta σ H d) (hz : ds.length < 100000) (k : ∀ H1, Bs c H1 σ (δ.set i (.ow f a (ds.take m.toNat ++ [d] ++ ds.drop m.toNat))) → tz D σ H1) :
    tSeq (tDrop (tBM K "list" (fun x vs H Q => ∃ (l : Addr) (xs : List V) (i : Int) (y : V), x = .ref l ∧ vs = [.int i, y] ∧ H l = some (.lst xs) ∧ xs.length < sizeLine ∧ 0 ≤ i ∧ i < 2 ^ 63 ∧ Q .non (upd H l (.lst (xs.take i.toNat ++ [y] ++ xs.drop i.toNat)))) (tVar i) (tCons te (tCons ta tNil)))) tz D σ H := s_ins0 (D := { D with nx := tz D }) B hx h hb hd hz k
/-- a statement and the rest, with a word between them -/
theorem q_cut {ts tz : TS} (M : Sta → Hp → Prop) (h : ts { D with nx := M } σ H) (k : ∀ σ' H', M σ' H' → tz D σ' H') (mono : ∀ D D' σ H, (∀ σ H, D.nx σ H → D'.nx σ H) → D.rt = D'.rt → D.bk = D'.bk → D.ct = D'.ct → ts D σ H → ts D' σ H) : tSeq ts tz D σ H :=
  mono { D with nx := M } { D with nx := tz D } σ H k rfl rfl rfl h
end
end HL
namespace HL
open PySem PySem.Spec PyProof.Rows L2
open Evl (Ex)
instance : Inhabited PyData := ⟨.none⟩
instance : Inhabited Str := ⟨⟨#[]⟩⟩
@[reducible] def eI (i : Int) : PyData := .int i
@[reducible] def eS (x : Str) : PyData := .str x
@[reducible] def eB (b : Bool) : PyData := .bool b
@[reducible] def eU (_ : Unit) : PyData := .none
@[reducible] def eD (d : PyData) : PyData := d
@[reducible] def eL {α : Type} (em : α → PyData) (xs : List α) : PyData := .list (xs.map em)
@[reducible] def eTu {α : Type} (em : α → PyData) (xs : List α) : PyData := .tuple (xs.map em)
@[reducible] def eT2 {α β : Type} (e1 : α → PyData) (e2 : β → PyData) (p : α × β) : PyData := .tuple [e1 p.1, e2 p.2]
@[reducible] def eT3 {α β γ : Type} (e1 : α → PyData) (e2 : β → PyData) (e3 : γ → PyData) (p : α × β × γ) : PyData := .tuple [e1 p.1, e2 p.2.1, e3 p.2.2]
@[reducible] def eT4 {α β γ δ : Type} (e1 : α → PyData) (e2 : β → PyData) (e3 : γ → PyData) (e4 : δ → PyData) (p : α × β × γ × δ) : PyData := .tuple [e1 p.1, e2 p.2.1, e3 p.2.2.1, e4 p.2.2.2]
def eO {α : Type} (em : α → PyData) : Option α → PyData
  | none => .none
  | some x => em x
/-- items by Python's places -/
def getI {α : Type} [Inhabited α] (xs : List α) (m : Int) : α := (atI xs m).getD default
def inB {α : Type} (xs : List α) (m : Int) : Prop := -(xs.length : Int) ≤ m ∧ m < xs.length
def rng (lo hi : Int) : List Int := (List.range (hi - lo).toNat).map fun (n : Nat) => lo + n
theorem rng_len (lo hi : Int) : (rng lo hi).length = (hi - lo).toNat := by simp [rng]
theorem rng_get {lo hi : Int} {n : Nat} (h : n < (hi - lo).toNat) : (rng lo hi)[n]? = some (lo + n) := by simp [rng, h]
theorem rng_mem {lo hi x : Int} : x ∈ rng lo hi ↔ lo ≤ x ∧ x < hi := by
  simp only [rng, List.mem_map, List.mem_range]
  constructor
  · rintro ⟨n, hn, rfl⟩; omega
  · intro h; exact ⟨(x - lo).toNat, by omega, by omega⟩
theorem ixN_in {n : Nat} {m : Int} (h : -(n : Int) ≤ m ∧ m < n) : ∃ j, ixN n m = some j ∧ j < n := by
  unfold ixN
  by_cases h0 : 0 ≤ m
  · rw [if_pos h0, if_pos h.2]; exact ⟨m.toNat, rfl, by omega⟩
  · rw [if_neg h0, if_pos h.1]; exact ⟨(m + n).toNat, rfl, by omega⟩
theorem atI_getI {α : Type} [Inhabited α] {xs : List α} {m : Int} (h : inB xs m) (f : α → PyData) : atI (xs.map f) m = some (f (getI xs m)) := by
  obtain ⟨j, h1, h2⟩ := ixN_in h
  unfold getI atI
  rw [List.length_map, h1]
  simp [h2]
theorem getI_nat {α : Type} [Inhabited α] {xs : List α} {n : Nat} : getI xs (n : Int) = xs.getD n default := by
  unfold getI atI ixN
  rw [if_pos (by omega)]
  by_cases h : n < xs.length
  · rw [if_pos (by omega)]; simp [h]
  · rw [if_neg (by omega)]; simp [h]
theorem getI_mem {α : Type} [Inhabited α] {xs : List α} {m : Int} (h : inB xs m) : getI xs m ∈ xs := by
  obtain ⟨j, h1, h2⟩ := ixN_in h
  unfold getI atI
  rw [h1]
  simp [h2]
theorem cutG_map {α β : Type} (f : α → β) (xs : List α) (lo hi : Option Int) : cutG (xs.map f) lo hi = (cutG xs lo hi).map f := by
  unfold cutG
  rw [List.length_map, List.map_take, List.map_drop]
section
variable {K : PySem.W.Frag} {c : Wd} {o : Hd} {H H1 H' : Hp} {σ : Sta} {δ δ' : List Ent} {i j : Nat} {f g b : Bool} {a : Addr} {d e : PyData} {ta tb te tl : TE} {tlo thi : TO} {t : TT} {ts tu tw tz : TS} {D : Ends} {α β : Type} {em : α → PyData} {em2 : β → PyData} {xs ys : List α} {m n : Int}
abbrev rLenK (K : PySem.W.Frag) : List V → Hp → VK → Prop := fun xs H Q => ∃ p ys, xs = [.ref p] ∧ (SqL K H p ys ∨ SqT K H p ys) ∧ Q (.int ys.length) H
theorem ev_lenM (ha : Ev o0 ta σ H (eL em xs)) : Ev o (tCB (rLenK K) (tCons ta tNil)) σ H (eI xs.length) := (ev_len ha).is (by rw [List.length_map])
theorem ev_lenTu (ha : Ev o0 ta σ H (eTu em xs)) : Ev o (tCB (rLenK K) (tCons ta tNil)) σ H (eI xs.length) := (ev_lenT ha).is (by rw [List.length_map])
theorem ev_ixM [Inhabited α] (ha : Ev o ta σ H (eL em xs)) (hi : Ev o0 tb σ H (eI m)) (hb : inB xs m) : Ev o (tOp (rIxL K) ta tb) σ H (em (getI xs m)) := ev_ixL ha hi (atI_getI hb em)
theorem ev_ixTu [Inhabited α] (ha : Ev o ta σ H (eTu em xs)) (hi : Ev o0 tb σ H (eI m)) (hb : inB xs m) : Ev o (tOp (rIxT K) ta tb) σ H (em (getI xs m)) := ev_ixT ha hi (atI_getI hb em)
theorem ev_ixOM [Inhabited α] (B : Bs c H σ δ) (hx : δ[i]? = some (.ow f a (xs.map em))) (hi : Ev o0 tb σ H (eI m)) (hb : inB xs m) : Ev (c.hd f δ) (tOp (rIxL K) (tVar i) tb) σ H (em (getI xs m)) := ev_ixO B hx hi (atI_getI hb em)
theorem ev_owM (B : Bs c H σ δ) (hx : δ[i]? = some (.ow f a (xs.map em))) : Ev o0 (tVar i) σ H (eL em xs) := ev_owR B hx
theorem en_slM {lo hi : Option Int} (h : Ev o te σ H (eL em xs)) (h1 : EvO tlo σ H lo) (h2 : EvO thi σ H hi) : EvN o (tSl (rSlL K) te tlo thi) σ H ((cutG xs lo hi).map em) := (en_sl h h1 h2).is (cutG_map em xs lo hi)
theorem en_revM (h : Ev o te σ H (eL em xs)) : EvN o (tRevL K te) σ H (xs.reverse.map em) := (en_rev h).is (by rw [List.map_reverse])
theorem en_catM (ha : Ev o ta σ H (eL em xs)) (hb : Ev o tb σ H (eL em ys)) (hz : xs.length + ys.length ≤ 100000) : EvN o (tOp rCat ta tb) σ H ((xs ++ ys).map em) := (en_cat ha hb (by rw [List.length_map, List.length_map]; exact hz)).is (by rw [List.map_append])
theorem rep_map (k : Nat) : (List.replicate k (xs.map em)).flatten = (List.replicate k xs).flatten.map em := by
  induction k with
  | zero => rfl
  | succ k ih => rw [List.replicate_succ, List.replicate_succ, List.flatten_cons, List.flatten_cons, List.map_append, ih]
theorem en_repM (ha : Ev o ta σ H (eL em xs)) (hb : Ev o0 tb σ H (eI m)) (h0 : -100000 ≤ m ∧ m ≤ 100000) (hz : xs.length * m.toNat ≤ 100000) : EvN o (tOp rRep ta tb) σ H ((List.replicate m.toNat xs).flatten.map em) := (en_rep ha hb h0.1 h0.2 (by rw [List.length_map]; exact hz)).is (rep_map _)
abbrev rListOfK (K : PySem.W.Frag) : List V → Hp → VK → Prop := fun xs H Q => ∃ p ys, xs = [.ref p] ∧ (SqL K H p ys ∨ SqT K H p ys) ∧ ∀ l, H l = none → Q (.ref l) (upd H l (.lst ys))
theorem en_listM (ha : Ev o ta σ H (eL em xs)) : EvN o (tCB (rListOfK K) (tCons ta tNil)) σ H (xs.map em) := en_listL ha
theorem en_listTu (ha : Ev o ta σ H (eTu em xs)) : EvN o (tCB (rListOfK K) (tCons ta tNil)) σ H (xs.map em) := en_listT ha
abbrev rTupOfK (K : PySem.W.Frag) : List V → Hp → VK → Prop := fun xs H Q => ∃ p ys, xs = [.ref p] ∧ ((SqL K H p ys ∧ ∀ l, H l = none → Q (.ref l) (upd H l (.tup ys))) ∨ (SqT K H p ys ∧ Q (.ref p) H))
theorem ev_tupM (l : Live o H) (ha : Ev o ta σ H (eL em xs)) : Ev o (tCB (rTupOfK K) (tCons ta tNil)) σ H (eTu em xs) := ev_tupL l ha
theorem ev_maxM {ns : List Int} (ha : Ev o0 ta σ H (eL eI ns)) (hne : 0 < ns.length) : Ev o (tCB (rMax K) (tCons ta tNil)) σ H (eI (maxI ns)) := ev_maxL ha hne
/-- a list comprehension over a list -/
theorem en_lcM (cs : α → Bool) (ex : α → β) (B : Bs c H σ δ) (hj : δ[j]? = some .no) (h : Ev (c.hd f δ) tl σ H (eL em xs)) (hz : xs.length ≤ 40000)
    (body : ∀ (c' : Wd) (x : α) (σ1 : Sta) (H1 : Hp), x ∈ xs → Bs c' H1 σ1 (δ.set j (.va f (em x))) → EvT t σ1 H1 (cs x) ∧ (cs x = true → Ev (c'.hd g (δ.set j (.va f (em x)))) te σ1 H1 (em2 (ex x)))) :
    EvN (c.hd g δ) (tLc (iList K tl) (gName j) t te [j]) σ H (((xs.filter cs).map ex).map em2) := (en_lcL xs em cs (fun x => em2 (ex x)) B h hz body hj).is (by rw [List.map_map]; rfl)
theorem en_lcM1 (ex : α → β) (B : Bs c H σ δ) (hj : δ[j]? = some .no) (h : Ev (c.hd f δ) tl σ H (eL em xs)) (hz : xs.length ≤ 40000)
    (body : ∀ (c' : Wd) (x : α) (σ1 : Sta) (H1 : Hp), x ∈ xs → Bs c' H1 σ1 (δ.set j (.va f (em x))) → Ev (c'.hd g (δ.set j (.va f (em x)))) te σ1 H1 (em2 (ex x))) :
    EvN (c.hd g δ) (tLc (iList K tl) (gName j) tYes te [j]) σ H ((xs.map ex).map em2) :=
  (en_lcM (fun _ => true) ex B hj h hz fun c' x σ1 H1 hx B => ⟨fun H1 _ Q q => q H1 (Ex.refl H1), fun _ => body c' x σ1 H1 hx B⟩).is (by rw [List.filter_eq_self.mpr (fun _ _ => rfl)])
theorem en_lcRM {lo hi : Int} {tr : TI} (cs : Int → Bool) (ex : Int → β) (B : Bs c H σ δ) (hj : δ[j]? = some .no) (h : ∀ H1, Ex H H1 → ∀ R : It → Hp → Prop, (∀ H2, Ex H1 H2 → R (Itr lo (hi - lo).toNat) H2) → tr σ H1 R) (hz : hi - lo ≤ 40000)
    (body : ∀ (c' : Wd) (x : Int) (σ1 : Sta) (H1 : Hp), x ∈ rng lo hi → Bs c' H1 σ1 (δ.set j (.va true (eI x))) → EvT t σ1 H1 (cs x) ∧ (cs x = true → Ev (c'.hd g (δ.set j (.va true (eI x)))) te σ1 H1 (em2 (ex x)))) :
    EvN (c.hd g δ) (tLc tr (gName j) t te [j]) σ H ((((rng lo hi).filter cs).map ex).map em2) :=
  (en_lcR (fun n => cs (lo + n)) (fun n => em2 (ex (lo + n))) B h (by omega) (fun c' x σ1 H1 hx B => body c' (lo + x) σ1 H1 (rng_mem.mpr (by omega)) B) hj).is (by
    unfold rng; rw [List.filter_map, List.map_map, List.map_map]; rfl)
theorem en_lcRM1 {lo hi : Int} {tr : TI} (ex : Int → β) (B : Bs c H σ δ) (hj : δ[j]? = some .no) (h : ∀ H1, Ex H H1 → ∀ R : It → Hp → Prop, (∀ H2, Ex H1 H2 → R (Itr lo (hi - lo).toNat) H2) → tr σ H1 R) (hz : hi - lo ≤ 40000)
    (body : ∀ (c' : Wd) (x : Int) (σ1 : Sta) (H1 : Hp), x ∈ rng lo hi → Bs c' H1 σ1 (δ.set j (.va true (eI x))) → Ev (c'.hd g (δ.set j (.va true (eI x)))) te σ1 H1 (em2 (ex x))) :
    EvN (c.hd g δ) (tLc tr (gName j) tYes te [j]) σ H (((rng lo hi).map ex).map em2) :=
  (en_lcRM (fun _ => true) ex B hj h hz fun c' x σ1 H1 hx B => ⟨fun H1 _ Q q => q H1 (Ex.refl H1), fun _ => body c' x σ1 H1 hx B⟩).is (by rw [List.filter_eq_self.mpr (fun _ _ => rfl)])
theorem it_R1M {hi : Int} (h : Ev o0 te σ H (eI hi)) (hm : -1000000 ≤ hi ∧ hi ≤ 1000000) : ∀ H1, Ex H H1 → ∀ R : It → Hp → Prop, (∀ H2, Ex H1 H2 → R (Itr 0 (hi - 0).toNat) H2) → iRng1 (tCons te tNil) σ H1 R := by
  rw [Int.sub_zero]; exact it_R1 h hm

/-! loops that fold: J holds between the turns -/
def FX (c : Wd) (B0 : Hp) (S : Type) (Δ : S → List Ent) (J : Nat → S → Prop) (n : Nat) (s1 : S) : Sta → Hp → Prop := fun σ H => ∃ s', s' = s1 ∧ J n s' ∧ Bs { c with B := B0 } H σ (Δ s')
theorem take_fold {S : Type} {stp : S → α → S} {s0 : S} {k : Nat} {x : α} (h : xs[k]? = some x) : (xs.take (k + 1)).foldl stp s0 = stp ((xs.take k).foldl stp s0) x := by
  rw [List.take_add_one, h, List.foldl_append]; rfl
theorem q_foldL {S : Type} (Δ : S → List Ent) (stp : S → α → S) (s0 : S) (J : Nat → S → Prop) (B : Bs c H σ δ) (h : Ev (c.hd f δ) tl σ H (eL em xs)) (w : LeA δ (Δ s0)) (j0 : J 0 s0)
    (body : ∀ (B0 : Hp), Ex c.B B0 → ∀ (n : Nat) (s : S) (x : α) (σ1 : Sta) (H1 : Hp), x ∈ xs → n < xs.length → J n s → Bs { c with B := B0 } H1 σ1 ((Δ s).set j (.va f (em x))) →
      ts { D with nx := FX c B0 S Δ J (n + 1) (stp s x), ct := FX c B0 S Δ J (n + 1) (stp s x), bk := tz D } σ1 H1)
    (done : ∀ s σ1 H1, s = xs.foldl stp s0 → J xs.length s → Bs c H1 σ1 (Δ s) → tz D σ1 H1) : tSeq (tFor (iList K tl) (gName j) ts) tz D σ H := by
  refine q_forL S (fun n s => s = (xs.take n).foldl stp s0 ∧ J n s) Δ s0 B h w ⟨by simp, j0⟩ (fun B0 e0 n s d σ1 H1 hd hI B => ?_) (fun s σ1 H1 hI B => ?_)
  · rw [List.getElem?_map] at hd
    obtain ⟨x, hx, ex⟩ := Option.map_eq_some_iff.mp hd
    subst ex
    have q := body B0 e0 n s x σ1 H1 (List.mem_of_getElem? hx) (by rw [List.getElem?_eq_some_iff] at hx; exact hx.1) hI.2 B
    have en : FX c B0 S Δ J (n + 1) (stp s x) = NX c B0 S Δ (fun n s => s = (xs.take n).foldl stp s0 ∧ J n s) (n + 1) := by
      funext σ H
      unfold FX NX
      dsimp only
      rw [take_fold hx, ← hI.1]
      simp only [and_assoc]
    rw [en] at q
    exact q
  · rw [List.length_map] at hI
    refine done s σ1 H1 ?_ hI.2 B
    rw [hI.1, List.take_length]
theorem q_foldO {S : Type} (Δ : S → List Ent) (stp : S → α → S) (s0 : S) (J : Nat → S → Prop) (B : Bs c H σ δ) (hk : ∀ s, (Δ s)[i]? = some (.ow f a (xs.map em))) (w : LeA δ (Δ s0)) (j0 : J 0 s0)
    (body : ∀ (B0 : Hp), Ex c.B B0 → ∀ (n : Nat) (s : S) (x : α) (σ1 : Sta) (H1 : Hp), x ∈ xs → n < xs.length → J n s → Bs { c with B := B0 } H1 σ1 ((Δ s).set j (.va f (em x))) →
      ts { D with nx := FX c B0 S Δ J (n + 1) (stp s x), ct := FX c B0 S Δ J (n + 1) (stp s x), bk := tz D } σ1 H1)
    (done : ∀ s σ1 H1, s = xs.foldl stp s0 → J xs.length s → Bs c H1 σ1 (Δ s) → tz D σ1 H1) : tSeq (tFor (iList K (tVar i)) (gName j) ts) tz D σ H := by
  refine q_forO S (fun n s => s = (xs.take n).foldl stp s0 ∧ J n s) Δ s0 B hk w ⟨by simp, j0⟩ (fun B0 e0 n s d σ1 H1 hd hI B => ?_) (fun s σ1 H1 hI B => ?_)
  · rw [List.getElem?_map] at hd
    obtain ⟨x, hx, ex⟩ := Option.map_eq_some_iff.mp hd
    subst ex
    have q := body B0 e0 n s x σ1 H1 (List.mem_of_getElem? hx) (by rw [List.getElem?_eq_some_iff] at hx; exact hx.1) hI.2 B
    have en : FX c B0 S Δ J (n + 1) (stp s x) = NX c B0 S Δ (fun n s => s = (xs.take n).foldl stp s0 ∧ J n s) (n + 1) := by
      funext σ H
      unfold FX NX
      dsimp only
      rw [take_fold hx, ← hI.1]
      simp only [and_assoc]
    rw [en] at q
    exact q
  · rw [List.length_map] at hI
    refine done s σ1 H1 ?_ hI.2 B
    rw [hI.1, List.take_length]
theorem foldR_core {S : Type} {lo : Int} {k : Nat} {Δ : S → List Ent} {stp : S → Int → S} {s0 : S} {J : Nat → S → Prop} {xs : List Int} (g : Nat → Int) (hx : ∀ n, n < k → xs[n]? = some (g n)) (hl : xs.length = k) {n : Nat} {s : S} (hn : n < k) (hI : s = (xs.take n).foldl stp s0) {B0 : Hp} :
    FX c B0 S Δ J (n + 1) (stp s (g n)) = NX c B0 S Δ (fun n s => s = (xs.take n).foldl stp s0 ∧ J n s) (n + 1) := by
  funext σ H
  unfold FX NX
  dsimp only
  rw [take_fold (hx n hn), ← hI]
  simp only [and_assoc]
theorem q_foldR1 {S : Type} {hi : Int} (Δ : S → List Ent) (stp : S → Int → S) (s0 : S) (J : Nat → S → Prop) (B : Bs c H σ δ) (h : Ev o0 te σ H (eI hi)) (hm : -1000000 ≤ hi ∧ hi ≤ 1000000) (w : LeA δ (Δ s0)) (j0 : J 0 s0)
    (body : ∀ (B0 : Hp), Ex c.B B0 → ∀ (n : Nat) (s : S) (x : Int) (σ1 : Sta) (H1 : Hp), x ∈ rng 0 hi → n < (rng 0 hi).length → J n s → Bs { c with B := B0 } H1 σ1 ((Δ s).set j (.va true (eI x))) →
      ts { D with nx := FX c B0 S Δ J (n + 1) (stp s x), ct := FX c B0 S Δ J (n + 1) (stp s x), bk := tz D } σ1 H1)
    (done : ∀ s σ1 H1, s = (rng 0 hi).foldl stp s0 → J (rng 0 hi).length s → Bs c H1 σ1 (Δ s) → tz D σ1 H1) : tSeq (tFor (iRng1 (tCons te tNil)) (gName j) ts) tz D σ H := by
  have hl : (rng 0 hi).length = hi.toNat := by rw [rng_len]; omega
  refine q_forR1 S (fun n s => s = ((rng 0 hi).take n).foldl stp s0 ∧ J n s) Δ s0 B h hm w ⟨by simp, j0⟩ (fun B0 e0 n s σ1 H1 hn hI B => ?_) (fun s σ1 H1 hI B => ?_)
  · have q := body B0 e0 n s (0 + n) σ1 H1 (rng_mem.mpr (by omega)) (by omega) hI.2 B
    rw [foldR_core (k := hi.toNat) (lo := 0) (xs := rng 0 hi) (fun (n : Nat) => 0 + (n : Int)) (fun n hn => rng_get (by omega)) hl hn hI.1] at q
    exact q
  · rw [← hl] at hI
    refine done s σ1 H1 ?_ hI.2 B
    rw [hI.1, List.take_length]
theorem q_foldR2 {S : Type} {lo hi : Int} (Δ : S → List Ent) (stp : S → Int → S) (s0 : S) (J : Nat → S → Prop) (B : Bs c H σ δ) (h1 : Ev o0 ta σ H (eI lo)) (h : Ev o0 te σ H (eI hi)) (hm : -1000000 ≤ lo ∧ lo ≤ 1000000 ∧ -1000000 ≤ hi ∧ hi ≤ 1000000) (w : LeA δ (Δ s0)) (j0 : J 0 s0)
    (body : ∀ (B0 : Hp), Ex c.B B0 → ∀ (n : Nat) (s : S) (x : Int) (σ1 : Sta) (H1 : Hp), x ∈ rng lo hi → n < (rng lo hi).length → J n s → Bs { c with B := B0 } H1 σ1 ((Δ s).set j (.va true (eI x))) →
      ts { D with nx := FX c B0 S Δ J (n + 1) (stp s x), ct := FX c B0 S Δ J (n + 1) (stp s x), bk := tz D } σ1 H1)
    (done : ∀ s σ1 H1, s = (rng lo hi).foldl stp s0 → J (rng lo hi).length s → Bs c H1 σ1 (Δ s) → tz D σ1 H1) : tSeq (tFor (iRng2 (tCons ta (tCons te tNil))) (gName j) ts) tz D σ H := by
  have hl : (rng lo hi).length = (hi - lo).toNat := rng_len _ _
  refine q_forR2 S (fun n s => s = ((rng lo hi).take n).foldl stp s0 ∧ J n s) Δ s0 B h1 h hm w ⟨by simp, j0⟩ (fun B0 e0 n s σ1 H1 hn hI B => ?_) (fun s σ1 H1 hI B => ?_)
  · have q := body B0 e0 n s (lo + n) σ1 H1 (rng_mem.mpr (by omega)) (by omega) hI.2 B
    rw [foldR_core (k := (hi - lo).toNat) (lo := lo) (xs := rng lo hi) (fun (n : Nat) => lo + (n : Int)) (fun n hn => rng_get (by omega)) hl hn hI.1] at q
    exact q
  · rw [← hl] at hI
    refine done s σ1 H1 ?_ hI.2 B
    rw [hI.1, List.take_length]
theorem rng_rev {m : Int} {n : Nat} (h : n < m.toNat) : (rng 0 m).reverse[n]? = some (m - 1 - n) := by
  rw [List.getElem?_reverse (by rw [rng_len]; omega), rng_len, rng_get (by omega)]
  congr 1; omega
theorem q_foldRev {S : Type} {hi : Int} (Δ : S → List Ent) (stp : S → Int → S) (s0 : S) (J : Nat → S → Prop) (B : Bs c H σ δ) (h : Ev o0 te σ H (eI hi)) (hm : -1000000 ≤ hi ∧ hi ≤ 1000000) (w : LeA δ (Δ s0)) (j0 : J 0 s0)
    (body : ∀ (B0 : Hp), Ex c.B B0 → ∀ (n : Nat) (s : S) (x : Int) (σ1 : Sta) (H1 : Hp), x ∈ (rng 0 hi).reverse → n < (rng 0 hi).reverse.length → J n s → Bs { c with B := B0 } H1 σ1 ((Δ s).set j (.va true (eI x))) →
      ts { D with nx := FX c B0 S Δ J (n + 1) (stp s x), ct := FX c B0 S Δ J (n + 1) (stp s x), bk := tz D } σ1 H1)
    (done : ∀ s σ1 H1, s = (rng 0 hi).reverse.foldl stp s0 → J (rng 0 hi).reverse.length s → Bs c H1 σ1 (Δ s) → tz D σ1 H1) : tSeq (tFor (iRevR (tRg1 te)) (gName j) ts) tz D σ H := by
  have hl : (rng 0 hi).reverse.length = hi.toNat := by rw [List.length_reverse, rng_len]; omega
  refine q_forRev S (fun n s => s = ((rng 0 hi).reverse.take n).foldl stp s0 ∧ J n s) Δ s0 B h hm w ⟨by simp, j0⟩ (fun B0 e0 n s σ1 H1 hn hI B => ?_) (fun s σ1 H1 hI B => ?_)
  · have q := body B0 e0 n s (hi - 1 - n) σ1 H1 (List.mem_reverse.mpr (rng_mem.mpr (by omega))) (by omega) hI.2 B
    rw [foldR_core (k := hi.toNat) (lo := 0) (xs := (rng 0 hi).reverse) (fun (n : Nat) => hi - 1 - (n : Int)) (fun n hn => rng_rev hn) hl hn hI.1] at q
    exact q
  · rw [← hl] at hI
    refine done s σ1 H1 ?_ hI.2 B
    rw [hI.1, List.take_length]
/-- while loops, by fuel -/
def whileF {S : Type} (cd : S → Bool) (stp : S → S) : Nat → S → S
  | 0, s => s
  | n + 1, s => if cd s then whileF cd stp n (stp s) else s
theorem whileF_end {S : Type} {cd : S → Bool} {stp : S → S} {s : S} (h : cd s = false) : ∀ n, whileF cd stp n s = s
  | 0 => rfl
  | n + 1 => by rw [whileF, if_neg (by rw [h]; simp)]
def WX (c : Wd) (B0 : Hp) (S : Type) (Δ : S → List Ent) (J : S → Prop) (s1 : S) : Sta → Hp → Prop := fun σ H => ∃ s', s' = s1 ∧ J s' ∧ Bs { c with B := B0 } H σ (Δ s')
theorem q_whileM {S : Type} (Δ : S → List Ent) (cd : S → Bool) (stp : S → S) (M : S → Nat) (s0 : S) (J : S → Prop) (B : Bs c H σ δ) (w : LeA δ (Δ s0)) (j0 : J s0)
    (test : ∀ (B0 : Hp), Ex c.B B0 → ∀ (s : S) (σ1 : Sta) (H1 : Hp), J s → Bs { c with B := B0 } H1 σ1 (Δ s) → EvT t σ1 H1 (cd s))
    (less : ∀ s, J s → cd s = true → M (stp s) < M s)
    (body : ∀ (B0 : Hp), Ex c.B B0 → ∀ (s : S) (σ1 : Sta) (H1 : Hp), J s → cd s = true → Bs { c with B := B0 } H1 σ1 (Δ s) →
      ts { D with nx := WX c B0 S Δ J (stp s), ct := WX c B0 S Δ J (stp s), bk := tz D } σ1 H1)
    (done : ∀ s σ1 H1, s = whileF cd stp (M s0) s0 → cd s = false → J s → Bs c H1 σ1 (Δ s) → tz D σ1 H1) : tSeq (tWhile t ts) tz D σ H := by
  have u := B.under
  refine ⟨fun m σ' H' => ∃ s, m = M s ∧ (J s ∧ ∃ n, whileF cd stp (M s0) s0 = whileF cd stp n s ∧ M s ≤ n) ∧ Bs { c with B := hid (fun a => Adr δ a) H } H' σ' (Δ s), ⟨_, s0, rfl, ⟨j0, M s0, rfl, Nat.le_refl _⟩, B.rebase.le w⟩, ?_⟩
  rintro m σ1 H1 ⟨s, rfl, ⟨hJ, n, hn, hM⟩, B1⟩
  refine test _ u s σ1 H1 hJ B1 H1 (Ex.refl H1) _ fun H2 e2 => ?_
  cases q : cd s with
  | true =>
    rw [if_pos rfl]
    have hlt := less s hJ q
    cases n with
    | zero => omega
    | succ n =>
      rw [whileF, if_pos q] at hn
      exact ⟨_, fun σ' H' ⟨s', h1, h2, h3⟩ => ⟨M s', by subst h1; exact hlt, s', rfl, ⟨h2, n, by subst h1; exact hn, by subst h1; omega⟩, h3⟩, body _ u s σ1 H2 hJ q (B1.mono e2)⟩
  | false =>
    rw [if_neg Bool.false_ne_true]
    exact done s _ _ (by rw [hn, whileF_end q]) q hJ ((B1.mono e2).debase u)
end
end HL
namespace HL
open PySem PySem.Spec PyProof.Rows L2
open Evl (Ex)
theorem fmod_b {x m : Int} (h : 0 < m) : 0 ≤ x.fmod m ∧ x.fmod m < m := ⟨Int.fmod_nonneg_of_pos x h, Int.fmod_lt_of_pos x h⟩
theorem cutG_from {α : Type} (xs : List α) {m : Int} (h : 0 ≤ m) : cutG xs (some m) none = xs.drop m.toNat := by
  obtain ⟨k, rfl⟩ := Int.eq_ofNat_of_zero_le h
  unfold cutG
  rw [HT.sIx_nat, HT.sIx_none, Int.toNat_natCast]
  by_cases hk : k ≤ xs.length
  · rw [Nat.min_eq_left hk, ← List.length_drop, List.take_length]
  · rw [Nat.min_eq_right (by omega), List.drop_of_length_le (Nat.le_refl _), List.drop_of_length_le (by omega), List.take_nil]
theorem cutG_to {α : Type} (xs : List α) {m : Int} (h : 0 ≤ m) : cutG xs none (some m) = xs.take m.toNat := by
  obtain ⟨k, rfl⟩ := Int.eq_ofNat_of_zero_le h
  unfold cutG
  rw [HT.sIx_nat, HT.sIx_none, Int.toNat_natCast]
  simp
theorem cutG_le {α : Type} (xs : List α) (lo hi : Option Int) : (cutG xs lo hi).length ≤ xs.length := by
  unfold cutG
  rw [List.length_take, List.length_drop]; omega
theorem cutG_le' {α : Type} {xs : List α} {lo hi : Option Int} {n : Nat} (h : xs.length ≤ n) : (cutG xs lo hi).length ≤ n := Nat.le_trans (cutG_le xs lo hi) h
/-- a list with one item put in another's place -/
def setI {α : Type} (xs : List α) (m : Int) (x : α) : List α := match ixN xs.length m with
  | some j => xs.set j x
  | none => xs
theorem setI_len {α : Type} (xs : List α) (m : Int) (x : α) : (setI xs m x).length = xs.length := by
  unfold setI
  cases ixN xs.length m with
  | none => rfl
  | some j => exact List.length_set
theorem getI_setI {α : Type} [Inhabited α] {xs : List α} {m : Int} {x : α} (h : inB xs m) : getI (setI xs m x) m = x := by
  obtain ⟨j, h1, h2⟩ := ixN_in h
  unfold getI atI
  rw [setI_len, h1]
  unfold setI
  rw [h1]
  simp [h2]
/-- data of one kind: == is =, and the comparison may be made -/
structure Em {α : Type} [DecidableEq α] (em : α → PyData) (gd : α → Prop) (n : Nat) : Prop where
  flat : ∀ a, flatD (em a) = true
  lay : ∀ a, gd a → (em a).canLay0 = true
  dep : ∀ a, (em a).depth ≤ n
  eqv : ∀ a b, PyData.eqv (em a) (em b) = decide (a = b)
theorem emI : Em eI (fun _ => True) 0 := ⟨fun _ => rfl, fun _ _ => rfl, fun _ => by simp [PyData.depth], fun a b => by simp [PyData.eqv]; rfl⟩
theorem emB : Em eB (fun _ => True) 0 := ⟨fun _ => rfl, fun _ _ => rfl, fun _ => by simp [PyData.depth], fun a b => by simp [PyData.eqv]; rfl⟩
theorem emS : Em eS (fun x => PyData.strOk x = true) 0 := ⟨fun _ => rfl, fun _ h => by simp [PyData.canLay0]; exact h, fun _ => by simp [PyData.depth], fun a b => by
  show (a == b) = decide (a = b)
  rw [Bool.eq_iff_iff]; simp⟩
section
variable {α β : Type} [DecidableEq α] [DecidableEq β] {em : α → PyData} {e2 : β → PyData} {gd : α → Prop} {gd2 : β → Prop} {n m : Nat}
theorem eqvAll_map (h : ∀ a b, PyData.eqv (em a) (em b) = decide (a = b)) : ∀ xs ys : List α, PyData.eqvAll (xs.map em) (ys.map em) = decide (xs = ys)
  | [], [] => by simp [PyData.eqvAll]
  | [], _ :: _ => by simp [PyData.eqvAll]
  | _ :: _, [] => by simp [PyData.eqvAll]
  | x :: xs, y :: ys => by
    simp only [List.map_cons, PyData.eqvAll, h, eqvAll_map h xs ys]
    rw [Bool.eq_iff_iff]; simp
theorem flatDs_map (h : ∀ a, flatD (em a) = true) : ∀ xs : List α, flatDs (xs.map em) = true
  | [] => rfl
  | x :: xs => by simp [flatDs, h, flatDs_map h xs]
theorem layAll_map (h : ∀ a, gd a → (em a).canLay0 = true) : ∀ xs : List α, (∀ x ∈ xs, gd x) → PyData.canLayAll0 (xs.map em) = true
  | [], _ => by simp [PyData.canLayAll0]
  | x :: xs, g => by simp [PyData.canLayAll0, h x (g x (by simp)), layAll_map h xs fun y hy => g y (by simp [hy])]
theorem depthAll_map (h : ∀ a, (em a).depth ≤ n) : ∀ xs : List α, PyData.depthAll (xs.map em) ≤ n
  | [] => by simp [PyData.depthAll]
  | x :: xs => by simp only [List.map_cons, PyData.depthAll]; exact Nat.max_le.mpr ⟨h x, depthAll_map h xs⟩
theorem emL (h : Em em gd n) : Em (eL em) (fun xs => ∀ x ∈ xs, gd x) (n + 1) := ⟨fun xs => by simp [flatD, flatDs_map h.flat], fun xs g => by simp [PyData.canLay0, layAll_map h.lay xs g], fun xs => by simp [PyData.depth]; exact depthAll_map h.dep xs, fun xs ys => by simp only [PyData.eqv, eqvAll_map h.eqv]⟩
theorem emTu (h : Em em gd n) : Em (eTu em) (fun xs => ∀ x ∈ xs, gd x) (n + 1) := ⟨fun xs => by simp [flatD, flatDs_map h.flat], fun xs g => by simp [PyData.canLay0, layAll_map h.lay xs g], fun xs => by simp [PyData.depth]; exact depthAll_map h.dep xs, fun xs ys => by simp only [PyData.eqv, eqvAll_map h.eqv]⟩
theorem emT2 (h : Em em gd n) (h2 : Em e2 gd2 m) : Em (eT2 em e2) (fun p => gd p.1 ∧ gd2 p.2) (max n m + 1) := ⟨fun p => by simp [flatD, flatDs, h.flat, h2.flat], fun p g => by simp [PyData.canLay0, PyData.canLayAll0, h.lay _ g.1, h2.lay _ g.2], fun p => by
    have a := h.dep p.1
    have b := h2.dep p.2
    simp [PyData.depth, PyData.depthAll]; omega, fun p q => by
    obtain ⟨p1, p2⟩ := p
    obtain ⟨q1, q2⟩ := q
    simp only [PyData.eqv, PyData.eqvAll, h.eqv, h2.eqv]
    rw [Bool.eq_iff_iff]; simp⟩
theorem Em.shaped (h : Em em gd n) (hn : n ≤ 64) {a : α} (g : gd a) : SeqAt.shaped (em a) = true := by
  have := h.dep a
  simp only [SeqAt.shaped, h.lay a g, Bool.true_and]
  exact decide_eq_true (by omega)
variable {K : PySem.W.Frag} {o : Hd} {H : Hp} {σ : Sta} {ta tb : TE} {a b : α}
theorem ev_eqM (h : Em em gd n) (ha : Ev o0 ta σ H (em a)) (hb : Ev o0 tb σ H (em b)) (ga : gd a) (gb : gd b) (hn : n ≤ 64 := by decide) : Ev o (tOp (rEqD K) ta tb) σ H (eB (decide (a = b))) := ev_eqD ha hb (h.flat a) (h.flat b) (h.shaped hn ga) (h.shaped hn gb) (h.eqv a b)
theorem ev_neM (h : Em em gd n) (ha : Ev o0 ta σ H (em a)) (hb : Ev o0 tb σ H (em b)) (ga : gd a) (gb : gd b) (hn : n ≤ 64 := by decide) : Ev o (tOp (rNeD K) ta tb) σ H (eB (!decide (a = b))) := ev_neD ha hb (h.flat a) (h.flat b) (h.shaped hn ga) (h.shaped hn gb) (h.eqv a b)
theorem gd_nil : ∀ x ∈ ([] : List α), gd x := fun _ h => by simp at h
end
section
variable {K : PySem.W.Frag} {c : Wd} {o : Hd} {H H1 H' : Hp} {σ : Sta} {δ δ' : List Ent} {i j : Nat} {f g b : Bool} {a : Addr} {d e : PyData} {ta tb te tl : TE} {t : TT} {ts tu tw tz : TS} {D : Ends} {α β : Type} {em : α → PyData} {xs ys : List α} {m n : Int}
theorem q_ret (S : Bs c H σ δ) (h : Ev (c.hd f δ) te σ H d) (k : ∀ v H1, Ex c.B H1 → Dn (hid (c.hd f []) H1) v d → D.rt v H1) : tSeq (tRet te) tz D σ H := s_ret (D := { D with nx := tz D }) S h fun v H1 x _ hv => k v H1 x hv
theorem setI_map {m : Int} (h : inB xs m) (x : α) (f : α → PyData) : ∃ j, ixN (xs.map f).length m = some j ∧ (xs.map f).set j (f x) = (setI xs m x).map f := by
  obtain ⟨j, h1, h2⟩ := ixN_in h
  refine ⟨j, by rw [List.length_map]; exact h1, ?_⟩
  unfold setI
  rw [h1, List.map_set]
theorem q_setM {x : α} (B : Bs c H σ δ) (hx : δ[i]? = some (.ow f a (xs.map em))) (h : Ev (c.hd f δ) te σ H (em x)) (hi : Ev o0 tb σ H (eI m)) (hb : inB xs m) (k : ∀ H1, Bs c H1 σ (δ.set i (.ow f a ((setI xs m x).map em))) → tz D σ H1) :
    tSeq (tAsg te (gSub (tVar i) tb rSetL)) tz D σ H := by
  obtain ⟨n, h1, h2⟩ := setI_map hb x em
  refine q_setI B hx h hi h1 fun H1 B => k H1 ?_
  rw [h2] at B; exact B
theorem q_popH (B : Bs c H σ δ) (hx : δ[i]? = some (.ow f a (xs.map em))) (hi : Ev o0 tb σ H (eI 0)) (hb : 0 < xs.length) (k : ∀ H1, Bs c H1 σ (δ.set i (.ow f a (xs.tail.map em))) → tz D σ H1) :
    tSeq (tDrop (tBM K "list" rPopAt (tVar i) (tCons tb tNil))) tz D σ H := by
  cases xs with
  | nil => simp at hb
  | cons x r => exact q_pop0 (n := 0) B hx hi (by omega) (by unfold ixN; simp) rfl k
theorem en_lstM {tr : TA} (h : EvA o tr σ H (xs.map em)) (hz : xs.length ≤ 100000) : EvN o (tLst tr) σ H (xs.map em) := en_lst h (by rw [List.length_map]; exact hz)
/-- lists of things without objects are as new as one likes -/
theorem DnA.scM {em : α → PyData} {o' : Hd} (hs : ∀ x, Sc (em x)) {H' : Hp} : ∀ {vs : List V} {xs : List α}, DnA H vs (xs.map em) → DnA H' vs (xs.map em)
  | _, [], .nil => .nil
  | _, x :: xs, .cons h r => .cons (Dn.sc (hs x) h) (DnA.scM (o' := o') hs r)
theorem EvN.scL {o' : Hd} (h : EvN o' te σ H (xs.map em)) (hs : ∀ x, Sc (em x)) : EvN o te σ H (xs.map em) := fun H1 x1 Q q => h H1 x1 Q fun p vs H2 np e2 hp hv => q p vs H2 np e2 hp (DnA.scM (o' := o) hs hv)
/-- a comprehension over a list of things without objects, whosever it is -/
theorem en_lcS {em2 : β → PyData} (cs : α → Bool) (ex : α → β) (B : Bs c H σ δ) (hj : δ[j]? = some .no) (h : Ev (c.hd false δ) tl σ H (eL em xs)) (hs : ∀ x, Sc (em x)) (hz : xs.length ≤ 40000)
    (body : ∀ (c' : Wd) (x : α) (σ1 : Sta) (H1 : Hp), x ∈ xs → Bs c' H1 σ1 (δ.set j (.va true (em x))) → EvT t σ1 H1 (cs x) ∧ (cs x = true → Ev (c'.hd g (δ.set j (.va true (em x)))) te σ1 H1 (em2 (ex x)))) :
    EvN (c.hd g δ) (tLc (iList K tl) (gName j) t te [j]) σ H (((xs.filter cs).map ex).map em2) :=
  en_lcM cs ex B hj h hz fun c' x σ1 H1 hx B1 => by
    have l : LeA (δ.set j (.va false (em x))) (δ.set j (.va true (em x))) := by
      clear B1 B h body
      induction δ generalizing j with
      | nil => exact .nil
      | cons e r ih =>
        cases j with
        | zero => exact .cons (.sc (hs x)) (LeA.refl r)
        | succ j => exact .cons (.refl e) (ih (by simpa using hj))
    obtain ⟨h1, h2⟩ := body c' x σ1 H1 hx (B1.le l)
    refine ⟨h1, fun hc => (h2 hc).weak (hd_sub fun b z => ?_)⟩
    obtain ⟨k, f', ds, z⟩ := z
    refine ⟨k, f', ds, ?_⟩
    by_cases q : j = k
    · subst q
      rw [List.getElem?_set] at z
      simp at z
    · rw [List.getElem?_set_ne q] at z ⊢
      exact z
theorem en_lcS1 {em2 : β → PyData} (ex : α → β) (B : Bs c H σ δ) (hj : δ[j]? = some .no) (h : Ev (c.hd false δ) tl σ H (eL em xs)) (hs : ∀ x, Sc (em x)) (hz : xs.length ≤ 40000)
    (body : ∀ (c' : Wd) (x : α) (σ1 : Sta) (H1 : Hp), x ∈ xs → Bs c' H1 σ1 (δ.set j (.va true (em x))) → Ev (c'.hd g (δ.set j (.va true (em x)))) te σ1 H1 (em2 (ex x))) :
    EvN (c.hd g δ) (tLc (iList K tl) (gName j) tYes te [j]) σ H ((xs.map ex).map em2) :=
  (en_lcS (fun _ => true) ex B hj h hs hz fun c' x σ1 H1 hx B => ⟨fun H1 _ Q q => q H1 (Ex.refl H1), fun _ => body c' x σ1 H1 hx B⟩).is (by rw [List.filter_eq_self.mpr (fun _ _ => rfl)])
end
end HL
namespace HL
open PySem PySem.Spec PyProof.Rows L2
open Evl (Ex)
/-- a loop that may be left by a return -/
def loopE {S R α : Type} (stp : S → α → S ⊕ R) : List α → S → S ⊕ R
  | [], s => .inl s
  | x :: xs, s => match stp s x with
    | .inl s' => loopE stp xs s'
    | .inr r => .inr r
section
variable {K : PySem.W.Frag} {c : Wd} {o : Hd} {H H1 H' : Hp} {σ : Sta} {δ δ' : List Ent} {i j ci : Nat} {f g b : Bool} {a : Addr} {d e : PyData} {ta tb te tl : TE} {t : TT} {ts tu tw tz : TS} {D : Ends} {α β γ S R : Type} {em : α → PyData} {em2 : β → PyData} {emg : γ → PyData} {xs ys : List α} {m n : Int}
def EX (c : Wd) (B0 : Hp) (S R : Type) (Δ : S → List Ent) (J : Nat → S → Prop) (n : Nat) (s1 : S ⊕ R) : Sta → Hp → Prop := fun σ H => ∃ s', s1 = .inl s' ∧ J n s' ∧ Bs { c with B := B0 } H σ (Δ s')
theorem loopE_at {stp : S → α → S ⊕ R} {s : S} {n : Nat} {x : α} (h : xs[n]? = some x) : loopE stp (xs.drop n) s = match stp s x with
    | .inl s' => loopE stp (xs.drop (n + 1)) s'
    | .inr r => .inr r := by
  have hl : n < xs.length := by rw [List.getElem?_eq_some_iff] at h; exact h.1
  have e : xs.drop n = x :: xs.drop (n + 1) := by
    rw [List.drop_eq_getElem_cons hl]
    rw [List.getElem?_eq_getElem hl] at h
    rw [Option.some.inj h]
  rw [e]; rfl
/-- over any list of turns that the rules of the loops give -/
theorem exit_core {stp : S → α → S ⊕ R} {s0 s : S} {n : Nat} {x : α} {J : Nat → S → Prop} {Δ : S → List Ent} {B0 : Hp} (hx : xs[n]? = some x) (hI : loopE stp xs s0 = loopE stp (xs.drop n) s) {σ' : Sta} {H' : Hp} (h : EX c B0 S R Δ J (n + 1) (stp s x) σ' H') :
    NX c B0 S Δ (fun n s => loopE stp xs s0 = loopE stp (xs.drop n) s ∧ J n s) (n + 1) σ' H' := by
  obtain ⟨s', h1, h2, h3⟩ := h
  refine ⟨s', ⟨?_, h2⟩, h3⟩
  rw [hI, loopE_at hx, h1]
theorem it_flex {J : It} {m : Nat} {gt : TG} (Pv : Nat → Sta → Hp → Prop) (h0 : Pv 0 σ H) (hgo : ∀ i σ H, i < m → Pv i σ H → J.go i H) (hst : ∀ σ H, Pv m σ H → J.stop m H)
    (hs : ∀ i σ H, i < m → Pv i σ H → ∃ N : Sta → Hp → Prop, (∀ σ' H', N σ' H' → Pv (i + 1) σ' H') ∧ ∀ x H', J.yld i H x H' → gt x σ H' fun σ2 H2 => ts { D with nx := N, ct := N, bk := D.nx } σ2 H2) (hd : ∀ σ H, Pv m σ H → D.nx σ H) :
    ∃ W : Nat → Nat → L2.St → Hp → Prop, (∃ m, W 0 m σ H) ∧ ∀ i k σ H, W i k σ H →
      (J.stop i H ∧ D.nx σ H) ∨ (J.go i H ∧ ∃ N : L2.St → Hp → Prop, (∀ σ' H', N σ' H' → ∃ m', m' < k ∧ W (i + 1) m' σ' H') ∧ ∀ x H', J.yld i H x H' → gt x σ H' fun σ2 H2 => ts { D with nx := N, ct := N, bk := D.nx } σ2 H2) := by
  refine ⟨fun i k σ H => k = m - i ∧ i ≤ m ∧ Pv i σ H, ⟨m, by simp, Nat.zero_le _, h0⟩, ?_⟩
  rintro i k σ H ⟨rfl, hi, p⟩
  by_cases hlt : i < m
  · obtain ⟨N, h1, h2⟩ := hs i σ H hlt p
    exact .inr ⟨hgo i σ H hlt p, N, fun σ' H' p' => ⟨m - (i + 1), by omega, rfl, hlt, h1 _ _ p'⟩, h2⟩
  · have e : i = m := by omega
    subst e
    exact .inl ⟨hst σ H p, hd σ H p⟩
theorem q_exitL (Δ : S → List Ent) (stp : S → α → S ⊕ R) (s0 : S) (J : Nat → S → Prop) (B : Bs c H σ δ) (h : Ev (c.hd f δ) tl σ H (eL em xs)) (w : LeA δ (Δ s0)) (j0 : J 0 s0)
    (body : ∀ (B0 : Hp), Ex c.B B0 → ∀ (n : Nat) (s : S) (x : α) (σ1 : Sta) (H1 : Hp), x ∈ xs → n < xs.length → (∀ r, stp s x = .inr r → loopE stp xs s0 = .inr r) → J n s → Bs { c with B := B0 } H1 σ1 ((Δ s).set j (.va f (em x))) →
      ts { D with nx := EX c B0 S R Δ J (n + 1) (stp s x), ct := EX c B0 S R Δ J (n + 1) (stp s x), bk := tz D } σ1 H1)
    (done : ∀ s σ1 H1, loopE stp xs s0 = .inl s → J xs.length s → Bs c H1 σ1 (Δ s) → tz D σ1 H1) : tSeq (tFor (iList K tl) (gName j) ts) tz D σ H := by
  refine h.go fun v H2 e2 hv => ?_
  have B2 := B.mono e2
  cases hv with
  | @lst p vs _ hp hr =>
    have u := B2.under
    have W : ∀ {H3 σ3 s}, Bs { c with B := hid (fun a => Adr δ a) H2 } H3 σ3 (Δ s) → Ex (hid (c.hd f δ) H2) (hid (c.hd f (Δ s)) H3) := fun B3 => B3.pers fun a u q => at_has q
    have hl : vs.length = xs.length := by rw [hr.length, List.length_map]
    refine ⟨p, rfl, ⟨vs, .inl (.inl (hid_ex _ _ hp))⟩, it_flex (m := xs.length) (NX c _ S Δ (fun n s => loopE stp xs s0 = loopE stp (xs.drop n) s ∧ J n s)) ⟨s0, ⟨by simp, j0⟩, (B2.rebase).le w⟩ (fun n σ3 H3 hn ⟨s, _, B3⟩ => ?_) (fun σ3 H3 ⟨s, _, B3⟩ => ?_) (fun n σ3 H3 hn ⟨s, hi, B3⟩ => ?_) (fun σ3 H3 ⟨s, hi, B3⟩ => ?_)⟩
    · exact ⟨vs, vs[n]'(by omega), .inl (.inl (hid_ex _ _ (W B3 _ _ hp))), List.getElem?_eq_getElem (by omega)⟩
    · exact ⟨vs, .inl (.inl (hid_ex _ _ (W B3 _ _ hp))), by omega⟩
    · refine ⟨EX c _ S R Δ J (n + 1) (stp s xs[n]), fun σ' H' q => exit_core (List.getElem?_eq_getElem hn) hi.1 q, ?_⟩
      rintro x H' ⟨rfl, hx⟩
      have ex := hx _ (.inl (.inl (hid_ex _ _ (W B3 _ _ hp))))
      obtain ⟨d, hd, q⟩ := hr.get' ex
      rw [List.getElem?_map, List.getElem?_eq_getElem hn] at hd
      cases hd
      exact body _ u n s xs[n] _ _ (List.getElem_mem hn) hn (fun r hr => by rw [hi.1, loopE_at (List.getElem?_eq_getElem hn), hr]) hi.2 (set_va B3 (q.mono (W B3)))
    · refine done s _ _ ?_ hi.2 (B3.debase u)
      rw [hi.1, List.drop_length]; rfl
theorem q_exitO (Δ : S → List Ent) (stp : S → α → S ⊕ R) (s0 : S) (J : Nat → S → Prop) (B : Bs c H σ δ) (hk : ∀ s, (Δ s)[i]? = some (.ow f a (xs.map em))) (w : LeA δ (Δ s0)) (j0 : J 0 s0)
    (body : ∀ (B0 : Hp), Ex c.B B0 → ∀ (n : Nat) (s : S) (x : α) (σ1 : Sta) (H1 : Hp), x ∈ xs → n < xs.length → (∀ r, stp s x = .inr r → loopE stp xs s0 = .inr r) → J n s → Bs { c with B := B0 } H1 σ1 ((Δ s).set j (.va f (em x))) →
      ts { D with nx := EX c B0 S R Δ J (n + 1) (stp s x), ct := EX c B0 S R Δ J (n + 1) (stp s x), bk := tz D } σ1 H1)
    (done : ∀ s σ1 H1, loopE stp xs s0 = .inl s → J xs.length s → Bs c H1 σ1 (Δ s) → tz D σ1 H1) : tSeq (tFor (iList K (tVar i)) (gName j) ts) tz D σ H := by
  obtain ⟨vs, e, hp, hr⟩ := (B.le w).ent i _ (hk s0)
  have u := B.under
  refine ⟨.ref a, e, a, rfl, ⟨vs, .inl (.inl hp)⟩, it_flex (m := xs.length) (NX c (hid (fun a => Adr δ a) H) S Δ (fun n s => loopE stp xs s0 = loopE stp (xs.drop n) s ∧ J n s)) ⟨s0, ⟨by simp, j0⟩, B.rebase.le w⟩ (fun n σ3 H3 hn ⟨s, _, B3⟩ => ?_) (fun σ3 H3 ⟨s, _, B3⟩ => ?_) (fun n σ3 H3 hn ⟨s, hi, B3⟩ => ?_) (fun σ3 H3 ⟨s, hi, B3⟩ => ?_)⟩
  · obtain ⟨vs3, e3, hp3, hr3⟩ := B3.ent i _ (hk s)
    have hl : vs3.length = xs.length := by rw [hr3.length, List.length_map]
    exact ⟨vs3, vs3[n]'(by omega), .inl (.inl hp3), List.getElem?_eq_getElem (by omega)⟩
  · obtain ⟨vs3, e3, hp3, hr3⟩ := B3.ent i _ (hk s)
    have hl : vs3.length = xs.length := by rw [hr3.length, List.length_map]
    exact ⟨vs3, .inl (.inl hp3), by omega⟩
  · obtain ⟨vs3, e3, hp3, hr3⟩ := B3.ent i _ (hk s)
    refine ⟨EX c _ S R Δ J (n + 1) (stp s xs[n]), fun σ' H' q => exit_core (List.getElem?_eq_getElem hn) hi.1 q, ?_⟩
    rintro x H' ⟨rfl, hx⟩
    have ex := hx _ (.inl (.inl hp3))
    obtain ⟨d, hd, q⟩ := hr3.get' ex
    rw [List.getElem?_map, List.getElem?_eq_getElem hn] at hd
    cases hd
    exact body _ u n s xs[n] _ _ (List.getElem_mem hn) hn (fun r hr => by rw [hi.1, loopE_at (List.getElem?_eq_getElem hn), hr]) hi.2 (set_va B3 q)
  · refine done s _ _ ?_ hi.2 (B3.debase u)
    rw [hi.1, List.drop_length]; rfl
theorem exitR_core {lo : Int} {k : Nat} (zs : List Int) (hz : ∀ n, n < k → zs[n]? = some (lo + n)) (hl : zs.length = k) (Δ : S → List Ent) (stp : S → Int → S ⊕ R) (s0 : S) (J : Nat → S → Prop) (B : Bs c H σ δ) (w : LeA δ (Δ s0)) (j0 : J 0 s0)
    (body : ∀ (B0 : Hp), Ex c.B B0 → ∀ (n : Nat) (s : S) (x : Int) (σ1 : Sta) (H1 : Hp), x ∈ zs → n < zs.length → (∀ r, stp s x = .inr r → loopE stp zs s0 = .inr r) → J n s → Bs { c with B := B0 } H1 σ1 ((Δ s).set j (.va true (eI x))) →
      ts { D with nx := EX c B0 S R Δ J (n + 1) (stp s x), ct := EX c B0 S R Δ J (n + 1) (stp s x), bk := D.nx } σ1 H1)
    (done : ∀ s σ1 H1, loopE stp zs s0 = .inl s → J zs.length s → Bs c H1 σ1 (Δ s) → D.nx σ1 H1) :
    ∃ W : Nat → Nat → L2.St → Hp → Prop, (∃ m, W 0 m σ H) ∧ ∀ i q σ H, W i q σ H →
      ((Itr lo k).stop i H ∧ D.nx σ H) ∨ ((Itr lo k).go i H ∧ ∃ N : L2.St → Hp → Prop, (∀ σ' H', N σ' H' → ∃ m', m' < q ∧ W (i + 1) m' σ' H') ∧ ∀ x H', (Itr lo k).yld i H x H' → gName j x σ H' fun σ2 H2 => ts { D with nx := N, ct := N, bk := D.nx } σ2 H2) := by
  have u := B.under
  refine it_flex (m := k) (NX c (hid (fun a => Adr δ a) H) S Δ (fun n s => loopE stp zs s0 = loopE stp (zs.drop n) s ∧ J n s)) ⟨s0, ⟨by simp, j0⟩, B.rebase.le w⟩ (fun n σ3 H3 hn _ => hn) (fun σ3 H3 _ => Nat.le_refl _) (fun n σ3 H3 hn ⟨s, hi, B3⟩ => ?_) (fun σ3 H3 ⟨s, hi, B3⟩ => ?_)
  · refine ⟨EX c _ S R Δ J (n + 1) (stp s (lo + n)), fun σ' H' q => exit_core (hz n hn) hi.1 q, ?_⟩
    rintro x H' ⟨rfl, rfl⟩
    exact body _ u n s (lo + n) _ _ (List.mem_of_getElem? (hz n hn)) (by omega) (fun r hr => by rw [hi.1, loopE_at (hz n hn), hr]) hi.2 (set_va B3 (.int _))
  · rw [← hl] at hi
    refine done s _ _ ?_ hi.2 (B3.debase u)
    rw [hi.1, List.drop_length]; rfl
theorem q_exitR1 {hi : Int} (Δ : S → List Ent) (stp : S → Int → S ⊕ R) (s0 : S) (J : Nat → S → Prop) (B : Bs c H σ δ) (h : Ev o0 te σ H (eI hi)) (hm : -1000000 ≤ hi ∧ hi ≤ 1000000) (w : LeA δ (Δ s0)) (j0 : J 0 s0)
    (body : ∀ (B0 : Hp), Ex c.B B0 → ∀ (n : Nat) (s : S) (x : Int) (σ1 : Sta) (H1 : Hp), x ∈ rng 0 hi → n < (rng 0 hi).length → (∀ r, stp s x = .inr r → loopE stp (rng 0 hi) s0 = .inr r) → J n s → Bs { c with B := B0 } H1 σ1 ((Δ s).set j (.va true (eI x))) →
      ts { D with nx := EX c B0 S R Δ J (n + 1) (stp s x), ct := EX c B0 S R Δ J (n + 1) (stp s x), bk := tz D } σ1 H1)
    (done : ∀ s σ1 H1, loopE stp (rng 0 hi) s0 = .inl s → J (rng 0 hi).length s → Bs c H1 σ1 (Δ s) → tz D σ1 H1) : tSeq (tFor (iRng1 (tCons te tNil)) (gName j) ts) tz D σ H := by
  refine h.go fun v H2 e2 hv => ?_
  cases hv
  exact ⟨hi, rfl, by omega, by omega, exitR_core (D := { D with nx := tz D }) (rng 0 hi) (fun n hn => rng_get (by omega)) (by rw [rng_len]; omega) Δ stp s0 J (B.mono e2) w j0 body done⟩
theorem q_exitR2 {lo hi : Int} (Δ : S → List Ent) (stp : S → Int → S ⊕ R) (s0 : S) (J : Nat → S → Prop) (B : Bs c H σ δ) (h1 : Ev o0 ta σ H (eI lo)) (h : Ev o0 te σ H (eI hi)) (hm : -1000000 ≤ lo ∧ lo ≤ 1000000 ∧ -1000000 ≤ hi ∧ hi ≤ 1000000) (w : LeA δ (Δ s0)) (j0 : J 0 s0)
    (body : ∀ (B0 : Hp), Ex c.B B0 → ∀ (n : Nat) (s : S) (x : Int) (σ1 : Sta) (H1 : Hp), x ∈ rng lo hi → n < (rng lo hi).length → (∀ r, stp s x = .inr r → loopE stp (rng lo hi) s0 = .inr r) → J n s → Bs { c with B := B0 } H1 σ1 ((Δ s).set j (.va true (eI x))) →
      ts { D with nx := EX c B0 S R Δ J (n + 1) (stp s x), ct := EX c B0 S R Δ J (n + 1) (stp s x), bk := tz D } σ1 H1)
    (done : ∀ s σ1 H1, loopE stp (rng lo hi) s0 = .inl s → J (rng lo hi).length s → Bs c H1 σ1 (Δ s) → tz D σ1 H1) : tSeq (tFor (iRng2 (tCons ta (tCons te tNil))) (gName j) ts) tz D σ H := by
  refine h1.go fun v H2 e2 hv => (h.mono e2).go fun v' H3 e3 hv' => ?_
  cases hv; cases hv'
  exact ⟨lo, hi, rfl, by omega, exitR_core (D := { D with nx := tz D }) (rng lo hi) (fun n hn => rng_get hn) (rng_len _ _) Δ stp s0 J (B.mono (e2.trans e3)) w j0 body done⟩

/-! a value is worth one datum, and a list isn't in itself -/
end
mutual
theorem Dn.fn {H : Hp} : ∀ {v : V} {d d' : PyData}, Dn H v d → Dn H v d' → d = d'
  | _, _, _, .non, h => by cases h; rfl
  | _, _, _, .bl b, h => by cases h; rfl
  | _, _, _, .int i, h => by cases h; rfl
  | _, _, _, .str x, h => by cases h; rfl
  | _, _, _, .lst h r, h' => by
    cases h' with
    | lst h2 r2 => rw [h] at h2; cases h2; rw [DnA.fn r r2]
    | tup h2 r2 => rw [h] at h2; cases h2
    | dct h2 r2 => rw [h] at h2; cases h2
  | _, _, _, .tup h r, h' => by
    cases h' with
    | lst h2 r2 => rw [h] at h2; cases h2
    | tup h2 r2 => rw [h] at h2; cases h2; rw [DnA.fn r r2]
    | dct h2 r2 => rw [h] at h2; cases h2
  | _, _, _, .dct h r, h' => by
    cases h' with
    | lst h2 r2 => rw [h] at h2; cases h2
    | tup h2 r2 => rw [h] at h2; cases h2
    | dct h2 r2 => rw [h] at h2; cases h2; rw [DnK.fn r r2]
theorem DnA.fn {H : Hp} : ∀ {vs : List V} {ds ds' : List PyData}, DnA H vs ds → DnA H vs ds' → ds = ds'
  | _, _, _, .nil, h => by cases h; rfl
  | _, _, _, .cons h r, h' => by
    cases h' with
    | cons h2 r2 => rw [Dn.fn h h2, DnA.fn r r2]
theorem DnK.fn {H : Hp} : ∀ {vs : List (Key × V)} {ds ds' : List (PyData × PyData)}, DnK H vs ds → DnK H vs ds' → ds = ds'
  | _, _, _, .nil, h => by cases h; rfl
  | _, _, _, .cons h r, h' => by
    cases h' with
    | cons h2 r2 => rw [Dn.fn h h2, DnK.fn r r2]
end
mutual
theorem Dn.small {H : Hp} {p : Addr} {vs : List V} {ds : List PyData} (hp : H p = some (.lst vs)) (hd : DnA H vs ds) : ∀ {v : V} {d : PyData}, Dn H v d → sizeOf d < sizeOf (PyData.list ds) → Dn (hid (fun a => a = p) H) v d
  | _, _, .non, _ => .non
  | _, _, .bl b, _ => .bl b
  | _, _, .int i, _ => .int i
  | _, _, .str x, _ => .str x
  | _, _, @Dn.lst _ a xs es h r, hs => by
    have ne : ¬ a = p := fun z => by
      subst z
      rw [h] at hp; cases hp
      have := DnA.fn r hd
      subst this
      omega
    exact .lst (by rw [hid_at (o := fun a => a = p) ne]; exact h) (DnA.small hp hd r (by simp at hs ⊢; omega))
  | _, _, @Dn.tup _ a xs es h r, hs => by
    have ne : ¬ a = p := fun z => by subst z; rw [h] at hp; cases hp
    exact .tup (by rw [hid_at (o := fun a => a = p) ne]; exact h) (DnA.small hp hd r (by simp at hs ⊢; omega))
  | _, _, @Dn.dct _ a xs es h r, hs => by
    have ne : ¬ a = p := fun z => by subst z; rw [h] at hp; cases hp
    exact .dct (by rw [hid_at (o := fun a => a = p) ne]; exact h) (DnK.small hp hd r (by simp at hs ⊢; omega))
theorem DnA.small {H : Hp} {p : Addr} {vs : List V} {ds : List PyData} (hp : H p = some (.lst vs)) (hd : DnA H vs ds) : ∀ {ws : List V} {es : List PyData}, DnA H ws es → sizeOf es < sizeOf (PyData.list ds) → DnA (hid (fun a => a = p) H) ws es
  | _, _, .nil, _ => .nil
  | _, _, .cons h r, hs => .cons (Dn.small hp hd h (by simp at hs ⊢; omega)) (DnA.small hp hd r (by simp at hs ⊢; omega))
theorem DnK.small {H : Hp} {p : Addr} {vs : List V} {ds : List PyData} (hp : H p = some (.lst vs)) (hd : DnA H vs ds) : ∀ {ws : List (Key × V)} {es : List (PyData × PyData)}, DnK H ws es → sizeOf es < sizeOf (PyData.list ds) → DnK (hid (fun a => a = p) H) ws es
  | _, _, .nil, _ => .nil
  | _, _, .cons h r, hs => .cons (Dn.small hp hd h (by simp at hs ⊢; omega)) (DnK.small hp hd r (by simp at hs ⊢; omega))
end
section
variable {K : PySem.W.Frag} {c : Wd} {o : Hd} {H H1 H' : Hp} {σ : Sta} {δ δ' : List Ent} {i j ci : Nat} {f g b : Bool} {a : Addr} {d e : PyData} {ta tb te tl : TE} {t : TT} {ts tu tw tz : TS} {D : Ends} {α β γ S R : Type} {em : α → PyData} {em2 : β → PyData} {emg : γ → PyData} {xs ys : List α} {m n : Int}
theorem en_new {ds : List PyData} (l : Live o H) (h : ∀ H1, Ex H H1 → ∀ Q : VK, (∀ v H2, Ex H1 H2 → Dn (new H1 H2) v (.list ds) → Q v H2) → te σ H1 Q) : EvN o te σ H ds := fun H1 x Q q =>
  h H1 x _ fun v H3 e3 hd => by
    cases hd with
    | lst hp r =>
      rename_i p xs
      obtain ⟨n1, n2⟩ := hid_of hp
      have np : H1 p = none := by
        cases z : H1 p with
        | none => rfl
        | some u => exact absurd (by rw [z]; simp) n1
      refine q p xs H3 np e3 n2 ?_
      have r2 := DnA.small hp r r (by simp)
      refine r2.mono fun b u z => ?_
      obtain ⟨z1, z2⟩ := hid_of (o := fun a => a = p) z
      obtain ⟨z3, z4⟩ := hid_of z2
      rw [hid_at]
      · exact z4
      · rintro (w | w)
        · exact z3 ((l.mono x) b w)
        · exact z1 w
/-- a call whose answer is a new list -/
theorem en_callF {R : List PyData → PyData → Prop} {E : XK} {tr : TA} {ds es : List PyData} (l : Live o H) (h : EvA o0 tr σ H es) (hr : R es (.list ds)) : EvN o (tCall (SpF R) [] E tr) σ H ds := fun H1 x Q q =>
  h H1 x _ fun vs H2 e2 hv => ⟨es, _, by rw [List.append_nil]; exact hv.up, hr, fun v H3 e3 hd => by
    cases hd with
    | lst hp r =>
      rename_i p xs
      obtain ⟨n1, n2⟩ := hid_of hp
      have np : H2 p = none := by
        cases z : H2 p with
        | none => rfl
        | some u => exact absurd (by rw [z]; simp) n1
      refine q p xs H3 (Evl.fresh_back e2 np) (e2.trans e3) n2 ?_
      have r2 := DnA.small hp r r (by simp)
      refine r2.mono fun b u z => ?_
      obtain ⟨z1, z2⟩ := hid_of (o := fun a => a = p) z
      obtain ⟨z3, z4⟩ := hid_of z2
      rw [hid_at]
      · exact z4
      · rintro (w | w)
        · exact z3 (((l.mono x).mono e2) b w)
        · exact z1 w⟩
/-- an item of a list or of a tuple, by the rule that takes either -/
theorem ev_ixAL {ds : List PyData} {m : Int} (ha : Ev o ta σ H (.list ds)) (hi : Ev o0 tb σ H (.int m)) (hg : atI ds m = some d) : Ev o (tOp (rIx K) ta tb) σ H d := fun H1 x Q q =>
  ha H1 x _ fun v H2 e2 hv => hi H2 (x.trans e2) _ fun w H3 e3 hw => by
    cases hw
    cases hv with
    | lst h r =>
      obtain ⟨y, y1, y2⟩ := (r.mono (hid_mono e3)).atI hg
      exact .inl ⟨_, _, m, y, rfl, rfl, .inl (.inl (e3 _ _ (hid_ex _ _ h))), y1, q _ H3 (e2.trans e3) y2⟩
theorem ev_ixAT {ds : List PyData} {m : Int} (ha : Ev o ta σ H (.tuple ds)) (hi : Ev o0 tb σ H (.int m)) (hg : atI ds m = some d) : Ev o (tOp (rIx K) ta tb) σ H d := fun H1 x Q q =>
  ha H1 x _ fun v H2 e2 hv => hi H2 (x.trans e2) _ fun w H3 e3 hw => by
    cases hw
    cases hv with
    | tup h r =>
      obtain ⟨y, y1, y2⟩ := (r.mono (hid_mono e3)).atI hg
      exact .inr (.inl ⟨_, _, m, y, rfl, rfl, .inl (.inl (e3 _ _ (hid_ex _ _ h))), y1, q _ H3 (e2.trans e3) y2⟩)
/-! ### defs that change the list they are passed -/
theorem bs_M {N : List Str} {vr : List V} {xs : List V} {ds rs : List PyData} {H : Hp} {o : Hd} {a : Addr} (l : Live o H) (oa : o a) (ha : H a = some (.lst xs)) (hx : DnA (hid o H) xs ds) (hr : DnA H vr rs) (hs : ∀ d ∈ rs, Sc d) (hN : vr.length + 1 ≤ N.length) :
    Bs ⟨hid (fun b => b = a) H, fun b => o b ∧ b ≠ a, o0⟩ H (L2.start N (.ref a :: vr)) (.ow true a ds :: args true (N.length - 1) rs) := by
  have hrl := hr.length
  have na : ∀ {k : Nat} {f : Bool} {b : Addr} {es : List PyData}, (args true (N.length - 1) rs)[k]? ≠ some (.ow f b es) := fun {k f b es} z => by
    have he := List.mem_of_getElem? z
    unfold args at he
    rcases List.mem_append.mp he with he | he
    · obtain ⟨d, _, q⟩ := List.mem_map.mp he; cases q
    · have := (List.mem_replicate.mp he).2; cases this
  have adr : ∀ b, Adr (.ow true a ds :: args true (N.length - 1) rs) b → b = a := fun b ⟨k, f, es, z⟩ => by
    cases k with
    | zero => simp at z; exact z.2.1.symm
    | succ k => exact absurd (by simpa using z) na
  have hdo : ∀ b, (⟨hid (fun b => b = a) H, fun b => o b ∧ b ≠ a, o0⟩ : Wd).hd true (.ow true a ds :: args true (N.length - 1) rs) b → o b := fun b z => by
    rcases z with z | z | z
    · exact z.2.1
    · exact z.elim
    · rw [adr b z]; exact oa
  refine ⟨hid_ex, fun b z => l b z.1, live0, fun b z => ?_, fun i j f1 g b d1 es h1 h2 => ?_, ?_, fun i e he => ?_⟩
  · rw [adr b z]; exact ⟨hid_in rfl, fun z => z.2 rfl, id⟩
  · cases i with
    | zero => cases j with
      | zero => rfl
      | succ j => exact absurd (by simpa using h2) na
    | succ i => exact absurd (by simpa using h1) na
  · rw [start_len (by simpa using hN)]; unfold args; simp; omega
  · cases i with
    | zero =>
      simp at he; subst he
      refine ⟨xs, ?_, ha, hx.mono (hid_sub hdo)⟩
      rw [start_get (by simp) (by simpa using hN)]; rfl
    | succ i =>
      simp only [List.getElem?_cons_succ] at he
      unfold args at he
      by_cases hi : i < rs.length
      · rw [List.getElem?_append_left (by simpa using hi), List.getElem?_map] at he
        obtain ⟨d, hd, q⟩ := Option.map_eq_some_iff.mp he
        subst q
        obtain ⟨v, hv, q⟩ := hr.get hd
        refine ⟨v, ?_, q.sc (hs d (List.mem_of_getElem? hd))⟩
        rw [start_get (by simp; omega) (by simpa using hN)]
        rw [List.getElem?_eq_some_iff] at hv
        simp [hv.2]
      · rw [List.getElem?_append_right (by simp; omega)] at he
        have := (List.mem_replicate.mp (List.mem_of_getElem? he)).2
        subst this
        trivial
/-- the way out of such a def -/
theorem q_retM {Q : VK} {o : Hd} {H0 : Hp} {ds' : List PyData} {i : Nat} (B : Bs ⟨hid (fun b => b = a) H0, fun b => o b ∧ b ≠ a, o0⟩ H σ δ) (hx : δ[i]? = some (.ow true a ds')) (h : Ev ((⟨hid (fun b => b = a) H0, fun b => o b ∧ b ≠ a, o0⟩ : Wd).hd true δ) te σ H d) (hD : D.rt = Q)
    (k : ∀ v xs' H', (∀ b u, b ≠ a → H0 b = some u → H' b = some u) → H' a = some (.lst xs') → DnA (hid o H') xs' ds' → Dn (hid o H') v d → Q v H') : tSeq (tRet te) tz D σ H := by
  refine h.go fun v H2 e2 hv => ?_
  have B2 := B.mono e2
  obtain ⟨vs, _, ha, hr⟩ := B2.ent i _ hx
  have sub : ∀ b, o b → (⟨hid (fun b => b = a) H0, fun b => o b ∧ b ≠ a, o0⟩ : Wd).hd true δ b := fun b z => by
    by_cases q : b = a
    · subst q; exact .inr (.inr ⟨i, true, ds', hx⟩)
    · exact .inl ⟨rfl, z, q⟩
  show D.rt v H2
  rw [hD]
  exact k v vs H2 (fun b u nb hb => B2.base b u (by show hid (fun b => b = a) H0 b = some u; rw [hid_at (o := fun b => b = a) nb]; exact hb)) ha (hr.mono (hid_sub sub)) (hv.mono (hid_sub sub))
theorem adr_ow {ds ds' : List PyData} (h : δ[i]? = some (.ow f a ds)) (b : Addr) : Adr (δ.set i (.ow f a ds')) b ↔ Adr δ b := by
  have hl : i < δ.length := by
    rw [List.getElem?_eq_some_iff] at h
    exact h.1
  constructor
  · intro z
    rcases adr_set z with z | ⟨_, _, z⟩
    · exact z
    · injection z with _ z _; subst z; exact ⟨i, f, ds, h⟩
  · rintro ⟨k, g, es, z⟩
    by_cases q : i = k
    · subst q
      rw [h] at z
      injection z with z; injection z with z1 z2 z3
      subst z1; subst z2
      exact ⟨i, f, ds', by rw [List.getElem?_set]; simp [hl]⟩
    · exact ⟨k, g, es, by rw [List.getElem?_set_ne q]; exact z⟩
theorem adr_no {e : Ent} (h : δ[i]? = some .no) (he : ∀ f a ds, e ≠ .ow f a ds) (b : Addr) : Adr (δ.set i e) b ↔ Adr δ b := by
  constructor
  · intro z
    rcases adr_set z with z | ⟨f, ds, z⟩
    · exact z
    · exact absurd z (he _ _ _)
  · rintro ⟨k, g, es, z⟩
    exact ⟨k, g, es, by rw [List.getElem?_set_ne (fun q => by subst q; rw [h] at z; cases z)]; exact z⟩
theorem hd_adr {δ1 δ2 : List Ent} (h : ∀ b, Adr δ1 b ↔ Adr δ2 b) (f : Bool) : c.hd f δ1 = c.hd f δ2 := by
  funext b; unfold Wd.hd; rw [h b]
/-- a slot of which nothing is known may hold anything -/
theorem Bs.slot {x : Option V} (B : Bs c H σ δ) (h : δ[j]? = some .no) : Bs c H (σ.set j x) δ := by
  refine ⟨B.base, B.liO, B.liN, B.own, B.one, by rw [List.length_set]; exact B.len, fun i e he => ?_⟩
  by_cases q : j = i
  · subst q; rw [h] at he; cases he; trivial
  · rw [List.getElem?_set_ne q]; exact B.ent i e he
/-- an object that no value may meet is rewritten -/
theorem Bs.updN {p : Addr} {u : HO} (B : Bs c H σ δ) (hp : c.N p) (hB : c.B p = none) : Bs c (upd H p u) σ δ := by
  have lv : ∀ {o : Hd}, Live o H → Live o (upd H p u) := fun {o} l b hb z => by
    by_cases q : b = p
    · subst q; rw [upd_same] at z; cases z
    · rw [upd_ne q] at z; exact l b hb z
  have hh : ∀ f, hid (c.hd f δ) (upd H p u) = hid (c.hd f δ) H := fun f => hid_upd_in (.inr (.inl hp))
  refine ⟨fun b v q => ?_, lv B.liO, lv B.liN, B.own, B.one, B.len, fun i e he => ?_⟩
  · rw [upd_ne (ne_of_none q hB)]; exact B.base _ _ q
  · have w := B.ent i e he
    cases e with
    | no => trivial
    | va f d => obtain ⟨v, e, w⟩ := w; exact ⟨v, e, by rw [hh]; exact w⟩
    | ow f b es =>
      obtain ⟨ws, e, w, r⟩ := w
      refine ⟨ws, e, ?_, by rw [hh]; exact r⟩
      rw [upd_ne (fun z => (B.own b ⟨i, f, es, he⟩).2.2 (by rw [z]; exact hp))]; exact w
    | rw v => exact w
/-- into a comprehension's block, with its new list at p -/
noncomputable def Wd.blk (c : Wd) (δ : List Ent) (H : Hp) (p : Addr) : Wd := { c with B := hid (fun a => Adr δ a ∨ a = p) H, N := fun a => c.N a ∨ a = p }
theorem Bs.blk {p : Addr} {u : HO} (B : Bs c H σ δ) (np : H p = none) : Bs (c.blk δ H p) (upd H p u) σ δ := by
  have ex : Ex H (upd H p u) := Evl.Ex.new np
  have pa : ¬ Adr δ p := fun ⟨k, f, ds, z⟩ => by
    obtain ⟨vs, _, q, _⟩ := B.ent k _ z
    rw [q] at np; cases np
  refine ⟨fun b v q => ?_, B.liO.mono ex, fun b z => ?_, fun b z => ⟨(show hid (fun a => Adr δ a ∨ a = p) H b = none from hid_in (Or.inl z)), (B.own b z).2.1, fun y => ?_⟩, B.one, B.len, fun i e he => ?_⟩
  · obtain ⟨q1, q2⟩ := hid_of (o := fun a => Adr δ a ∨ a = p) q
    exact ex _ _ q2
  · rcases z with z | z
    · exact (B.liN.mono ex) b z
    · subst z; rw [upd_same]; simp
  · rcases y with y | y
    · exact (B.own b z).2.2 y
    · subst y; exact pa z
  · have w := B.ent i e he
    have hh : ∀ f, Ex (hid (c.hd f δ) H) (hid ((c.blk δ H p).hd f δ) (upd H p u)) := fun f b v q => by
      obtain ⟨q1, q2⟩ := hid_of q
      have nb : b ≠ p := ne_of_none q2 np
      rw [hid_at, upd_ne nb]
      · exact q2
      · rintro (z | (z | z) | z)
        · exact q1 (.inl z)
        · exact q1 (.inr (.inl z))
        · exact nb z
        · exact q1 (.inr (.inr z))
    cases e with
    | no => trivial
    | va f d => obtain ⟨v, e, w⟩ := w; exact ⟨v, e, w.mono (hh f)⟩
    | ow f b es => obtain ⟨ws, e, w, r⟩ := w; exact ⟨ws, e, ex _ _ w, r.mono (hh f)⟩
    | rw v => exact w
theorem Bs.unblk {p : Addr} {H0 : Hp} {σ0 : Sta} (B0 : Bs c H0 σ0 δ') (np : H0 p = none) (B : Bs (c.blk δ' H0 p) H σ δ) : Bs c H σ δ := by
  have ex : Ex c.B (hid (fun a => Adr δ' a ∨ a = p) H0) := fun b u q => by
    rw [hid_at]
    · exact B0.base _ _ q
    · rintro (z | z)
      · rw [(B0.own b z).1] at q; cases q
      · subst z; rw [B0.base _ _ q] at np; cases np
  refine ⟨ex.trans B.base, B.liO, fun b z => B.liN b (.inl z), fun b z => ⟨?_, (B.own b z).2.1, fun y => (B.own b z).2.2 (.inl y)⟩, B.one, B.len, fun i e he => ?_⟩
  · cases q : c.B b with
    | none => rfl
    | some u =>
      have w : hid (fun a => Adr δ' a ∨ a = p) H0 b = none := (B.own b z).1
      rw [ex _ _ q] at w; cases w
  · have w := B.ent i e he
    have hh : ∀ f, Ex (hid ((c.blk δ' H0 p).hd f δ) H) (hid (c.hd f δ) H) := fun f => hid_sub fun b z => by
      rcases z with z | z | z
      · exact .inl z
      · exact .inr (.inl (.inl z))
      · exact .inr (.inr z)
    cases e with
    | no => trivial
    | va f d => obtain ⟨v, e, w⟩ := w; exact ⟨v, e, w.mono (hh f)⟩
    | ow f b es => obtain ⟨ws, e, w, r⟩ := w; exact ⟨ws, e, w, r.mono (hh f)⟩
    | rw v => exact w
/-- a comprehension over a range whose turns change one list of the body's own -/
def stepE (nx : List γ → Int → β × List γ) (p : List β × List γ) (k : Int) : List β × List γ := (p.1 ++ [(nx p.2 k).1], (nx p.2 k).2)
theorem en_lcE {lo hi : Int} {tr : TI} (nx : List γ → Int → β × List γ) (J : List γ → Prop) {gs : List γ} (B : Bs c H σ δ) (hj : δ[j]? = some .no) (hx : δ[ci]? = some (.ow true a (gs.map emg))) (j0 : J gs) (js : ∀ gs k, J gs → J (nx gs k).2)
    (h : ∀ H1, Ex H H1 → ∀ R : It → Hp → Prop, (∀ H2, Ex H1 H2 → R (Itr lo (hi - lo).toNat) H2) → tr σ H1 R) (hz : hi - lo ≤ 40000)
    (body : ∀ (c' : Wd) (gs : List γ) (x : Int) (σ1 : Sta) (H1 : Hp), x ∈ rng lo hi → J gs → Bs c' H1 σ1 ((δ.set ci (.ow true a (gs.map emg))).set j (.va true (eI x))) →
      EvM c' te σ1 H1 ((δ.set ci (.ow true a (gs.map emg))).set j (.va true (eI x))) (em2 (nx gs x).1) ((δ.set ci (.ow true a ((nx gs x).2.map emg))).set j (.va true (eI x)))) :
    ∀ Q : VK, (∀ p vs H2, H p = none → H2 p = some (.lst vs) → Bs c H2 σ (δ.set ci (.ow true a (((rng lo hi).foldl (stepE nx) ([], gs)).2.map emg))) →
      DnA (hid (fun b => c.hd true δ b ∨ b = p) H2) vs (((rng lo hi).foldl (stepE nx) ([], gs)).1.map em2) → Q (.ref p) H2) → tLc tr (gName j) tYes te [j] σ H Q := by
  intro Q q
  refine h H (Ex.refl H) _ fun H2 e2 => ?_
  have B2 := B.mono e2
  intro C nC
  have ncj : ci ≠ j := fun z => by subst z; rw [hj] at hx; cases hx
  let st := fun n : Nat => ((rng lo hi).take n).foldl (stepE nx) ([], gs)
  have hjn : ∀ gs' : List γ, (δ.set ci (.ow true a (gs'.map emg)))[j]? = some .no := fun gs' => by rw [List.getElem?_set_ne ncj]; exact hj
  have hci : ∀ gs' : List γ, (δ.set ci (.ow true a (gs'.map emg)))[ci]? = some (.ow true a (gs'.map emg)) := fun gs' => by
    have : ci < δ.length := by rw [List.getElem?_eq_some_iff] at hx; exact hx.1
    rw [List.getElem?_set]; simp [this]
  have ead : ∀ gs' : List γ, ∀ b, Adr (δ.set ci (.ow true a (gs'.map emg))) b ↔ Adr δ b := fun gs' b => adr_ow hx b
  have ead2 : ∀ (gs' : List γ) (x : Int) b, Adr ((δ.set ci (.ow true a (gs'.map emg))).set j (.va true (eI x))) b ↔ Adr δ b := fun gs' x b => (adr_no (hjn gs') (fun _ _ _ z => by cases z) b).trans (ead gs' b)
  have e0 : δ.set ci (.ow true a (gs.map emg)) = δ := by
    refine List.ext_getElem? fun k => ?_
    by_cases z : ci = k
    · subst z; rw [hci, hx]
    · rw [List.getElem?_set_ne z]
  have cC : (c.blk δ H2 C).N C := .inr rfl
  have bC : (c.blk δ H2 C).B C = none := hid_in (o := fun a => Adr δ a ∨ a = C) (.inr rfl)
  refine lc_range (lo := lo) (n := (hi - lo).toNat) (fun n H3 => ∃ acc, Bs (c.blk δ H2 C) H3 (wipe σ [j]) (δ.set ci (.ow true a ((st n).2.map emg))) ∧ H3 C = some (.lst acc) ∧ DnA (hid ((c.blk δ H2 C).hd true δ) H3) acc ((st n).1.map em2) ∧ J (st n).2) ?_ (fun n H3 hn hP => ?_) (fun H3 hP => ?_)
  · refine ⟨[], ?_, upd_same, .nil, j0⟩
    show Bs _ _ (σ.set j none) (δ.set ci (.ow true a (gs.map emg)))
    rw [e0]
    exact (B2.blk nC).slot hj
  · obtain ⟨acc, B3, hC, hacc, hJ⟩ := hP
    have hge := rng_get hn
    have tk : st (n + 1) = stepE nx (st n) (lo + n) := take_fold hge
    have B4 := set_va (i := j) (f := true) (d := eI (lo + n)) (v := .int (lo + n)) B3 (.int _)
    refine ⟨?_, ?_⟩
    · show ((((wipe σ []).set j none).set j (some (.int (lo + n)))).set j none) = _
      rw [List.set_set, List.set_set]; rfl
    unfold tYes
    dsimp only
    rw [if_pos rfl]
    refine body _ _ (lo + n) _ _ (List.mem_of_getElem? hge) hJ B4 _ fun v H5 B5 k5 hv => ?_
    have nad : ∀ b, ¬ Adr ((δ.set ci (.ow true a ((st n).2.map emg))).set j (.va true (eI (lo + n)))) b ↔ ¬ Adr δ b := fun b => not_congr (ead2 _ _ b)
    have hC5 : H5 C = some (.lst acc) := k5 C _ ((nad C).mpr fun z => (B3.own C ((ead _ C).mpr z)).2.2 cC) hC
    have hC0 : (c.blk δ H2 C).hd true δ C := .inr (.inl cC)
    have acc5 : DnA (hid ((c.blk δ H2 C).hd true δ) H5) acc ((st n).1.map em2) := hacc.mono fun b u q => by
      obtain ⟨q1, q2⟩ := hid_of q
      rw [hid_at q1]
      exact k5 b u ((nad b).mpr fun z => q1 (.inr (.inr z))) q2
    have v5 : Dn (hid ((c.blk δ H2 C).hd true δ) H5) v (em2 (nx (st n).2 (lo + n)).1) := by
      rw [hd_adr (ead2 _ _) true] at hv; exact hv
    refine ⟨acc, hC5, ?_, acc ++ [v], ?_, upd_same, ?_, ?_⟩
    · refine Evl.sz_lt ?_
      rw [hacc.length, List.length_map]
      have ln : ∀ k, (st k).1.length ≤ k := fun k => by
        show (((rng lo hi).take k).foldl (stepE nx) ([], gs)).1.length ≤ k
        have gen : ∀ (l : List Int) (p : List β × List γ), (l.foldl (stepE nx) p).1.length = p.1.length + l.length := fun l => by
          induction l with
          | nil => intro p; simp
          | cons y l ih => intro p; rw [List.foldl_cons, ih]; simp [stepE]; omega
        rw [gen]; simp; omega
      have := ln n
      omega
    · rw [tk]
      show Bs (c.blk δ H2 C) (upd H5 C (.lst (acc ++ [v]))) (wipe σ [j]) (δ.set ci (.ow true a ((nx (st n).2 (lo + n)).2.map emg)))
      have B6 : Bs (c.blk δ H2 C) H5 ((wipe σ [j]).set j (some (.int (lo + n)))) (δ.set ci (.ow true a ((nx (st n).2 (lo + n)).2.map emg))) := by
        refine B5.le ?_
        have gen : ∀ (l : List Ent) (k : Nat) (e : Ent), l[k]? = some .no → LeA (l.set k e) l := fun l => by
          induction l with
          | nil => intro k e h; simp at h
          | cons y l ih =>
            intro k e h
            cases k with
            | zero => simp at h; subst h; exact .cons (.no _) (LeA.refl l)
            | succ k => exact .cons (.refl y) (ih k e (by simpa using h))
        exact gen _ _ _ (hjn _)
      have B7 := (B6.slot (x := none) (hjn _)).updN (u := .lst (acc ++ [v])) cC bC
      have ew : ((wipe σ [j]).set j (some (V.int (lo + n)))).set j none = wipe σ [j] := by
        show ((((wipe σ []).set j none).set j (some (.int (lo + n)))).set j none) = _
        rw [List.set_set, List.set_set]; rfl
      rw [ew] at B7
      exact B7
    · rw [hid_upd_in hC0, tk]
      show DnA _ _ (((st n).1 ++ [(nx (st n).2 (lo + n)).1]).map em2)
      rw [List.map_append]
      exact acc5.append (.one v5)
    · rw [tk]; exact js _ _ hJ
  · obtain ⟨acc, B3, hC, hacc, hJ⟩ := hP
    have el : st (hi - lo).toNat = (rng lo hi).foldl (stepE nx) ([], gs) := by
      show ((rng lo hi).take _).foldl _ _ = _
      rw [← rng_len, List.take_length]
    rw [el] at B3 hacc
    refine q C acc H3 (Evl.fresh_back e2 nC) hC ?_ (hacc.mono (hid_sub fun b z => ?_))
    · have B4 := B2.unblk nC B3
      refine ⟨B4.base, B4.liO, B4.liN, B4.own, B4.one, by rw [← B4.len, wipe_length], fun i e he => ?_⟩
      have w := B4.ent i e he
      by_cases z : j = i
      · subst z; rw [hjn] at he; cases he; trivial
      · have : (wipe σ [j])[i]? = σ[i]? := by
          show ((wipe σ []).set j none)[i]? = _
          rw [List.getElem?_set_ne z]; rfl
        rw [this] at w; exact w
    · rcases z with (z | z | z) | z
      · exact .inl z
      · exact .inr (.inl (.inl z))
      · exact .inr (.inr z)
      · exact .inr (.inl (.inr z))
theorem em_callF1 {Rl : List PyData → PyData → Prop} {E : XK} (h : EvM c ta σ H δ d δ') (hr : Rl [d] e) : EvM c (tCall (SpF Rl) [] E (tCons ta tNil)) σ H δ e δ' := fun Q q =>
  h _ fun v H2 B2 k2 hv => ⟨[d], e, .cons hv.up .nil, hr, fun w H3 e3 hw => q w H3 (B2.mono e3) (fun a u na h => e3 _ _ (k2 a u na h)) (hw.mono (hid_sub (B2.live true)))⟩
theorem q_asgE {lo hi : Int} {tr : TI} (nx : List γ → Int → β × List γ) (J : List γ → Prop) {gs : List γ} (B : Bs c H σ δ) (hj : δ[j]? = some .no) (hx : δ[ci]? = some (.ow true a (gs.map emg))) (j0 : J gs) (js : ∀ gs k, J gs → J (nx gs k).2)
    (h : ∀ H1, Ex H H1 → ∀ R : It → Hp → Prop, (∀ H2, Ex H1 H2 → R (Itr lo (hi - lo).toNat) H2) → tr σ H1 R) (hz : hi - lo ≤ 40000)
    (body : ∀ (c' : Wd) (gs : List γ) (x : Int) (σ1 : Sta) (H1 : Hp), x ∈ rng lo hi → J gs → Bs c' H1 σ1 ((δ.set ci (.ow true a (gs.map emg))).set j (.va true (eI x))) →
      EvM c' te σ1 H1 ((δ.set ci (.ow true a (gs.map emg))).set j (.va true (eI x))) (em2 (nx gs x).1) ((δ.set ci (.ow true a ((nx gs x).2.map emg))).set j (.va true (eI x))))
    (k : ∀ ys gs' σ1 H1, (ys, gs') = (rng lo hi).foldl (stepE nx) ([], gs) → J gs' → Bs c H1 σ1 ((δ.set ci (.ow true a (gs'.map emg))).set i (.va true (eL em2 ys))) → tz D σ1 H1) :
    tSeq (tAsg (tLc tr (gName j) tYes te [j]) (gName i)) tz D σ H := by
  show tLc tr (gName j) tYes te [j] σ H (fun x H1 => tz D (σ.set i (some x)) H1)
  refine en_lcE nx J B hj hx j0 js h hz body _ fun p vs H2 np hp B2 hv => ?_
  have jj : J ((rng lo hi).foldl (stepE nx) ([], gs)).2 := by
    have gen : ∀ (l : List Int) (q : List β × List γ), J q.2 → J (l.foldl (stepE nx) q).2 := fun l => by
      induction l with
      | nil => intro q hq; exact hq
      | cons y l ih => intro q hq; rw [List.foldl_cons]; exact ih _ (js _ _ hq)
    exact gen _ _ j0
  refine k ((rng lo hi).foldl (stepE nx) ([], gs)).1 ((rng lo hi).foldl (stepE nx) ([], gs)).2 _ _ rfl jj (set_va B2 (.lst ?_ (hv.mono (hid_sub fun b z => ?_))))
  · rw [hid_at]
    · exact hp
    · rw [hd_adr (adr_ow hx) true]; exact (B.live true).fresh np
  · rw [hd_adr (adr_ow hx) true] at z; exact .inl z
theorem em_ixM [Inhabited α] (ha : Ev (c.hd true δ) ta σ H (eL em xs)) (stay : ∀ p, Adr δ p ↔ Adr δ' p) (h : ∀ H2, Ex H H2 → EvM c tb σ H2 δ (eI m) δ') (hb : inB xs m) : EvM c (tOp (rIxL K) ta tb) σ H δ (em (getI xs m)) δ' := em_ixL ha stay h (atI_getI hb em)
end
end HL
namespace HL
open PySem PySem.Spec PyProof.Rows L2
open PySem.Builtin PyProof
open Evl (Ex)
theorem extend_tup (l : Addr) (items : Array Value) (n : Nat) (b : Addr) (items2 : Array Value) (n2 : Nat) (o : Obj) (hc : o.cls = Value.type "tuple") (hd : o.data = Data.seq items2 n2)
    (hs0 : ¬(!items.isEmpty && Builtin.List.listTooLong (items.size + items2.size)) = true) (hs1 : items.size ≤ sizeLine) (hs2 : items.size + items2.size ≤ sizeLine + 1) :
    Meets (Builtin.«list.extend» { pos := [Value.ref l, Value.ref b] }) fun x R s =>
      s.heap.get? l = some { cls := Value.type "list", data := Data.seq items n } ∧ s.heap.get? b = some o ∧
        R (Except.ok (Flow.ret Value.none)) { heap := s.heap.update l (Obj.mapSeq fun x => x ++ items2), gens := s.gens, drawn := s.drawn, toks := s.toks, os := s.os } := by
  refine Meets.of_wp fun prog w A R s h => ?_
  obtain ⟨hp, g, d, tk, os⟩ := s
  obtain ⟨hl, hb, h⟩ := h
  have hz' : (items ++ items2).size ≤ sizeLine + 1 := by rw [Array.size_append]; exact hs2
  obtain ⟨cls, dict, data, slots⟩ := o
  dsimp only at hc hd
  subst hc; subst hd
  refine wpAny_bind (wpAny_bind (wpAny_ite_true rfl (wpAny_pure (wpAny_pure ?_))))
  refine wpAny_bind (wpAny_bind (AutoSeq1.wpAny_loadPart' hb (wpAny_pure (wpAny_ite_true (by simp) ?_))))
  refine wpAny_bind (wpAny_bind (wpAny_bind (wpAny_load' hb (wpAny_pure (wpAny_pure ?_)))))
  refine wpAny_bind (wpAny_bind (wpAny_bind (wpAny_load' hl (wpAny_pure (wpAny_pure ?_)))))
  refine wpAny_ite_false (by simpa using hs0) ?_
  exact wpAny_bind ((fun h => wpAny_updateSeq hl rfl h hs1 hz') (wpAny_pure ⟨Value.none, rfl, h⟩))
/-- list.extend with a tuple -/
abbrev rExtT : V → List V → Hp → VK → Prop := fun x vs H Q => ∃ l b xs zs, x = .ref l ∧ vs = [.ref b] ∧ H l = some (.lst xs) ∧ H b = some (.tup zs) ∧ xs.length + zs.length ≤ 100000 ∧ Q .non (upd H l (.lst (xs ++ zs)))
theorem mt_extT {X : Cx} : MtM X "list.extend" rExtT := by
  rintro pins s σ H x vs v us Q I rx rv ⟨l, b, xs, zs, rfl, rfl, hH, hB, hz, q⟩
  cases rx
  obtain ⟨u, rfl, ru⟩ := Vals.one rv
  cases ru
  have hs : sizeLine = 16777216 := rfl
  obtain ⟨z, its, n, r, hl, e⟩ := Inv.lstM I hH
  obtain ⟨its2, r2, ⟨o, e2, hc, n2, hd⟩, _⟩ := I.tuple (.inl (.inl hB))
  have hsz : its.toArray.size + its2.toArray.size ≤ sizeLine := by
    rw [List.size_toArray, List.size_toArray, ← r2.length, ← hl]; omega
  have hlong : ¬(!its.toArray.isEmpty && Builtin.List.listTooLong (its.toArray.size + its2.toArray.size)) = true := by
    rw [notLongL hsz, Bool.and_false]; exact Bool.false_ne_true
  exact call_meets F.slot_list_extend ⟨_, e, rfl⟩ F.entry_list_extend (F.args_list_extend_2 (Value.ref l) (Value.ref b))
    (extend_tup l its.toArray n b its2.toArray n2 o hc hd hlong (by rw [List.size_toArray, ← hl]; omega) (by omega))
    ⟨e, e2, V.non, upd H l (HO.lst (xs ++ zs)), Inv.lset I hH e (by simp) (r.append r2) (by rw [List.length_append]; omega), rfl, q⟩

/-- what enumerate gives -/
def enumI {α : Type} (xs : List α) : List (Int × α) := xs.zipIdx.map fun p => ((p.2 : Int), p.1)
theorem enumI_len {α : Type} (xs : List α) : (enumI xs).length = xs.length := by simp [enumI]
theorem enumI_get {α : Type} {xs : List α} {n : Nat} {x : α} (h : xs[n]? = some x) : (enumI xs)[n]? = some ((n : Int), x) := by
  simp [enumI, h]

/-! targets of any kind -/
section
variable {K : PySem.W.Frag} {c : Wd} {o : Hd} {H H1 H' : Hp} {σ : Sta} {δ δ' : List Ent} {i j : Nat} {f g b : Bool} {a : Addr} {d e : PyData} {ds es : List PyData} {ta tb te tl : TE} {t : TT} {ts tu tw tz : TS} {D : Ends} {α β γ S R : Type} {em : α → PyData} {em2 : β → PyData} {emg : γ → PyData} {xs ys : List α} {m n : Int}
def Tgt (g : TG) (f : Bool) (em : α → PyData) (u : α → List Ent → List Ent) : Prop := ∀ {c : Wd} {H : Hp} {σ : Sta} {δ : List Ent} {v : V} {x : α} {Q : Sta → Hp → Prop}, Bs c H σ δ → Dn (hid (c.hd f δ) H) v (em x) → (∀ σ1, Bs c H σ1 (u x δ) → Q σ1 H) → g v σ H Q
theorem tgt_name : Tgt (gName j) f em (fun x δ => δ.set j (.va f (em x))) := fun B h k => k _ (set_va B h)
theorem hd_va {d : PyData} : Ex (hid (c.hd f δ) H) (hid (c.hd f (δ.set i (.va g d))) H) := hid_sub (hd_sub fun b z => by
  rcases adr_set z with z | ⟨_, _, z⟩
  · exact z
  · cases z)
theorem tgt_tup2 {e1 : α → PyData} {e2 : β → PyData} : Tgt (gTup K 2 (gCons (gName i) (gCons (gName j) gNil))) f (eT2 e1 e2) (fun x δ => (δ.set i (.va f (e1 x.1))).set j (.va f (e2 x.2))) := fun B h k => by
  cases h with
  | @tup p vs _ hp hr =>
    cases hr with
    | cons h1 hr => cases hr with
      | cons h2 hr =>
        cases hr
        exact ⟨p, _, rfl, .inl (.inl (hid_ex _ _ hp)), rfl, _, _, rfl, _, _, rfl, rfl, k _ (set_va (set_va B h1) (h2.mono hd_va))⟩
theorem tgt_tup3 {k : Nat} {e1 : α → PyData} {e2 : β → PyData} {e3 : γ → PyData} : Tgt (gTup K 3 (gCons (gName i) (gCons (gName j) (gCons (gName k) gNil)))) f (eT3 e1 e2 e3) (fun x δ => ((δ.set i (.va f (e1 x.1))).set j (.va f (e2 x.2.1))).set k (.va f (e3 x.2.2))) := fun B h k => by
  cases h with
  | @tup p vs _ hp hr =>
    cases hr with
    | cons h1 hr => cases hr with
      | cons h2 hr => cases hr with
        | cons h3 hr =>
          cases hr
          exact ⟨p, _, rfl, .inl (.inl (hid_ex _ _ hp)), rfl, _, _, rfl, _, _, rfl, _, _, rfl, rfl, k _ (set_va (set_va (set_va B h1) (h2.mono hd_va)) ((h3.mono hd_va).mono hd_va))⟩
theorem q_asgG {u : α → List Ent → List Ent} {x : α} {tg : TG} (G : Tgt tg f em u) (S : Bs c H σ δ) (h : Ev (c.hd f δ) te σ H (em x)) (k : ∀ σ1 H1, Bs c H1 σ1 (u x δ) → tz D σ1 H1) : tSeq (tAsg te tg) tz D σ H :=
  h.go fun v H2 e2 hv => G (S.mono e2) hv fun σ1 B => k σ1 H2 B
theorem q_exitLG {u : α → List Ent → List Ent} {tg : TG} (G : Tgt tg f em u) (Δ : S → List Ent) (stp : S → α → S ⊕ R) (s0 : S) (J : Nat → S → Prop) (B : Bs c H σ δ) (h : Ev (c.hd f δ) tl σ H (eL em xs)) (w : LeA δ (Δ s0)) (j0 : J 0 s0)
    (body : ∀ (B0 : Hp), Ex c.B B0 → ∀ (n : Nat) (s : S) (x : α) (σ1 : Sta) (H1 : Hp), x ∈ xs → n < xs.length → (∀ r, stp s x = .inr r → loopE stp xs s0 = .inr r) → J n s → Bs { c with B := B0 } H1 σ1 (u x (Δ s)) →
      ts { D with nx := EX c B0 S R Δ J (n + 1) (stp s x), ct := EX c B0 S R Δ J (n + 1) (stp s x), bk := tz D } σ1 H1)
    (done : ∀ s σ1 H1, loopE stp xs s0 = .inl s → J xs.length s → Bs c H1 σ1 (Δ s) → tz D σ1 H1) : tSeq (tFor (iList K tl) tg ts) tz D σ H := by
  refine h.go fun v H2 e2 hv => ?_
  have B2 := B.mono e2
  cases hv with
  | @lst p vs _ hp hr =>
    have u := B2.under
    have W : ∀ {H3 σ3 s}, Bs { c with B := hid (fun a => Adr δ a) H2 } H3 σ3 (Δ s) → Ex (hid (c.hd f δ) H2) (hid (c.hd f (Δ s)) H3) := fun B3 => B3.pers fun a u q => at_has q
    have hl : vs.length = xs.length := by rw [hr.length, List.length_map]
    refine ⟨p, rfl, ⟨vs, .inl (.inl (hid_ex _ _ hp))⟩, it_flex (m := xs.length) (NX c _ S Δ (fun n s => loopE stp xs s0 = loopE stp (xs.drop n) s ∧ J n s)) ⟨s0, ⟨by simp, j0⟩, (B2.rebase).le w⟩ (fun n σ3 H3 hn ⟨s, _, B3⟩ => ?_) (fun σ3 H3 ⟨s, _, B3⟩ => ?_) (fun n σ3 H3 hn ⟨s, hi, B3⟩ => ?_) (fun σ3 H3 ⟨s, hi, B3⟩ => ?_)⟩
    · exact ⟨vs, vs[n]'(by omega), .inl (.inl (hid_ex _ _ (W B3 _ _ hp))), List.getElem?_eq_getElem (by omega)⟩
    · exact ⟨vs, .inl (.inl (hid_ex _ _ (W B3 _ _ hp))), by omega⟩
    · refine ⟨EX c _ S R Δ J (n + 1) (stp s xs[n]), fun σ' H' q => exit_core (List.getElem?_eq_getElem hn) hi.1 q, ?_⟩
      rintro x H' ⟨rfl, hx⟩
      have ex := hx _ (.inl (.inl (hid_ex _ _ (W B3 _ _ hp))))
      obtain ⟨d, hd, q⟩ := hr.get' ex
      rw [List.getElem?_map, List.getElem?_eq_getElem hn] at hd
      cases hd
      exact G B3 (q.mono (W B3)) fun σ4 B4 => body _ u n s xs[n] _ _ (List.getElem_mem hn) hn (fun r hr => by rw [hi.1, loopE_at (List.getElem?_eq_getElem hn), hr]) hi.2 B4
    · refine done s _ _ ?_ hi.2 (B3.debase u)
      rw [hi.1, List.drop_length]; rfl
theorem q_exitTG {u : α → List Ent → List Ent} {tg : TG} (G : Tgt tg f em u) (Δ : S → List Ent) (stp : S → α → S ⊕ R) (s0 : S) (J : Nat → S → Prop) (B : Bs c H σ δ) (h : Ev (c.hd f δ) tl σ H (eTu em xs)) (w : LeA δ (Δ s0)) (j0 : J 0 s0)
    (body : ∀ (B0 : Hp), Ex c.B B0 → ∀ (n : Nat) (s : S) (x : α) (σ1 : Sta) (H1 : Hp), x ∈ xs → n < xs.length → (∀ r, stp s x = .inr r → loopE stp xs s0 = .inr r) → J n s → Bs { c with B := B0 } H1 σ1 (u x (Δ s)) →
      ts { D with nx := EX c B0 S R Δ J (n + 1) (stp s x), ct := EX c B0 S R Δ J (n + 1) (stp s x), bk := tz D } σ1 H1)
    (done : ∀ s σ1 H1, loopE stp xs s0 = .inl s → J xs.length s → Bs c H1 σ1 (Δ s) → tz D σ1 H1) : tSeq (tFor (iTup K tl) tg ts) tz D σ H := by
  refine h.go fun v H2 e2 hv => ?_
  have B2 := B.mono e2
  cases hv with
  | @tup p vs _ hp hr =>
    have u := B2.under
    have W : ∀ {H3 σ3 s}, Bs { c with B := hid (fun a => Adr δ a) H2 } H3 σ3 (Δ s) → Ex (hid (c.hd f δ) H2) (hid (c.hd f (Δ s)) H3) := fun B3 => B3.pers fun a u q => at_has q
    have hl : vs.length = xs.length := by rw [hr.length, List.length_map]
    refine ⟨p, rfl, ⟨vs, .inl (.inl (hid_ex _ _ hp))⟩, it_flex (m := xs.length) (NX c _ S Δ (fun n s => loopE stp xs s0 = loopE stp (xs.drop n) s ∧ J n s)) ⟨s0, ⟨by simp, j0⟩, (B2.rebase).le w⟩ (fun n σ3 H3 hn ⟨s, _, B3⟩ => ?_) (fun σ3 H3 ⟨s, _, B3⟩ => ?_) (fun n σ3 H3 hn ⟨s, hi, B3⟩ => ?_) (fun σ3 H3 ⟨s, hi, B3⟩ => ?_)⟩
    · exact ⟨vs, vs[n]'(by omega), .inl (.inl (hid_ex _ _ (W B3 _ _ hp))), List.getElem?_eq_getElem (by omega)⟩
    · exact ⟨vs, .inl (.inl (hid_ex _ _ (W B3 _ _ hp))), by omega⟩
    · refine ⟨EX c _ S R Δ J (n + 1) (stp s xs[n]), fun σ' H' q => exit_core (List.getElem?_eq_getElem hn) hi.1 q, ?_⟩
      rintro x H' ⟨rfl, hx⟩
      have ex := hx _ (.inl (.inl (hid_ex _ _ (W B3 _ _ hp))))
      obtain ⟨d, hd, q⟩ := hr.get' ex
      rw [List.getElem?_map, List.getElem?_eq_getElem hn] at hd
      cases hd
      exact G B3 (q.mono (W B3)) fun σ4 B4 => body _ u n s xs[n] _ _ (List.getElem_mem hn) hn (fun r hr => by rw [hi.1, loopE_at (List.getElem?_eq_getElem hn), hr]) hi.2 B4
    · refine done s _ _ ?_ hi.2 (B3.debase u)
      rw [hi.1, List.drop_length]; rfl
/-- enumerate over a list, with a pair of names -/
theorem q_exitEN {α : Type} {em : α → PyData} {xs : List α} {k : Nat} (Δ : S → List Ent) (stp : S → Int × α → S ⊕ R) (s0 : S) (J : Nat → S → Prop) (B : Bs c H σ δ) (h : Ev (c.hd f δ) tl σ H (eL em xs)) (w : LeA δ (Δ s0)) (j0 : J 0 s0)
    (body : ∀ (B0 : Hp), Ex c.B B0 → ∀ (n : Nat) (s : S) (x : Int × α) (σ1 : Sta) (H1 : Hp), xs[n]? = some x.2 → x.1 = n → n < xs.length → (∀ r, stp s x = .inr r → loopE stp (enumI xs) s0 = .inr r) → J n s → Bs { c with B := B0 } H1 σ1 (((Δ s).set j (.va true (eI x.1))).set k (.va f (em x.2))) →
      ts { D with nx := EX c B0 S R Δ J (n + 1) (stp s x), ct := EX c B0 S R Δ J (n + 1) (stp s x), bk := tz D } σ1 H1)
    (done : ∀ s σ1 H1, loopE stp (enumI xs) s0 = .inl s → J xs.length s → Bs c H1 σ1 (Δ s) → tz D σ1 H1) : tSeq (tFor (iEnum K (tCons tl tNil)) (gTup K 2 (gCons (gName j) (gCons (gName k) gNil))) ts) tz D σ H := by
  refine h.go fun v H2 e2 hv => ?_
  have B2 := B.mono e2
  cases hv with
  | @lst p vs _ hp hr =>
    have u := B2.under
    have W : ∀ {H3 σ3 s}, Bs { c with B := hid (fun a => Adr δ a) H2 } H3 σ3 (Δ s) → Ex (hid (c.hd f δ) H2) (hid (c.hd f (Δ s)) H3) := fun B3 => B3.pers fun a u q => at_has q
    have hl : vs.length = xs.length := by rw [hr.length, List.length_map]
    refine ⟨p, _, rfl, .inl (.inl (hid_ex _ _ hp)), it_flex (m := xs.length) (NX c _ S Δ (fun n s => loopE stp (enumI xs) s0 = loopE stp ((enumI xs).drop n) s ∧ J n s)) ⟨s0, ⟨by simp, j0⟩, (B2.rebase).le w⟩ (fun n σ3 H3 hn ⟨s, _, B3⟩ => ?_) (fun σ3 H3 ⟨s, _, B3⟩ => ?_) (fun n σ3 H3 hn ⟨s, hi, B3⟩ => ?_) (fun σ3 H3 ⟨s, hi, B3⟩ => ?_)⟩
    · exact ⟨vs, vs[n]'(by omega), .inl (.inl (hid_ex _ _ (W B3 _ _ hp))), List.getElem?_eq_getElem (by omega)⟩
    · exact ⟨vs, .inl (.inl (hid_ex _ _ (W B3 _ _ hp))), by omega⟩
    · have hg : (enumI xs)[n]? = some ((n : Int), xs[n]) := enumI_get (List.getElem?_eq_getElem hn)
      refine ⟨EX c _ S R Δ J (n + 1) (stp s ((n : Int), xs[n])), fun σ' H' q => exit_core hg hi.1 q, ?_⟩
      rintro _ H' ⟨T, x, rfl, hT, rfl, hx⟩
      have ex := hx _ (.inl (.inl (hid_ex _ _ (W B3 _ _ hp))))
      obtain ⟨d, hd, q⟩ := hr.get' ex
      rw [List.getElem?_map, List.getElem?_eq_getElem hn] at hd
      cases hd
      have eT := Evl.Ex.new (o := HO.tup [V.int (n : Int), x]) hT
      refine ⟨T, _, rfl, .inl (.inl (upd_same ..)), rfl, _, _, rfl, _, _, rfl, rfl, ?_⟩
      exact body _ u n s ((n : Int), xs[n]) _ _ (List.getElem?_eq_getElem hn) rfl hn (fun r hr => by rw [hi.1, loopE_at hg, hr]) hi.2 (set_va (f := f) (set_va (f := true) (B3.mono eT) (.int _)) (((q.mono (W B3)).mono (hid_mono eT)).mono hd_va))
    · refine done s _ _ ?_ hi.2 (B3.debase u)
      rw [hi.1, List.drop_eq_nil_of_le (by rw [enumI_len]; exact Nat.le_refl _)]; rfl
theorem loopE_inl {stp : S → α → S} : ∀ (xs : List α) (s : S), loopE (R := R) (fun s x => .inl (stp s x)) xs s = .inl (xs.foldl stp s)
  | [], _ => rfl
  | x :: xs, s => by
    show loopE _ xs (stp s x) = _
    exact loopE_inl xs _
theorem FX_EX {B0 : Hp} {Δ : S → List Ent} {J : Nat → S → Prop} {n : Nat} {s : S} : FX c B0 S Δ J n s = EX c B0 S Unit Δ J n (.inl s) := by
  funext σ H
  apply propext
  constructor
  · rintro ⟨s', rfl, h⟩; exact ⟨_, rfl, h⟩
  · rintro ⟨s', h1, h⟩; cases h1; exact ⟨_, rfl, h⟩
theorem q_foldLG {u : α → List Ent → List Ent} {tg : TG} (G : Tgt tg f em u) (Δ : S → List Ent) (stp : S → α → S) (s0 : S) (J : Nat → S → Prop) (B : Bs c H σ δ) (h : Ev (c.hd f δ) tl σ H (eL em xs)) (w : LeA δ (Δ s0)) (j0 : J 0 s0)
    (body : ∀ (B0 : Hp), Ex c.B B0 → ∀ (n : Nat) (s : S) (x : α) (σ1 : Sta) (H1 : Hp), x ∈ xs → n < xs.length → J n s → Bs { c with B := B0 } H1 σ1 (u x (Δ s)) →
      ts { D with nx := FX c B0 S Δ J (n + 1) (stp s x), ct := FX c B0 S Δ J (n + 1) (stp s x), bk := tz D } σ1 H1)
    (done : ∀ s σ1 H1, s = xs.foldl stp s0 → J xs.length s → Bs c H1 σ1 (Δ s) → tz D σ1 H1) : tSeq (tFor (iList K tl) tg ts) tz D σ H :=
  q_exitLG (R := Unit) G Δ (fun s x => .inl (stp s x)) s0 J B h w j0 (fun B0 e0 n s x σ1 H1 hx hn _ hJ B => by
    have := body B0 e0 n s x σ1 H1 hx hn hJ B
    rw [FX_EX] at this
    exact this) (fun s σ1 H1 hs hJ B => done s σ1 H1 (by rw [loopE_inl] at hs; exact (Sum.inl.inj hs).symm) hJ B)
theorem q_foldTG {u : α → List Ent → List Ent} {tg : TG} (G : Tgt tg f em u) (Δ : S → List Ent) (stp : S → α → S) (s0 : S) (J : Nat → S → Prop) (B : Bs c H σ δ) (h : Ev (c.hd f δ) tl σ H (eTu em xs)) (w : LeA δ (Δ s0)) (j0 : J 0 s0)
    (body : ∀ (B0 : Hp), Ex c.B B0 → ∀ (n : Nat) (s : S) (x : α) (σ1 : Sta) (H1 : Hp), x ∈ xs → n < xs.length → J n s → Bs { c with B := B0 } H1 σ1 (u x (Δ s)) →
      ts { D with nx := FX c B0 S Δ J (n + 1) (stp s x), ct := FX c B0 S Δ J (n + 1) (stp s x), bk := tz D } σ1 H1)
    (done : ∀ s σ1 H1, s = xs.foldl stp s0 → J xs.length s → Bs c H1 σ1 (Δ s) → tz D σ1 H1) : tSeq (tFor (iTup K tl) tg ts) tz D σ H :=
  q_exitTG (R := Unit) G Δ (fun s x => .inl (stp s x)) s0 J B h w j0 (fun B0 e0 n s x σ1 H1 hx hn _ hJ B => by
    have := body B0 e0 n s x σ1 H1 hx hn hJ B
    rw [FX_EX] at this
    exact this) (fun s σ1 H1 hs hJ B => done s σ1 H1 (by rw [loopE_inl] at hs; exact (Sum.inl.inj hs).symm) hJ B)
theorem q_foldEN {α : Type} {em : α → PyData} {xs : List α} {k : Nat} (Δ : S → List Ent) (stp : S → Int × α → S) (s0 : S) (J : Nat → S → Prop) (B : Bs c H σ δ) (h : Ev (c.hd f δ) tl σ H (eL em xs)) (w : LeA δ (Δ s0)) (j0 : J 0 s0)
    (body : ∀ (B0 : Hp), Ex c.B B0 → ∀ (n : Nat) (s : S) (x : Int × α) (σ1 : Sta) (H1 : Hp), xs[n]? = some x.2 → x.1 = n → n < xs.length → J n s → Bs { c with B := B0 } H1 σ1 (((Δ s).set j (.va true (eI x.1))).set k (.va f (em x.2))) →
      ts { D with nx := FX c B0 S Δ J (n + 1) (stp s x), ct := FX c B0 S Δ J (n + 1) (stp s x), bk := tz D } σ1 H1)
    (done : ∀ s σ1 H1, s = (enumI xs).foldl stp s0 → J xs.length s → Bs c H1 σ1 (Δ s) → tz D σ1 H1) : tSeq (tFor (iEnum K (tCons tl tNil)) (gTup K 2 (gCons (gName j) (gCons (gName k) gNil))) ts) tz D σ H :=
  q_exitEN (R := Unit) Δ (fun s x => .inl (stp s x)) s0 J B h w j0 (fun B0 e0 n s x σ1 H1 hx h1 hn _ hJ B => by
    have := body B0 e0 n s x σ1 H1 hx h1 hn hJ B
    rw [FX_EX] at this
    exact this) (fun s σ1 H1 hs hJ B => done s σ1 H1 (by rw [loopE_inl] at hs; exact (Sum.inl.inj hs).symm) hJ B)
/-- a list's, a tuple's truth -/
theorem et_truthL (h : Ev o0 te σ H (eL em xs)) : EvT (fun σ H Q => te σ H fun x H' => ∃ k, TruV K x H' k ∧ Q k H') σ H (!xs.isEmpty) := fun H1 a Q q =>
  h H1 a _ fun v H2 e2 hv => by
    cases hv with
    | @lst p vs _ hp hr =>
      refine ⟨_, .inl ⟨vs, .inl (.inl (hid_ex _ _ hp)), rfl⟩, ?_⟩
      have : vs.isEmpty = xs.isEmpty := by
        have := hr.length
        cases vs <;> cases xs <;> simp_all
      rw [this]; exact q H2 e2
theorem et_truthTu (h : Ev o0 te σ H (eTu em xs)) : EvT (fun σ H Q => te σ H fun x H' => ∃ k, TruV K x H' k ∧ Q k H') σ H (!xs.isEmpty) := fun H1 a Q q =>
  h H1 a _ fun v H2 e2 hv => by
    cases hv with
    | @tup p vs _ hp hr =>
      refine ⟨_, .inr (.inl ⟨vs, .inl (.inl (hid_ex _ _ hp)), rfl⟩), ?_⟩
      have : vs.isEmpty = xs.isEmpty := by
        have := hr.length
        cases vs <;> cases xs <;> simp_all
      rw [this]; exact q H2 e2
theorem q_extT {xs ys : List α} (B : Bs c H σ δ) (hx : δ[i]? = some (.ow f a (xs.map em))) (h : Ev (c.hd f δ) te σ H (eTu em ys)) (hz : xs.length + ys.length ≤ 100000) (k : ∀ H1, Bs c H1 σ (δ.set i (.ow f a ((xs ++ ys).map em))) → tz D σ H1) :
    tSeq (tDrop (tBM K "list" rExtT (tVar i) (tCons te tNil))) tz D σ H := by
  obtain ⟨vs, e, ha, hv⟩ := B.ent i _ hx
  refine ⟨.ref a, e, .inl ⟨rfl, vs, .inl (.inl ha)⟩, h.go fun v H2 e2 hd => ?_⟩
  cases hd with
  | @tup p ws _ hp hr =>
    refine ⟨a, p, vs, ws, rfl, rfl, e2 _ _ ha, hid_ex _ _ hp, by rw [hv.length, hr.length, List.length_map, List.length_map]; exact hz, k _ ?_⟩
    rw [List.map_append]
    exact set_in (B.mono e2) hx ((hv.mono (hid_mono e2)).append hr)
theorem q_extL {xs ys : List α} (B : Bs c H σ δ) (hx : δ[i]? = some (.ow f a (xs.map em))) (h : Ev (c.hd f δ) te σ H (eL em ys)) (hz : xs.length + ys.length ≤ 100000) (k : ∀ H1, Bs c H1 σ (δ.set i (.ow f a ((xs ++ ys).map em))) → tz D σ H1) :
    tSeq (tDrop (tBM K "list" rExtend (tVar i) (tCons te tNil))) tz D σ H := by
  obtain ⟨vs, e, ha, hv⟩ := B.ent i _ hx
  refine ⟨.ref a, e, .inl ⟨rfl, vs, .inl (.inl ha)⟩, h.go fun v H2 e2 hd => ?_⟩
  cases hd with
  | @lst p ws _ hp hr =>
    refine ⟨a, p, vs, ws, rfl, rfl, e2 _ _ ha, hid_ex _ _ hp, by rw [hv.length, hr.length, List.length_map, List.length_map]; have : sizeLine = 16777216 := rfl; omega, k _ ?_⟩
    rw [List.map_append]
    exact set_in (B.mono e2) hx ((hv.mono (hid_mono e2)).append hr)
end
theorem DnA.scs {H H' : Hp} {α : Type} {em : α → PyData} (hs : ∀ x, Sc (em x)) : ∀ {vs : List V} {ys : List α}, DnA H vs (ys.map em) → DnA H' vs (ys.map em)
  | _, [], .nil => .nil
  | _, y :: ys, .cons h r => .cons (Dn.sc (hs y) h) (DnA.scs hs r)
section
variable {K : PySem.W.Frag} {c : Wd} {o : Hd} {H H1 H' : Hp} {σ : Sta} {δ δ' : List Ent} {i j : Nat} {f g b : Bool} {a : Addr} {te : TE} {tz : TS} {D : Ends} {α : Type} {em : α → PyData} {xs ys : List α}
theorem q_extT0 {xs ys : List α} (hs : ∀ x, Sc (em x)) (B : Bs c H σ δ) (hx : δ[i]? = some (.ow f a (xs.map em))) (h : Ev o0 te σ H (eTu em ys)) (hz : xs.length + ys.length ≤ 100000) (k : ∀ H1, Bs c H1 σ (δ.set i (.ow f a ((xs ++ ys).map em))) → tz D σ H1) :
    tSeq (tDrop (tBM K "list" rExtT (tVar i) (tCons te tNil))) tz D σ H := by
  obtain ⟨vs, e, ha, hv⟩ := B.ent i _ hx
  refine ⟨.ref a, e, .inl ⟨rfl, vs, .inl (.inl ha)⟩, h.go fun v H2 e2 hd => ?_⟩
  cases hd with
  | @tup p ws _ hp hr =>
    refine ⟨a, p, vs, ws, rfl, rfl, e2 _ _ ha, hid_ex _ _ hp, by rw [hv.length, hr.length, List.length_map, List.length_map]; exact hz, k _ ?_⟩
    rw [List.map_append]
    exact set_in (B.mono e2) hx ((hv.mono (hid_mono e2)).append (hr.scs hs))
theorem q_extL0 {xs ys : List α} (hs : ∀ x, Sc (em x)) (B : Bs c H σ δ) (hx : δ[i]? = some (.ow f a (xs.map em))) (h : Ev o0 te σ H (eL em ys)) (hz : xs.length + ys.length ≤ 100000) (k : ∀ H1, Bs c H1 σ (δ.set i (.ow f a ((xs ++ ys).map em))) → tz D σ H1) :
    tSeq (tDrop (tBM K "list" rExtend (tVar i) (tCons te tNil))) tz D σ H := by
  obtain ⟨vs, e, ha, hv⟩ := B.ent i _ hx
  refine ⟨.ref a, e, .inl ⟨rfl, vs, .inl (.inl ha)⟩, h.go fun v H2 e2 hd => ?_⟩
  cases hd with
  | @lst p ws _ hp hr =>
    refine ⟨a, p, vs, ws, rfl, rfl, e2 _ _ ha, hid_ex _ _ hp, by rw [hv.length, hr.length, List.length_map, List.length_map]; have : sizeLine = 16777216 := rfl; omega, k _ ?_⟩
    rw [List.map_append]
    exact set_in (B.mono e2) hx ((hv.mono (hid_mono e2)).append (hr.scs hs))
end
theorem whileF_congr {S : Type} {c c' : S → Bool} {f f' : S → S} {I : S → Prop} (hc : ∀ s, I s → c s = c' s) (hf : ∀ s, I s → c s = true → f s = f' s ∧ I (f s)) : ∀ (n : Nat) (s : S), I s → whileF c f n s = whileF c' f' n s
  | 0, s, _ => rfl
  | n + 1, s, h => by
    rw [whileF, whileF, ← hc s h]
    by_cases q : c s = true
    · obtain ⟨h1, h2⟩ := hf s h q
      rw [if_pos q, if_pos q, ← h1]
      exact whileF_congr hc hf n _ h2
    · rw [if_neg q, if_neg q]
theorem whileF_post {S : Type} {c : S → Bool} {f : S → S} {I : S → Prop} {M : S → Nat} (pres : ∀ s, I s → c s = true → I (f s) ∧ M (f s) < M s) : ∀ (n : Nat) (s : S), I s → M s ≤ n → I (whileF c f n s) ∧ c (whileF c f n s) = false
  | 0, s, h, hM => by
    refine ⟨h, ?_⟩
    cases q : c s with
    | false => exact q
    | true => have := (pres s h q).2; omega
  | n + 1, s, h, hM => by
    rw [whileF]
    by_cases q : c s = true
    · rw [if_pos q]
      obtain ⟨h1, h2⟩ := pres s h q
      exact whileF_post pres n _ h1 (by omega)
    · rw [if_neg q]
      exact ⟨h, by simpa using q⟩
end HL
namespace HL
open PySem PySem.Spec PyProof.Rows L2
open PySem.Builtin PyProof
open Evl (Ex)
@[reducible] def eP2 {α β : Type} (e1 : α → PyData) (e2 : β → PyData) (p : α × β) : PyData := .list [e1 p.1, e2 p.2]
@[reducible] def eP3 {α β γ : Type} (e1 : α → PyData) (e2 : β → PyData) (e3 : γ → PyData) (p : α × β × γ) : PyData := .list [e1 p.1, e2 p.2.1, e3 p.2.2]
section
variable {K : PySem.W.Frag} {c : Wd} {o : Hd} {H H1 H' : Hp} {σ : Sta} {δ δ' : List Ent} {i j : Nat} {f g b : Bool} {a p q pp : Addr} {d e : PyData} {ds es : List PyData} {ta tb te tl : TE} {t : TT} {ts tu tw tz : TS} {D : Ends} {α β γ S R : Type} {em : α → PyData} {em2 : β → PyData} {emg : γ → PyData} {xs ys : List α} {n : Nat} {m : Int} {vs ws rs : List V} {u : HO}
section
variable [DecidableEq α] [DecidableEq β] [DecidableEq γ] {gd : α → Prop} {gd2 : β → Prop} {gd3 : γ → Prop} {n1 n2 n3 : Nat}
theorem emP2 (h : Em em gd n1) (h2 : Em em2 gd2 n2) : Em (eP2 em em2) (fun p => gd p.1 ∧ gd2 p.2) (max n1 n2 + 1) := ⟨fun p => by simp [flatD, flatDs, h.flat, h2.flat], fun p g => by simp [PyData.canLay0, PyData.canLayAll0, h.lay _ g.1, h2.lay _ g.2], fun p => by
    have a := h.dep p.1
    have b := h2.dep p.2
    simp [PyData.depth, PyData.depthAll]; omega, fun p q => by
    obtain ⟨p1, p2⟩ := p
    obtain ⟨q1, q2⟩ := q
    simp only [PyData.eqv, PyData.eqvAll, h.eqv, h2.eqv]
    rw [Bool.eq_iff_iff]; simp⟩
theorem emT3 (h : Em em gd n1) (h2 : Em em2 gd2 n2) (h3 : Em emg gd3 n3) : Em (eT3 em em2 emg) (fun p => gd p.1 ∧ gd2 p.2.1 ∧ gd3 p.2.2) (max n1 (max n2 n3) + 1) := ⟨fun p => by simp [flatD, flatDs, h.flat, h2.flat, h3.flat], fun p g => by simp [PyData.canLay0, PyData.canLayAll0, h.lay _ g.1, h2.lay _ g.2.1, h3.lay _ g.2.2], fun p => by
    have a := h.dep p.1
    have b := h2.dep p.2.1
    have c := h3.dep p.2.2
    simp [PyData.depth, PyData.depthAll]; omega, fun p q => by
    obtain ⟨p1, p2, p3⟩ := p
    obtain ⟨q1, q2, q3⟩ := q
    simp only [PyData.eqv, PyData.eqvAll, h.eqv, h2.eqv, h3.eqv]
    rw [Bool.eq_iff_iff]; simp⟩
end
/-- a list of the body's own that no slot holds -/
def PK (c : Wd) (p : Addr) (vs : List V) (ds : List PyData) : Prop := c.N p ∧ c.B p = some (.lst vs) ∧ DnA (hid c.N c.B) vs ds
/-- the list that holds it -/
def PO (c : Wd) (p : Addr) (rs : List V) : Prop := c.N p ∧ c.B p = some (.lst rs)
noncomputable def Wd.put (c : Wd) (p : Addr) (u : HO) : Wd := { c with B := upd c.B p u }
theorem PK.put (hq : c.N q) (ne : p ≠ q) (h : PK c p vs ds) : PK (c.put q u) p vs ds := by
  refine ⟨h.1, by show upd c.B q u p = _; rw [upd_ne ne]; exact h.2.1, ?_⟩
  show DnA (hid c.N (upd c.B q u)) vs ds
  rw [hid_upd_in hq]; exact h.2.2
theorem PK.is (h : PK c p vs ds) (e : ds = es) : PK c p vs es := e ▸ h
theorem PO.put (ne : p ≠ q) (h : PO c p rs) : PO (c.put q u) p rs := ⟨h.1, by show upd c.B q u p = _; rw [upd_ne ne]; exact h.2⟩
theorem Ex.put (ne : c.B p ≠ none → H p = none) (h : Ex H c.B) (hp : H p = none) : Ex H (c.put p u).B := fun b v hb => by
  show upd c.B p u b = _
  rw [upd_ne (ne_of_none hb hp)]; exact h b v hb
theorem PK.dn (B : Bs c H σ δ) (h : PK c p vs ds) : Dn (hid o0 H) (.ref p) (.list ds) := by
  rw [show hid o0 H = H from hid_none]
  exact .lst (B.base _ _ h.2.1) ((h.2.2.mono hid_ex).mono B.base)
theorem ev_raIx (B : Bs c H σ δ) (hs : δ[i]? = some (.rw (.ref pp))) (hO : PO c pp rs) (hk : atI rs m = some (.ref p)) (h : PK c p vs ds) : Ev o0 (tOp (rIxL K) (tVar i) (tC (.int m))) σ H (.list ds) := fun H1 x Q k =>
  ⟨.ref pp, B.ent i _ hs, pp, rs, m, .ref p, rfl, rfl, .inl (.inl (x _ _ (B.base _ _ hO.2))), hk, k _ H1 (Ex.refl H1) (h.dn (B.mono x))⟩
theorem ev_ra2 (B : Bs c H σ δ) (hs : δ[i]? = some (.rw (.ref pp))) (hO : PO c pp [.ref p, .ref q]) (h1 : PK c p vs ds) (h2 : PK c q ws es) : Ev o0 (tVar i) σ H (.list [.list ds, .list es]) := fun H1 x Q k =>
  ⟨.ref pp, B.ent i _ hs, k _ H1 (Ex.refl H1) (by
    have B1 := B.mono x
    have d1 := h1.dn B1
    have d2 := h2.dn B1
    refine .lst (by rw [show hid o0 H1 = H1 from hid_none]; exact B1.base _ _ hO.2) (.cons d1 (.cons d2 .nil)))⟩
theorem Bs.addN {r : Addr} {w : HO} (B : Bs c H σ δ) (e : Ex H H1) (nr : H r = none) (hr : H1 r = some w) : Bs { c with N := fun b => c.N b ∨ b = r } H1 σ δ := by
  have lv : ∀ b, Adr δ b → H b ≠ none := fun b ⟨k, g, es, z⟩ q => by
    obtain ⟨_, _, w, _⟩ := B.ent k _ z
    rw [w] at q; cases q
  have big : ∀ f, Ex (hid (c.hd f δ) H) (hid (({ c with N := fun b => c.N b ∨ b = r } : Wd).hd f δ) H1) := fun f b u z => by
    obtain ⟨z1, z2⟩ := hid_of z
    rw [hid_at]
    · exact e _ _ z2
    · rintro (q | (q | q) | q)
      · exact z1 (.inl q)
      · exact z1 (.inr (.inl q))
      · subst q; rw [nr] at z2; cases z2
      · exact z1 (.inr (.inr q))
  refine ⟨B.base.trans e, B.liO.mono e, fun b z y => ?_, fun b z => ⟨(B.own b z).1, (B.own b z).2.1, fun y => ?_⟩, B.one, B.len, fun x d he => ?_⟩
  · rcases z with z | z
    · exact (B.liN.mono e) b z y
    · subst z; rw [hr] at y; cases y
  · rcases y with y | y
    · exact (B.own b z).2.2 y
    · subst y; exact lv _ z nr
  · have w := B.ent x d he
    cases d with
    | no => trivial
    | va f d => obtain ⟨v, y, w⟩ := w; exact ⟨v, y, w.mono (big f)⟩
    | ow f a ds => obtain ⟨vs, y, w, r⟩ := w; exact ⟨vs, y, e _ _ w, r.mono (big f)⟩
    | rw v => exact w
/-- passed = [list(x), list(y)] -/
theorem q_pass2 (B : Bs c H σ δ) (hj : δ[i]? = some .no) (ha : Ev (c.hd false δ) ta σ H (.list ds)) (hb : ∀ (c' : Wd) (H' : Hp), Bs c' H' σ δ → Ev (c'.hd false δ) tb σ H' (.list es))
    (k : ∀ (p0 p1 pp : Addr) (vs ws : List V) (c' : Wd) (σ1 : Sta) (H1 : Hp), Ex c.B c'.B → H p0 = none → H p1 = none → p0 ≠ p1 → pp ≠ p0 → pp ≠ p1 → PO c' pp [.ref p0, .ref p1] → PK c' p0 vs ds → PK c' p1 ws es → Bs c' H1 σ1 (δ.set i (.rw (.ref pp))) → tz D σ1 H1) :
    tSeq (tAsg (tLst (tCons (tCB (rListOfK K) (tCons ta tNil)) (tCons (tCB (rListOfK K) (tCons tb tNil)) tNil))) (gName i)) tz D σ H := by
  show tCB (rListOfK K) (tCons ta tNil) σ H (fun x H1 => tCB (rListOfK K) (tCons tb tNil) σ H1 fun y H2 => [x, y].length ≤ sizeLine ∧ ∀ p, H2 p = none → tz D (σ.set i (some (.ref p))) (upd H2 p (.lst [x, y])))
  refine (en_listL ha) H (Ex.refl H) _ fun p0 vs H1 n0 e1 hp0 d0 => (en_listL (hb _ H1 (B.addN e1 n0 hp0))) H1 (Ex.refl H1) _ fun p1 ws H2 n1 e2 hp1 d1 => ⟨by show 2 ≤ sizeLine; decide, fun pp npp => ?_⟩
  have e3 : Ex H2 (upd H2 pp (.lst [.ref p0, .ref p1])) := Evl.Ex.new npp
  have e02 := e1.trans e2
  have e03 := e02.trans e3
  have n1' : H p1 = none := Evl.fresh_back e1 n1
  have npp' : H pp = none := Evl.fresh_back e02 npp
  have e01 : p0 ≠ p1 := fun z => by rw [← z, hp0] at n1; cases n1
  have ep0 : pp ≠ p0 := fun z => by rw [z, e2 _ _ hp0] at npp; cases npp
  have ep1 : pp ≠ p1 := fun z => by rw [z, hp1] at npp; cases npp
  have sub : ∀ b, Adr (δ.set i (.rw (.ref pp))) b → Adr δ b := fun b z => by
    rcases adr_set z with z | ⟨_, _, z⟩
    · exact z
    · cases z
  have sub2 : ∀ b, Adr δ b → Adr (δ.set i (.rw (.ref pp))) b := fun b ⟨k, g, es, z⟩ => ⟨k, g, es, by
    rw [List.getElem?_set_ne (fun q => by subst q; rw [hj] at z; cases z)]; exact z⟩
  have lv : ∀ b, Adr δ b → H b ≠ none := fun b ⟨k, g, es, z⟩ q => by
    obtain ⟨_, _, w, _⟩ := B.ent k _ z
    rw [w] at q; cases q
  have big : ∀ f, Ex (hid (c.hd f δ) H) (hid ((⟨hid (fun b => Adr δ b) (upd H2 pp (.lst [.ref p0, .ref p1])), c.O, fun b => c.N b ∨ b = p0 ∨ b = p1 ∨ b = pp⟩ : Wd).hd f (δ.set i (.rw (.ref pp)))) (upd H2 pp (.lst [.ref p0, .ref p1]))) := fun f b u z => by
    obtain ⟨z1, z2⟩ := hid_of z
    rw [hid_at]
    · exact e03 _ _ z2
    · rintro (⟨q1, q2⟩ | q | q)
      · exact z1 (.inl ⟨q1, q2⟩)
      · rcases q with q | q | q | q
        · exact z1 (.inr (.inl q))
        · subst q; rw [n0] at z2; cases z2
        · subst q; rw [n1'] at z2; cases z2
        · subst q; rw [npp'] at z2; cases z2
      · exact z1 (.inr (.inr (sub b q)))
  have hB0 : hid (fun b => Adr δ b) (upd H2 pp (.lst [.ref p0, .ref p1])) p0 = some (.lst vs) := by
    rw [hid_at (fun z => lv _ z n0)]; exact e3 _ _ (e2 _ _ hp0)
  have hB1 : hid (fun b => Adr δ b) (upd H2 pp (.lst [.ref p0, .ref p1])) p1 = some (.lst ws) := by
    rw [hid_at (fun z => lv _ z n1')]; exact e3 _ _ hp1
  have hBp : hid (fun b => Adr δ b) (upd H2 pp (.lst [.ref p0, .ref p1])) pp = some (.lst [.ref p0, .ref p1]) := by
    rw [hid_at (fun z => lv _ z npp')]; exact upd_same
  have el : ∀ {us : List V} {dd : List PyData} {oo : Hd} {Hx : Hp}, Ex Hx (upd H2 pp (.lst [.ref p0, .ref p1])) → (∀ b u, ¬ oo b → Hx b = some u → ¬ c.N b ∧ ¬ Adr δ b ∧ b ≠ p0 ∧ b ≠ p1 ∧ b ≠ pp) → DnA (hid oo Hx) us dd → DnA (hid (fun b => c.N b ∨ b = p0 ∨ b = p1 ∨ b = pp) (hid (fun b => Adr δ b) (upd H2 pp (.lst [.ref p0, .ref p1])))) us dd := fun {us dd oo Hx} ex av h => h.mono fun b u z => by
    obtain ⟨z1, z2⟩ := hid_of z
    obtain ⟨a4, a5, a1, a2, a3⟩ := av b u z1 z2
    rw [hid_at, hid_at]
    · exact ex _ _ z2
    · exact a5
    · rintro (y | y | y | y)
      · exact a4 y
      · exact a1 y
      · exact a2 y
      · exact a3 y
  refine k p0 p1 pp vs ws ⟨hid (fun b => Adr δ b) (upd H2 pp (.lst [.ref p0, .ref p1])), c.O, fun b => c.N b ∨ b = p0 ∨ b = p1 ∨ b = pp⟩ _ _ (fun b u z => ?_) n0 n1' e01 ep0 ep1 ⟨.inr (.inr (.inr rfl)), hBp⟩ ⟨.inr (.inl rfl), hB0, el (e2.trans e3) (fun b u z1 z2 => ⟨fun y => z1 (.inl (.inr (.inl y))), fun y => z1 (.inl (.inr (.inr y))), fun y => z1 (.inr y), fun y => ?_, fun y => ?_⟩) d0⟩ ⟨.inr (.inr (.inl rfl)), hB1, el e3 (fun b u z1 z2 => ⟨fun y => z1 (.inl (.inr (.inl (.inl y)))), fun y => z1 (.inl (.inr (.inr y))), fun y => z1 (.inl (.inr (.inl (.inr y)))), fun y => z1 (.inr y), fun y => ?_⟩) d1⟩ ?_
  · show hid (fun b => Adr δ b) (upd H2 pp (.lst [.ref p0, .ref p1])) b = some u
    rw [hid_at (fun y => by rw [(B.own b y).1] at z; cases z)]
    exact e03 _ _ (B.base _ _ z)
  · subst y; rw [n1] at z2; cases z2
  · subst y; rw [e2 _ _ z2] at npp; cases npp
  · subst y; rw [npp] at z2; cases z2
  · refine ⟨hid_ex, B.liO.mono e03, fun b z y => ?_, fun b z => ⟨hid_in (sub b z), (B.own b (sub b z)).2.1, fun y => ?_⟩, fun x y f1 f2 a ds es q1 q2 => ?_, by rw [List.length_set, List.length_set]; exact B.len, fun x e he => ?_⟩
    · rcases z with z | z | z | z
      · exact (B.liN.mono e03) b z y
      · subst z; rw [e3 _ _ (e2 _ _ hp0)] at y; cases y
      · subst z; rw [e3 _ _ hp1] at y; cases y
      · subst z; rw [upd_same] at y; cases y
    · rcases y with y | y | y | y
      · exact (B.own b (sub b z)).2.2 y
      · subst y; exact lv _ (sub _ z) n0
      · subst y; exact lv _ (sub _ z) n1'
      · subst y; exact lv _ (sub _ z) npp'
    · have w : ∀ {k : Nat} {f' : Bool} {ds : List PyData}, (δ.set i (.rw (.ref pp)))[k]? = some (.ow f' a ds) → δ[k]? = some (.ow f' a ds) := fun {k f' ds} h => by
        by_cases z : i = k
        · subst z
          rw [List.getElem?_set] at h
          simp at h
        · rwa [List.getElem?_set_ne z] at h
      exact B.one _ _ _ _ _ _ _ (w q1) (w q2)
    · by_cases z : i = x
      · subst z
        have hl : i < δ.length := by
          rw [List.getElem?_eq_some_iff] at hj
          exact hj.1
        rw [List.getElem?_set] at he
        simp [hl] at he
        subst he
        show _ = _
        rw [List.getElem?_set]; simp [B.len, hl]
      · rw [List.getElem?_set_ne z] at he
        rw [List.getElem?_set_ne z]
        have w := B.ent x e he
        cases e with
        | no => trivial
        | va f d => obtain ⟨v, y, w⟩ := w; exact ⟨v, y, w.mono (big f)⟩
        | ow f a ds => obtain ⟨vs, y, w, r⟩ := w; exact ⟨vs, y, e03 _ _ w, r.mono (big f)⟩
        | rw v => exact w
theorem Bs.put (B : Bs c H σ δ) (hN : c.N p) : Bs (c.put p u) (upd H p u) σ δ := by
  have lv : ∀ {o : Hd}, Live o H → Live o (upd H p u) := fun {o} l b hb z => by
    by_cases q : b = p
    · subst q; rw [upd_same] at z; cases z
    · rw [upd_ne q] at z; exact l b hb z
  have hh : ∀ f, hid (c.hd f δ) (upd H p u) = hid (c.hd f δ) H := fun f => hid_upd_in (.inr (.inl hN))
  refine ⟨fun b v q => ?_, lv B.liO, lv B.liN, fun b z => ⟨?_, (B.own b z).2⟩, B.one, B.len, fun i e he => ?_⟩
  · have q : upd c.B p u b = some v := q
    by_cases z : b = p
    · subst z; rw [upd_same] at q ⊢; exact q
    · rw [upd_ne z] at q ⊢; exact B.base _ _ q
  · show upd c.B p u b = none
    rw [upd_ne (fun y => (B.own b z).2.2 (by rw [y]; exact hN))]
    exact (B.own b z).1
  · have w := B.ent i e he
    cases e with
    | no => trivial
    | va f d => obtain ⟨v, e, w⟩ := w; exact ⟨v, e, by show Dn (hid (c.hd f δ) (upd H p u)) v d; rw [hh]; exact w⟩
    | ow f b es =>
      obtain ⟨ws, e, w, r⟩ := w
      refine ⟨ws, e, ?_, by show DnA (hid (c.hd f δ) (upd H p u)) ws es; rw [hh]; exact r⟩
      rw [upd_ne (fun z => (B.own b ⟨i, f, es, he⟩).2.2 (by rw [z]; exact hN))]; exact w
    | rw v => exact w
theorem q_raApp (B : Bs c H σ δ) (hs : δ[i]? = some (.rw (.ref pp))) (hO : PO c pp rs) (hk : atI rs m = some (.ref p)) (h : PK c p vs ds) (hx : Ev c.N te σ H d) (hz : ds.length < 100000)
    (k : ∀ v H1, PK (c.put p (.lst (vs ++ [v]))) p (vs ++ [v]) (ds ++ [d]) → Bs (c.put p (.lst (vs ++ [v]))) H1 σ δ → tz D σ H1) (hc : Sc d) :
    tSeq (tDrop (tBM K "list" rAppend (tOp (rIxL K) (tVar i) (tC (.int m))) (tCons te tNil))) tz D σ H := by
  refine ⟨.ref pp, B.ent i _ hs, pp, rs, m, .ref p, rfl, rfl, .inl (.inl (B.base _ _ hO.2)), hk, .inl ⟨rfl, _, .inl (.inl (B.base _ _ h.2.1))⟩, hx.go fun v H2 e2 hd => ⟨p, vs, v, rfl, rfl, e2 _ _ (B.base _ _ h.2.1), Evl.sz_lt (by rw [h.2.2.length]; exact hz), k v _ ⟨h.1, upd_same, ?_⟩ ((B.mono e2).put h.1)⟩⟩
  show DnA (hid c.N (upd c.B p _)) _ _
  rw [hid_upd_in h.1]
  exact h.2.2.append (.one (Dn.sc hc hd))
theorem q_raClr (B : Bs c H σ δ) (hs : δ[i]? = some (.rw (.ref pp))) (hO : PO c pp rs) (hk : atI rs m = some (.ref p)) (h : PK c p vs ds)
    (k : ∀ H1, PK (c.put p (.lst [])) p [] [] → Bs (c.put p (.lst [])) H1 σ δ → tz D σ H1) :
    tSeq (tDrop (tBM0 K "list" rClear (tOp (rIxL K) (tVar i) (tC (.int m))))) tz D σ H := by
  refine ⟨.ref pp, B.ent i _ hs, pp, rs, m, .ref p, rfl, rfl, .inl (.inl (B.base _ _ hO.2)), hk, .inl ⟨rfl, _, .inl (.inl (B.base _ _ h.2.1))⟩, p, vs, rfl, rfl, B.base _ _ h.2.1, k _ ⟨h.1, upd_same, .nil⟩ (B.put h.1)⟩
theorem q_clr (B : Bs c H σ δ) (hx : δ[i]? = some (.ow f a ds)) (k : ∀ H1, Bs c H1 σ (δ.set i (.ow f a [])) → tz D σ H1) :
    tSeq (tDrop (tBM0 K "list" rClear (tVar i))) tz D σ H := by
  obtain ⟨vs, e, ha, hv⟩ := B.ent i _ hx
  exact ⟨.ref a, e, .inl ⟨rfl, vs, .inl (.inl ha)⟩, a, vs, rfl, rfl, ha, k _ (set_in B hx .nil)⟩
/-- data that holds no lists -/
def isLst (H : Hp) : Hd := fun b => ∃ xs, H b = some (.lst xs)
mutual
def noL : PyData → Bool
  | .list _ => false
  | .dict _ => false
  | .tuple ds => noLs ds
  | _ => true
def noLs : List PyData → Bool
  | [] => true
  | d :: ds => noL d && noLs ds
end
mutual
theorem Dn.noL {H : Hp} : ∀ {v : V} {d : PyData}, Dn H v d → HL.noL d = true → Dn (hid (isLst H) H) v d
  | _, _, .non, _ => .non
  | _, _, .bl b, _ => .bl b
  | _, _, .int i, _ => .int i
  | _, _, .str x, _ => .str x
  | _, _, .tup h r, e => .tup (by rw [hid_at (fun ⟨xs, z⟩ => by rw [h] at z; cases z)]; exact h) (DnA.noL r (by simpa [HL.noL] using e))
theorem DnA.noL {H : Hp} : ∀ {vs : List V} {ds : List PyData}, DnA H vs ds → noLs ds = true → DnA (hid (isLst H) H) vs ds
  | _, _, .nil, _ => .nil
  | _, _, .cons h r, e => .cons (Dn.noL h (by simp [noLs] at e; exact e.1)) (DnA.noL r (by simp [noLs] at e; exact e.2))
end
theorem hid_hid {o1 o2 : Hd} : hid o1 (hid o2 H) = hid (fun b => o1 b ∨ o2 b) H := by
  funext b
  by_cases q1 : o1 b
  · rw [hid_in q1, hid_in (Or.inl q1)]
  · rw [hid_at q1]
    by_cases q2 : o2 b
    · rw [hid_in q2, hid_in (Or.inr q2)]
    · rw [hid_at q2, hid_at (fun z => z.elim q1 q2)]
theorem q_asgMN {Rl : List PyData → List PyData → PyData → List PyData → Prop} {E : XK} {ds' : List PyData} (B : Bs c H σ δ) (hx : δ[j]? = some (.ow f a ds)) (hne : i ≠ j) (hR : Rl ds [] (.list es) ds') (hn : noLs ds = true) (hn' : noLs ds' = true) (hn2 : noLs es = true)
    (k : ∀ p σ1 H1, Bs c H1 σ1 ((δ.set i (.ow f p es)).set j (.ow f a ds')) → tz D σ1 H1) :
    tSeq (tAsg (tCall (SpM Rl) [] E (tCons (tVar j) tNil)) (gName i)) tz D σ H := by
  obtain ⟨vs, e1, ha, hv⟩ := B.ent j _ hx
  have lo : Live (fun b => c.hd f δ b ∨ isLst H b) H := fun b z y => by
    rcases z with z | ⟨xs, z⟩
    · exact B.live f b z y
    · rw [z] at y; cases y
  have hv' : DnA (hid (fun b => c.hd f δ b ∨ isLst H b) H) vs ds := by
    have q := hv.noL hn
    rw [hid_hid] at q
    refine q.mono (hid_sub fun b z => ?_)
    rcases z with z | ⟨xs, z⟩
    · exact .inr z
    · by_cases y : c.hd f δ b
      · exact .inr y
      · exact .inl ⟨xs, by rw [hid_at y]; exact z⟩
  refine ⟨.ref a, e1, a, vs, [], _, ds, [], _, ds', rfl, lo, .inr ⟨_, ha⟩, ha, hv', .nil, hR, fun v xs' H' hk hp hxs hvd => ?_⟩
  cases hvd with
  | @lst p ws _ hpp hr =>
  obtain ⟨np0, hp'⟩ := hid_of hpp
  have pa : p ≠ a := fun z => np0 (.inr ⟨vs, by rw [z]; exact ha⟩)
  have np : H p = none := by
    cases q : H p with
    | none => rfl
    | some u =>
      have := hk p u pa q
      rw [hp'] at this
      cases this
      exact absurd (.inr ⟨_, q⟩) np0
  have ex : Ex H (upd H' a (.lst vs)) := fun b u q => by
    by_cases z : b = a
    · subst z; rw [upd_same]; rw [ha] at q; exact q
    · rw [upd_ne z]; exact hk b u z q
  have keep : ∀ {us : List V} {dd : List PyData}, noLs dd = true → DnA (hid (fun b => c.hd f δ b ∨ isLst H b) H') us dd → DnA (hid (fun b => c.hd f δ b ∨ b = p) (upd H' a (.lst vs))) us dd := fun {us dd} n h => by
    have q := h.noL n
    rw [hid_hid] at q
    refine q.mono fun b u z => ?_
    obtain ⟨z1, z2⟩ := hid_of z
    have ba : b ≠ a := fun y => z1 (.inr (.inr ⟨vs, by rw [y]; exact ha⟩))
    rw [hid_at, upd_ne ba]
    · exact z2
    · rintro (y | y)
      · exact z1 (.inr (.inl y))
      · exact z1 (.inl ⟨ws, by rw [y]; exact hpp⟩)
  have B1 := set_ow (i := i) (f := f) B ex np (by rw [upd_ne pa]; exact hp') (keep hn2 hr)
  have B2 := set_in (i := j) (f := f) (a := a) (ds := ds) (ds' := ds') (vs' := xs') B1 (by rw [List.getElem?_set_ne hne]; exact hx) ((keep hn' hxs).mono (hid_sub fun b z => by
    rcases z with z | z | z
    · exact .inl (.inl z)
    · exact .inl (.inr (.inl z))
    · rcases adr_set z with z | ⟨_, _, z⟩
      · exact .inl (.inr (.inr z))
      · injection z with z1 z2 z3; exact .inr z2.symm))
  have eH : upd (upd H' a (.lst vs)) a (.lst xs') = H' := by
    funext b
    by_cases z : b = a
    · subst z; rw [upd_same, hp]
    · rw [upd_ne z, upd_ne z]
  rw [eH] at B2
  exact k p _ _ B2
theorem ev_callMN {Rl : List PyData → List PyData → PyData → List PyData → Prop} {E : XK} {ds' : List PyData} (h : EvN o0 te σ H ds) (hR : Rl ds [] d ds') : Ev o0 (tCall (SpM Rl) [] E (tCons te tNil)) σ H d := fun H1 x Q k =>
  h H1 x _ fun p vs H2 np e2 hp hv => ⟨p, vs, [], fun b => b = p, ds, [], d, ds', rfl, (by intro b z y; cases z; rw [hp] at y; cases y), rfl, hp, hv.mono (hid_sub fun b z => .inr z), .nil, hR, fun v xs' H' hk _ _ hd => k v H' (fun b u z => hk b u (ne_of_none z np) (e2 _ _ z)) (hd.mono (hid_sub fun _ z => z.elim))⟩
class NL {α : Type} (em : α → PyData) : Prop where
  nl : ∀ x, HL.noL (em x) = true
theorem noLs_map [h : NL em] : ∀ xs : List α, noLs (xs.map em) = true
  | [] => rfl
  | x :: xs => by rw [List.map_cons, noLs, h.nl, noLs_map xs]; rfl
instance : NL eI := ⟨fun _ => rfl⟩
instance : NL eS := ⟨fun _ => rfl⟩
instance : NL eB := ⟨fun _ => rfl⟩
instance [NL em] : NL (eTu em) := ⟨fun xs => noLs_map xs⟩
instance [h : NL em] [h2 : NL em2] : NL (eT2 em em2) := ⟨fun x => by simp [HL.noL, noLs, h.nl, h2.nl]⟩
instance [h : NL em] [h2 : NL em2] [h3 : NL emg] : NL (eT3 em em2 emg) := ⟨fun x => by simp [HL.noL, noLs, h.nl, h2.nl, h3.nl]⟩
theorem exPut {He : Hp} (h : Ex He c.B) (hp : He p = none) : Ex He (c.put p u).B := fun b v hb => by
  show upd c.B p u b = _
  rw [upd_ne (ne_of_none hb hp)]; exact h b v hb
theorem none_back {He : Hp} (h : Ex He c.B) (B : Bs c H σ δ) (hp : H p = none) : He p = none := by
  cases q : He p with
  | none => rfl
  | some w => rw [B.base _ _ (h _ _ q)] at hp; cases hp
theorem q_exitOG {u : α → List Ent → List Ent} {tg : TG} (G : Tgt tg f em u) (Δ : S → List Ent) (stp : S → α → S ⊕ R) (s0 : S) (J : Nat → S → Prop) (B : Bs c H σ δ) (hk : ∀ s, (Δ s)[i]? = some (.ow f a (xs.map em))) (w : LeA δ (Δ s0)) (j0 : J 0 s0)
    (body : ∀ (B0 : Hp), Ex c.B B0 → ∀ (n : Nat) (s : S) (x : α) (σ1 : Sta) (H1 : Hp), x ∈ xs → n < xs.length → (∀ r, stp s x = .inr r → loopE stp xs s0 = .inr r) → J n s → Bs { c with B := B0 } H1 σ1 (u x (Δ s)) →
      ts { D with nx := EX c B0 S R Δ J (n + 1) (stp s x), ct := EX c B0 S R Δ J (n + 1) (stp s x), bk := tz D } σ1 H1)
    (done : ∀ s σ1 H1, loopE stp xs s0 = .inl s → J xs.length s → Bs c H1 σ1 (Δ s) → tz D σ1 H1) : tSeq (tFor (iList K (tVar i)) tg ts) tz D σ H := by
  obtain ⟨vs, e, hp, hr⟩ := (B.le w).ent i _ (hk s0)
  have u := B.under
  refine ⟨.ref a, e, a, rfl, ⟨vs, .inl (.inl hp)⟩, it_flex (m := xs.length) (NX c (hid (fun a => Adr δ a) H) S Δ (fun n s => loopE stp xs s0 = loopE stp (xs.drop n) s ∧ J n s)) ⟨s0, ⟨by simp, j0⟩, B.rebase.le w⟩ (fun n σ3 H3 hn ⟨s, _, B3⟩ => ?_) (fun σ3 H3 ⟨s, _, B3⟩ => ?_) (fun n σ3 H3 hn ⟨s, hi, B3⟩ => ?_) (fun σ3 H3 ⟨s, hi, B3⟩ => ?_)⟩
  · obtain ⟨vs3, e3, hp3, hr3⟩ := B3.ent i _ (hk s)
    have hl : vs3.length = xs.length := by rw [hr3.length, List.length_map]
    exact ⟨vs3, vs3[n]'(by omega), .inl (.inl hp3), List.getElem?_eq_getElem (by omega)⟩
  · obtain ⟨vs3, e3, hp3, hr3⟩ := B3.ent i _ (hk s)
    have hl : vs3.length = xs.length := by rw [hr3.length, List.length_map]
    exact ⟨vs3, .inl (.inl hp3), by omega⟩
  · obtain ⟨vs3, e3, hp3, hr3⟩ := B3.ent i _ (hk s)
    refine ⟨EX c _ S R Δ J (n + 1) (stp s xs[n]), fun σ' H' q => exit_core (List.getElem?_eq_getElem hn) hi.1 q, ?_⟩
    rintro x H' ⟨rfl, hx⟩
    have ex := hx _ (.inl (.inl hp3))
    obtain ⟨d, hd, q⟩ := hr3.get' ex
    rw [List.getElem?_map, List.getElem?_eq_getElem hn] at hd
    cases hd
    exact G B3 q fun σ4 B4 => body _ u n s xs[n] _ _ (List.getElem_mem hn) hn (fun r hr => by rw [hi.1, loopE_at (List.getElem?_eq_getElem hn), hr]) hi.2 B4
  · refine done s _ _ ?_ hi.2 (B3.debase u)
    rw [hi.1, List.drop_length]; rfl
theorem q_foldOG {u : α → List Ent → List Ent} {tg : TG} (G : Tgt tg f em u) (Δ : S → List Ent) (stp : S → α → S) (s0 : S) (J : Nat → S → Prop) (B : Bs c H σ δ) (hk : ∀ s, (Δ s)[i]? = some (.ow f a (xs.map em))) (w : LeA δ (Δ s0)) (j0 : J 0 s0)
    (body : ∀ (B0 : Hp), Ex c.B B0 → ∀ (n : Nat) (s : S) (x : α) (σ1 : Sta) (H1 : Hp), x ∈ xs → n < xs.length → J n s → Bs { c with B := B0 } H1 σ1 (u x (Δ s)) →
      ts { D with nx := FX c B0 S Δ J (n + 1) (stp s x), ct := FX c B0 S Δ J (n + 1) (stp s x), bk := tz D } σ1 H1)
    (done : ∀ s σ1 H1, s = xs.foldl stp s0 → J xs.length s → Bs c H1 σ1 (Δ s) → tz D σ1 H1) : tSeq (tFor (iList K (tVar i)) tg ts) tz D σ H :=
  q_exitOG (R := Unit) G Δ (fun s x => .inl (stp s x)) s0 J B hk w j0 (fun B0 e0 n s x σ1 H1 hx hn _ hJ B => by
    have := body B0 e0 n s x σ1 H1 hx hn hJ B
    rw [FX_EX] at this
    exact this) (fun s σ1 H1 hs hJ B => done s σ1 H1 (by rw [loopE_inl] at hs; exact (Sum.inl.inj hs).symm) hJ B)
end
end HL
namespace HL
open PySem PySem.Spec PyProof.Rows L2
open Evl (Ex)
section
variable {K : PySem.W.Frag} {c : Wd} {o : Hd} {H H1 H' : Hp} {σ : Sta} {δ δ' δ'' : List Ent} {i j : Nat} {f g : Bool} {a : Addr} {d e : PyData} {ds ds' es : List PyData} {ta tb te tl : TE} {tlo thi : TO} {t : TT} {ts tz : TS} {D : Ends} {α : Type} {em : α → PyData} {xs ys : List α}
/-! tuples: sums and slices -/
theorem ev_catT (l : Live o H) (ha : Ev o ta σ H (.tuple ds)) (hb : Ev o tb σ H (.tuple es)) (hz : ds.length + es.length ≤ 100000) : Ev o (tOp (rCatA K) ta tb) σ H (.tuple (ds ++ es)) := fun H1 x Q q =>
  ha H1 x _ fun v H2 e2 hv => hb H2 (x.trans e2) _ fun w H3 e3 hw => by
    cases hv with
    | tup h r =>
      cases hw with
      | tup h' r' =>
        have r3 := r.mono (hid_mono e3)
        have h3 := hid_mono (o := o) e3 _ _ h
        refine ⟨_, _, _, _, rfl, rfl, .inl (.inl (hid_ex _ _ h3)), .inl (.inl (hid_ex _ _ h')), Evl.sz_of (by rw [r.length, r'.length]; exact hz), fun z => ?_, fun _ z => ?_, fun _ _ p np => ?_⟩
        · subst z
          cases r3
          exact q _ H3 (e2.trans e3) (.tup h' r')
        · subst z
          cases r'
          rw [List.append_nil] at q
          exact q _ H3 (e2.trans e3) (.tup h3 r3)
        · exact q _ _ ((e2.trans e3).trans (Evl.Ex.new np)) (.tup (at_new (((l.mono x).mono e2).mono e3) np) ((r3.append r').mono (hid_upd_new np)))
theorem ev_slT {lo hi : Option Int} (l : Live o H) (h : Ev o te σ H (.tuple ds)) (h1 : EvO tlo σ H lo) (h2 : EvO thi σ H hi) : Ev o (tSl (rSlA K) te tlo thi) σ H (.tuple (cutG ds lo hi)) := fun H1 x Q q =>
  h H1 x _ fun v H2 e2 hv => h1 H2 (x.trans e2) _ fun H3 e3 => h2 H3 ((x.trans e2).trans e3) _ fun H4 e4 => by
    cases hv with
    | tup h r =>
      have e34 := e3.trans e4
      have r4 := r.mono (hid_mono e34)
      have h4 := hid_mono (o := o) e34 _ _ h
      refine ⟨_, _, rfl, .inl (.inl (hid_ex _ _ h4)), fun z => ?_, fun _ p np => ?_⟩
      · have e : cutG ds lo hi = ds := by
          unfold cutG
          rw [← r.length, z.1, z.2]
          simp [r.length]
        rw [e] at q
        exact q _ H4 (e2.trans e34) (.tup h4 r4)
      · exact q _ _ ((e2.trans e34).trans (Evl.Ex.new np)) (.tup (at_new (((l.mono x).mono e2).mono e34) np) ((r4.cut lo hi).mono (hid_upd_new np)))
theorem ev_catTu (l : Live o H) (ha : Ev o ta σ H (eTu em xs)) (hb : Ev o tb σ H (eTu em ys)) (hz : xs.length + ys.length ≤ 100000) : Ev o (tOp (rCatA K) ta tb) σ H (eTu em (xs ++ ys)) :=
  (ev_catT l ha hb (by rw [List.length_map, List.length_map]; exact hz)).is (by rw [← List.map_append])
theorem ev_slTu {lo hi : Option Int} (l : Live o H) (h : Ev o te σ H (eTu em xs)) (h1 : EvO tlo σ H lo) (h2 : EvO thi σ H hi) : Ev o (tSl (rSlA K) te tlo thi) σ H (eTu em (cutG xs lo hi)) :=
  (ev_slT l h h1 h2).is (by rw [cutG_map])
/-! readings that change lists: on the right of a sign, in a range -/
theorem em_I0r {p : Int → Int → Int} {x y : Int} (ha : Ev o0 ta σ H (.int x)) (h : ∀ H2, Ex H H2 → EvM c tb σ H2 δ (.int y) δ') : EvM c (tOp (rI0 fun i j => .int (p i j)) ta tb) σ H δ (.int (p x y)) δ' := fun Q q =>
  ha.go fun v H2 e2 hv => h H2 e2 _ fun w H3 B3 k3 hw => by cases hv; cases hw; exact ⟨x, y, rfl, rfl, q _ H3 B3 (fun a u na hh => k3 a u na (e2 _ _ hh)) (.int _)⟩
theorem em_ICr {C : Int → Int → Prop} {p : Int → Int → Int} {x y : Int} (ha : Ev o0 ta σ H (.int x)) (h : ∀ H2, Ex H H2 → EvM c tb σ H2 δ (.int y) δ') (hc : C x y) : EvM c (tOp (rI C fun i j => .int (p i j)) ta tb) σ H δ (.int (p x y)) δ' := fun Q q =>
  ha.go fun v H2 e2 hv => h H2 e2 _ fun w H3 B3 k3 hw => by cases hv; cases hw; exact ⟨x, y, rfl, rfl, hc, q _ H3 B3 (fun a u na hh => k3 a u na (e2 _ _ hh)) (.int _)⟩
theorem q_rng1M {m : Int} {tg : TG} (h : EvM c te σ H δ (.int m) δ') (k : ∀ H1, Bs c H1 σ δ' → tSeq (tFor (iRng1 (tCons (tC (.int m)) tNil)) tg ts) tz D σ H1) : tSeq (tFor (iRng1 (tCons te tNil)) tg ts) tz D σ H :=
  h _ fun v H2 B2 _ hv => by cases hv; exact k H2 B2
theorem oSome {α : Type} {em : α → PyData} {x : Option α} {d : α} (h : (!Option.isNone x) = true) : eO em x = em (x.getD d) := by
  cases x with
  | none => simp at h
  | some y => rfl
theorem oSome2 {α : Type} {em : α → PyData} {x : Option α} {d : α} (h : Option.isNone x = false) : eO em x = em (x.getD d) := by
  cases x with
  | none => simp at h
  | some y => rfl
end
end HL
namespace HL
open PySem PySem.Spec PyProof.Rows L2
open Evl (Ex)
/-! defs that change the list that they are passed first, beside lists that they read -/
def SpM2 (R : List PyData → List PyData → PyData → List PyData → Prop) : Sp := fun vs H Q _ => ∃ (a : Addr) (xs vr : List V) (o : Hd) (ds rs : List PyData) (d : PyData) (ds' : List PyData), vs = .ref a :: vr ∧ Live o H ∧ o a ∧ H a = some (.lst xs) ∧ DnA (hid o H) xs ds ∧ DnA (hid o H) vr rs ∧ R ds rs d ds' ∧
  ∀ v xs' H', (∀ b u, b ≠ a → H b = some u → H' b = some u) → H' a = some (.lst xs') → DnA (hid o H') xs' ds' → Dn (hid o H') v d → Q v H'
section
variable {K : PySem.W.Frag} {c : Wd} {o : Hd} {H H1 H' : Hp} {σ : Sta} {δ δ' δ'' : List Ent} {i j : Nat} {f g : Bool} {a : Addr} {d e : PyData} {ds ds' es : List PyData} {ta tb te tl : TE} {t : TT} {ts : TS} {D : Ends}
theorem em_call2 {R : List PyData → List PyData → PyData → List PyData → Prop} {E : XK} {tr : TA} (B : Bs c H σ δ) (hx : δ[i]? = some (.ow true a ds)) (h : EvA (c.hd true δ) tr σ H es) (hr : R ds es d ds') :
    EvM c (tCall (SpM2 R) [] E (tCons (tVar i) tr)) σ H δ d (δ.set i (.ow true a ds')) := fun Q q => by
  obtain ⟨vs, e1, ha, hv⟩ := B.ent i _ hx
  refine ⟨.ref a, e1, h H (Ex.refl H) _ fun ws H2 e2 hw => ?_⟩
  have B2 := B.mono e2
  refine ⟨a, vs, ws, c.hd true δ, ds, es, d, ds', by rw [List.append_nil], B2.live true, .inr (.inr ⟨i, true, ds, hx⟩), e2 _ _ ha, hv.mono (hid_mono e2), hw, hr, fun v xs' H' hk hp hxs hvd => ?_⟩
  have ex : Ex H2 (upd H' a (.lst vs)) := fun b u qq => by
    by_cases z : b = a
    · subst z; rw [upd_same]; rw [e2 _ _ ha] at qq; exact qq
    · rw [upd_ne z]; exact hk b u z qq
  have ia : ∀ g, c.hd g δ a := fun g => .inr (.inr ⟨i, true, ds, hx⟩)
  have B3 := B2.mono ex
  have B4 := set_in (vs' := xs') (ds' := ds') B3 hx (by rw [hid_upd_in (ia true)]; exact hxs)
  have eH : upd (upd H' a (.lst vs)) a (.lst xs') = H' := by
    funext b
    by_cases z : b = a
    · subst z; rw [upd_same, hp]
    · rw [upd_ne z, upd_ne z]
  rw [eH] at B4
  have hl : i < δ.length := by rw [List.getElem?_eq_some_iff] at hx; exact hx.1
  refine q v H' B4 (fun b u nb hb => hk b u (fun z => nb ⟨i, true, ds, by rw [z] ; exact hx⟩) (e2 _ _ hb)) (hvd.mono (hid_sub (hd_sub fun b z => ?_)))
  rcases adr_set z with z | ⟨_, _, z⟩
  · exact z
  · injection z with _ z _; subst z; exact ⟨i, true, ds, hx⟩
theorem bs_M2 {N : List Str} {vr : List V} {xs : List V} {ds rs : List PyData} {H : Hp} {o : Hd} {a : Addr} (l : Live o H) (oa : o a) (ha : H a = some (.lst xs)) (hx : DnA (hid o H) xs ds) (hr : DnA (hid o H) vr rs) (hN : vr.length + 1 ≤ N.length) :
    Bs ⟨hid (fun b => b = a) H, fun b => o b ∧ b ≠ a, o0⟩ H (L2.start N (.ref a :: vr)) (.ow true a ds :: args true (N.length - 1) rs) := by
  have hrl := hr.length
  have na : ∀ {k : Nat} {f : Bool} {b : Addr} {es : List PyData}, (args true (N.length - 1) rs)[k]? ≠ some (.ow f b es) := fun {k f b es} z => by
    have he := List.mem_of_getElem? z
    unfold args at he
    rcases List.mem_append.mp he with he | he
    · obtain ⟨d, _, q⟩ := List.mem_map.mp he; cases q
    · have := (List.mem_replicate.mp he).2; cases this
  have adr : ∀ b, Adr (.ow true a ds :: args true (N.length - 1) rs) b → b = a := fun b ⟨k, f, es, z⟩ => by
    cases k with
    | zero => simp at z; exact z.2.1.symm
    | succ k => exact absurd (by simpa using z) na
  have hdo : ∀ b, (⟨hid (fun b => b = a) H, fun b => o b ∧ b ≠ a, o0⟩ : Wd).hd true (.ow true a ds :: args true (N.length - 1) rs) b → o b := fun b z => by
    rcases z with z | z | z
    · exact z.2.1
    · exact z.elim
    · rw [adr b z]; exact oa
  refine ⟨hid_ex, fun b z => l b z.1, live0, fun b z => ?_, fun i j f1 g b d1 es h1 h2 => ?_, ?_, fun i e he => ?_⟩
  · rw [adr b z]; exact ⟨hid_in rfl, fun z => z.2 rfl, id⟩
  · cases i with
    | zero => cases j with
      | zero => rfl
      | succ j => exact absurd (by simpa using h2) na
    | succ i => exact absurd (by simpa using h1) na
  · rw [start_len (by simpa using hN)]; unfold args; simp; omega
  · cases i with
    | zero =>
      simp at he; subst he
      refine ⟨xs, ?_, ha, hx.mono (hid_sub hdo)⟩
      rw [start_get (by simp) (by simpa using hN)]; rfl
    | succ i =>
      simp only [List.getElem?_cons_succ] at he
      unfold args at he
      by_cases hi : i < rs.length
      · rw [List.getElem?_append_left (by simpa using hi), List.getElem?_map] at he
        obtain ⟨d, hd, q⟩ := Option.map_eq_some_iff.mp he
        subst q
        obtain ⟨v, hv, q⟩ := hr.get hd
        refine ⟨v, ?_, q.mono (hid_sub hdo)⟩
        rw [start_get (by simp; omega) (by simpa using hN)]
        rw [List.getElem?_eq_some_iff] at hv
        simp [hv.2]
      · rw [List.getElem?_append_right (by simp; omega)] at he
        have := (List.mem_replicate.mp (List.mem_of_getElem? he)).2
        subst this
        trivial
theorem ev_powC {i j n : Int} (ha : Ev o0 ta σ H (.int i)) (hb : Ev o0 tb σ H (.int j)) (hc : CPow i j) (e : i ^ j.toNat = n) : Ev o (tOp (rI CPow fun i j => .int (i ^ j.toNat)) ta tb) σ H (.int n) := (ev_IC (g := fun i j => i ^ j.toNat) ha hb hc).is (by rw [e])
end
end HL
namespace HL
open PySem PySem.Spec PyProof.Rows L2
open Evl (Ex)
/-! errors that know that nothing was handled when they were raised; defs that are called where an error is handled -/
theorem takes0N {X : Cx} : L2N.Takes X (fun _ _ _ _ => False) := fun _ _ x => by
  obtain ⟨_, _, _, _, _, _, _, _, _, _, _, _, _, _, _, _, z⟩ := x
  exact z.elim
section
variable {P : Program} {w : World} {K : PySem.W.Frag} {mg : Str → Option Value} {base : Heap}
theorem FunokN {x qual : Str} {st : Stmt} {f : Addr} {fd : FuncData} {N ps : List Str} {k : Nat} {sp : Sp} (F : Fun K x qual st f fd) (S : FnScope N ps (defScope st)) (len : ∀ vs H Q E, sp vs H Q E → vs.length = ps.length)
    (body : ∀ (cdv : Value) (A : Around) (outer : List Env) (s : Shared) (H : Hp) (vs : List V) (Q : VK) (E : XK), Room k (A.deeper (envOfC qual (defScope st) s.heap.objs.size f cdv)) → sp vs H Q E →
      ∃ t, PSs (cxOf (L2N.CX P w) P w K mg base N qual (defScope st) f cdv A outer s H E) (defBody st) t ∧ t { nx := fun _ H' => Q .non H', rt := Q } (start N vs) H) : FnOk P w K mg base (L2N.CX P w) (k + 1) f fd ps sp := by
  obtain ⟨oc, od, kV, doc, pm, an, cdv, ct, osl, rfl, l, c⟩ := F.ex
  exact fn_of l c S len fun A outer s H vs Q E r q => body cdv A outer s H vs Q E r q
theorem FunokH {x qual : Str} {st : Stmt} {f : Addr} {fd : FuncData} {N ps : List Str} {k : Nat} {sp : Sp} (F : Fun K x qual st f fd) (S : FnScope N ps (defScope st)) (len : ∀ vs H Q E, sp vs H Q E → vs.length = ps.length)
    (body : ∀ (cdv : Value) (A : Around) (outer : List Env) (s : Shared) (H : Hp) (vs : List V) (Q : VK) (E : XK) (p : Addr × Obj), L2H.Hot1 A p → L2H.RoomH k (A.deeper (envOfC qual (defScope st) s.heap.objs.size f cdv)) → sp vs H Q E →
      ∃ t, PSs (L2H.cxH CX0 P w K mg base N qual (defScope st) f cdv A outer s H E p) (defBody st) t ∧ t { nx := fun _ H' => Q .non H', rt := Q } (start N vs) H) : L2H.FnH P w K mg base CX0 (k + 1) f fd ps sp := by
  obtain ⟨oc, od, kV, doc, pm, an, cdv, ct, osl, rfl, l, c⟩ := F.ex
  exact L2H.fn_ofH l c S len fun A outer s H vs Q E p z r q => body cdv A outer s H vs Q E p z r q
theorem rmH {k : Nat} {A : Around} {h : Option Value} (r : Room k A) : L2H.RoomH k (A.mark h) := ⟨r.dp, r.un⟩
theorem hotS {X : Cx} {a : Addr} {oe : Obj} {pn : List (Addr × Obj)} {cls : Value} {d : Option Addr} (hz : L2N.Zn cls d oe) (hf : ∃ vs, oe.data = .fields vs) : L2H.HotC (X.suite a ((a, oe) :: pn)) := by
  obtain ⟨vs, e⟩ := hf
  exact ⟨(a, oe), ⟨rfl, vs, e, hz.2.2 vs e⟩, List.mem_cons_self⟩
theorem passA0 {X : Cx} (σ : Sta) : PassesAt CX0 X σ E0 := fun _ _ _ _ _ _ h => h.elim
theorem ev_callFS {o : Hd} {σ : Sta} {H : Hp} {ds : List PyData} {d : PyData} {R : List PyData → PyData → Prop} {E : L2.St → XK} {tr : TA} (l : Live o H) (h : EvA o0 tr σ H ds) (hr : R ds d) : Ev o (L2.tCallS (SpF R) E tr) σ H d := fun H1 x Q q =>
  h H1 x _ fun vs H2 e2 hv => ⟨ds, d, hv.up, hr, fun v H3 e3 hd => q v H3 (e2.trans e3) (hd.mono (hid_sub ((l.mono x).mono e2)))⟩
end
end HL
namespace HL
open PySem PySem.Spec PyProof.Rows L2
open Evl (Ex)
/-! comprehensions with several targets -/
theorem wipe_get {σ : Sta} {i : Nat} : ∀ {js : List Nat}, i ∉ js → (wipe σ js)[i]? = σ[i]?
  | [], _ => rfl
  | j :: js, h => by
    unfold wipe
    rw [List.getElem?_set_ne (fun z => h (by rw [z]; simp)), wipe_get (fun z => h (List.mem_cons_of_mem _ z))]
theorem wipe_set {σ : Sta} {i : Nat} {x : Option V} : ∀ {js : List Nat}, i ∈ js → wipe (σ.set i x) js = wipe σ js
  | [], h => by simp at h
  | j :: js, h => by
    unfold wipe
    by_cases q : i ∈ js
    · rw [wipe_set q]
    · have e : i = j := by
        rcases List.mem_cons.mp h with h | h
        · exact h
        · exact absurd h q
      subst e
      have c : ∀ {σ : Sta} (ks : List Nat), i ∉ ks → wipe (σ.set i x) ks = (wipe σ ks).set i x := by
        intro σ ks
        induction ks with
        | nil => intro _; rfl
        | cons k ks ih =>
          intro hk
          unfold wipe
          rw [ih (fun z => hk (List.mem_cons_of_mem _ z)), List.set_comm _ _ (fun z => hk (by rw [z]; simp))]
      rw [c js q, List.set_set]
theorem wipe_wipe {σ : Sta} (js : List Nat) : wipe (wipe σ js) js = wipe σ js := by
  have all : ∀ (ks : List Nat), (∀ k ∈ ks, k ∈ js) → wipe (wipe σ ks) js = wipe σ js := by
    intro ks
    induction ks with
    | nil => intro _; rfl
    | cons k ks ih =>
      intro h
      show wipe ((wipe σ ks).set k none) js = _
      rw [wipe_set (h k (by simp)), ih (fun x hx => h x (List.mem_cons_of_mem _ hx))]
  exact all js (fun _ h => h)
section
variable {K : PySem.W.Frag} {c : Wd} {o : Hd} {H H1 H' : Hp} {σ : Sta} {δ δ' : List Ent} {i j : Nat} {f g : Bool} {a : Addr} {d e : PyData} {ds es : List PyData} {ta tb te tl : TE} {t : TT} {ts : TS} {D : Ends} {S : Type}
def TgtW {α : Type} (js : List Nat) (g : TG) (f : Bool) (em : α → PyData) (u : α → List Ent → List Ent) : Prop := ∀ {c : Wd} {H : Hp} {σ : Sta} {δ : List Ent} {v : V} {x : α} {Q : Sta → Hp → Prop}, Bs c H σ δ → Dn (hid (c.hd f δ) H) v (em x) → (∀ σ1, wipe σ1 js = wipe σ js → Bs c H σ1 (u x δ) → Q σ1 H) → g v σ H Q
theorem tgw_name {α : Type} {em : α → PyData} {js : List Nat} (hj : j ∈ js) : TgtW js (gName j) f em (fun x δ => δ.set j (.va f (em x))) := fun B h k => k _ (wipe_set hj) (set_va B h)
theorem tgw_tup2 {α β : Type} {e1 : α → PyData} {e2 : β → PyData} {js : List Nat} (hi : i ∈ js) (hj : j ∈ js) : TgtW js (gTup K 2 (gCons (gName i) (gCons (gName j) gNil))) f (eT2 e1 e2) (fun x δ => (δ.set i (.va f (e1 x.1))).set j (.va f (e2 x.2))) := fun B h k => by
  cases h with
  | @tup p vs _ hp hr =>
    cases hr with
    | cons h1 hr => cases hr with
      | cons h2 hr =>
        cases hr
        exact ⟨p, _, rfl, .inl (.inl (hid_ex _ _ hp)), rfl, _, _, rfl, _, _, rfl, rfl, k _ (by rw [wipe_set hj, wipe_set hi]) (set_va (set_va B h1) (h2.mono hd_va))⟩
theorem tgw_tup3 {α β γ : Type} {k' : Nat} {e1 : α → PyData} {e2 : β → PyData} {e3 : γ → PyData} {js : List Nat} (hi : i ∈ js) (hj : j ∈ js) (hk : k' ∈ js) : TgtW js (gTup K 3 (gCons (gName i) (gCons (gName j) (gCons (gName k') gNil)))) f (eT3 e1 e2 e3) (fun x δ => ((δ.set i (.va f (e1 x.1))).set j (.va f (e2 x.2.1))).set k' (.va f (e3 x.2.2))) := fun B h k => by
  cases h with
  | @tup p vs _ hp hr =>
    cases hr with
    | cons h1 hr => cases hr with
      | cons h2 hr => cases hr with
        | cons h3 hr =>
          cases hr
          exact ⟨p, _, rfl, .inl (.inl (hid_ex _ _ hp)), rfl, _, _, rfl, _, _, rfl, _, _, rfl, rfl, k _ (by rw [wipe_set hk, wipe_set hj, wipe_set hi]) (set_va (set_va (set_va B h1) (h2.mono hd_va)) ((h3.mono hd_va).mono hd_va))⟩
theorem adr_put {e : Ent} (hj : δ[j]? = some .no) : ∀ b, Adr δ b → Adr (δ.set j e) b := fun b ⟨k, f', ds', z⟩ => ⟨k, f', ds', by rw [List.getElem?_set_ne (fun y => by subst y; rw [hj] at z; cases z)]; exact z⟩
theorem en_lcG {α : Type} {js : List Nat} {tg : TG} {u : α → List Ent → List Ent} (xs : List α) (em : α → PyData) (cs : α → Bool) (e : α → PyData) (G : TgtW js tg f em u) (B : Bs c H σ δ) (h : Ev (c.hd f δ) tl σ H (.list (xs.map em))) (hz : xs.length ≤ 40000)
    (body : ∀ (c' : Wd) (x : α) (σ1 : Sta) (H1 : Hp), x ∈ xs → Bs c' H1 σ1 (u x δ) → EvT t σ1 H1 (cs x) ∧ (cs x = true → Ev (c'.hd g (u x δ)) te σ1 H1 (e x)))
    (hj : ∀ j ∈ js, δ[j]? = some .no) (hu : ∀ y b, Adr δ b → Adr (u y δ) b) : EvN (c.hd g δ) (tLc (iList K tl) tg t te js) σ H ((xs.filter cs).map e) := fun H1 x1 Q q => by
  refine h H1 x1 _ fun v H2 e2 hv => ?_
  have B2 : Bs c H2 σ δ := B.mono (x1.trans e2)
  cases hv with
  | @lst p vs _ hp hr =>
    refine ⟨p, rfl, ⟨vs, .inl (.inl (hid_ex _ _ hp))⟩, fun C nC => ?_⟩
    -- the block's world: the new list may not be met
    let c' : Wd := { c with B := hid (fun a => Adr δ a ∨ a = C) H2, N := fun a => c.N a ∨ a = C }
    have eC : ∀ {u}, Ex H2 (upd H2 C u) := fun {u} => Evl.Ex.new nC
    have hdn : ∀ f' a, c'.hd f' δ a ↔ c.hd f' δ a ∨ a = C := fun f' a => by
      constructor
      · rintro (z | (z | z) | z)
        · exact .inl (.inl z)
        · exact .inl (.inr (.inl z))
        · exact .inr z
        · exact .inl (.inr (.inr z))
      · rintro ((z | z | z) | z)
        · exact .inl z
        · exact .inr (.inl (.inl z))
        · exact .inr (.inr z)
        · exact .inr (.inl (.inr z))
    have lift : ∀ {H3 : Hp} (f' : Bool), Ex (hid (fun a => Adr δ a ∨ a = C) H2) H3 → Ex (hid (c.hd f' δ) H2) (hid (c'.hd f' δ) H3) := fun {H3} f' e3 a u q => by
      obtain ⟨q1, q2⟩ := hid_of q
      have ha : ¬ a = C := ne_of_none q2 nC
      rw [hid_at (fun z => ((hdn f' a).mp z).elim q1 ha)]
      exact e3 a u (by rw [hid_at (fun z => z.elim (fun z => q1 (.inr (.inr z))) ha)]; exact q2)
    have mk : ∀ {H3 : Hp} {acc : List V}, Ex (hid (fun a => Adr δ a ∨ a = C) H2) H3 → (∀ a u, Adr δ a → H2 a = some u → H3 a = some u) → H3 C = some (.lst acc) → Live c.O H3 → Live c.N H3 → Bs c' H3 (wipe σ js) δ := fun {H3 acc} e3 eo hC lO lN => by
      refine ⟨e3, lO, fun a ha => ?_, fun a ha => ⟨(show hid (fun a => Adr δ a ∨ a = C) H2 a = none from hid_in (Or.inl ha)), (B2.own a ha).2.1, fun z => ?_⟩, B2.one, by rw [wipe_length]; exact B2.len, fun i e he => ?_⟩
      · rcases ha with ha | ha
        · exact lN a ha
        · subst ha; rw [hC]; simp
      · rcases z with z | z
        · exact (B2.own a ha).2.2 z
        · subst z
          obtain ⟨k, f, ds, ha⟩ := ha
          obtain ⟨vs, _, q, _⟩ := B2.ent k _ ha
          rw [q] at nC; cases nC
      · have w := B2.ent i e he
        have nj : ∀ f d, e = .va f d → i ∉ js := fun f d z y => by subst z; rw [hj i y] at he; cases he
        have nj2 : ∀ f a d, e = .ow f a d → i ∉ js := fun f a d z y => by subst z; rw [hj i y] at he; cases he
        have nj3 : ∀ v, e = .rw v → i ∉ js := fun v z y => by subst z; rw [hj i y] at he; cases he
        cases e with
        | no => trivial
        | va f' d =>
          obtain ⟨v, e, w⟩ := w
          refine ⟨v, ?_, w.mono (lift f' e3)⟩
          rw [wipe_get (nj _ _ rfl)]; exact e
        | ow f' b es =>
          obtain ⟨ws, e, w, r⟩ := w
          refine ⟨ws, ?_, eo _ _ ⟨i, f', es, he⟩ w, r.mono (lift f' e3)⟩
          rw [wipe_get (nj2 _ _ _ rfl)]; exact e
        | rw v =>
          rw [wipe_get (nj3 _ rfl)]; exact w
    refine lc_list (xs := vs) (fun n H3 => ∃ acc, Ex (hid (fun a => Adr δ a ∨ a = C) H2) H3 ∧ (∀ a u, a ≠ C → H2 a = some u → H3 a = some u) ∧ H3 C = some (.lst acc) ∧ DnA (hid (c'.hd g δ) H3) acc (((xs.take n).filter cs).map e) ∧ Live c.O H3 ∧ Live c.N H3) ?_ (fun n H3 _ ⟨acc, e3, en, _, _, _, _⟩ => ?_) (fun n x H3 hx hP => ?_) (fun H3 hP => ?_)
    · refine ⟨[], fun a u h => ?_, fun a u na h => ?_, upd_same, ?_, (B2.liO).mono eC, (B2.liN).mono eC⟩
      · obtain ⟨h1, h2⟩ := hid_of h
        rw [upd_ne (fun z => h1 (.inr z))]; exact h2
      · rw [upd_ne na]; exact h
      · simp; exact .nil
    · refine .inl (.inl (en _ _ ?_ (hid_ex _ _ hp)))
      intro z; subst z; rw [hid_ex _ _ hp] at nC; cases nC
    · obtain ⟨acc, e3, en, hC, hacc, lO, lN⟩ := hP
      obtain ⟨dd, hdd, hdv⟩ := hr.get' hx
      rw [List.getElem?_map] at hdd
      obtain ⟨y, hy, ey⟩ := Option.map_eq_some_iff.mp hdd
      subst ey
      have B3 : Bs c' H3 (wipe σ js) δ := mk e3 (fun a u ha h => en a u (fun z => by
        subst z
        obtain ⟨k, f, ds, ha⟩ := ha
        obtain ⟨vs, _, q, _⟩ := B2.ent k _ ha
        rw [q] at nC; cases nC) h) hC lO lN
      have hyx : y ∈ xs := List.mem_of_getElem? hy
      refine G B3 (hdv.mono (lift f e3)) fun σ1 hwp B4 => ?_
      obtain ⟨t1, t2⟩ := body c' y _ _ hyx B4
      have hn : n < xs.length := by rw [List.getElem?_eq_some_iff] at hy; exact hy.1
      have tk : xs.take (n + 1) = xs.take n ++ [y] := by rw [List.take_add_one, hy]; rfl
      have keepAdr : ∀ {H4 : Hp}, Ex H3 H4 → Ex (hid (fun a => Adr δ a ∨ a = C) H2) H4 ∧ (∀ a u, a ≠ C → H2 a = some u → H4 a = some u) := fun e4 => ⟨e3.trans e4, fun a u na h => e4 _ _ (en a u na h)⟩
      refine ⟨?_, t1 H3 (Ex.refl H3) _ fun H4 e4 => ?_⟩
      · rw [hwp, wipe_wipe]
      · cases hb : cs y with
        | false =>
          rw [if_neg Bool.false_ne_true]
          refine ⟨acc, (keepAdr e4).1, (keepAdr e4).2, e4 _ _ hC, ?_, lO.mono e4, lN.mono e4⟩
          rw [tk, List.filter_append]
          simp only [List.filter_cons, hb, List.filter_nil, Bool.false_eq_true, if_false, List.append_nil]
          exact hacc.mono (hid_mono e4)
        | true =>
          rw [if_pos rfl]
          refine t2 hb H4 e4 _ fun v5 H5 e5 h5 => ?_
          have e45 := e4.trans e5
          refine ⟨acc, e45 _ _ hC, ?_, acc ++ [v5], ?_, ?_, upd_same, ?_, ?_, ?_⟩
          · refine Evl.sz_lt ?_
            rw [hacc.length, List.length_map]
            have h1 : ((xs.take n).filter cs).length ≤ (xs.take n).length := List.length_filter_le _ _
            have h2 : (xs.take n).length ≤ n := List.length_take_le _ _
            omega
          · intro a u h
            obtain ⟨h1, h2⟩ := hid_of h
            rw [upd_ne (fun z => h1 (.inr z))]
            exact (keepAdr e45).1 a u h
          · intro a u na h
            rw [upd_ne na]
            exact (keepAdr e45).2 a u na h
          · rw [hid_upd_in ((hdn g C).mpr (.inr rfl)), tk, List.filter_append, List.map_append]
            simp only [List.filter_cons, hb, List.filter_nil, if_true, List.map_cons, List.map_nil]
            refine (hacc.mono (hid_mono e45)).append (.one (h5.mono (hid_sub (hd_sub fun b z => ?_))))
            exact hu y b z
          · intro b hb z
            by_cases q : b = C
            · subst q; rw [upd_same] at z; cases z
            · rw [upd_ne q] at z; exact (lO.mono e45) b hb z
          · intro b hb z
            by_cases q : b = C
            · subst q; rw [upd_same] at z; cases z
            · rw [upd_ne q] at z; exact (lN.mono e45) b hb z
    · obtain ⟨acc, e3, en, hC, hacc, lO, lN⟩ := hP
      have el : vs.length = xs.length := by rw [hr.length, List.length_map]
      rw [el, List.take_length] at hacc
      refine q C acc H3 (Evl.fresh_back e2 nC) (e2.trans fun a u h => ?_) hC (hacc.mono (hid_sub fun a z => (hdn g a).mpr z))
      exact en a u (ne_of_none h nC) h

section
variable {α β : Type} {em : α → PyData} {em2 : β → PyData} {xs : List α} {js : List Nat} {tg : TG} {u : α → List Ent → List Ent}
theorem en_lcGM (cs : α → Bool) (ex : α → β) (G : TgtW js tg f em u) (B : Bs c H σ δ) (hj : ∀ j ∈ js, δ[j]? = some .no) (hu : ∀ y b, Adr δ b → Adr (u y δ) b) (h : Ev (c.hd f δ) tl σ H (eL em xs)) (hz : xs.length ≤ 40000)
    (body : ∀ (c' : Wd) (x : α) (σ1 : Sta) (H1 : Hp), x ∈ xs → Bs c' H1 σ1 (u x δ) → EvT t σ1 H1 (cs x) ∧ (cs x = true → Ev (c'.hd g (u x δ)) te σ1 H1 (em2 (ex x)))) :
    EvN (c.hd g δ) (tLc (iList K tl) tg t te js) σ H (((xs.filter cs).map ex).map em2) := (en_lcG xs em cs (fun x => em2 (ex x)) G B h hz body hj hu).is (by rw [List.map_map]; rfl)
theorem en_lcGM1 (ex : α → β) (G : TgtW js tg f em u) (B : Bs c H σ δ) (hj : ∀ j ∈ js, δ[j]? = some .no) (hu : ∀ y b, Adr δ b → Adr (u y δ) b) (h : Ev (c.hd f δ) tl σ H (eL em xs)) (hz : xs.length ≤ 40000)
    (body : ∀ (c' : Wd) (x : α) (σ1 : Sta) (H1 : Hp), x ∈ xs → Bs c' H1 σ1 (u x δ) → Ev (c'.hd g (u x δ)) te σ1 H1 (em2 (ex x))) :
    EvN (c.hd g δ) (tLc (iList K tl) tg tYes te js) σ H ((xs.map ex).map em2) :=
  (en_lcGM (fun _ => true) ex G B hj hu h hz fun c' x σ1 H1 hx B => ⟨fun H1 _ Q q => q H1 (Ex.refl H1), fun _ => body c' x σ1 H1 hx B⟩).is (by rw [List.filter_eq_self.mpr (fun _ _ => rfl)])
end
end
end HL
namespace HL
open PySem PySem.Spec PyProof.Rows L2
open Evl (Ex)
section
variable {K : PySem.W.Frag} {c : Wd} {o : Hd} {H H1 H' : Hp} {σ : Sta} {δ δ' : List Ent} {i j : Nat} {f g b : Bool} {a : Addr} {te : TE} {tz : TS} {D : Ends} {α : Type} {em : α → PyData} {xs ys : List α}
theorem q_exitRG {u : α → List Ent → List Ent} {tg : TG} (G : Tgt tg f em u) (Δ : S → List Ent) (stp : S → α → S ⊕ R) (s0 : S) (J : Nat → S → Prop) (B : Bs c H σ δ) (h : Ev (c.hd f δ) tl σ H (eL em xs)) (w : LeA δ (Δ s0)) (j0 : J 0 s0)
    (body : ∀ (B0 : Hp), Ex c.B B0 → ∀ (n : Nat) (s : S) (x : α) (σ1 : Sta) (H1 : Hp), x ∈ xs → n < xs.length → (∀ r, stp s x = .inr r → loopE stp xs.reverse s0 = .inr r) → J n s → Bs { c with B := B0 } H1 σ1 (u x (Δ s)) →
      ts { D with nx := EX c B0 S R Δ J (n + 1) (stp s x), ct := EX c B0 S R Δ J (n + 1) (stp s x), bk := tz D } σ1 H1)
    (done : ∀ s σ1 H1, loopE stp xs.reverse s0 = .inl s → J xs.length s → Bs c H1 σ1 (Δ s) → tz D σ1 H1) : tSeq (tFor (iRev K (tCons tl tNil)) tg ts) tz D σ H := by
  refine h.go fun v H2 e2 hv => ?_
  have B2 := B.mono e2
  cases hv with
  | @lst p vs _ hp hr =>
    have u := B2.under
    have W : ∀ {H3 σ3 s}, Bs { c with B := hid (fun a => Adr δ a) H2 } H3 σ3 (Δ s) → Ex (hid (c.hd f δ) H2) (hid (c.hd f (Δ s)) H3) := fun B3 => B3.pers fun a u q => at_has q
    have hl : vs.length = xs.length := by rw [hr.length, List.length_map]
    refine ⟨p, vs, rfl, .inl (.inl (hid_ex _ _ hp)), it_flex (m := xs.length) (NX c _ S Δ (fun n s => loopE stp xs.reverse s0 = loopE stp (xs.reverse.drop n) s ∧ J n s)) ⟨s0, ⟨by simp, j0⟩, (B2.rebase).le w⟩ (fun n σ3 H3 hn ⟨s, _, B3⟩ => ?_) (fun σ3 H3 ⟨s, _, B3⟩ => ?_) (fun n σ3 H3 hn ⟨s, hi, B3⟩ => ?_) (fun σ3 H3 ⟨s, hi, B3⟩ => ?_)⟩
    · exact ⟨by omega, vs, vs[vs.length - 1 - n]'(by omega), .inl (.inl (hid_ex _ _ (W B3 _ _ hp))), List.getElem?_eq_getElem (by omega)⟩
    · exact Nat.le_of_eq hl
    · have hr' : n < xs.reverse.length := by rw [List.length_reverse]; exact hn
      have hg : xs.reverse[n]? = some (xs[xs.length - 1 - n]'(by omega)) := by rw [List.getElem?_reverse hn, List.getElem?_eq_getElem (by omega)]
      refine ⟨EX c _ S R Δ J (n + 1) (stp s (xs[xs.length - 1 - n]'(by omega))), fun σ' H' q => exit_core hg hi.1 q, ?_⟩
      rintro x H' ⟨rfl, hx⟩
      have ex := hx _ (.inl (.inl (hid_ex _ _ (W B3 _ _ hp))))
      obtain ⟨d, hd, q⟩ := hr.get' ex
      rw [List.getElem?_map, hl, List.getElem?_eq_getElem (by omega)] at hd
      cases hd
      exact G B3 (q.mono (W B3)) fun σ4 B4 => body _ u n s _ _ _ (List.getElem_mem _) hn (fun r hr => by rw [hi.1, loopE_at hg, hr]) hi.2 B4
    · refine done s _ _ ?_ hi.2 (B3.debase u)
      rw [hi.1, List.drop_eq_nil_of_le (by rw [List.length_reverse]; exact Nat.le_refl _)]; rfl
theorem q_foldRG {u : α → List Ent → List Ent} {tg : TG} (G : Tgt tg f em u) (Δ : S → List Ent) (stp : S → α → S) (s0 : S) (J : Nat → S → Prop) (B : Bs c H σ δ) (h : Ev (c.hd f δ) tl σ H (eL em xs)) (w : LeA δ (Δ s0)) (j0 : J 0 s0)
    (body : ∀ (B0 : Hp), Ex c.B B0 → ∀ (n : Nat) (s : S) (x : α) (σ1 : Sta) (H1 : Hp), x ∈ xs → n < xs.length → J n s → Bs { c with B := B0 } H1 σ1 (u x (Δ s)) →
      ts { D with nx := FX c B0 S Δ J (n + 1) (stp s x), ct := FX c B0 S Δ J (n + 1) (stp s x), bk := tz D } σ1 H1)
    (done : ∀ s σ1 H1, s = xs.reverse.foldl stp s0 → J xs.length s → Bs c H1 σ1 (Δ s) → tz D σ1 H1) : tSeq (tFor (iRev K (tCons tl tNil)) tg ts) tz D σ H :=
  q_exitRG (R := Unit) G Δ (fun s x => .inl (stp s x)) s0 J B h w j0 (fun B0 e0 n s x σ1 H1 hx hn _ hJ B => by
    have := body B0 e0 n s x σ1 H1 hx hn hJ B
    rw [FX_EX] at this
    exact this) (fun s σ1 H1 hs hJ B => done s σ1 H1 (by rw [loopE_inl] at hs; exact (Sum.inl.inj hs).symm) hJ B)
theorem erase_map {α β : Type} (f : α → β) : ∀ (xs : List α) (n : Nat), (xs.map f).eraseIdx n = (xs.eraseIdx n).map f
  | [], n => by simp
  | x :: xs, 0 => rfl
  | x :: xs, n + 1 => by simp [List.eraseIdx, erase_map f xs n]
theorem q_popK {n : Nat} (B : Bs c H σ δ) (hx : δ[i]? = some (.ow f a (xs.map em))) (hi : Ev o0 te σ H (eI (n : Int))) (hn : n ≤ 1000000) (hb : n < xs.length) (k : ∀ H1, Bs c H1 σ (δ.set i (.ow f a ((xs.eraseIdx n).map em))) → tz D σ H1) :
    tSeq (tDrop (tBM K "list" rPopAt (tVar i) (tCons te tNil))) tz D σ H := by
  have e : (xs.map em).eraseIdx n = (xs.eraseIdx n).map em := erase_map em xs n
  exact q_pop0 (n := n) B hx hi (by omega) (by unfold ixN; simp; omega) (by rw [List.getElem?_map, List.getElem?_eq_getElem hb]; rfl) (fun H1 B => k H1 (by rw [← e]; exact B))
theorem isNO {α : Type} {em : α → PyData} (h : ∀ y, isNoneD (em y) = false) (x : Option α) : isNoneD (eO em x) = x.isNone := by
  cases x with
  | none => rfl
  | some y => exact h y
theorem scO {x : Option Str} : Sc (eO eS x) := by
  cases x with
  | none => exact .non
  | some y => exact .str y
end
end HL
namespace K4
open PySem PySem.Spec PyProof.Rows L2 HL
def topS (i : Nat) : Stmt := PySem.Challenge.pw_partclones_k38_line_origins.main.body.getD i (.Pass ⟨0, 0, 0, 0⟩)
end K4
namespace K4
open PySem PySem.Spec PyProof.Rows L2 HL
open Evl (Ex)
abbrev s__common_lengths : Stmt := topS 2
/-! a table of numbers -/
def at2 (M : List (List Int)) (i j : Nat) : Int := (M.getD i []).getD j 0
def put2 (M : List (List Int)) (i j : Nat) (v : Int) : List (List Int) := M.set i ((M.getD i []).set j v)
def cell2 (old new : List Str) (M : List (List Int)) (i j : Nat) : Int :=
  if old.getD i default = new.getD j default then at2 M (i + 1) (j + 1) + 1 else if at2 M i (j + 1) > at2 M (i + 1) j then at2 M i (j + 1) else at2 M (i + 1) j
def rowJ (old new : List Str) (i : Nat) (M : List (List Int)) (j : Nat) : List (List Int) := put2 M i j (cell2 old new M i j)
def rowI (old new : List Str) (M : List (List Int)) (i : Nat) : List (List Int) := (List.range new.length).reverse.foldl (rowJ old new i) M
def m__common_lengths (old new : List Str) : List (List Int) := (List.range old.length).reverse.foldl (rowI old new) (List.replicate (old.length + 1) (List.replicate (new.length + 1) 0))
def Dim (m n : Nat) (M : List (List Int)) : Prop := M.length = m ∧ ∀ r ∈ M, r.length = n
theorem Dim.getD {m n : Nat} {M : List (List Int)} (h : Dim m n M) {i : Nat} (hi : i < m) : (M.getD i []).length = n := by
  have : i < M.length := by rw [h.1]; exact hi
  simp only [List.getD, List.getElem?_eq_getElem this, Option.getD_some]
  exact h.2 _ (List.getElem_mem _)
theorem Dim.put {m n : Nat} {M : List (List Int)} (h : Dim m n M) {i : Nat} (hi : i < m) (j : Nat) (v : Int) : Dim m n (put2 M i j v) := by
  refine ⟨by unfold put2; rw [List.length_set]; exact h.1, fun r hr => ?_⟩
  unfold put2 at hr
  rcases List.mem_or_eq_of_mem_set hr with hr | hr
  · exact h.2 r hr
  · rw [hr, List.length_set]; exact h.getD hi
theorem Dim.rowJ {m n : Nat} {old new : List Str} {i : Nat} (hi : i < m) : ∀ (js : List Nat) {M : List (List Int)}, Dim m n M → Dim m n (js.foldl (K4.rowJ old new i) M)
  | [], _, h => h
  | j :: js, _, h => Dim.rowJ hi js (h.put hi j _)
theorem Dim.rowI {m n : Nat} {old new : List Str} : ∀ (is : List Nat) {M : List (List Int)}, (∀ i ∈ is, i < m) → Dim m n M → Dim m n (is.foldl (K4.rowI old new) M)
  | [], _, _, h => h
  | i :: is, _, hi, h => Dim.rowI is (fun k hk => hi k (by simp [hk])) (Dim.rowJ (hi i (by simp)) _ h)
theorem dim0 (m n : Nat) : Dim m n (List.replicate m (List.replicate n 0)) := ⟨by simp, fun r hr => by rw [(List.mem_replicate.mp hr).2]; simp⟩
theorem dim_common (old new : List Str) : Dim (old.length + 1) (new.length + 1) (m__common_lengths old new) := Dim.rowI _ (fun i hi => by simp at hi; omega) (dim0 _ _)
theorem nd_inj' : ∀ {as : List Addr}, as.Nodup → ∀ {i k : Nat} {a : Addr}, as[i]? = some a → as[k]? = some a → i = k
  | [], _, i, k, a, h, _ => by simp at h
  | b :: as, nd, 0, 0, _, _, _ => rfl
  | b :: as, nd, 0, k + 1, a, h1, h2 => by
    simp at h1; subst h1
    exact absurd (List.mem_of_getElem? (by simpa using h2)) (List.nodup_cons.mp nd).1
  | b :: as, nd, i + 1, 0, a, h1, h2 => by
    simp at h2; subst h2
    exact absurd (List.mem_of_getElem? (by simpa using h1)) (List.nodup_cons.mp nd).1
  | b :: as, nd, i + 1, k + 1, a, h1, h2 => by
    have := nd_inj' (List.nodup_cons.mp nd).2 (i := i) (k := k) (a := a) (by simpa using h1) (by simpa using h2)
    omega
/-- the table as it lies in memory -/
structure MX (H : Hp) (C : Addr) (as : List Addr) (M : List (List Int)) : Prop where
  top : H C = some (.lst (as.map .ref))
  len : as.length = M.length
  nd : as.Nodup
  out : C ∉ as
  row : ∀ (k : Nat) (r : List Int), M[k]? = some r → ∃ a, as[k]? = some a ∧ H a = some (.lst (r.map .int))
theorem MX.put {H : Hp} {C : Addr} {as : List Addr} {M : List (List Int)} (h : MX H C as M) {i : Nat} {a : Addr} (ha : as[i]? = some a) (r' : List Int) : MX (upd H a (.lst (r'.map .int))) C as (M.set i r') := by
  refine ⟨?_, by rw [List.length_set]; exact h.len, h.nd, h.out, fun k r hr => ?_⟩
  · rw [upd_ne (fun z => h.out (by rw [z]; exact List.mem_of_getElem? ha))]; exact h.top
  · by_cases hk : i = k
    · subst hk
      rw [List.getElem?_set] at hr
      simp at hr
      obtain ⟨_, hr⟩ := hr
      subst hr
      exact ⟨a, ha, upd_same⟩
    · rw [List.getElem?_set_ne hk] at hr
      obtain ⟨b, hb, q⟩ := h.row k r hr
      refine ⟨b, hb, ?_⟩
      rw [upd_ne]
      · exact q
      · intro z; subst z
        exact hk (nd_inj' h.nd ha hb)
theorem rev_get {L n : Nat} (h : n < L) : (List.range L).reverse[n]? = some (L - 1 - n) := by
  rw [List.getElem?_reverse (by simpa using h), List.length_range, List.getElem?_range (by omega)]
section
variable {P : Program} {w : World} {K : PySem.W.Frag} {mg : Str → Option Value} {base : Heap}
abbrev N__common_lengths : List Str := ["old", "new", "rows", "i", "j", "_"]
theorem sc__common_lengths : FnScope N__common_lengths ["old", "new"] (defScope s__common_lengths) := ⟨rfl, rfl, rfl, by decide +kernel, rfl, by decide +kernel, by decide +kernel⟩
def r__common_lengths : List PyData → PyData → Prop := fun ds d => ∃ (old_ : (List Str)) (new_ : (List Str)), ds = [(eL eS) old_, (eL eS) new_] ∧ old_.length ≤ 1000 ∧ new_.length ≤ 1000 ∧ d = (eL (eL eI)) (m__common_lengths old_ new_)
theorem MX.at {H : Hp} {C : Addr} {as : List Addr} {M : List (List Int)} {m n : Nat} (h : MX H C as M) (D : Dim m n M) {i j : Nat} (hi : i < m) (hj : j < n) :
    ∃ a r, as[i]? = some a ∧ M[i]? = some r ∧ r = M.getD i [] ∧ H a = some (.lst (r.map .int)) ∧ r[j]? = some (at2 M i j) ∧ r.length = n := by
  have hi' : i < M.length := by rw [D.1]; exact hi
  have e := List.getElem?_eq_getElem hi'
  obtain ⟨a, h1, h2⟩ := h.row i _ e
  have er : M[i] = M.getD i [] := by simp [List.getD, hi']
  refine ⟨a, M[i], h1, e, er, h2, ?_, by rw [er]; exact D.getD hi⟩
  have hl : j < M[i].length := by rw [er, D.getD hi]; exact hj
  rw [List.getElem?_eq_getElem hl]
  unfold at2
  rw [← er]
  simp [List.getD, hl]
theorem atI_of {xs : List V} {n : Nat} {m : Int} {v : V} (hm : m = n) (h : xs[n]? = some v) : atI xs m = some v := by subst hm; exact atI_nat h
theorem ok__common_lengths {f : Addr} {fd : FuncData} {k : Nat} (F : Fun K "_common_lengths" "_common_lengths" s__common_lengths f fd) (m_len : mg "len" = none) (m_range : mg "range" = none) (m_reversed : mg "reversed" = none) (m_max : mg "max" = none) : FnOk P w K mg base CX0 (k + 1) f fd ["old", "new"] (SpF r__common_lengths) := by
  refine F.ok sc__common_lengths (fun vs H Q E h => ?_) (fun cdv A outer s H vs Q E hr h => ?_)
  · obtain ⟨ds, d, hd, ⟨old, new, rfl, h1, h2, rfl⟩, _⟩ := h
    exact hd.length
  · obtain ⟨ds, d, hd, ⟨old, new, rfl, h1, h2, rfl⟩, q⟩ := h
    refine ⟨_, pss_cons (ps_setLc (i := 2) (own := [("_", 5)]) (g := gName 5) (tt := tYes) rfl sc__common_lengths.nd rfl rfl (sw_true rfl rfl rfl (by decide +kernel)) (pi_range1 rfl m_range (pa_cons (pe_op op_add (pe_callB call_len_seq (by rfl) m_len PySem.boot_len (pa_cons (pv 0) pa_nil)) pe_int) pa_nil)) (blkOk_by (own := [("_", 5)]) (N := N__common_lengths) (sc := defScope s__common_lengths) (by decide +kernel)) (fun _ _ _ _ _ => pg_name (i := 5) sc__common_lengths.nd rfl (Or.inl rfl)) (fun _ _ _ _ _ => pts_nil) (fun _ _ _ _ _ => pe_op op_rep (pe_lst (pa_cons pe_int pa_nil)) (pe_op op_add (pe_callB (r := rLenK K) call_len_seq (by rfl) m_len PySem.boot_len (pa_cons (pv 1) pa_nil)) pe_int)))
      (pss_cons (ps_for PassesOwn.never rfl (pi_revR rfl m_reversed (prg_1 rfl m_range (pe_callB call_len_seq (by rfl) m_len PySem.boot_len (pa_cons (pv 0) pa_nil)))) (pg_name (i := 3) sc__common_lengths.nd rfl (Or.inl rfl))
        (pss_one (ps_for PassesOwn.never rfl (pi_revR rfl m_reversed (prg_1 rfl m_range (pe_callB call_len_seq (by rfl) m_len PySem.boot_len (pa_cons (pv 1) pa_nil)))) (pg_name (i := 4) sc__common_lengths.nd rfl (Or.inl rfl))
          (pss_one (ps_if (pt_cmpR op_eq (pe_ix ix_list (pv 0) (pv 3) (fun _ _ => rfl)) (pe_ix ix_list (pv 1) (pv 4) (fun _ _ => rfl)) (nomark _))
            (pss_one (ps_asg (pe_op op_add (pe_ix ix_list (pe_ix ix_list (pv 2) (pe_op op_add (pv 3) pe_int) (fun _ _ => rfl)) (pe_op op_add (pv 4) pe_int) (fun _ _ => rfl)) pe_int) (pg_sub (pe_ix ix_list (pv 2) (pv 3) (fun _ _ => rfl)) (pv 4) set_list)))
            (pss_one (ps_asg (pe_callB (call_max2 rfl) (by rfl) m_max (by decide +kernel) (pa_cons (pe_ix ix_list (pe_ix ix_list (pv 2) (pe_op op_add (pv 3) pe_int) (fun _ _ => rfl)) (pv 4) (fun _ _ => rfl)) (pa_cons (pe_ix ix_list (pe_ix ix_list (pv 2) (pv 3) (fun _ _ => rfl)) (pe_op op_add (pv 4) pe_int) (fun _ _ => rfl)) pa_nil))) (pg_sub (pe_ix ix_list (pv 2) (pv 3) (fun _ _ => rfl)) (pv 4) set_list))))))))
      (pss_one (ps_ret (pv 2)))), ?_⟩
    cases hd with
    | @cons v1 _ vr _ hv1 hd =>
    cases hd with
    | @cons v2 _ vr2 _ hv2 hd =>
    cases hd
    cases hv1 with
    | @lst ao vo _ ho ro =>
    cases hv2 with
    | @lst an vn _ hn rn =>
    have eo := ro.strs; subst eo
    have en := rn.strs; subst en
    have lo : (old.map V.str).length = old.length := List.length_map _
    have ln : (new.map V.str).length = new.length := List.length_map _
    -- rows = [[0] * (len(new) + 1) for _ in range(len(old) + 1)]
    refine ⟨.ref ao, rfl, ⟨ao, _, rfl, .inl (.inl (.inl ho)), ⟨_, 1, rfl, rfl, ⟨_, rfl, ?_, ?_, fun C nC => ?_⟩⟩⟩⟩
    · rw [lo]; omega
    · rw [lo]; omega
    rw [lo]
    have et : (((old.length : Int) + 1).toNat) = old.length + 1 := by omega
    rw [et]
    refine lc_range (lo := 0) (n := old.length + 1) (fun n H3 => ∃ as, Ex H H3 ∧ H C = none ∧ (∀ a ∈ as, H a = none) ∧ MX H3 C as (List.replicate n (List.replicate (new.length + 1) 0))) ⟨[], Evl.Ex.new nC, nC, fun a h => by simp at h, upd_same, rfl, List.nodup_nil, by simp, fun k r h => by simp at h⟩ (fun n H3 hnn1 hP => ?_) (fun H3 hP => ?_)
    · obtain ⟨as, e3, nC', na, mx⟩ := hP
      refine ⟨rfl, ?_⟩
      unfold tYes
      dsimp only
      rw [if_pos rfl]
      refine ⟨by show 1 ≤ sizeLine; decide, fun p np => ⟨.ref an, rfl, ⟨an, _, rfl, .inl (.inl (.inl (by rw [upd_ne (ne_of_none (e3 _ _ hn) np)]; exact e3 _ _ hn))), ⟨_, 1, rfl, rfl, ⟨p, _, [.int 0], rfl, rfl, upd_same, ?_, ?_, ?_, fun p2 np2 => ?_⟩⟩⟩⟩⟩
      · rw [ln]; omega
      · rw [ln]; omega
      · rw [ln]; have : ((new.length : Int) + 1).toNat = new.length + 1 := by omega
        rw [this]; exact Evl.sz_of (by simp; omega)
      · have hp2 : p2 ≠ p := fun z => by rw [z, upd_same] at np2; cases np2
        have np3 : H3 p2 = none := by rw [upd_ne hp2] at np2; exact np2
        have cp : C ≠ p := ne_of_none mx.top np
        have cp2 : C ≠ p2 := ne_of_none mx.top np3
        refine ⟨as.map .ref, ?_, ?_, as ++ [p2], fun a u h => ?_, nC', fun a h => ?_, ?_, ?_, ?_, ?_, fun k r hk => ?_⟩
        · rw [upd_ne cp2, upd_ne cp]; exact mx.top
        · rw [List.length_map, mx.len, List.length_replicate]; exact Evl.sz_lt (by omega)
        · have a1 : a ≠ C := ne_of_none h nC'
          have h3 := e3 _ _ h
          rw [upd_ne a1, upd_ne (ne_of_none h3 np3), upd_ne (ne_of_none h3 np)]
          exact h3
        · rcases List.mem_append.mp h with h | h
          · exact na a h
          · simp at h; subst h; exact Evl.fresh_back e3 np3
        · rw [upd_same, List.map_append]; rfl
        · rw [List.length_append, mx.len, List.length_replicate, List.length_replicate]; rfl
        · refine List.nodup_append.mpr ⟨mx.nd, by simp, fun a ha b hb => ?_⟩
          simp at hb; subst hb
          intro z; subst z
          obtain ⟨kk, hk, ek⟩ := List.getElem_of_mem ha
          have hk2 : kk < (List.replicate n (List.replicate (new.length + 1) (0 : Int))).length := by rw [← mx.len]; exact hk
          obtain ⟨b, hb1, hb2⟩ := mx.row kk _ (List.getElem?_eq_getElem hk2)
          rw [List.getElem?_eq_getElem hk, ek] at hb1
          cases hb1
          rw [hb2] at np3; cases np3
        · intro h
          rcases List.mem_append.mp h with h | h
          · exact mx.out h
          · simp at h; exact cp2 h
        · have hz : r = List.replicate (new.length + 1) 0 := by
            have := List.mem_of_getElem? hk
            exact (List.mem_replicate.mp this).2
          have hkn : k < n + 1 := by
            rw [List.getElem?_eq_some_iff] at hk
            obtain ⟨h, _⟩ := hk
            simpa using h
          subst hz
          by_cases hkk : k < n
          · obtain ⟨b, hb1, hb2⟩ := mx.row k (List.replicate (new.length + 1) 0) (by simp [hkk])
            refine ⟨b, by rw [List.getElem?_append_left (by rw [mx.len]; simpa using hkk)]; exact hb1, ?_⟩
            have hbC : b ≠ C := fun z => mx.out (by rw [← z]; exact List.mem_of_getElem? hb1)
            rw [upd_ne hbC, upd_ne (ne_of_none hb2 np3), upd_ne (ne_of_none hb2 np)]
            exact hb2
          · have ek : k = n := by omega
            subst ek
            refine ⟨p2, by rw [List.getElem?_append_right (by rw [mx.len]; simp)]; rw [mx.len]; simp, ?_⟩
            rw [upd_ne cp2.symm, upd_same, ln]
            have : ((new.length : Int) + 1).toNat = new.length + 1 := by omega
            rw [this]
            congr 2
            have fl : ∀ m : Nat, (List.replicate m [V.int 0]).flatten = (List.replicate m (0 : Int)).map V.int := fun m => by
              induction m with
              | zero => rfl
              | succ m ih => rw [List.replicate_succ, List.replicate_succ, List.flatten_cons, ih]; rfl
            exact fl _
    · obtain ⟨as, e3, nC', na, mx⟩ := hP
      -- the loops
      have ho3 := e3 _ _ ho
      refine ⟨.ref ao, rfl, ⟨ao, _, rfl, .inl (.inl (.inl ho3)), ⟨_, rfl, by omega, by omega, by rw [lo]; omega, by rw [lo]; omega, ?_⟩⟩⟩
      rw [lo]
      have em : ((old.length : Int) - 0).toNat = old.length := by omega
      rw [em]
      refine for_rangeC (n := old.length) (fun n σ H4 => ∃ x y, σ = [some (.ref ao), some (.ref an), some (.ref C), x, y, none] ∧ Ex H H4 ∧ MX H4 C as (((List.range old.length).reverse.take n).foldl (rowI old new) (List.replicate (old.length + 1) (List.replicate (new.length + 1) 0)))) ⟨none, none, rfl, e3, mx⟩ (fun n σ H4 hnn hP => ?_) (fun σ H4 hP => ?_)
      · obtain ⟨x, y, rfl, e4, mx4⟩ := hP
        have ei : (0 + ((old.length : Nat) : Int) - 1 + (n : Nat) * -1) = ((old.length - 1 - n : Nat) : Int) := by omega
        rw [ei]
        have hi : old.length - 1 - n < old.length := by omega
        generalize hii : old.length - 1 - n = i at hi
        have hM : Dim (old.length + 1) (new.length + 1) (((List.range old.length).reverse.take n).foldl (rowI old new) (List.replicate (old.length + 1) (List.replicate (new.length + 1) 0))) := Dim.rowI _ (fun i hi => by have := List.mem_of_mem_take hi; simp at this; omega) (dim0 _ _)
        have tk : (List.range old.length).reverse.take (n + 1) = (List.range old.length).reverse.take n ++ [i] := by rw [List.take_add_one, rev_get hnn, hii]; rfl
        generalize hM0 : ((List.range old.length).reverse.take n).foldl (rowI old new) (List.replicate (old.length + 1) (List.replicate (new.length + 1) 0)) = M0 at hM mx4
        refine ⟨.ref an, rfl, ⟨an, _, rfl, .inl (.inl (.inl (e4 _ _ hn))), ⟨_, rfl, by omega, by omega, by rw [ln]; omega, by rw [ln]; omega, ?_⟩⟩⟩
        rw [ln]
        have em2 : ((new.length : Int) - 0).toNat = new.length := by omega
        rw [em2]
        refine for_rangeC (n := new.length) (fun n2 σ H5 => ∃ y, σ = [some (.ref ao), some (.ref an), some (.ref C), some (.int i), y, none] ∧ Ex H H5 ∧ MX H5 C as (((List.range new.length).reverse.take n2).foldl (rowJ old new i) M0)) ⟨y, rfl, e4, mx4⟩ (fun n2 σ H5 hn2 hP => ?_) (fun σ H5 hP => ?_)
        · obtain ⟨y, rfl, e5, mx5⟩ := hP
          have ej : (0 + ((new.length : Nat) : Int) - 1 + (n2 : Nat) * -1) = ((new.length - 1 - n2 : Nat) : Int) := by omega
          rw [ej]
          have hj : new.length - 1 - n2 < new.length := by omega
          generalize hjj : new.length - 1 - n2 = j at hj
          have hD : Dim (old.length + 1) (new.length + 1) (((List.range new.length).reverse.take n2).foldl (rowJ old new i) M0) := Dim.rowJ (by omega) _ hM
          have tk2 : (List.range new.length).reverse.take (n2 + 1) = (List.range new.length).reverse.take n2 ++ [j] := by rw [List.take_add_one, rev_get hn2, hjj]; rfl
          generalize hM1 : ((List.range new.length).reverse.take n2).foldl (rowJ old new i) M0 = M at hD mx5
          obtain ⟨a0, r0, g1, g2, g3, g4, g5, g6⟩ := mx5.at hD (i := i) (j := j) (by omega) (by omega)
          obtain ⟨a1, r1, k1, k2, k3, k4, k5, k6⟩ := mx5.at hD (i := i + 1) (j := j + 1) (by omega) (by omega)
          obtain ⟨a2, r2, l1, l2, l3, l4, l5, l6⟩ := mx5.at hD (i := i + 1) (j := j) (by omega) (by omega)
          obtain ⟨a3, r3, n1, n2', n3, n4, n5, n6⟩ := mx5.at hD (i := i) (j := j + 1) (by omega) (by omega)
          have qo : (old.map V.str)[i]? = some (.str (old.getD i default)) := by rw [List.getElem?_map, List.getElem?_eq_getElem hi]; simp [List.getD, hi]
          have qn : (new.map V.str)[j]? = some (.str (new.getD j default)) := by rw [List.getElem?_map, List.getElem?_eq_getElem hj]; simp [List.getD, hj]
          have asr : ∀ {k : Nat} {a : Addr}, as[k]? = some a → (as.map V.ref)[k]? = some (V.ref a) := fun h => by rw [List.getElem?_map, h]; rfl
          have rin : ∀ {r : List Int} {k : Nat} {x : Int}, r[k]? = some x → (r.map V.int)[k]? = some (V.int x) := fun h => by rw [List.getElem?_map, h]; rfl
          have tp : SqL K H5 C (as.map .ref) := .inl (.inl mx5.top)
          have fin : ∀ v : Int, v = cell2 old new M i j → ∃ y, ([some (V.ref ao), some (V.ref an), some (V.ref C), some (V.int i), some (V.int j), none] : List (Option V)) = [some (V.ref ao), some (V.ref an), some (V.ref C), some (V.int i), y, none] ∧ Ex H (upd H5 a0 (.lst ((r0.map V.int).set j (.int v)))) ∧ MX (upd H5 a0 (.lst ((r0.map V.int).set j (.int v)))) C as (((List.range new.length).reverse.take (n2 + 1)).foldl (rowJ old new i) M0) := fun v hv => by
            refine ⟨_, rfl, Evl.Ex.mut e5 (na a0 (List.mem_of_getElem? g1)), ?_⟩
            rw [tk2, List.foldl_append, hM1]
            show MX _ C as (put2 M i j (cell2 old new M i j))
            rw [← hv]
            unfold put2
            rw [← g3]
            have := mx5.put g1 (r0.set j v)
            rw [List.map_set] at this
            exact this
          -- if old[i] == new[j]
          refine ⟨.ref ao, rfl, _, rfl, ⟨ao, _, _, _, rfl, rfl, .inl (.inl (e5 _ _ ho)), atI_nat qo, ⟨.ref an, rfl, _, rfl, ⟨an, _, _, _, rfl, rfl, .inl (.inl (e5 _ _ hn)), atI_nat qn, ⟨rfl, _, rfl, ?_⟩⟩⟩⟩⟩
          refine ite2 (fun hc => ?_) (fun hc => ?_)
          · have hc' : old.getD i default = new.getD j default := by simpa using hc
            refine ⟨.ref C, rfl, _, rfl, ⟨_, 1, rfl, rfl, ⟨C, _, _, _, rfl, rfl, tp, atI_of (n := i + 1) (by simp) (asr k1), ⟨_, rfl, ⟨_, 1, rfl, rfl, ⟨a1, _, _, _, rfl, rfl, .inl (.inl k4), atI_of (n := j + 1) (by simp) (rin k5), ⟨_, 1, rfl, rfl, ?_⟩⟩⟩⟩⟩⟩⟩
            refine ⟨.ref C, rfl, _, rfl, ⟨C, _, _, _, rfl, rfl, tp, atI_nat (asr g1), ⟨_, rfl, ⟨a0, _, _, j, rfl, rfl, g4, ?_, ?_⟩⟩⟩⟩
            · rw [List.length_map, g6]; exact Evl.ixN_nat (by omega)
            · exact fin _ (by unfold cell2; rw [if_pos hc'])
          · have hc' : ¬ old.getD i default = new.getD j default := by simpa using hc
            refine ⟨.ref C, rfl, _, rfl, ⟨_, 1, rfl, rfl, ⟨C, _, _, _, rfl, rfl, tp, atI_of (n := i + 1) (by simp) (asr l1), ⟨_, rfl, ⟨a2, _, _, _, rfl, rfl, .inl (.inl l4), atI_nat (rin l5), ⟨.ref C, rfl, _, rfl, ⟨C, _, _, _, rfl, rfl, tp, atI_nat (asr n1), ⟨_, rfl, ⟨_, 1, rfl, rfl, ⟨a3, _, _, _, rfl, rfl, .inl (.inl n4), atI_of (n := j + 1) (by simp) (rin n5), ⟨_, _, rfl, ?_⟩⟩⟩⟩⟩⟩⟩⟩⟩⟩⟩
            refine ⟨.ref C, rfl, _, rfl, ⟨C, _, _, _, rfl, rfl, tp, atI_nat (asr g1), ⟨_, rfl, ⟨a0, _, _, j, rfl, rfl, g4, ?_, ?_⟩⟩⟩⟩
            · rw [List.length_map, g6]; exact Evl.ixN_nat (by omega)
            · exact fin _ (by unfold cell2; rw [if_neg hc'])
        · obtain ⟨y, rfl, e5, mx5⟩ := hP
          refine ⟨_, _, rfl, e5, ?_⟩
          have : (List.range new.length).reverse.take new.length = (List.range new.length).reverse := List.take_of_length_le (by simp)
          rw [this] at mx5
          rw [tk, List.foldl_append, hM0]
          exact mx5
      · obtain ⟨x, y, rfl, e4, mx4⟩ := hP
        refine ⟨.ref C, rfl, q _ _ e4 ?_⟩
        have : (List.range old.length).reverse.take old.length = (List.range old.length).reverse := List.take_of_length_le (by simp)
        rw [this] at mx4
        have hn0 : ∀ a, H a = none → HL.new H H4 a = H4 a := fun a h => hid_at (fun z => z h)
        refine .lst (xs := as.map .ref) (by rw [hn0 _ nC']; exact mx4.top) ?_
        have all : ∀ (bs : List Addr) (Ms : List (List Int)), bs.length = Ms.length → (∀ (k : Nat) (r : List Int), Ms[k]? = some r → ∃ a, bs[k]? = some a ∧ H4 a = some (.lst (r.map .int))) → (∀ a ∈ bs, H a = none) → DnA (HL.new H H4) (bs.map .ref) (Ms.map (eL eI)) := by
          intro bs
          induction bs with
          | nil => intro Ms hl _ _; cases Ms with
            | nil => exact .nil
            | cons _ _ => simp at hl
          | cons b bs ih => intro Ms hl hrow hnone; cases Ms with
            | nil => simp at hl
            | cons r Ms =>
              obtain ⟨a, ha1, ha2⟩ := hrow 0 r rfl
              simp at ha1; subst ha1
              exact .cons (.lst (by rw [hn0 _ (hnone _ (by simp))]; exact ha2) (.of_ints r)) (ih Ms (by simpa using hl) (fun k r hk => by simpa using hrow (k + 1) r (by simpa using hk)) (fun a ha => hnone a (by simp [ha])))
        exact all as _ mx4.len mx4.row na
end
end K4
namespace K4
open PySem PySem.Spec PyProof.Rows L2 HL
open Evl (Ex)
section
variable {P : Program} {w : World} {K : PySem.W.Frag} {mg : Str → Option Value} {base : Heap}

def l__law_next_1_c (s : (List Int)) : Bool :=
  match s with
  | feed_1 => ((decide ((1 : Int) < (List.length feed_1 : Int))) && ((decide ((getI feed_1 (1 : Int)) = (0 : Int))) || (decide ((getI feed_1 (0 : Int)) = (60 : Int)))))

def l__law_next_1 (s : (List Int)) : (List Int) :=
  match s with
  | feed_1 => (setI (List.eraseIdx feed_1 1) (0 : Int) (0 : Int))

def l__law_next_1_m (s : (List Int)) : Nat :=
  match s with
  | feed_1 => feed_1.length

def m__law_next (feed_ : (List Int)) (many_ : Int) : (Int × (List Int)) :=
  (match (whileF (l__law_next_1_c) (l__law_next_1) (l__law_next_1_m feed_) feed_) with | feed_r1 => (if (decide ((List.length feed_r1 : Int) = (1 : Int))) = true then ((0 : Int), feed_r1) else ((Int.fmod (getI feed_r1 (1 : Int)) many_), (setI (setI feed_r1 (0 : Int) ((getI feed_r1 (0 : Int)) + (1 : Int))) (1 : Int) (Int.fdiv (getI feed_r1 (1 : Int)) many_)))))

abbrev s__law_next : Stmt := topS 7

abbrev N__law_next : List Str := ["feed", "many", "cell"]

theorem sc__law_next : FnScope N__law_next ["feed", "many"] (defScope s__law_next) := ⟨rfl, rfl, rfl, by decide +kernel, rfl, by decide +kernel, by decide +kernel⟩

def r__law_next : List PyData → List PyData → PyData → List PyData → Prop := fun ds rs d ds' => ∃ (feed_ : (List Int)) (many_ : Int), ds = feed_.map eI ∧ rs = [eI many_] ∧ (1 ≤ feed_.length) ∧ (0 < many_) ∧ (many_ < 1000) ∧ d = eI (m__law_next feed_ many_).1 ∧ ds' = (m__law_next feed_ many_).2.map eI

set_option maxHeartbeats 8000000 in
theorem ok__law_next {f : Addr} {fd : FuncData} {k : Nat} (F : Fun K "_law_next" "_law_next" s__law_next f fd) (m_len : mg "len" = none) (m_int : mg "int" = none) : FnOk P w K mg base CX0 (k + 1) f fd ["feed", "many"] (SpM r__law_next) := by
  refine F.ok sc__law_next (fun vs H Q E h => ?_) (fun cdv A outer s H vs Q E hr h => ?_)
  · obtain ⟨oa, xs, vr, o, ds, rs, d, ds', rfl, lo, ho, ha, hxs, hvr, ⟨feed_, many_, rfl, rfl, h1, h2, h3, rfl, rfl⟩, _⟩ := h
    have := hvr.length
    simp at this
    simp [this]
  · obtain ⟨oa, xs, vr, o, ds, rs, d, ds', rfl, lo, ho, ha, hxs, hvr, ⟨feed_, many_, rfl, rfl, h1, h2, h3, rfl, rfl⟩, q⟩ := h
    refine ⟨_, (pss_cons (ps_while PassesOwn.never (PW.pt (pw_and (pt_cmpR (op_gt) (pe_callB (r := rLenK K) call_len_seq (by rfl) m_len PySem.boot_len (pa_cons (pv 0) pa_nil)) pe_int (nomark _)) (pw_and1 (PW.pt (pw_or (pt_cmpR (op_eq) (pe_ix (r := rIxL K) ix_list (pv 0) pe_int (fun _ _ => rfl)) pe_int (nomark _)) (pw_or1 (pt_cmpR (op_eq) (pe_ix (r := rIxL K) ix_list (pv 0) pe_int (fun _ _ => rfl)) pe_int (nomark _)))))))) (pss_cons (ps_expr (pe_bm PySem.F.plainAttrs_list PySem.F.slot_list_pop PySem.F.type_list_pop mt_popAt (pv 0) (pa_cons pe_int pa_nil))) (pss_cons (ps_asg pe_int (pg_sub (pv 0) pe_int set_list)) pss_nil))) (pss_cons (ps_if (pt_cmpR (op_eq) (pe_callB (r := rLenK K) call_len_seq (by rfl) m_len PySem.boot_len (pa_cons (pv 0) pa_nil)) pe_int (nomark _)) (pss_cons (ps_ret pe_int) pss_nil) pss_nil) (pss_cons (ps_set (i := 2) sc__law_next.nd rfl (Or.inl rfl) (pe_callTy call_int1 (by rfl) m_int (by decide +kernel) (pa_cons (pe_ix (r := rIxL K) ix_list (pv 0) pe_int (fun _ _ => rfl)) pa_nil))) (pss_cons (ps_asg (pe_op op_add (pe_ix (r := rIxL K) ix_list (pv 0) pe_int (fun _ _ => rfl)) pe_int) (pg_sub (pv 0) pe_int set_list)) (pss_cons (ps_asg (pe_op op_fdivN (pv 2) (pv 1)) (pg_sub (pv 0) pe_int set_list)) (pss_cons (ps_ret (pe_op op_modN (pe_callTy call_int1 (by rfl) m_int (by decide +kernel) (pa_cons (pv 2) pa_nil)) (pv 1))) pss_nil)))))), ?_⟩
    have B := bs_M (N := N__law_next) lo ho ha hxs hvr (by intro d hd; simp at hd <;> first | (subst hd; constructor) | (rcases hd with hd | hd <;> subst hd <;> constructor)) (by rw [hvr.length]; exact Nat.le_of_ble_eq_true rfl)
    have B : Bs _ _ _ [.ow true oa (feed_.map eI), .va true (eI many_), .no] := B
    have e0 : Ex (hid (fun b => b = oa) H) (hid (fun b => b = oa) H) := Ex.refl _
    have hk : m__law_next feed_ many_ = (match (whileF (l__law_next_1_c) (l__law_next_1) (l__law_next_1_m feed_) feed_) with | feed_r1 => (if (decide ((List.length feed_r1 : Int) = (1 : Int))) = true then ((0 : Int), feed_r1) else ((Int.fmod (getI feed_r1 (1 : Int)) many_), (setI (setI feed_r1 (0 : Int) ((getI feed_r1 (0 : Int)) + (1 : Int))) (1 : Int) (Int.fdiv (getI feed_r1 (1 : Int)) many_))))) := rfl
    refine q_whileM (fun (s : (List Int)) => [.ow true oa (s.map eI), .va true (eI many_), .no]) (l__law_next_1_c) (l__law_next_1) (l__law_next_1_m) feed_ (fun s => 1 ≤ s.length) B (.cons (.refl _) (.cons (.refl _) (.cons (.no _) .nil))) h1 (fun B0 e1 feed_1 σ1 H1 hJ B => ?_) (fun feed_1 hJ hc => ?_) (fun B0 e1 feed_1 σ1 H1 hJ hc B => ?_) (fun feed_r1 σ1 H1 hs hc hJ B => ?_)
    · skip
      have B : Bs _ _ _ [.ow true oa (feed_1.map eI), .va true (eI many_), .no] := B
      try simp only at hJ
      exact (et_and (et_test (ev_B0 (ev_lenM (ev_owM B rfl)) ev_int)) fun hc => (et_or (et_test (ev_eqI ((ev_ixOM B rfl ev_int (show inB feed_1 (1 : Int) from by first | assumption | (unfold inB; first | omega | (have q := of_decide_eq_true hc; omega) | (simp only [setI_len]; omega) | (simp only [setI_len, List.length_eraseIdx]; split <;> omega)))).sc (.int _)) ev_int)) fun hc => (et_test (ev_eqI ((ev_ixOM B rfl ev_int (show inB feed_1 (0 : Int) from by first | assumption | (unfold inB; first | omega | (have q := of_decide_eq_true hc; omega) | (simp only [setI_len]; omega) | (simp only [setI_len, List.length_eraseIdx]; split <;> omega)))).sc (.int _)) ev_int))))
    · skip
      have hw : ((decide ((1 : Int) < (List.length feed_1 : Int))) && ((decide ((getI feed_1 (1 : Int)) = (0 : Int))) || (decide ((getI feed_1 (0 : Int)) = (60 : Int))))) = true := hc
      have hw_f := hw
      try simp only [Bool.and_eq_true, Bool.or_eq_true, Bool.not_eq_true', Bool.and_eq_false_imp, Bool.or_eq_false_iff, Bool.not_eq_false', decide_eq_true_eq, decide_eq_false_iff_not] at hw_f
      try simp only at hJ
      simp only [l__law_next_1, l__law_next_1_m, setI_len, List.length_eraseIdx]
      split <;> omega
    · skip
      have B : Bs _ _ _ [.ow true oa (feed_1.map eI), .va true (eI many_), .no] := B
      have hw : ((decide ((1 : Int) < (List.length feed_1 : Int))) && ((decide ((getI feed_1 (1 : Int)) = (0 : Int))) || (decide ((getI feed_1 (0 : Int)) = (60 : Int))))) = true := hc
      have hw_f := hw
      try simp only [Bool.and_eq_true, Bool.or_eq_true, Bool.not_eq_true', Bool.and_eq_false_imp, Bool.or_eq_false_iff, Bool.not_eq_false', decide_eq_true_eq, decide_eq_false_iff_not] at hw_f
      have e0 := e0.trans e1
      have hk1 : l__law_next_1 feed_1 = (setI (List.eraseIdx feed_1 1) (0 : Int) (0 : Int)) := rfl
      try simp only at hJ
      refine q_popK (n := 1) B rfl ev_int (by omega) (by omega) fun H1 B => ?_
      have B : Bs _ _ _ [.ow true oa ((List.eraseIdx feed_1 1).map eI), .va true (eI many_), .no] := B
      refine q_setM (f := true) B rfl ev_int ev_int (show inB (List.eraseIdx feed_1 1) (0 : Int) from by first | assumption | (unfold inB; first | omega | (have q := of_decide_eq_true hc; omega) | (simp only [setI_len]; omega) | (simp only [setI_len, List.length_eraseIdx]; split <;> omega))) fun H1 B => ?_
      have B : Bs _ _ _ [.ow true oa ((setI (List.eraseIdx feed_1 1) (0 : Int) (0 : Int)).map eI), .va true (eI many_), .no] := B
      exact ⟨_, hk1.symm, (by (try simp only [setI_len, List.length_eraseIdx]); split <;> omega), B.le (.cons (.refl _) (.cons (.refl _) (.cons (.no _) .nil)))⟩
    · rw [← hs] at hk
      try dsimp only at hk
      have B : Bs _ _ _ [.ow true oa (feed_r1.map eI), .va true (eI many_), .no] := B
      refine q_if B (et_test (ev_eqI (ev_lenM (ev_owM B rfl)) ev_int)) (fun hc1 H1 B => ?_) (fun hc1 H1 B => ?_)
      · rw [if_pos hc1] at hk
        have hc1_f := hc1
        try simp only [Bool.and_eq_true, Bool.or_eq_true, Bool.not_eq_true', Bool.and_eq_false_imp, Bool.or_eq_false_iff, Bool.not_eq_false', decide_eq_true_eq, decide_eq_false_iff_not] at hc1_f
        refine q_retM (i := 0) B rfl ev_int rfl fun v xs' H' hb hp hxs hv => q v xs' H' hb hp ?_ ?_
        · rw [hk]; exact hxs
        · rw [hk]; exact hv
      · rw [if_neg (show ¬ (decide ((List.length feed_r1 : Int) = (1 : Int))) = true from by rw [hc1]; exact Bool.false_ne_true)] at hk
        have hc1_f := hc1
        try simp only [Bool.and_eq_true, Bool.or_eq_true, Bool.not_eq_true', Bool.and_eq_false_imp, Bool.or_eq_false_iff, Bool.not_eq_false', decide_eq_true_eq, decide_eq_false_iff_not] at hc1_f
        dsimp only [tNext]
        refine q_asg (f := true) B (ev_intI ((ev_ixOM B rfl ev_int (show inB feed_r1 (1 : Int) from by first | assumption | (unfold inB; first | omega | (have q := of_decide_eq_true hc; omega) | (simp only [setI_len]; omega) | (simp only [setI_len, List.length_eraseIdx]; split <;> omega)))).sc (.int _))) fun σ1 H1 B => ?_
        have B : Bs _ _ _ [.ow true oa (feed_r1.map eI), .va true (eI many_), .va true (eI (getI feed_r1 (1 : Int)))] := B
        refine q_setM (f := true) B rfl (ev_I0 ((ev_ixOM B rfl ev_int (show inB feed_r1 (0 : Int) from by first | assumption | (unfold inB; first | omega | (have q := of_decide_eq_true hc; omega) | (simp only [setI_len]; omega) | (simp only [setI_len, List.length_eraseIdx]; split <;> omega)))).sc (.int _)) ev_int) ev_int (show inB feed_r1 (0 : Int) from by first | assumption | (unfold inB; first | omega | (have q := of_decide_eq_true hc; omega) | (simp only [setI_len]; omega) | (simp only [setI_len, List.length_eraseIdx]; split <;> omega))) fun H1 B => ?_
        have B : Bs _ _ _ [.ow true oa ((setI feed_r1 (0 : Int) ((getI feed_r1 (0 : Int)) + (1 : Int))).map eI), .va true (eI many_), .va true (eI (getI feed_r1 (1 : Int)))] := B
        refine q_setM (f := true) B rfl (ev_IC (ev_sc B rfl (.int _)) (ev_sc B rfl (.int _)) ⟨by omega, by omega⟩) ev_int (show inB (setI feed_r1 (0 : Int) ((getI feed_r1 (0 : Int)) + (1 : Int))) (1 : Int) from by first | assumption | (unfold inB; first | omega | (have q := of_decide_eq_true hc; omega) | (simp only [setI_len]; omega) | (simp only [setI_len, List.length_eraseIdx]; split <;> omega))) fun H1 B => ?_
        have B : Bs _ _ _ [.ow true oa ((setI (setI feed_r1 (0 : Int) ((getI feed_r1 (0 : Int)) + (1 : Int))) (1 : Int) (Int.fdiv (getI feed_r1 (1 : Int)) many_)).map eI), .va true (eI many_), .va true (eI (getI feed_r1 (1 : Int)))] := B
        refine q_retM (i := 0) B rfl (ev_IC (ev_intI (ev_sc B rfl (.int _))) (ev_sc B rfl (.int _)) (by omega)) rfl fun v xs' H' hb hp hxs hv => q v xs' H' hb hp ?_ ?_
        · rw [hk]; exact hxs
        · rw [hk]; exact hv

end
end K4
namespace K4
open PySem PySem.Spec PyProof.Rows L2 HL
open Evl (Ex)
section
variable {P : Program} {w : World} {K : PySem.W.Frag} {mg : Str → Option Value} {base : Heap}
/-! _law_feed -/
def m__law_feed (ns : List Int) : List Int := [0] ++ ((ns.take 63).map fun c => if c < 0 then -c else c)
abbrev s__law_feed : Stmt := topS 6
abbrev N__law_feed : List Str := ["script", "cell"]
theorem sc__law_feed : FnScope N__law_feed ["script"] (defScope s__law_feed) := ⟨rfl, rfl, rfl, by decide +kernel, rfl, by decide +kernel, by decide +kernel⟩
def sp__law_feed (K : PySem.W.Frag) : Sp := fun vs H Q _ => ∃ (a : Addr) (ns : List Int), vs = [.ref a] ∧ SqL K H a (ns.map V.int) ∧ ns.length ≤ 63 ∧ ∀ v H', Ex H H' → Dn (new H H') v (eL eI (m__law_feed ns)) → Q v H'
theorem bs_0 {N : List Str} {vs : List V} {H : Hp} (hN : vs.length ≤ N.length) : Bs ⟨H, fun a => H a ≠ none, o0⟩ H (L2.start N vs) (List.replicate N.length .no) := by
  have na : ∀ a, ¬ Adr (List.replicate N.length .no) a := Adr_none fun e he f a ds z => by
    have := (List.mem_replicate.mp he).2
    rw [this] at z; cases z
  refine ⟨Ex.refl H, fun _ h => h, live0, fun a h => (na a h).elim, fun i j f1 g a d1 es h1 h2 => (na a ⟨i, f1, d1, h1⟩).elim, by rw [start_len hN]; simp, fun i e he => ?_⟩
  have := (List.mem_replicate.mp (List.mem_of_getElem? he)).2
  subst this; trivial
theorem cut63 {ns : List Int} : cutV (ns.map V.int) none (some 63) = (ns.take 63).map V.int := by
  have h : cutV (ns.map V.int) none (some 63) = cutG (ns.map V.int) none (some 63) := rfl
  rw [h, cutG_to _ (by decide), ← List.map_take]; rfl
theorem ok__law_feed {f : Addr} {fd : FuncData} {k : Nat} (F : Fun K "_law_feed" "_law_feed" s__law_feed f fd) (m_abs : mg "abs" = none) (m_int : mg "int" = none) : FnOk P w K mg base CX0 (k + 1) f fd ["script"] (sp__law_feed K) := by
  refine F.ok sc__law_feed (fun vs H Q E h => ?_) (fun cdv A outer s H vs Q E hr h => ?_)
  · obtain ⟨a, ns, rfl, _⟩ := h; rfl
  · obtain ⟨a, ns, rfl, hS, hl, q⟩ := h
    refine ⟨_, (pss_cons (ps_ret (pe_op op_cat (pe_lst (pa_cons pe_int pa_nil)) (pe_lc (own := [("cell", 1)]) (g := gName 1) (tt := tYes) rfl sc__law_feed.nd (pi_list (pe_slice (r := rSlL K) sl_list (pv 0) po_none (po_some pe_int))) (blkOk_by (own := [("cell", 1)]) (N := N__law_feed) (sc := defScope s__law_feed) (by decide +kernel)) (fun _ _ _ _ _ => pg_name (i := 1) sc__law_feed.nd rfl (Or.inl rfl)) (fun _ _ _ _ _ => pts_nil) (fun _ _ _ _ _ => pe_callB call_abs (by rfl) m_abs (by decide +kernel) (pa_cons (pe_callTy call_int1 (by rfl) m_int (by decide +kernel) (pa_cons (pv 1) pa_nil)) pa_nil))))) pss_nil), ?_⟩
    have B : Bs ⟨H, fun a => H a ≠ none, o0⟩ H (L2.start N__law_feed [.ref a]) [.no, .no] := bs_0 (by show 1 ≤ 2; decide)
    have sl : EvN ((⟨H, fun a => H a ≠ none, o0⟩ : Wd).hd true [.no, .no]) (tSl (rSlL K) (tVar 0) tNoPart (tPart (tC (.int 63)))) (L2.start N__law_feed [.ref a]) H ((ns.take 63).map eI) := fun H1 x Q q => ⟨.ref a, rfl, 63, rfl, a, _, rfl, Evl.ex_l x hS, fun p np => q p _ _ np (Evl.Ex.new np) upd_same (by rw [cut63]; exact .of_ints _)⟩
    refine q_ret (f := true) B ((en_catM (em := eI) (xs := [0]) ((en_lstM (em := eI) (xs := [0]) (ea_cons ev_int ea_nil) (by simp)).ev (B.live true)) ((en_lcM1 (j := 1) (g := true) (em2 := eI) (fun c => if c < 0 then -c else c) B rfl (sl.ev (B.live true)) (by simp; omega) (fun c' x σ1 H1 hx B => by have B : Bs _ _ _ [.no, .va true (eI x)] := B; exact ev_abs (ev_intI (ev_sc B rfl (.int _))))).ev (B.live true)) (by simp; omega)).ev (B.live true)) fun v H1 x hv => q v H1 x (new_of hv)
theorem en__law_feed {o : Hd} {σ : Sta} {H : Hp} {a : Addr} {ns : List Int} {E : XK} (l : Live o H) (h : σ[0]? = some (some (.ref a))) (hS : SqL K H a (ns.map V.int)) (hl : ns.length ≤ 63) : EvN o (tCall (sp__law_feed K) [] E (tCons (tVar 0) tNil)) σ H ((m__law_feed ns).map eI) :=
  en_new l fun H1 x Q q => ⟨.ref a, h, a, ns, rfl, Evl.ex_l x hS, hl, fun v H2 e2 hv => q v H2 e2 hv⟩
end
end K4
namespace K4
open PySem PySem.Spec PyProof.Rows L2 HL
open Evl (Ex)
theorem at2_put_ne {M : List (List Int)} {i j i' j' : Nat} {v : Int} (h : i ≠ i') : at2 (put2 M i j v) i' j' = at2 M i' j' := by
  unfold at2 put2
  simp [List.getD, List.getElem?_set_ne h]
theorem put2_put2 {M : List (List Int)} {i j : Nat} {a b : Int} (h : i < M.length) : (put2 M i j a).set i (((put2 M i j a).getD i []).set j b) = put2 M i j b := by
  unfold put2
  simp [List.getD, h]
section
variable {P : Program} {w : World} {K : PySem.W.Frag} {mg : Str → Option Value} {base : Heap}
theorem Dn_strs {H : Hp} : ∀ xs : List Str, DnA H (xs.map V.str) (xs.map eS)
  | [] => .nil
  | x :: xs => .cons (.str x) (Dn_strs xs)
theorem bs_mid {H H4 : Hp} {v1 v2 v3 : V} {x y : Option V} {d1 d2 d3 : PyData} (e : Ex H H4) (l0 : Live (fun a => H a ≠ none) H4) (h1 : Dn H v1 d1) (h2 : Dn H v2 d2) (h3 : Dn (HL.new H H4) v3 d3) :
    Bs ⟨H, fun a => H a ≠ none, o0⟩ H4 [some v1, some v2, some v3, x, y, none] [.va false d1, .va false d2, .va true d3, .no, .no, .no] := by
  have na : ∀ a, ¬ Adr [Ent.va false d1, .va false d2, .va true d3, .no, .no, .no] a := Adr_none fun e he f a ds z => by
    subst z; simp at he
  refine ⟨e, l0, live0, fun a h => (na a h).elim, fun i j f1 g a d1 es h1 h2 => (na a ⟨i, f1, d1, h1⟩).elim, rfl, fun i e' he => ?_⟩
  have z : ∀ f b, (⟨H, fun a => H a ≠ none, o0⟩ : Wd).hd f [Ent.va false d1, .va false d2, .va true d3, .no, .no, .no] b → f = true ∧ H b ≠ none := fun f b q => by
    rcases q with q | q | q
    · exact q
    · exact q.elim
    · exact (na b q).elim
  match i, he with
  | 0, he => cases he; exact ⟨v1, rfl, (h1.mono e).mono (fun a u q => by rw [hid_at (fun w => Bool.noConfusion (z _ _ w).1)]; exact q)⟩
  | 1, he => cases he; exact ⟨v2, rfl, (h2.mono e).mono (fun a u q => by rw [hid_at (fun w => Bool.noConfusion (z _ _ w).1)]; exact q)⟩
  | 2, he => cases he; exact ⟨v3, rfl, h3.mono (hid_sub fun a q => (z _ _ q).2)⟩
  | 3, he => cases he; trivial
  | 4, he => cases he; trivial
  | 5, he => cases he; trivial
  | n + 6, he => simp at he
abbrev N__law_matched : List Str := ["old", "new", "best", "i", "j", "pairs"]
abbrev s__law_matched : Stmt := topS 8
theorem sc__law_matched : FnScope N__law_matched ["old", "new"] (defScope s__law_matched) := ⟨rfl, rfl, rfl, by decide +kernel, rfl, by decide +kernel, by decide +kernel⟩
def l__law_matched_1_c (old_ : (List Str)) (new_ : (List Str)) (s : (List (Int × Int)) × Int × Int) : Bool :=
  match s with
  | (pairs_1, i_1, j_1) => ((decide (i_1 < (List.length old_ : Int))) && (decide (j_1 < (List.length new_ : Int))))

def l__law_matched_1 (old_ : (List Str)) (new_ : (List Str)) (s : (List (Int × Int)) × Int × Int) : (List (Int × Int)) × Int × Int :=
  match s with
  | (pairs_1, i_1, j_1) => (if (decide ((getI old_ i_1) = (getI new_ j_1))) = true then ((pairs_1 ++ [(i_1, j_1)]), (i_1 + (1 : Int)), (j_1 + (1 : Int))) else (if (decide ((getI (getI (m__common_lengths old_ new_) i_1) (j_1 + (1 : Int))) ≤ (getI (getI (m__common_lengths old_ new_) (i_1 + (1 : Int))) j_1))) = true then (pairs_1, (i_1 + (1 : Int)), j_1) else (pairs_1, i_1, (j_1 + (1 : Int)))))

def l__law_matched_1_m (old_ : (List Str)) (new_ : (List Str)) (s : (List (Int × Int)) × Int × Int) : Nat :=
  match s with
  | (pairs_1, i_1, j_1) => (old_.length + new_.length - i_1 - j_1).toNat

def m__law_matched (old_ new_ : List Str) : List (Int × Int) :=
  (match (whileF (l__law_matched_1_c old_ new_) (l__law_matched_1 old_ new_) (l__law_matched_1_m old_ new_ ([], (0 : Int), (0 : Int))) ([], (0 : Int), (0 : Int))) with | (pairs_r1, i_r1, j_r1) => pairs_r1)
def r__law_matched : List PyData → PyData → Prop := fun ds d => ∃ (old_ : (List Str)) (new_ : (List Str)), ds = [(eL eS) old_, (eL eS) new_] ∧ old_.length ≤ 1000 ∧ new_.length ≤ 1000 ∧ d = (eL (eT2 eI eI)) (m__law_matched old_ new_)
set_option maxHeartbeats 8000000 in
theorem ok__law_matched {f : Addr} {fd : FuncData} {k : Nat} (F : Fun K "_law_matched" "_law_matched" s__law_matched f fd) (m_len : mg "len" = none) (m_range : mg "range" = none) (m_max : mg "max" = none) : FnOk P w K mg base CX0 (k + 1) f fd ["old", "new"] (SpF r__law_matched) := by
  refine F.ok sc__law_matched (fun vs H Q E h => ?_) (fun cdv A outer s H vs Q E hr h => ?_)
  · obtain ⟨ds, d, hd, ⟨old, new, rfl, h1, h2, rfl⟩, _⟩ := h
    exact hd.length
  · obtain ⟨ds, d, hd, ⟨old, new, rfl, h1, h2, rfl⟩, q⟩ := h
    refine ⟨_, pss_cons (ps_setLc (i := 2) (own := [("i", 3)]) (g := gName 3) (tt := tYes) rfl sc__law_matched.nd rfl rfl (sw_true rfl rfl rfl (by decide +kernel)) (pi_range1 rfl m_range (pa_cons (pe_op op_add (pe_callB call_len_seq (by rfl) m_len PySem.boot_len (pa_cons (pv 0) pa_nil)) pe_int) pa_nil)) (blkOk_by (own := [("i", 3)]) (N := N__law_matched) (sc := defScope s__law_matched) (by decide +kernel)) (fun _ _ _ _ _ => pg_name (i := 3) sc__law_matched.nd rfl (Or.inl rfl)) (fun _ _ _ _ _ => pts_nil) (fun _ _ _ _ _ => pe_op op_rep (pe_lst (pa_cons pe_int pa_nil)) (pe_op op_add (pe_callB (r := rLenK K) call_len_seq (by rfl) m_len PySem.boot_len (pa_cons (pv 1) pa_nil)) pe_int)))
      (pss_cons (ps_for PassesOwn.never rfl (pi_range3 rfl m_range (pa_cons (pe_op op_sub (pe_callB call_len_seq (by rfl) m_len PySem.boot_len (pa_cons (pv 0) pa_nil)) pe_int) (pa_cons (pe_un un_neg pe_int) (pa_cons (pe_un un_neg pe_int) pa_nil)))) (pg_name (i := 3) sc__law_matched.nd rfl (Or.inl rfl))
        (pss_one (ps_for PassesOwn.never rfl (pi_range3 rfl m_range (pa_cons (pe_op op_sub (pe_callB call_len_seq (by rfl) m_len PySem.boot_len (pa_cons (pv 1) pa_nil)) pe_int) (pa_cons (pe_un un_neg pe_int) (pa_cons (pe_un un_neg pe_int) pa_nil)))) (pg_name (i := 4) sc__law_matched.nd rfl (Or.inl rfl))
          (pss_cons (ps_asg (pe_callB (call_max2 rfl) (by rfl) m_max (by decide +kernel) (pa_cons (pe_ix ix_list (pe_ix ix_list (pv 2) (pe_op op_add (pv 3) pe_int) (fun _ _ => rfl)) (pv 4) (fun _ _ => rfl)) (pa_cons (pe_ix ix_list (pe_ix ix_list (pv 2) (pv 3) (fun _ _ => rfl)) (pe_op op_add (pv 4) pe_int) (fun _ _ => rfl)) pa_nil))) (pg_sub (pe_ix ix_list (pv 2) (pv 3) (fun _ _ => rfl)) (pv 4) set_list)) (pss_cons (ps_if (pt_cmpR op_eq (pe_ix ix_list (pv 0) (pv 3) (fun _ _ => rfl)) (pe_ix ix_list (pv 1) (pv 4) (fun _ _ => rfl)) (nomark _)) (pss_one (ps_asg (pe_op op_add (pe_ix ix_list (pe_ix ix_list (pv 2) (pe_op op_add (pv 3) pe_int) (fun _ _ => rfl)) (pe_op op_add (pv 4) pe_int) (fun _ _ => rfl)) pe_int) (pg_sub (pe_ix ix_list (pv 2) (pv 3) (fun _ _ => rfl)) (pv 4) set_list))) pss_nil) pss_nil)))))
      (pss_cons (ps_set (i := 5) sc__law_matched.nd rfl (Or.inl rfl) (pe_lst pa_nil)) (pss_cons (ps_set (i := 3) sc__law_matched.nd rfl (Or.inl rfl) pe_int) (pss_cons (ps_set (i := 4) sc__law_matched.nd rfl (Or.inl rfl) pe_int) (pss_cons (ps_while PassesOwn.never (PW.pt (pw_and (pt_cmpR (op_lt) (pv 3) (pe_callB (r := rLenK K) call_len_seq (by rfl) m_len PySem.boot_len (pa_cons (pv 0) pa_nil)) (nomark _)) (pw_and1 (pt_cmpR (op_lt) (pv 4) (pe_callB (r := rLenK K) call_len_seq (by rfl) m_len PySem.boot_len (pa_cons (pv 1) pa_nil)) (nomark _))))) (pss_cons (ps_if (pt_cmpR (op_eq) (pe_ix (r := rIxL K) ix_list (pv 0) (pv 3) (fun _ _ => rfl)) (pe_ix (r := rIxL K) ix_list (pv 1) (pv 4) (fun _ _ => rfl)) (nomark _)) (pss_cons (ps_expr (pe_bm PySem.F.plainAttrs_list PySem.F.slot_list_append PySem.F.type_list_append mt_append (pv 5) (pa_cons (pe_tup (pa_cons (pv 3) (pa_cons (pv 4) pa_nil))) pa_nil))) (pss_cons (ps_set (i := 3) sc__law_matched.nd rfl (Or.inl rfl) (pe_op op_add (pv 3) pe_int)) (pss_cons (ps_set (i := 4) sc__law_matched.nd rfl (Or.inl rfl) (pe_op op_add (pv 4) pe_int)) pss_nil))) (pss_cons (ps_if (pt_cmpR (op_ge) (pe_ix (r := rIxL K) ix_list (pe_ix (r := rIxL K) ix_list (pv 2) (pe_op op_add (pv 3) pe_int) (fun _ _ => rfl)) (pv 4) (fun _ _ => rfl)) (pe_ix (r := rIxL K) ix_list (pe_ix (r := rIxL K) ix_list (pv 2) (pv 3) (fun _ _ => rfl)) (pe_op op_add (pv 4) pe_int) (fun _ _ => rfl)) (nomark _)) (pss_cons (ps_set (i := 3) sc__law_matched.nd rfl (Or.inl rfl) (pe_op op_add (pv 3) pe_int)) pss_nil) (pss_cons (ps_set (i := 4) sc__law_matched.nd rfl (Or.inl rfl) (pe_op op_add (pv 4) pe_int)) pss_nil)) pss_nil)) pss_nil)) (pss_cons (ps_ret (pv 5)) pss_nil)))))), ?_⟩
    cases hd with
    | @cons v1 _ vr _ hv1 hd =>
    cases hd with
    | @cons v2 _ vr2 _ hv2 hd =>
    cases hd
    cases hv1 with
    | @lst ao vo _ ho ro =>
    cases hv2 with
    | @lst an vn _ hn rn =>
    have eo := ro.strs; subst eo
    have en := rn.strs; subst en
    have lo : (old.map V.str).length = old.length := List.length_map _
    have ln : (new.map V.str).length = new.length := List.length_map _
    -- rows = [[0] * (len(new) + 1) for _ in range(len(old) + 1)]
    refine ⟨.ref ao, rfl, ⟨ao, _, rfl, .inl (.inl (.inl ho)), ⟨_, 1, rfl, rfl, ⟨_, rfl, ?_, ?_, fun C nC => ?_⟩⟩⟩⟩
    · rw [lo]; omega
    · rw [lo]; omega
    rw [lo]
    have et : (((old.length : Int) + 1).toNat) = old.length + 1 := by omega
    rw [et]
    refine lc_range (lo := 0) (n := old.length + 1) (fun n H3 => ∃ as, Ex H H3 ∧ H C = none ∧ (∀ a ∈ as, H a = none) ∧ MX H3 C as (List.replicate n (List.replicate (new.length + 1) 0))) ⟨[], Evl.Ex.new nC, nC, fun a h => by simp at h, upd_same, rfl, List.nodup_nil, by simp, fun k r h => by simp at h⟩ (fun n H3 hnn1 hP => ?_) (fun H3 hP => ?_)
    · obtain ⟨as, e3, nC', na, mx⟩ := hP
      refine ⟨rfl, ?_⟩
      unfold tYes
      dsimp only
      rw [if_pos rfl]
      refine ⟨by show 1 ≤ sizeLine; decide, fun p np => ⟨.ref an, rfl, ⟨an, _, rfl, .inl (.inl (.inl (by rw [upd_ne (ne_of_none (e3 _ _ hn) np)]; exact e3 _ _ hn))), ⟨_, 1, rfl, rfl, ⟨p, _, [.int 0], rfl, rfl, upd_same, ?_, ?_, ?_, fun p2 np2 => ?_⟩⟩⟩⟩⟩
      · rw [ln]; omega
      · rw [ln]; omega
      · rw [ln]; have : ((new.length : Int) + 1).toNat = new.length + 1 := by omega
        rw [this]; exact Evl.sz_of (by simp; omega)
      · have hp2 : p2 ≠ p := fun z => by rw [z, upd_same] at np2; cases np2
        have np3 : H3 p2 = none := by rw [upd_ne hp2] at np2; exact np2
        have cp : C ≠ p := ne_of_none mx.top np
        have cp2 : C ≠ p2 := ne_of_none mx.top np3
        refine ⟨as.map .ref, ?_, ?_, as ++ [p2], fun a u h => ?_, nC', fun a h => ?_, ?_, ?_, ?_, ?_, fun k r hk => ?_⟩
        · rw [upd_ne cp2, upd_ne cp]; exact mx.top
        · rw [List.length_map, mx.len, List.length_replicate]; exact Evl.sz_lt (by omega)
        · have a1 : a ≠ C := ne_of_none h nC'
          have h3 := e3 _ _ h
          rw [upd_ne a1, upd_ne (ne_of_none h3 np3), upd_ne (ne_of_none h3 np)]
          exact h3
        · rcases List.mem_append.mp h with h | h
          · exact na a h
          · simp at h; subst h; exact Evl.fresh_back e3 np3
        · rw [upd_same, List.map_append]; rfl
        · rw [List.length_append, mx.len, List.length_replicate, List.length_replicate]; rfl
        · refine List.nodup_append.mpr ⟨mx.nd, by simp, fun a ha b hb => ?_⟩
          simp at hb; subst hb
          intro z; subst z
          obtain ⟨kk, hk, ek⟩ := List.getElem_of_mem ha
          have hk2 : kk < (List.replicate n (List.replicate (new.length + 1) (0 : Int))).length := by rw [← mx.len]; exact hk
          obtain ⟨b, hb1, hb2⟩ := mx.row kk _ (List.getElem?_eq_getElem hk2)
          rw [List.getElem?_eq_getElem hk, ek] at hb1
          cases hb1
          rw [hb2] at np3; cases np3
        · intro h
          rcases List.mem_append.mp h with h | h
          · exact mx.out h
          · simp at h; exact cp2 h
        · have hz : r = List.replicate (new.length + 1) 0 := by
            have := List.mem_of_getElem? hk
            exact (List.mem_replicate.mp this).2
          have hkn : k < n + 1 := by
            rw [List.getElem?_eq_some_iff] at hk
            obtain ⟨h, _⟩ := hk
            simpa using h
          subst hz
          by_cases hkk : k < n
          · obtain ⟨b, hb1, hb2⟩ := mx.row k (List.replicate (new.length + 1) 0) (by simp [hkk])
            refine ⟨b, by rw [List.getElem?_append_left (by rw [mx.len]; simpa using hkk)]; exact hb1, ?_⟩
            have hbC : b ≠ C := fun z => mx.out (by rw [← z]; exact List.mem_of_getElem? hb1)
            rw [upd_ne hbC, upd_ne (ne_of_none hb2 np3), upd_ne (ne_of_none hb2 np)]
            exact hb2
          · have ek : k = n := by omega
            subst ek
            refine ⟨p2, by rw [List.getElem?_append_right (by rw [mx.len]; simp)]; rw [mx.len]; simp, ?_⟩
            rw [upd_ne cp2.symm, upd_same, ln]
            have : ((new.length : Int) + 1).toNat = new.length + 1 := by omega
            rw [this]
            congr 2
            have fl : ∀ m : Nat, (List.replicate m [V.int 0]).flatten = (List.replicate m (0 : Int)).map V.int := fun m => by
              induction m with
              | zero => rfl
              | succ m ih => rw [List.replicate_succ, List.replicate_succ, List.flatten_cons, ih]; rfl
            exact fl _
    · obtain ⟨as, e3, nC', na, mx⟩ := hP
      -- the loops
      have ho3 := e3 _ _ ho
      refine ⟨.ref ao, rfl, ⟨ao, _, rfl, .inl (.inl (.inl ho3)), ⟨_, 1, rfl, rfl, 1, rfl, 1, rfl, _, _, _, _, rfl, RgC.neg (by rw [lo]; omega) (by rw [lo]; omega) (by omega) (by omega), ?_⟩⟩⟩
      rw [lo]
      have em : ((old.length : Int) - 1 - -1).toNat = old.length := by omega
      rw [em]
      refine for_rangeC (n := old.length) (fun n σ H4 => ∃ x y, σ = [some (.ref ao), some (.ref an), some (.ref C), x, y, none] ∧ Ex H H4 ∧ MX H4 C as (((List.range old.length).reverse.take n).foldl (rowI old new) (List.replicate (old.length + 1) (List.replicate (new.length + 1) 0)))) ⟨none, none, rfl, e3, mx⟩ (fun n σ H4 hnn hP => ?_) (fun σ H4 hP => ?_)
      · obtain ⟨x, y, rfl, e4, mx4⟩ := hP
        have ei : (((old.length : Nat) : Int) - 1 + (n : Nat) * -1) = ((old.length - 1 - n : Nat) : Int) := by omega
        rw [ei]
        have hi : old.length - 1 - n < old.length := by omega
        generalize hii : old.length - 1 - n = i at hi
        have hM : Dim (old.length + 1) (new.length + 1) (((List.range old.length).reverse.take n).foldl (rowI old new) (List.replicate (old.length + 1) (List.replicate (new.length + 1) 0))) := Dim.rowI _ (fun i hi => by have := List.mem_of_mem_take hi; simp at this; omega) (dim0 _ _)
        have tk : (List.range old.length).reverse.take (n + 1) = (List.range old.length).reverse.take n ++ [i] := by rw [List.take_add_one, rev_get hnn, hii]; rfl
        generalize hM0 : ((List.range old.length).reverse.take n).foldl (rowI old new) (List.replicate (old.length + 1) (List.replicate (new.length + 1) 0)) = M0 at hM mx4
        refine ⟨.ref an, rfl, ⟨an, _, rfl, .inl (.inl (.inl (e4 _ _ hn))), ⟨_, 1, rfl, rfl, 1, rfl, 1, rfl, _, _, _, _, rfl, RgC.neg (by rw [ln]; omega) (by rw [ln]; omega) (by omega) (by omega), ?_⟩⟩⟩
        rw [ln]
        have em2 : ((new.length : Int) - 1 - -1).toNat = new.length := by omega
        rw [em2]
        refine for_rangeC (n := new.length) (fun n2 σ H5 => ∃ y, σ = [some (.ref ao), some (.ref an), some (.ref C), some (.int i), y, none] ∧ Ex H H5 ∧ MX H5 C as (((List.range new.length).reverse.take n2).foldl (rowJ old new i) M0)) ⟨y, rfl, e4, mx4⟩ (fun n2 σ H5 hn2 hP => ?_) (fun σ H5 hP => ?_)
        · obtain ⟨y, rfl, e5, mx5⟩ := hP
          have ej : (((new.length : Nat) : Int) - 1 + (n2 : Nat) * -1) = ((new.length - 1 - n2 : Nat) : Int) := by omega
          rw [ej]
          have hj : new.length - 1 - n2 < new.length := by omega
          generalize hjj : new.length - 1 - n2 = j at hj
          have hD : Dim (old.length + 1) (new.length + 1) (((List.range new.length).reverse.take n2).foldl (rowJ old new i) M0) := Dim.rowJ (by omega) _ hM
          have tk2 : (List.range new.length).reverse.take (n2 + 1) = (List.range new.length).reverse.take n2 ++ [j] := by rw [List.take_add_one, rev_get hn2, hjj]; rfl
          generalize hM1 : ((List.range new.length).reverse.take n2).foldl (rowJ old new i) M0 = M at hD mx5
          obtain ⟨a0, r0, g1, g2, g3, g4, g5, g6⟩ := mx5.at hD (i := i) (j := j) (by omega) (by omega)
          obtain ⟨a1, r1, k1, k2, k3, k4, k5, k6⟩ := mx5.at hD (i := i + 1) (j := j + 1) (by omega) (by omega)
          obtain ⟨a2, r2, l1, l2, l3, l4, l5, l6⟩ := mx5.at hD (i := i + 1) (j := j) (by omega) (by omega)
          obtain ⟨a3, r3, n1, n2', n3, n4, n5, n6⟩ := mx5.at hD (i := i) (j := j + 1) (by omega) (by omega)
          have qo : (old.map V.str)[i]? = some (.str (old.getD i default)) := by rw [List.getElem?_map, List.getElem?_eq_getElem hi]; simp [List.getD, hi]
          have qn : (new.map V.str)[j]? = some (.str (new.getD j default)) := by rw [List.getElem?_map, List.getElem?_eq_getElem hj]; simp [List.getD, hj]
          have asr : ∀ {k : Nat} {a : Addr}, as[k]? = some a → (as.map V.ref)[k]? = some (V.ref a) := fun h => by rw [List.getElem?_map, h]; rfl
          have rin : ∀ {r : List Int} {k : Nat} {x : Int}, r[k]? = some x → (r.map V.int)[k]? = some (V.int x) := fun h => by rw [List.getElem?_map, h]; rfl
          have tp : SqL K H5 C (as.map .ref) := .inl (.inl mx5.top)
          have fin : ∀ v : Int, v = cell2 old new M i j → ∃ y, ([some (V.ref ao), some (V.ref an), some (V.ref C), some (V.int i), some (V.int j), none] : List (Option V)) = [some (V.ref ao), some (V.ref an), some (V.ref C), some (V.int i), y, none] ∧ Ex H (upd H5 a0 (.lst ((r0.map V.int).set j (.int v)))) ∧ MX (upd H5 a0 (.lst ((r0.map V.int).set j (.int v)))) C as (((List.range new.length).reverse.take (n2 + 1)).foldl (rowJ old new i) M0) := fun v hv => by
            refine ⟨_, rfl, Evl.Ex.mut e5 (na a0 (List.mem_of_getElem? g1)), ?_⟩
            rw [tk2, List.foldl_append, hM1]
            show MX _ C as (put2 M i j (cell2 old new M i j))
            rw [← hv]
            unfold put2
            rw [← g3]
            have := mx5.put g1 (r0.set j v)
            rw [List.map_set] at this
            exact this
          -- best[i][j] = max(best[i + 1][j], best[i][j + 1])
          refine ⟨.ref C, rfl, _, rfl, ⟨_, 1, rfl, rfl, ⟨C, _, _, _, rfl, rfl, tp, atI_of (n := i + 1) (by simp) (asr l1), ⟨_, rfl, ⟨a2, _, _, _, rfl, rfl, .inl (.inl l4), atI_nat (rin l5), ⟨.ref C, rfl, _, rfl, ⟨C, _, _, _, rfl, rfl, tp, atI_nat (asr n1), ⟨_, rfl, ⟨_, 1, rfl, rfl, ⟨a3, _, _, _, rfl, rfl, .inl (.inl n4), atI_of (n := j + 1) (by simp) (rin n5), ⟨_, _, rfl, ?_⟩⟩⟩⟩⟩⟩⟩⟩⟩⟩⟩
          refine ⟨.ref C, rfl, _, rfl, ⟨C, _, _, _, rfl, rfl, tp, atI_nat (asr g1), ⟨_, rfl, ⟨a0, _, _, j, rfl, rfl, g4, ?_, ?_⟩⟩⟩⟩
          · rw [List.length_map, g6]; exact Evl.ixN_nat (by omega)
          have e6 : Ex H (upd H5 a0 (.lst ((r0.map V.int).set j (.int (if at2 M i (j + 1) > at2 M (i + 1) j then at2 M i (j + 1) else at2 M (i + 1) j))))) := Evl.Ex.mut e5 (na a0 (List.mem_of_getElem? g1))
          have mx6 : MX (upd H5 a0 (.lst ((r0.map V.int).set j (.int (if at2 M i (j + 1) > at2 M (i + 1) j then at2 M i (j + 1) else at2 M (i + 1) j))))) C as (put2 M i j (if at2 M i (j + 1) > at2 M (i + 1) j then at2 M i (j + 1) else at2 M (i + 1) j)) := by
            have := mx5.put g1 (r0.set j (if at2 M i (j + 1) > at2 M (i + 1) j then at2 M i (j + 1) else at2 M (i + 1) j))
            rw [List.map_set] at this
            unfold put2
            rw [← g3]
            exact this
          generalize upd H5 a0 (.lst ((r0.map V.int).set j (.int (if at2 M i (j + 1) > at2 M (i + 1) j then at2 M i (j + 1) else at2 M (i + 1) j)))) = H6 at e6 mx6 ⊢
          have hD6 : Dim (old.length + 1) (new.length + 1) (put2 M i j (if at2 M i (j + 1) > at2 M (i + 1) j then at2 M i (j + 1) else at2 M (i + 1) j)) := hD.put (by omega) _ _
          obtain ⟨b0, s0, p1, p2, p3, p4, p5, p6⟩ := mx6.at hD6 (i := i) (j := j) (by omega) (by omega)
          obtain ⟨b1, s1, q1, q2, q3, q4, q5, q6⟩ := mx6.at hD6 (i := i + 1) (j := j + 1) (by omega) (by omega)
          have tp6 : SqL K H6 C (as.map .ref) := .inl (.inl mx6.top)
          have far : at2 (put2 M i j (if at2 M i (j + 1) > at2 M (i + 1) j then at2 M i (j + 1) else at2 M (i + 1) j)) (i + 1) (j + 1) = at2 M (i + 1) (j + 1) := at2_put_ne (by omega)
          -- if old[i] == new[j]
          refine ⟨.ref ao, rfl, _, rfl, ⟨ao, _, _, _, rfl, rfl, .inl (.inl (e6 _ _ ho)), atI_nat qo, ⟨.ref an, rfl, _, rfl, ⟨an, _, _, _, rfl, rfl, .inl (.inl (e6 _ _ hn)), atI_nat qn, ⟨rfl, _, rfl, ?_⟩⟩⟩⟩⟩
          refine ite2 (fun hc => ?_) (fun hc => ?_)
          · have hc' : old.getD i default = new.getD j default := by simpa using hc
            refine ⟨.ref C, rfl, _, rfl, ⟨_, 1, rfl, rfl, ⟨C, _, _, _, rfl, rfl, tp6, atI_of (n := i + 1) (by simp) (asr q1), ⟨_, rfl, ⟨_, 1, rfl, rfl, ⟨b1, _, _, _, rfl, rfl, .inl (.inl q4), atI_of (n := j + 1) (by simp) (rin q5), ⟨_, 1, rfl, rfl, ?_⟩⟩⟩⟩⟩⟩⟩
            refine ⟨.ref C, rfl, _, rfl, ⟨C, _, _, _, rfl, rfl, tp6, atI_nat (asr p1), ⟨_, rfl, ⟨b0, _, _, j, rfl, rfl, p4, ?_, ?_⟩⟩⟩⟩
            · rw [List.length_map, p6]; exact Evl.ixN_nat (by omega)
            · refine ⟨_, rfl, Evl.Ex.mut e6 (na b0 (List.mem_of_getElem? p1)), ?_⟩
              rw [tk2, List.foldl_append, hM1]
              show MX _ C as (put2 M i j (cell2 old new M i j))
              have hv : at2 (put2 M i j (if at2 M i (j + 1) > at2 M (i + 1) j then at2 M i (j + 1) else at2 M (i + 1) j)) (i + 1) (j + 1) + 1 = cell2 old new M i j := by
                rw [far]; unfold cell2; rw [if_pos hc']
              show MX (upd H6 b0 (.lst ((s0.map V.int).set j (.int (at2 (put2 M i j (if at2 M i (j + 1) > at2 M (i + 1) j then at2 M i (j + 1) else at2 M (i + 1) j)) (i + 1) (j + 1) + 1))))) C as _
              rw [hv]
              have := mx6.put p1 (s0.set j (cell2 old new M i j))
              rw [List.map_set] at this
              have e7 : (put2 M i j (if at2 M i (j + 1) > at2 M (i + 1) j then at2 M i (j + 1) else at2 M (i + 1) j)).set i (s0.set j (cell2 old new M i j)) = put2 M i j (cell2 old new M i j) := by
                rw [p3]
                exact put2_put2 (by rw [hD.1]; omega)
              rw [e7] at this
              exact this
          · have hc' : ¬ old.getD i default = new.getD j default := by simpa using hc
            refine ⟨_, rfl, e6, ?_⟩
            rw [tk2, List.foldl_append, hM1]
            show MX _ C as (put2 M i j (cell2 old new M i j))
            have hv : (if at2 M i (j + 1) > at2 M (i + 1) j then at2 M i (j + 1) else at2 M (i + 1) j) = cell2 old new M i j := by unfold cell2; rw [if_neg hc']
            rw [← hv]
            exact mx6
        · obtain ⟨y, rfl, e5, mx5⟩ := hP
          refine ⟨_, _, rfl, e5, ?_⟩
          have : (List.range new.length).reverse.take new.length = (List.range new.length).reverse := List.take_of_length_le (by simp)
          rw [this] at mx5
          rw [tk, List.foldl_append, hM0]
          exact mx5
      · obtain ⟨x, y, rfl, e4, mx4⟩ := hP
        have best : Dn (HL.new H H4) (.ref C) (eL (eL eI) (m__common_lengths old new)) := by
          have : (List.range old.length).reverse.take old.length = (List.range old.length).reverse := List.take_of_length_le (by simp)
          rw [this] at mx4
          have hn0 : ∀ a, H a = none → HL.new H H4 a = H4 a := fun a h => hid_at (fun z => z h)
          refine .lst (xs := as.map .ref) (by rw [hn0 _ nC']; exact mx4.top) ?_
          have all : ∀ (bs : List Addr) (Ms : List (List Int)), bs.length = Ms.length → (∀ (k : Nat) (r : List Int), Ms[k]? = some r → ∃ a, bs[k]? = some a ∧ H4 a = some (.lst (r.map .int))) → (∀ a ∈ bs, H a = none) → DnA (HL.new H H4) (bs.map .ref) (Ms.map (eL eI)) := by
            intro bs
            induction bs with
            | nil => intro Ms hl _ _; cases Ms with
              | nil => exact .nil
              | cons _ _ => simp at hl
            | cons b bs ih => intro Ms hl hrow hnone; cases Ms with
              | nil => simp at hl
              | cons r Ms =>
                obtain ⟨a, ha1, ha2⟩ := hrow 0 r rfl
                simp at ha1; subst ha1
                exact .cons (.lst (by rw [hn0 _ (hnone _ (by simp))]; exact ha2) (.of_ints r)) (ih Ms (by simpa using hl) (fun k r hk => by simpa using hrow (k + 1) r (by simpa using hk)) (fun a ha => hnone a (by simp [ha])))
          exact all as _ mx4.len mx4.row na
        have e0 : Ex H H := Ex.refl H
        have l0 : Live (fun a => H a ≠ none) H4 := fun a ha hb => by
          cases hq : H a with
          | none => exact ha hq
          | some u => rw [e4 _ _ hq] at hb; cases hb
        have B : Bs ⟨H, fun a => H a ≠ none, o0⟩ H4 [some (.ref ao), some (.ref an), some (.ref C), x, y, none] [.va false (eL eS old), .va false (eL eS new), .va true (eL (eL eI) (m__common_lengths old new)), .no, .no, .no] := bs_mid e4 l0 (.lst ho (Dn_strs old)) (.lst hn (Dn_strs new)) best
        have hk : m__law_matched old new = (match (whileF (l__law_matched_1_c old new) (l__law_matched_1 old new) (l__law_matched_1_m old new ([], (0 : Int), (0 : Int))) ([], (0 : Int), (0 : Int))) with | (pairs_r1, i_r1, j_r1) => pairs_r1) := rfl
        have d1 := dim_common old new
        have t1 : ∀ i : Int, 0 ≤ i → i ≤ old.length → (getI (m__common_lengths old new) i).length = new.length + 1 := fun i h0 h1 => d1.2 _ (getI_mem (by unfold inB; rw [d1.1]; omega))
        have t0 := d1.1
        refine q_asgN (f := true) B (en_lstM (em := (eT2 eI eI)) (xs := []) ea_nil (by simp)) fun a1 σ1 H1 B => ?_
        have B : Bs _ _ _ [.va false ((eL eS) old), .va false ((eL eS) new), .va true ((eL (eL eI)) (m__common_lengths old new)), .no, .no, .ow true a1 (([]).map (eT2 eI eI))] := B
        refine q_asg (f := true) B ev_int fun σ1 H1 B => ?_
        have B : Bs _ _ _ [.va false ((eL eS) old), .va false ((eL eS) new), .va true ((eL (eL eI)) (m__common_lengths old new)), .va true (eI (0 : Int)), .no, .ow true a1 (([]).map (eT2 eI eI))] := B
        refine q_asg (f := true) B ev_int fun σ1 H1 B => ?_
        have B : Bs _ _ _ [.va false ((eL eS) old), .va false ((eL eS) new), .va true ((eL (eL eI)) (m__common_lengths old new)), .va true (eI (0 : Int)), .va true (eI (0 : Int)), .ow true a1 (([]).map (eT2 eI eI))] := B
        refine q_whileM (fun (s : (List (Int × Int)) × Int × Int) => [.va false ((eL eS) old), .va false ((eL eS) new), .va true ((eL (eL eI)) (m__common_lengths old new)), .va true (eI s.2.1), .va true (eI s.2.2), .ow true a1 (s.1.map (eT2 eI eI))]) (l__law_matched_1_c old new) (l__law_matched_1 old new) (l__law_matched_1_m old new) ([], (0 : Int), (0 : Int)) (fun s => 0 ≤ s.2.1 ∧ s.2.1 ≤ old.length ∧ 0 ≤ s.2.2 ∧ s.2.2 ≤ new.length ∧ (s.1.length : Int) ≤ s.2.1) B (.cons (.refl _) (.cons (.refl _) (.cons (.refl _) (.cons (.refl _) (.cons (.refl _) (.cons (.refl _) .nil)))))) (by simp) (fun B0 e1 s σ1 H1 hJ B => ?_) (fun s hJ hc => ?_) (fun B0 e1 s σ1 H1 hJ hc B => ?_) (fun s σ1 H1 hs hc hJ B => ?_)
        · obtain ⟨pairs_1, i_1, j_1⟩ := s
          have B : Bs _ _ _ [.va false ((eL eS) old), .va false ((eL eS) new), .va true ((eL (eL eI)) (m__common_lengths old new)), .va true (eI i_1), .va true (eI j_1), .ow true a1 (pairs_1.map (eT2 eI eI))] := B
          simp only at hJ
          obtain ⟨j1, j2, j3, j4, j5⟩ := hJ
          exact (et_and (et_test (ev_B0 (ev_sc B rfl (.int _)) (ev_lenM ((ev_va B rfl).w0)))) fun hc => (et_test (ev_B0 (ev_sc B rfl (.int _)) (ev_lenM ((ev_va B rfl).w0)))))
        · obtain ⟨pairs_1, i_1, j_1⟩ := s
          have hw : ((decide (i_1 < (List.length old : Int))) && (decide (j_1 < (List.length new : Int)))) = true := hc
          have hw_f := hw
          try simp only [Bool.and_eq_true, Bool.or_eq_true, Bool.not_eq_true', Bool.and_eq_false_imp, Bool.or_eq_false_iff, Bool.not_eq_false', decide_eq_true_eq, decide_eq_false_iff_not] at hw_f
          simp only at hJ
          obtain ⟨j1, j2, j3, j4, j5⟩ := hJ
          simp only [l__law_matched_1, l__law_matched_1_m]
          split
          · simp only; omega
          · split <;> simp only <;> omega
        · obtain ⟨pairs_1, i_1, j_1⟩ := s
          have B : Bs _ _ _ [.va false ((eL eS) old), .va false ((eL eS) new), .va true ((eL (eL eI)) (m__common_lengths old new)), .va true (eI i_1), .va true (eI j_1), .ow true a1 (pairs_1.map (eT2 eI eI))] := B
          have hw : ((decide (i_1 < (List.length old : Int))) && (decide (j_1 < (List.length new : Int)))) = true := hc
          have hw_f := hw
          try simp only [Bool.and_eq_true, Bool.or_eq_true, Bool.not_eq_true', Bool.and_eq_false_imp, Bool.or_eq_false_iff, Bool.not_eq_false', decide_eq_true_eq, decide_eq_false_iff_not] at hw_f
          have e0 := e0.trans e1
          have hk1 : l__law_matched_1 old new (pairs_1, i_1, j_1) = (if (decide ((getI old i_1) = (getI new j_1))) = true then ((pairs_1 ++ [(i_1, j_1)]), (i_1 + (1 : Int)), (j_1 + (1 : Int))) else (if (decide ((getI (getI (m__common_lengths old new) i_1) (j_1 + (1 : Int))) ≤ (getI (getI (m__common_lengths old new) (i_1 + (1 : Int))) j_1))) = true then (pairs_1, (i_1 + (1 : Int)), j_1) else (pairs_1, i_1, (j_1 + (1 : Int))))) := rfl
          simp only at hJ
          obtain ⟨j1, j2, j3, j4, j5⟩ := hJ
          refine q_if B (et_test (ev_eqS ((ev_ixM (em := eS) (xs := old) ((ev_va B rfl).w0) (ev_sc B rfl (.int _)) (show inB old i_1 from by first | assumption | (unfold inB; first | omega | (rw [t0]; omega) | (rw [t1 _ (by omega) (by omega)]; omega)))).sc (.str _)) ((ev_ixM (em := eS) (xs := new) ((ev_va B rfl).w0) (ev_sc B rfl (.int _)) (show inB new j_1 from by first | assumption | (unfold inB; first | omega | (rw [t0]; omega) | (rw [t1 _ (by omega) (by omega)]; omega)))).sc (.str _)))) (fun hc2 H1 B => ?_) (fun hc2 H1 B => ?_)
          · rw [if_pos hc2] at hk1
            have hc2_f := hc2
            try simp only [Bool.and_eq_true, Bool.or_eq_true, Bool.not_eq_true', Bool.and_eq_false_imp, Bool.or_eq_false_iff, Bool.not_eq_false', decide_eq_true_eq, decide_eq_false_iff_not] at hc2_f
            refine q_app (f := true) B rfl (ev_tup (ds := [eI i_1, eI j_1]) (B.live true) (ea_cons (ev_sc B rfl (.int _)) (ea_cons (ev_sc B rfl (.int _)) ea_nil)) (by simp)) (by first | omega | (simp; done) | (simp; omega) | exact cutG_le' (by omega) | (simp at *; omega)) fun H1 B => ?_
            have B : Bs _ _ _ [.va false ((eL eS) old), .va false ((eL eS) new), .va true ((eL (eL eI)) (m__common_lengths old new)), .va true (eI i_1), .va true (eI j_1), .ow true a1 ((pairs_1 ++ [(i_1, j_1)]).map (eT2 eI eI))] := B.le (.cons (.refl _) (.cons (.refl _) (.cons (.refl _) (.cons (.refl _) (.cons (.refl _) (.cons (.eqo (by simp)) .nil))))))
            refine q_asg (f := true) B (ev_I0 (ev_sc B rfl (.int _)) ev_int) fun σ1 H1 B => ?_
            have B : Bs _ _ _ [.va false ((eL eS) old), .va false ((eL eS) new), .va true ((eL (eL eI)) (m__common_lengths old new)), .va true (eI (i_1 + (1 : Int))), .va true (eI j_1), .ow true a1 ((pairs_1 ++ [(i_1, j_1)]).map (eT2 eI eI))] := B
            refine q_asg (f := true) B (ev_I0 (ev_sc B rfl (.int _)) ev_int) fun σ1 H1 B => ?_
            have B : Bs _ _ _ [.va false ((eL eS) old), .va false ((eL eS) new), .va true ((eL (eL eI)) (m__common_lengths old new)), .va true (eI (i_1 + (1 : Int))), .va true (eI (j_1 + (1 : Int))), .ow true a1 ((pairs_1 ++ [(i_1, j_1)]).map (eT2 eI eI))] := B
            exact ⟨_, hk1.symm, (by simp at *; omega), B.le (.cons (.refl _) (.cons (.refl _) (.cons (.refl _) (.cons (.refl _) (.cons (.refl _) (.cons (.refl _) .nil))))))⟩
          · rw [if_neg (show ¬ (decide ((getI old i_1) = (getI new j_1))) = true from by rw [hc2]; exact Bool.false_ne_true)] at hk1
            have hc2_f := hc2
            try simp only [Bool.and_eq_true, Bool.or_eq_true, Bool.not_eq_true', Bool.and_eq_false_imp, Bool.or_eq_false_iff, Bool.not_eq_false', decide_eq_true_eq, decide_eq_false_iff_not] at hc2_f
            refine q_if B (et_test (ev_B0 ((ev_ixM (em := eI) (xs := (getI (m__common_lengths old new) (i_1 + (1 : Int)))) (ev_ixM (em := (eL eI)) (xs := (m__common_lengths old new)) ((ev_va B rfl).w0) (ev_I0 (ev_sc B rfl (.int _)) ev_int) (show inB (m__common_lengths old new) (i_1 + (1 : Int)) from by first | assumption | (unfold inB; first | omega | (rw [t0]; omega) | (rw [t1 _ (by omega) (by omega)]; omega)))) (ev_sc B rfl (.int _)) (show inB (getI (m__common_lengths old new) (i_1 + (1 : Int))) j_1 from by first | assumption | (unfold inB; first | omega | (rw [t0]; omega) | (rw [t1 _ (by omega) (by omega)]; omega)))).sc (.int _)) ((ev_ixM (em := eI) (xs := (getI (m__common_lengths old new) i_1)) (ev_ixM (em := (eL eI)) (xs := (m__common_lengths old new)) ((ev_va B rfl).w0) (ev_sc B rfl (.int _)) (show inB (m__common_lengths old new) i_1 from by first | assumption | (unfold inB; first | omega | (rw [t0]; omega) | (rw [t1 _ (by omega) (by omega)]; omega)))) (ev_I0 (ev_sc B rfl (.int _)) ev_int) (show inB (getI (m__common_lengths old new) i_1) (j_1 + (1 : Int)) from by first | assumption | (unfold inB; first | omega | (rw [t0]; omega) | (rw [t1 _ (by omega) (by omega)]; omega)))).sc (.int _)))) (fun hc3 H1 B => ?_) (fun hc3 H1 B => ?_)
            · rw [if_pos hc3] at hk1
              have hc3_f := hc3
              try simp only [Bool.and_eq_true, Bool.or_eq_true, Bool.not_eq_true', Bool.and_eq_false_imp, Bool.or_eq_false_iff, Bool.not_eq_false', decide_eq_true_eq, decide_eq_false_iff_not] at hc3_f
              refine q_asg (f := true) B (ev_I0 (ev_sc B rfl (.int _)) ev_int) fun σ1 H1 B => ?_
              have B : Bs _ _ _ [.va false ((eL eS) old), .va false ((eL eS) new), .va true ((eL (eL eI)) (m__common_lengths old new)), .va true (eI (i_1 + (1 : Int))), .va true (eI j_1), .ow true a1 (pairs_1.map (eT2 eI eI))] := B
              exact ⟨_, hk1.symm, (by simp at *; omega), B.le (.cons (.refl _) (.cons (.refl _) (.cons (.refl _) (.cons (.refl _) (.cons (.refl _) (.cons (.refl _) .nil))))))⟩
            · rw [if_neg (show ¬ (decide ((getI (getI (m__common_lengths old new) i_1) (j_1 + (1 : Int))) ≤ (getI (getI (m__common_lengths old new) (i_1 + (1 : Int))) j_1))) = true from by rw [hc3]; exact Bool.false_ne_true)] at hk1
              have hc3_f := hc3
              try simp only [Bool.and_eq_true, Bool.or_eq_true, Bool.not_eq_true', Bool.and_eq_false_imp, Bool.or_eq_false_iff, Bool.not_eq_false', decide_eq_true_eq, decide_eq_false_iff_not] at hc3_f
              refine q_asg (f := true) B (ev_I0 (ev_sc B rfl (.int _)) ev_int) fun σ1 H1 B => ?_
              have B : Bs _ _ _ [.va false ((eL eS) old), .va false ((eL eS) new), .va true ((eL (eL eI)) (m__common_lengths old new)), .va true (eI i_1), .va true (eI (j_1 + (1 : Int))), .ow true a1 (pairs_1.map (eT2 eI eI))] := B
              exact ⟨_, hk1.symm, (by simp at *; omega), B.le (.cons (.refl _) (.cons (.refl _) (.cons (.refl _) (.cons (.refl _) (.cons (.refl _) (.cons (.refl _) .nil))))))⟩
        · rw [← hs] at hk
          obtain ⟨pairs_r1, i_r1, j_r1⟩ := s
          try dsimp only at hk
          have B : Bs _ _ _ [.va false ((eL eS) old), .va false ((eL eS) new), .va true ((eL (eL eI)) (m__common_lengths old new)), .va true (eI i_r1), .va true (eI j_r1), .ow true a1 (pairs_r1.map (eT2 eI eI))] := B
          have B := B.le (δ' := [.va false ((eL eS) old), .va false ((eL eS) new), .va true ((eL (eL eI)) (m__common_lengths old new)), .va true (eI i_r1), .va true (eI j_r1), .va true ((eL (eT2 eI eI)) pairs_r1)]) (.cons (.refl _) (.cons (.refl _) (.cons (.refl _) (.cons (.refl _) (.cons (.refl _) (.cons (.fz _ _ _) .nil))))))
          refine q_ret (f := true) B (ev_va B rfl) fun v H1 x hv => q v H1 (e0.trans x) ?_
          rw [hk]; exact new_of hv
end
end K4
namespace K4
open PySem PySem.Spec PyProof.Rows L2 HL
open Evl (Ex)
section
variable {P : Program} {w : World} {K : PySem.W.Frag} {mg : Str → Option Value} {base : Heap}

theorem next_b {feed : List Int} {many : Int} (h : 0 < many) : 0 ≤ (m__law_next feed many).1 ∧ (m__law_next feed many).1 < many := by
  unfold m__law_next
  simp only
  split
  · exact ⟨Int.le_refl _, h⟩
  · exact fmod_b h
theorem next_l {feed : List Int} {many : Int} (h : 1 ≤ feed.length) (hm : 0 < many) : 1 ≤ (m__law_next feed many).2.length := by
  have q := whileF_post (c := l__law_next_1_c) (f := l__law_next_1) (I := fun s => 1 ≤ s.length) (M := l__law_next_1_m) (fun s hs hc => ?_) (l__law_next_1_m feed) feed h (Nat.le_refl _)
  · unfold m__law_next
    generalize whileF l__law_next_1_c l__law_next_1 (l__law_next_1_m feed) feed = s at q
    have q1 := q.1
    simp only
    split
    · exact q1
    · simp only [setI_len]; exact q1
  · simp only [l__law_next_1_c, Bool.and_eq_true, decide_eq_true_eq] at hc
    simp only [l__law_next_1, l__law_next_1_m, setI_len, List.length_eraseIdx]
    split <;> omega
theorem fold_E {β γ : Type} {nx : List γ → Int → β × List γ} : ∀ (l : List Int) (p : List β × List γ), ((l.foldl (stepE nx) p).1.length = p.1.length + l.length) ∧ ∀ y ∈ (l.foldl (stepE nx) p).1, y ∈ p.1 ∨ ∃ gs k, k ∈ l ∧ y = (nx gs k).1
  | [], p => ⟨by simp, fun y hy => .inl hy⟩
  | k :: l, p => by
    obtain ⟨h1, h2⟩ := fold_E l (stepE nx p k)
    rw [List.foldl_cons]
    refine ⟨by rw [h1]; simp [stepE]; omega, fun y hy => ?_⟩
    rcases h2 y hy with h | ⟨gs, k', hk, e⟩
    · simp only [stepE] at h
      rcases List.mem_append.mp h with h | h
      · exact .inl h
      · simp at h; exact .inr ⟨p.2, k, by simp, h⟩
    · exact .inr ⟨gs, k', by simp [hk], e⟩
theorem fold_E0 {β γ : Type} {nx : List γ → Int → β × List γ} {l : List Int} {ys : List β} {gs gs' : List γ} (h : (ys, gs') = l.foldl (stepE nx) ([], gs)) : ys.length = l.length ∧ ∀ y ∈ ys, ∃ gs k, k ∈ l ∧ y = (nx gs k).1 := by
  obtain ⟨h1, h2⟩ := fold_E (nx := nx) l ([], gs)
  rw [← h] at h1 h2
  refine ⟨by simpa using h1, fun y hy => ?_⟩
  rcases h2 y hy with h | h
  · simp at h
  · exact h
theorem fold_EJ {β γ : Type} {nx : List γ → Int → β × List γ} {J : List γ → Prop} (h : ∀ gs k, J gs → J (nx gs k).2) : ∀ (l : List Int) (ys : List β) (gs : List γ), J gs → J (l.foldl (stepE nx) (ys, gs)).2
  | [], ys, gs, q => q
  | k :: l, ys, gs, q => by
    rw [List.foldl_cons]
    exact fold_EJ h l _ _ (h _ _ q)
theorem getI_all {α : Type} [Inhabited α] {p : α → Prop} {xs : List α} {m : Int} (h : ∀ x ∈ xs, p x) (d : p default) : p (getI xs m) := by
  unfold getI
  cases e : atI xs m with
  | none => exact d
  | some y =>
    unfold atI at e
    obtain ⟨j, _, q⟩ := Option.bind_eq_some_iff.mp e
    exact h y (List.mem_of_getElem? q)
theorem g8 (m : Int) : 0 ≤ getI [(2 : Int), 3, 1, 4, 0, 3, 2, 4] m ∧ getI [(2 : Int), 3, 1, 4, 0, 3, 2, 4] m ≤ 4 := getI_all (p := fun (x : Int) => 0 ≤ x ∧ x ≤ 4) (by decide) (by decide)
theorem ok_def : PyData.strOk (default : Str) = true := by decide +kernel
def l_matched_1_c (old_ : (List Str)) (new_ : (List Str)) (s : (List (Int × Int)) × Int × Int) : Bool :=
  match s with
  | (pairs_1, i_1, j_1) => ((decide (i_1 < (List.length old_ : Int))) && (decide (j_1 < (List.length new_ : Int))))

def l_matched_1 (old_ : (List Str)) (new_ : (List Str)) (s : (List (Int × Int)) × Int × Int) : (List (Int × Int)) × Int × Int :=
  match s with
  | (pairs_1, i_1, j_1) => (if (decide ((getI old_ i_1) = (getI new_ j_1))) = true then ((pairs_1 ++ [(i_1, j_1)]), (i_1 + (1 : Int)), (j_1 + (1 : Int))) else (if (decide ((getI (getI (m__common_lengths (old_) (new_)) i_1) (j_1 + (1 : Int))) ≤ (getI (getI (m__common_lengths (old_) (new_)) (i_1 + (1 : Int))) j_1))) = true then (pairs_1, (i_1 + (1 : Int)), j_1) else (pairs_1, i_1, (j_1 + (1 : Int)))))

def l_matched_1_m (old_ : (List Str)) (new_ : (List Str)) (s : (List (Int × Int)) × Int × Int) : Nat :=
  match s with
  | (pairs_1, i_1, j_1) => (old_.length + new_.length - i_1 - j_1).toNat

def m_matched (old_ : (List Str)) (new_ : (List Str)) : (List (Int × Int)) :=
  (match (whileF (l_matched_1_c old_ new_) (l_matched_1 old_ new_) (l_matched_1_m old_ new_ ([], (0 : Int), (0 : Int))) ([], (0 : Int), (0 : Int))) with | (pairs_r1, i_r1, j_r1) => pairs_r1)

abbrev s_matched : Stmt := topS 1

abbrev N_matched : List Str := ["old", "new", "lengths", "pairs", "i", "j"]

theorem sc_matched : FnScope N_matched ["old", "new"] (defScope s_matched) := ⟨rfl, rfl, rfl, by decide +kernel, rfl, by decide +kernel, by decide +kernel⟩

def r_matched : List PyData → PyData → Prop := fun ds d => ∃ (old_ : (List Str)) (new_ : (List Str)), ds = [(eL eS) old_, (eL eS) new_] ∧ (old_.length ≤ 1000) ∧ (new_.length ≤ 1000) ∧ d = (eL (eT2 eI eI)) (m_matched old_ new_)

set_option maxHeartbeats 8000000 in
theorem ok_matched {f : Addr} {fd : FuncData} {k : Nat} (F : Fun K "matched" "matched" s_matched f fd) {f__common_lengths : Addr} {fd__common_lengths : FuncData} {k__common_lengths : Nat} (F__common_lengths : Fun K "_common_lengths" "_common_lengths" s__common_lengths f__common_lengths fd__common_lengths) (b__common_lengths : Binds K fd__common_lengths ["old", "new"] []) (g__common_lengths : mg "_common_lengths" = some (.ref f__common_lengths)) (G__common_lengths : FnOk P w K mg base CX0 k__common_lengths f__common_lengths fd__common_lengths ["old", "new"] (SpF r__common_lengths)) (k__common_lengths_ : k__common_lengths ≤ k) (m_len : mg "len" = none) : FnOk P w K mg base CX0 (k + 1) f fd ["old", "new"] (SpF r_matched) := by
  refine F.ok sc_matched (fun vs H Q E h => ?_) (fun cdv A outer s H vs Q E hr h => ?_)
  · obtain ⟨ds, d, hd, ⟨old_, new_, rfl, h1, h2, rfl⟩, _⟩ := h
    exact hd.length
  · obtain ⟨ds, d, hd, ⟨old_, new_, rfl, h1, h2, rfl⟩, q⟩ := h
    refine ⟨_, (pss_cons (ps_set (i := 2) sc_matched.nd rfl (Or.inl rfl) (pe_call G__common_lengths (hr.mono k__common_lengths_) (by rfl) g__common_lengths F__common_lengths.kp b__common_lengths .nil pass0 (pa_cons (pv 0) (pa_cons (pv 1) pa_nil)))) (pss_cons (ps_set (i := 3) sc_matched.nd rfl (Or.inl rfl) (pe_lst pa_nil)) (pss_cons (ps_asg2 pe_int (pg_name (i := 4) sc_matched.nd rfl (Or.inl rfl)) (pg_name (i := 5) sc_matched.nd rfl (Or.inl rfl))) (pss_cons (ps_while PassesOwn.never (PW.pt (pw_and (pt_cmpR (op_lt) (pv 4) (pe_callB (r := rLenK K) call_len_seq (by rfl) m_len PySem.boot_len (pa_cons (pv 0) pa_nil)) (nomark _)) (pw_and1 (pt_cmpR (op_lt) (pv 5) (pe_callB (r := rLenK K) call_len_seq (by rfl) m_len PySem.boot_len (pa_cons (pv 1) pa_nil)) (nomark _))))) (pss_cons (ps_if (pt_cmpR (op_eq) (pe_ix (r := rIxL K) ix_list (pv 0) (pv 4) (fun _ _ => rfl)) (pe_ix (r := rIxL K) ix_list (pv 1) (pv 5) (fun _ _ => rfl)) (nomark _)) (pss_cons (ps_expr (pe_bm PySem.F.plainAttrs_list PySem.F.slot_list_append PySem.F.type_list_append mt_append (pv 3) (pa_cons (pe_tup (pa_cons (pv 4) (pa_cons (pv 5) pa_nil))) pa_nil))) (pss_cons (ps_aug (i := 4) sc_matched.nd rfl (Or.inl rfl) pe_int ip_add) (pss_cons (ps_aug (i := 5) sc_matched.nd rfl (Or.inl rfl) pe_int ip_add) pss_nil))) (pss_cons (ps_if (pt_cmpR (op_ge) (pe_ix (r := rIxL K) ix_list (pe_ix (r := rIxL K) ix_list (pv 2) (pe_op op_add (pv 4) pe_int) (fun _ _ => rfl)) (pv 5) (fun _ _ => rfl)) (pe_ix (r := rIxL K) ix_list (pe_ix (r := rIxL K) ix_list (pv 2) (pv 4) (fun _ _ => rfl)) (pe_op op_add (pv 5) pe_int) (fun _ _ => rfl)) (nomark _)) (pss_cons (ps_aug (i := 4) sc_matched.nd rfl (Or.inl rfl) pe_int ip_add) pss_nil) (pss_cons (ps_aug (i := 5) sc_matched.nd rfl (Or.inl rfl) pe_int ip_add) pss_nil)) pss_nil)) pss_nil)) (pss_cons (ps_ret (pv 3)) pss_nil))))), ?_⟩
    have e0 : Ex H H := Ex.refl H
    have B := bs_F hd (N := N_matched) (by rw [hd.length]; exact Nat.le_of_ble_eq_true rfl)
    have B : Bs _ _ _ [.va false ((eL eS) old_), .va false ((eL eS) new_), .no, .no, .no, .no] := B
    have hk : m_matched old_ new_ = (match (whileF (l_matched_1_c old_ new_) (l_matched_1 old_ new_) (l_matched_1_m old_ new_ ([], (0 : Int), (0 : Int))) ([], (0 : Int), (0 : Int))) with | (pairs_r1, i_r1, j_r1) => pairs_r1) := rfl
    have d1 := dim_common old_ new_
    have t1 : ∀ i : Int, 0 ≤ i → i ≤ old_.length → (getI (m__common_lengths old_ new_) i).length = new_.length + 1 := fun i h0 h1 => d1.2 _ (getI_mem (by unfold inB; rw [d1.1]; omega))
    have t0 := d1.1
    refine q_asg (f := true) B (ev_callF (B.live true) (ea_cons ((ev_va B rfl).w0) (ea_cons ((ev_va B rfl).w0) ea_nil)) ⟨old_, new_, rfl, by first | assumption | omega | (simp at *; omega), by first | assumption | omega | (simp at *; omega), rfl⟩) fun σ1 H1 B => ?_
    have B : Bs _ _ _ [.va false ((eL eS) old_), .va false ((eL eS) new_), .va true ((eL (eL eI)) (m__common_lengths (old_) (new_))), .no, .no, .no] := B
    refine q_asgN (f := true) B (en_lstM (em := (eT2 eI eI)) (xs := []) ea_nil (by simp)) fun a1 σ1 H1 B => ?_
    have B : Bs _ _ _ [.va false ((eL eS) old_), .va false ((eL eS) new_), .va true ((eL (eL eI)) (m__common_lengths (old_) (new_))), .ow true a1 (([]).map (eT2 eI eI)), .no, .no] := B
    refine q_asg2 (f := true) B ev_int fun σ1 H1 B => ?_
    have B : Bs _ _ _ [.va false ((eL eS) old_), .va false ((eL eS) new_), .va true ((eL (eL eI)) (m__common_lengths (old_) (new_))), .ow true a1 (([]).map (eT2 eI eI)), .va true (eI (0 : Int)), .va true (eI (0 : Int))] := B
    refine q_whileM (fun (s : (List (Int × Int)) × Int × Int) => [.va false ((eL eS) old_), .va false ((eL eS) new_), .va true ((eL (eL eI)) (m__common_lengths (old_) (new_))), .ow true a1 (s.1.map (eT2 eI eI)), .va true (eI s.2.1), .va true (eI s.2.2)]) (l_matched_1_c old_ new_) (l_matched_1 old_ new_) (l_matched_1_m old_ new_) ([], (0 : Int), (0 : Int)) (fun s => 0 ≤ s.2.1 ∧ s.2.1 ≤ old_.length ∧ 0 ≤ s.2.2 ∧ s.2.2 ≤ new_.length ∧ (s.1.length : Int) ≤ s.2.1) B (.cons (.refl _) (.cons (.refl _) (.cons (.refl _) (.cons (.refl _) (.cons (.refl _) (.cons (.refl _) .nil)))))) (by simp) (fun B0 e1 s σ1 H1 hJ B => ?_) (fun s hJ hc => ?_) (fun B0 e1 s σ1 H1 hJ hc B => ?_) (fun s σ1 H1 hs hc hJ B => ?_)
    · obtain ⟨pairs_1, i_1, j_1⟩ := s
      have B : Bs _ _ _ [.va false ((eL eS) old_), .va false ((eL eS) new_), .va true ((eL (eL eI)) (m__common_lengths (old_) (new_))), .ow true a1 (pairs_1.map (eT2 eI eI)), .va true (eI i_1), .va true (eI j_1)] := B
      simp only at hJ
      obtain ⟨j1, j2, j3, j4, j5⟩ := hJ
      exact (et_and (et_test (ev_B0 (ev_sc B rfl (.int _)) (ev_lenM ((ev_va B rfl).w0)))) fun hc => (et_test (ev_B0 (ev_sc B rfl (.int _)) (ev_lenM ((ev_va B rfl).w0)))))
    · obtain ⟨pairs_1, i_1, j_1⟩ := s
      have hw : ((decide (i_1 < (List.length old_ : Int))) && (decide (j_1 < (List.length new_ : Int)))) = true := hc
      have hw_f := hw
      try simp only [Bool.and_eq_true, Bool.or_eq_true, Bool.not_eq_true', Bool.and_eq_false_imp, Bool.or_eq_false_iff, Bool.not_eq_false', decide_eq_true_eq, decide_eq_false_iff_not] at hw_f
      simp only at hJ
      obtain ⟨j1, j2, j3, j4, j5⟩ := hJ
      simp only [l_matched_1, l_matched_1_m]
      split
      · simp only; omega
      · split <;> simp only <;> omega
    · obtain ⟨pairs_1, i_1, j_1⟩ := s
      have B : Bs _ _ _ [.va false ((eL eS) old_), .va false ((eL eS) new_), .va true ((eL (eL eI)) (m__common_lengths (old_) (new_))), .ow true a1 (pairs_1.map (eT2 eI eI)), .va true (eI i_1), .va true (eI j_1)] := B
      have hw : ((decide (i_1 < (List.length old_ : Int))) && (decide (j_1 < (List.length new_ : Int)))) = true := hc
      have hw_f := hw
      try simp only [Bool.and_eq_true, Bool.or_eq_true, Bool.not_eq_true', Bool.and_eq_false_imp, Bool.or_eq_false_iff, Bool.not_eq_false', decide_eq_true_eq, decide_eq_false_iff_not] at hw_f
      have e0 := e0.trans e1
      have hk1 : l_matched_1 old_ new_ (pairs_1, i_1, j_1) = (if (decide ((getI old_ i_1) = (getI new_ j_1))) = true then ((pairs_1 ++ [(i_1, j_1)]), (i_1 + (1 : Int)), (j_1 + (1 : Int))) else (if (decide ((getI (getI (m__common_lengths (old_) (new_)) i_1) (j_1 + (1 : Int))) ≤ (getI (getI (m__common_lengths (old_) (new_)) (i_1 + (1 : Int))) j_1))) = true then (pairs_1, (i_1 + (1 : Int)), j_1) else (pairs_1, i_1, (j_1 + (1 : Int))))) := rfl
      simp only at hJ
      obtain ⟨j1, j2, j3, j4, j5⟩ := hJ
      refine q_if B (et_test (ev_eqS ((ev_ixM (em := eS) (xs := old_) ((ev_va B rfl).w0) (ev_sc B rfl (.int _)) (show inB old_ i_1 from by first | assumption | (unfold inB; first | omega | (rw [t0]; omega) | (rw [t1 _ (by omega) (by omega)]; omega)))).sc (.str _)) ((ev_ixM (em := eS) (xs := new_) ((ev_va B rfl).w0) (ev_sc B rfl (.int _)) (show inB new_ j_1 from by first | assumption | (unfold inB; first | omega | (rw [t0]; omega) | (rw [t1 _ (by omega) (by omega)]; omega)))).sc (.str _)))) (fun hc2 H1 B => ?_) (fun hc2 H1 B => ?_)
      · rw [if_pos hc2] at hk1
        have hc2_f := hc2
        try simp only [Bool.and_eq_true, Bool.or_eq_true, Bool.not_eq_true', Bool.and_eq_false_imp, Bool.or_eq_false_iff, Bool.not_eq_false', decide_eq_true_eq, decide_eq_false_iff_not] at hc2_f
        refine q_app (f := true) B rfl (ev_tup (ds := [eI i_1, eI j_1]) (B.live true) (ea_cons (ev_sc B rfl (.int _)) (ea_cons (ev_sc B rfl (.int _)) ea_nil)) (by simp)) (by first | omega | (simp; done) | (simp; omega) | exact cutG_le' (by omega) | (simp at *; omega)) fun H1 B => ?_
        have B : Bs _ _ _ [.va false ((eL eS) old_), .va false ((eL eS) new_), .va true ((eL (eL eI)) (m__common_lengths (old_) (new_))), .ow true a1 ((pairs_1 ++ [(i_1, j_1)]).map (eT2 eI eI)), .va true (eI i_1), .va true (eI j_1)] := B.le (.cons (.refl _) (.cons (.refl _) (.cons (.refl _) (.cons (.eqo (by simp)) (.cons (.refl _) (.cons (.refl _) .nil))))))
        refine q_aug B rfl ev_int fun σ1 H1 B => ?_
        have B : Bs _ _ _ [.va false ((eL eS) old_), .va false ((eL eS) new_), .va true ((eL (eL eI)) (m__common_lengths (old_) (new_))), .ow true a1 ((pairs_1 ++ [(i_1, j_1)]).map (eT2 eI eI)), .va true (eI (i_1 + (1 : Int))), .va true (eI j_1)] := B
        refine q_aug B rfl ev_int fun σ1 H1 B => ?_
        have B : Bs _ _ _ [.va false ((eL eS) old_), .va false ((eL eS) new_), .va true ((eL (eL eI)) (m__common_lengths (old_) (new_))), .ow true a1 ((pairs_1 ++ [(i_1, j_1)]).map (eT2 eI eI)), .va true (eI (i_1 + (1 : Int))), .va true (eI (j_1 + (1 : Int)))] := B
        exact ⟨_, hk1.symm, (by simp at *; omega), B.le (.cons (.refl _) (.cons (.refl _) (.cons (.refl _) (.cons (.refl _) (.cons (.refl _) (.cons (.refl _) .nil))))))⟩
      · rw [if_neg (show ¬ (decide ((getI old_ i_1) = (getI new_ j_1))) = true from by rw [hc2]; exact Bool.false_ne_true)] at hk1
        have hc2_f := hc2
        try simp only [Bool.and_eq_true, Bool.or_eq_true, Bool.not_eq_true', Bool.and_eq_false_imp, Bool.or_eq_false_iff, Bool.not_eq_false', decide_eq_true_eq, decide_eq_false_iff_not] at hc2_f
        refine q_if B (et_test (ev_B0 ((ev_ixM (em := eI) (xs := (getI (m__common_lengths (old_) (new_)) (i_1 + (1 : Int)))) (ev_ixM (em := (eL eI)) (xs := (m__common_lengths (old_) (new_))) ((ev_va B rfl).w0) (ev_I0 (ev_sc B rfl (.int _)) ev_int) (show inB (m__common_lengths (old_) (new_)) (i_1 + (1 : Int)) from by first | assumption | (unfold inB; first | omega | (rw [t0]; omega) | (rw [t1 _ (by omega) (by omega)]; omega)))) (ev_sc B rfl (.int _)) (show inB (getI (m__common_lengths (old_) (new_)) (i_1 + (1 : Int))) j_1 from by first | assumption | (unfold inB; first | omega | (rw [t0]; omega) | (rw [t1 _ (by omega) (by omega)]; omega)))).sc (.int _)) ((ev_ixM (em := eI) (xs := (getI (m__common_lengths (old_) (new_)) i_1)) (ev_ixM (em := (eL eI)) (xs := (m__common_lengths (old_) (new_))) ((ev_va B rfl).w0) (ev_sc B rfl (.int _)) (show inB (m__common_lengths (old_) (new_)) i_1 from by first | assumption | (unfold inB; first | omega | (rw [t0]; omega) | (rw [t1 _ (by omega) (by omega)]; omega)))) (ev_I0 (ev_sc B rfl (.int _)) ev_int) (show inB (getI (m__common_lengths (old_) (new_)) i_1) (j_1 + (1 : Int)) from by first | assumption | (unfold inB; first | omega | (rw [t0]; omega) | (rw [t1 _ (by omega) (by omega)]; omega)))).sc (.int _)))) (fun hc3 H1 B => ?_) (fun hc3 H1 B => ?_)
        · rw [if_pos hc3] at hk1
          have hc3_f := hc3
          try simp only [Bool.and_eq_true, Bool.or_eq_true, Bool.not_eq_true', Bool.and_eq_false_imp, Bool.or_eq_false_iff, Bool.not_eq_false', decide_eq_true_eq, decide_eq_false_iff_not] at hc3_f
          refine q_aug B rfl ev_int fun σ1 H1 B => ?_
          have B : Bs _ _ _ [.va false ((eL eS) old_), .va false ((eL eS) new_), .va true ((eL (eL eI)) (m__common_lengths (old_) (new_))), .ow true a1 (pairs_1.map (eT2 eI eI)), .va true (eI (i_1 + (1 : Int))), .va true (eI j_1)] := B
          exact ⟨_, hk1.symm, (by simp at *; omega), B.le (.cons (.refl _) (.cons (.refl _) (.cons (.refl _) (.cons (.refl _) (.cons (.refl _) (.cons (.refl _) .nil))))))⟩
        · rw [if_neg (show ¬ (decide ((getI (getI (m__common_lengths (old_) (new_)) i_1) (j_1 + (1 : Int))) ≤ (getI (getI (m__common_lengths (old_) (new_)) (i_1 + (1 : Int))) j_1))) = true from by rw [hc3]; exact Bool.false_ne_true)] at hk1
          have hc3_f := hc3
          try simp only [Bool.and_eq_true, Bool.or_eq_true, Bool.not_eq_true', Bool.and_eq_false_imp, Bool.or_eq_false_iff, Bool.not_eq_false', decide_eq_true_eq, decide_eq_false_iff_not] at hc3_f
          refine q_aug B rfl ev_int fun σ1 H1 B => ?_
          have B : Bs _ _ _ [.va false ((eL eS) old_), .va false ((eL eS) new_), .va true ((eL (eL eI)) (m__common_lengths (old_) (new_))), .ow true a1 (pairs_1.map (eT2 eI eI)), .va true (eI i_1), .va true (eI (j_1 + (1 : Int)))] := B
          exact ⟨_, hk1.symm, (by simp at *; omega), B.le (.cons (.refl _) (.cons (.refl _) (.cons (.refl _) (.cons (.refl _) (.cons (.refl _) (.cons (.refl _) .nil))))))⟩
    · rw [← hs] at hk
      obtain ⟨pairs_r1, i_r1, j_r1⟩ := s
      try dsimp only at hk
      have B : Bs _ _ _ [.va false ((eL eS) old_), .va false ((eL eS) new_), .va true ((eL (eL eI)) (m__common_lengths (old_) (new_))), .ow true a1 (pairs_r1.map (eT2 eI eI)), .va true (eI i_r1), .va true (eI j_r1)] := B
      have B := B.le (δ' := [.va false ((eL eS) old_), .va false ((eL eS) new_), .va true ((eL (eL eI)) (m__common_lengths (old_) (new_))), .va true ((eL (eT2 eI eI)) pairs_r1), .va true (eI i_r1), .va true (eI j_r1)]) (.cons (.refl _) (.cons (.refl _) (.cons (.refl _) (.cons (.fz _ _ _) (.cons (.refl _) (.cons (.refl _) .nil))))))
      refine q_ret (f := true) B (ev_va B rfl) fun v H1 x hv => q v H1 (e0.trans x) ?_
      rw [hk]; exact new_of hv

def m__law_new_lines (feed_ : (List Int)) : ((List Str) × (List Int)) :=
  (((rng 0 (3 : Int)).map fun (j_c : Int) => (getI (([("a" : Str), ("" : Str), ("b =|" : Str), ("<<<<<<<" : Str), ("a b" : Str), ("0" : Str), (" " : Str), ("|||||||" : Str), ("z9" : Str), ("a " : Str), ("-" : Str)]) ++ ([("=======" : Str), (">>>>>>>" : Str), ("b" : Str), ("=|>" : Str), ("abcdefghij0123456789" : Str)])) (Int.fmod (((m__law_next feed_ (16 : Int)).1) + j_c) (16 : Int)))), (m__law_next feed_ (16 : Int)).2)

abbrev s__law_new_lines : Stmt := topS 9

abbrev N__law_new_lines : List Str := ["feed", "menu", "turn", "j"]

theorem sc__law_new_lines : FnScope N__law_new_lines ["feed"] (defScope s__law_new_lines) := ⟨rfl, rfl, rfl, by decide +kernel, rfl, by decide +kernel, by decide +kernel⟩

def r__law_new_lines : List PyData → List PyData → PyData → List PyData → Prop := fun ds rs d ds' => ∃ (feed_ : (List Int)), ds = feed_.map eI ∧ rs = [] ∧ (1 ≤ feed_.length) ∧ d = (eL eS) (m__law_new_lines feed_).1 ∧ ds' = (m__law_new_lines feed_).2.map eI

set_option maxHeartbeats 8000000 in
theorem ok__law_new_lines {f : Addr} {fd : FuncData} {k : Nat} (F : Fun K "_law_new_lines" "_law_new_lines" s__law_new_lines f fd) {f__law_next : Addr} {fd__law_next : FuncData} {k__law_next : Nat} (F__law_next : Fun K "_law_next" "_law_next" s__law_next f__law_next fd__law_next) (b__law_next : Binds K fd__law_next ["feed", "many"] []) (g__law_next : mg "_law_next" = some (.ref f__law_next)) (G__law_next : FnOk P w K mg base CX0 k__law_next f__law_next fd__law_next ["feed", "many"] (SpM r__law_next)) (k__law_next_ : k__law_next ≤ k) (m_range : mg "range" = none) (m_int : mg "int" = none) : FnOk P w K mg base CX0 (k + 1) f fd ["feed"] (SpM r__law_new_lines) := by
  refine F.ok sc__law_new_lines (fun vs H Q E h => ?_) (fun cdv A outer s H vs Q E hr h => ?_)
  · obtain ⟨oa, xs, vr, o, ds, rs, d, ds', rfl, lo, ho, ha, hxs, hvr, ⟨feed_, rfl, rfl, h1, rfl, rfl⟩, _⟩ := h
    have := hvr.length
    simp at this
    simp [this]
  · obtain ⟨oa, xs, vr, o, ds, rs, d, ds', rfl, lo, ho, ha, hxs, hvr, ⟨feed_, rfl, rfl, h1, rfl, rfl⟩, q⟩ := h
    refine ⟨_, (pss_cons (ps_set (i := 1) sc__law_new_lines.nd rfl (Or.inr rfl) (pe_lst (pa_cons pe_str (pa_cons pe_str (pa_cons pe_str (pa_cons pe_str (pa_cons pe_str (pa_cons pe_str (pa_cons pe_str (pa_cons pe_str (pa_cons pe_str (pa_cons pe_str (pa_cons pe_str pa_nil))))))))))))) (pss_cons (ps_set (i := 1) sc__law_new_lines.nd rfl (Or.inr rfl) (pe_op op_cat (pv 1) (pe_lst (pa_cons pe_str (pa_cons pe_str (pa_cons pe_str (pa_cons pe_str (pa_cons pe_str pa_nil)))))))) (pss_cons (ps_set (i := 2) sc__law_new_lines.nd rfl (Or.inr rfl) (pe_call G__law_next (hr.mono k__law_next_) (by rfl) g__law_next F__law_next.kp b__law_next .nil pass0 (pa_cons (pv 0) (pa_cons pe_int pa_nil)))) (pss_cons (ps_ret (pe_lc (own := [("j", 3)]) (g := gName 3) (tt := tYes) rfl sc__law_new_lines.nd (pi_range1 rfl m_range (pa_cons pe_int pa_nil)) (blkOk_by (own := [("j", 3)]) (N := N__law_new_lines) (sc := defScope s__law_new_lines) (by decide +kernel)) (fun _ _ _ _ _ => pg_name (i := 3) sc__law_new_lines.nd rfl (Or.inl rfl)) (fun _ _ _ _ _ => pts_nil) (fun _ _ _ _ _ => (pe_ix (r := rIxL K) ix_list (pv 1) (pe_op op_modN (pe_callTy call_int1 (by rfl) m_int (by decide +kernel) (pa_cons (pe_op op_add (pv 2) (pv 3)) pa_nil)) pe_int) (fun _ _ => rfl))))) pss_nil)))), ?_⟩
    have B := bs_M (N := N__law_new_lines) lo ho ha hxs hvr (by intro d hd; simp at hd <;> first | (subst hd; constructor) | (rcases hd with hd | hd <;> subst hd <;> constructor)) (by rw [hvr.length]; exact Nat.le_of_ble_eq_true rfl)
    have B : Bs _ _ _ [.ow true oa (feed_.map eI), .no, .no, .no] := B
    have e0 : Ex (hid (fun b => b = oa) H) (hid (fun b => b = oa) H) := Ex.refl _
    have hk : m__law_new_lines feed_ = (((rng 0 (3 : Int)).map fun (j_c : Int) => (getI (([("a" : Str), ("" : Str), ("b =|" : Str), ("<<<<<<<" : Str), ("a b" : Str), ("0" : Str), (" " : Str), ("|||||||" : Str), ("z9" : Str), ("a " : Str), ("-" : Str)]) ++ ([("=======" : Str), (">>>>>>>" : Str), ("b" : Str), ("=|>" : Str), ("abcdefghij0123456789" : Str)])) (Int.fmod (((m__law_next feed_ (16 : Int)).1) + j_c) (16 : Int)))), (m__law_next feed_ (16 : Int)).2) := rfl
    refine q_asg (f := true) B ((en_lstM (em := eS) (xs := [("a" : Str), ("" : Str), ("b =|" : Str), ("<<<<<<<" : Str), ("a b" : Str), ("0" : Str), (" " : Str), ("|||||||" : Str), ("z9" : Str), ("a " : Str), ("-" : Str)]) (ea_cons ev_str (ea_cons ev_str (ea_cons ev_str (ea_cons ev_str (ea_cons ev_str (ea_cons ev_str (ea_cons ev_str (ea_cons ev_str (ea_cons ev_str (ea_cons ev_str (ea_cons ev_str ea_nil))))))))))) (by simp)).ev (B.live true)) fun σ1 H1 B => ?_
    have B : Bs _ _ _ [.ow true oa (feed_.map eI), .va true ((eL eS) ([("a" : Str), ("" : Str), ("b =|" : Str), ("<<<<<<<" : Str), ("a b" : Str), ("0" : Str), (" " : Str), ("|||||||" : Str), ("z9" : Str), ("a " : Str), ("-" : Str)])), .no, .no] := B
    refine q_asg (f := true) B (((en_catM ((ev_va B rfl).w0) ((en_lstM (em := eS) (xs := [("=======" : Str), (">>>>>>>" : Str), ("b" : Str), ("=|>" : Str), ("abcdefghij0123456789" : Str)]) (ea_cons ev_str (ea_cons ev_str (ea_cons ev_str (ea_cons ev_str (ea_cons ev_str ea_nil))))) (by simp)).ev live0) (by first | omega | (simp; done) | (simp; omega) | exact cutG_le' (by omega) | (simp at *; omega))).scL (fun _ => (.str _))).ev (B.live true)) fun σ1 H1 B => ?_
    have B : Bs _ _ _ [.ow true oa (feed_.map eI), .va true ((eL eS) (([("a" : Str), ("" : Str), ("b =|" : Str), ("<<<<<<<" : Str), ("a b" : Str), ("0" : Str), (" " : Str), ("|||||||" : Str), ("z9" : Str), ("a " : Str), ("-" : Str)]) ++ ([("=======" : Str), (">>>>>>>" : Str), ("b" : Str), ("=|>" : Str), ("abcdefghij0123456789" : Str)]))), .no, .no] := B
    refine q_asgM (em_call B rfl (ea_cons ev_int ea_nil) ⟨feed_, (16 : Int), rfl, rfl, by first | assumption | omega | exact next_l (by assumption) (by omega) | exact next_l (next_l (by assumption) (by omega)) (by omega), by first | assumption | omega | exact next_l (by assumption) (by omega) | exact next_l (next_l (by assumption) (by omega)) (by omega), by first | assumption | omega | exact next_l (by assumption) (by omega) | exact next_l (next_l (by assumption) (by omega)) (by omega), rfl, rfl⟩) fun σ1 H1 B => ?_
    have B : Bs _ _ _ [.ow true oa (((m__law_next feed_ (16 : Int)).2).map eI), .va true ((eL eS) (([("a" : Str), ("" : Str), ("b =|" : Str), ("<<<<<<<" : Str), ("a b" : Str), ("0" : Str), (" " : Str), ("|||||||" : Str), ("z9" : Str), ("a " : Str), ("-" : Str)]) ++ ([("=======" : Str), (">>>>>>>" : Str), ("b" : Str), ("=|>" : Str), ("abcdefghij0123456789" : Str)]))), .va true (eI ((m__law_next feed_ (16 : Int)).1)), .no] := B
    refine q_retM (i := 0) B rfl ((en_lcRM1 (g := true) (em2 := eS) (fun j_c => (getI (([("a" : Str), ("" : Str), ("b =|" : Str), ("<<<<<<<" : Str), ("a b" : Str), ("0" : Str), (" " : Str), ("|||||||" : Str), ("z9" : Str), ("a " : Str), ("-" : Str)]) ++ ([("=======" : Str), (">>>>>>>" : Str), ("b" : Str), ("=|>" : Str), ("abcdefghij0123456789" : Str)])) (Int.fmod (((m__law_next feed_ (16 : Int)).1) + j_c) (16 : Int)))) B rfl (it_R1M ev_int (by omega)) (by first | omega | (simp; done) | (simp; omega) | exact cutG_le' (by omega) | (simp at *; omega)) (fun c' j_c σ1 H1 hx B => have hx_f := rng_mem.mp hx; ((ev_ixM (em := eS) (xs := (([("a" : Str), ("" : Str), ("b =|" : Str), ("<<<<<<<" : Str), ("a b" : Str), ("0" : Str), (" " : Str), ("|||||||" : Str), ("z9" : Str), ("a " : Str), ("-" : Str)]) ++ ([("=======" : Str), (">>>>>>>" : Str), ("b" : Str), ("=|>" : Str), ("abcdefghij0123456789" : Str)]))) ((ev_va B rfl).w0) (ev_IC (ev_intI (ev_I0 (ev_sc B rfl (.int _)) (ev_sc B rfl (.int _)))) ev_int (by omega)) (show inB (([("a" : Str), ("" : Str), ("b =|" : Str), ("<<<<<<<" : Str), ("a b" : Str), ("0" : Str), (" " : Str), ("|||||||" : Str), ("z9" : Str), ("a " : Str), ("-" : Str)]) ++ ([("=======" : Str), (">>>>>>>" : Str), ("b" : Str), ("=|>" : Str), ("abcdefghij0123456789" : Str)])) (Int.fmod (((m__law_next feed_ (16 : Int)).1) + j_c) (16 : Int)) from by first | assumption | (have := fmod_b (x := (((m__law_next feed_ (16 : Int)).1) + j_c)) (m := (16 : Int)) (by omega); unfold inB; first | omega | (simp; omega) | (simp at *; omega)))).sc (.str _)))).ev (B.live true)) rfl fun v xs' H' hb hp hxs hv => q v xs' H' hb hp ?_ ?_
    · rw [hk]; exact hxs
    · rw [hk]; exact hv

def n__law_new_text_1 (shift_ : Int) (feed_g1 : (List Int)) (j_c : Int) : Int × (List Int) :=
  (((shift_ + j_c) + ((m__law_next feed_g1 (3 : Int)).1)), (m__law_next feed_g1 (3 : Int)).2)

def m__law_new_text (feed_ : (List Int)) (lines_ : (List Str)) (shift_ : Int) (most_ : Int) : ((List Str) × (List Int)) :=
  (match (List.foldl (stepE (n__law_new_text_1 shift_)) ([], (m__law_next feed_ (most_ + (1 : Int))).2) (rng 0 (most_ - ((m__law_next feed_ (most_ + (1 : Int))).1)))) with | (row_y1, feed_y1) => ((row_y1.map fun (at_c : Int) => (getI lines_ (Int.fmod at_c (3 : Int)))), feed_y1))

abbrev s__law_new_text : Stmt := topS 10

abbrev N__law_new_text : List Str := ["feed", "lines", "shift", "most", "many", "row", "j", "at"]

theorem sc__law_new_text : FnScope N__law_new_text ["feed", "lines", "shift", "most"] (defScope s__law_new_text) := ⟨rfl, rfl, rfl, by decide +kernel, rfl, by decide +kernel, by decide +kernel⟩

def r__law_new_text : List PyData → List PyData → PyData → List PyData → Prop := fun ds rs d ds' => ∃ (feed_ : (List Int)) (lines_ : (List Str)) (shift_ : Int) (most_ : Int), ds = feed_.map eI ∧ rs = [(eL eS) lines_, eI shift_, eI most_] ∧ (1 ≤ feed_.length) ∧ (lines_.length = 3) ∧ (0 ≤ most_) ∧ (most_ ≤ 100) ∧ d = (eL eS) (m__law_new_text feed_ lines_ shift_ most_).1 ∧ ds' = (m__law_new_text feed_ lines_ shift_ most_).2.map eI

set_option maxHeartbeats 8000000 in
theorem ok__law_new_text {f : Addr} {fd : FuncData} {k : Nat} (F : Fun K "_law_new_text" "_law_new_text" s__law_new_text f fd) {f__law_next : Addr} {fd__law_next : FuncData} {k__law_next : Nat} (F__law_next : Fun K "_law_next" "_law_next" s__law_next f__law_next fd__law_next) (b__law_next : Binds K fd__law_next ["feed", "many"] []) (g__law_next : mg "_law_next" = some (.ref f__law_next)) (G__law_next : FnOk P w K mg base CX0 k__law_next f__law_next fd__law_next ["feed", "many"] (SpM r__law_next)) (k__law_next_ : k__law_next ≤ k) (m_range : mg "range" = none) (m_int : mg "int" = none) : FnOk P w K mg base CX0 (k + 1) f fd ["feed", "lines", "shift", "most"] (SpM2 r__law_new_text) := by
  refine F.ok sc__law_new_text (fun vs H Q E h => ?_) (fun cdv A outer s H vs Q E hr h => ?_)
  · obtain ⟨oa, xs, vr, o, ds, rs, d, ds', rfl, lo, ho, ha, hxs, hvr, ⟨feed_, lines_, shift_, most_, rfl, rfl, h1, h2, h3, h4, rfl, rfl⟩, _⟩ := h
    have := hvr.length
    simp at this
    simp [this]
  · obtain ⟨oa, xs, vr, o, ds, rs, d, ds', rfl, lo, ho, ha, hxs, hvr, ⟨feed_, lines_, shift_, most_, rfl, rfl, h1, h2, h3, h4, rfl, rfl⟩, q⟩ := h
    refine ⟨_, (pss_cons (ps_set (i := 4) sc__law_new_text.nd rfl (Or.inl rfl) (pe_op op_sub (pv 3) (pe_call G__law_next (hr.mono k__law_next_) (by rfl) g__law_next F__law_next.kp b__law_next .nil pass0 (pa_cons (pv 0) (pa_cons (pe_op op_add (pv 3) pe_int) pa_nil))))) (pss_cons (ps_setLc (i := 5) (own := [("j", 6)]) (g := gName 6) (tt := tYes) rfl sc__law_new_text.nd rfl rfl (sw_true rfl rfl rfl (by decide +kernel)) (pi_range1 rfl m_range (pa_cons (pv 4) pa_nil)) (blkOk_by (own := [("j", 6)]) (N := N__law_new_text) (sc := defScope s__law_new_text) (by decide +kernel)) (fun _ _ _ _ _ => pg_name (i := 6) sc__law_new_text.nd rfl (Or.inl rfl)) (fun _ _ _ _ _ => pts_nil) (fun _ _ _ _ _ => (pe_op op_add (pe_op op_add (pv 2) (pv 6)) (pe_call G__law_next (hr.mono k__law_next_) (by rfl) g__law_next F__law_next.kp b__law_next .nil pass0 (pa_cons (pv 0) (pa_cons pe_int pa_nil)))))) (pss_cons (ps_ret (pe_lc (own := [("at", 7)]) (g := gName 7) (tt := tYes) rfl sc__law_new_text.nd (pi_list (pv 5)) (blkOk_by (own := [("at", 7)]) (N := N__law_new_text) (sc := defScope s__law_new_text) (by decide +kernel)) (fun _ _ _ _ _ => pg_name (i := 7) sc__law_new_text.nd rfl (Or.inl rfl)) (fun _ _ _ _ _ => pts_nil) (fun _ _ _ _ _ => (pe_ix (r := rIxL K) ix_list (pv 1) (pe_op op_modN (pe_callTy call_int1 (by rfl) m_int (by decide +kernel) (pa_cons (pv 7) pa_nil)) pe_int) (fun _ _ => rfl))))) pss_nil))), ?_⟩
    have B := bs_M2 (N := N__law_new_text) lo ho ha hxs hvr (by rw [hvr.length]; exact Nat.le_of_ble_eq_true rfl)
    have B : Bs _ _ _ [.ow true oa (feed_.map eI), .va true ((eL eS) lines_), .va true (eI shift_), .va true (eI most_), .no, .no, .no, .no] := B
    have e0 : Ex (hid (fun b => b = oa) H) (hid (fun b => b = oa) H) := Ex.refl _
    have hk : m__law_new_text feed_ lines_ shift_ most_ = (match (List.foldl (stepE (n__law_new_text_1 shift_)) ([], (m__law_next feed_ (most_ + (1 : Int))).2) (rng 0 (most_ - ((m__law_next feed_ (most_ + (1 : Int))).1)))) with | (row_y1, feed_y1) => ((row_y1.map fun (at_c : Int) => (getI lines_ (Int.fmod at_c (3 : Int)))), feed_y1)) := rfl
    have nb := next_b (feed := feed_) (many := most_ + 1) (by omega)
    refine q_asgM (em_I0r (ev_sc B rfl (.int _)) (fun H2 e2 => by have B := B.mono e2; exact (em_call B rfl (ea_cons (ev_I0 (ev_sc B rfl (.int _)) ev_int) ea_nil) ⟨feed_, (most_ + (1 : Int)), rfl, rfl, by first | assumption | omega | exact next_l (by assumption) (by omega) | exact next_l (next_l (by assumption) (by omega)) (by omega), by first | assumption | omega | exact next_l (by assumption) (by omega) | exact next_l (next_l (by assumption) (by omega)) (by omega), by first | assumption | omega | exact next_l (by assumption) (by omega) | exact next_l (next_l (by assumption) (by omega)) (by omega), rfl, rfl⟩))) fun σ1 H1 B => ?_
    have B : Bs _ _ _ [.ow true oa (((m__law_next feed_ (most_ + (1 : Int))).2).map eI), .va true ((eL eS) lines_), .va true (eI shift_), .va true (eI most_), .va true (eI (most_ - ((m__law_next feed_ (most_ + (1 : Int))).1))), .no, .no, .no] := B
    refine q_asgE (j := 6) (ci := 0) (emg := eI) (em2 := eI) (n__law_new_text_1 shift_) (fun gs => 1 ≤ gs.length) B rfl rfl (next_l h1 (by omega)) (fun gs k h => next_l h (by omega)) (it_R1M (ev_sc B rfl (.int _)) (by omega)) (by first | omega | (simp; done) | (simp; omega) | exact cutG_le' (by omega) | (simp at *; omega)) (fun c' feed_g1 j_c σ1 H1 hx hJ B => ?_) (fun row_y1 feed_y1 σ1 H1 hs hJ B => ?_)
    · have hx_f := rng_mem.mp hx
      have B : Bs _ _ _ [.ow true oa (feed_g1.map eI), .va true ((eL eS) lines_), .va true (eI shift_), .va true (eI most_), .va true (eI (most_ - ((m__law_next feed_ (most_ + (1 : Int))).1))), .no, .va true (eI j_c), .no] := B
      exact (em_I0r (ev_I0 (ev_sc B rfl (.int _)) (ev_sc B rfl (.int _))) (fun H2 e2 => by have B := B.mono e2; exact (em_call B rfl (ea_cons ev_int ea_nil) ⟨feed_g1, (3 : Int), rfl, rfl, by first | assumption | omega | exact next_l (by assumption) (by omega) | exact next_l (next_l (by assumption) (by omega)) (by omega), by first | assumption | omega | exact next_l (by assumption) (by omega) | exact next_l (next_l (by assumption) (by omega)) (by omega), by first | assumption | omega | exact next_l (by assumption) (by omega) | exact next_l (next_l (by assumption) (by omega)) (by omega), rfl, rfl⟩)))
    · rw [← hs] at hk
      try dsimp only at hk
      have B : Bs _ _ _ [.ow true oa (feed_y1.map eI), .va true ((eL eS) lines_), .va true (eI shift_), .va true (eI most_), .va true (eI (most_ - ((m__law_next feed_ (most_ + (1 : Int))).1))), .va true ((eL eI) row_y1), .no, .no] := B
      obtain ⟨x1, x2⟩ := fold_E0 hs
      rw [rng_len] at x1
      refine q_retM (i := 0) B rfl ((en_lcM1 (g := true) (em2 := eS) (fun at_c => (getI lines_ (Int.fmod at_c (3 : Int)))) B rfl (ev_va B rfl) (by first | omega | (simp; done) | (simp; omega) | exact cutG_le' (by omega) | (simp at *; omega)) (fun c' at_c σ1 H1 hx B => ((ev_ixM (em := eS) (xs := lines_) ((ev_va B rfl).w0) (ev_IC (ev_intI (ev_sc B rfl (.int _))) ev_int (by omega)) (show inB lines_ (Int.fmod at_c (3 : Int)) from by first | assumption | (have := fmod_b (x := at_c) (m := (3 : Int)) (by omega); unfold inB; first | omega | (simp; omega) | (simp at *; omega)))).sc (.str _)))).ev (B.live true)) rfl fun v xs' H' hb hp hxs hv => q v xs' H' hb hp ?_ ?_
      · rw [hk]; exact hxs
      · rw [hk]; exact hv

def n__law_new_elders_2 (k_t1 : Int) (feed_g2 : (List Int)) (j_c : Int) : Int × (List Int) :=
  (((j_c + k_t1) + ((m__law_next feed_g2 (5 : Int)).1)), (m__law_next feed_g2 (5 : Int)).2)

def l__law_new_elders_1 (name_ : Str) (lines_ : (List Str)) (s : (List Int) × (List ((List Str) × (List Str)))) (k_t1 : Int) : (List Int) × (List ((List Str) × (List Str))) :=
  match s with
  | (feed_1, elders_1) => (match (List.foldl (stepE (n__law_new_elders_2 k_t1)) ([], (m__law_new_text feed_1 lines_ (k_t1 + (1 : Int)) (5 : Int)).2) (rng 0 (List.length ((m__law_new_text feed_1 lines_ (k_t1 + (1 : Int)) (5 : Int)).1) : Int))) with | (row_y2, feed_y2) => (feed_y2, (elders_1 ++ [((m__law_new_text feed_1 lines_ (k_t1 + (1 : Int)) (5 : Int)).1, (row_y2.map fun (at_c : Int) => (getI ([("r" : Str), ("s2" : Str), name_, ("t" : Str), ("u10z" : Str)]) (Int.fmod at_c (5 : Int)))))])))

def m__law_new_elders (feed_ : (List Int)) (name_ : Str) (lines_ : (List Str)) : ((List ((List Str) × (List Str))) × (List Int)) :=
  (match (List.foldl (l__law_new_elders_1 name_ lines_) ((m__law_next feed_ (8 : Int)).2, []) (rng 0 (getI ([(2 : Int), (3 : Int), (1 : Int), (4 : Int), (0 : Int), (3 : Int), (2 : Int), (4 : Int)]) ((m__law_next feed_ (8 : Int)).1)))) with | (feed_r1, elders_r1) => (elders_r1, feed_r1))

theorem text_inv {feed : List Int} {lines : List Str} {shift most : Int} (h : 1 ≤ feed.length) (h0 : 0 ≤ most) : ((m__law_new_text feed lines shift most).1.length : Int) ≤ most ∧ 1 ≤ (m__law_new_text feed lines shift most).2.length ∧ ((∀ x ∈ lines, PyData.strOk x = true) → ∀ x ∈ (m__law_new_text feed lines shift most).1, PyData.strOk x = true) := by
  have nb := next_b (feed := feed) (many := most + 1) (by omega)
  unfold m__law_new_text
  refine ⟨?_, ?_, fun hl x hx => ?_⟩
  · simp only [List.length_map]
    rw [(fold_E _ ([], _)).1, rng_len]
    simp only [List.length_nil]
    omega
  · simp only
    exact fold_EJ (nx := n__law_new_text_1 shift) (J := fun (gs : List Int) => 1 ≤ gs.length) (fun gs k h => next_l (many := 3) h (by omega)) _ _ _ (next_l (many := most + 1) h (by omega))
  · obtain ⟨y, _, rfl⟩ := List.mem_map.mp hx
    exact getI_all (p := fun x => PyData.strOk x = true) hl ok_def


abbrev s__law_new_elders : Stmt := topS 11

abbrev N__law_new_elders : List Str := ["feed", "name", "lines", "menu", "elders", "k", "old", "row", "j", "at"]

theorem sc__law_new_elders : FnScope N__law_new_elders ["feed", "name", "lines"] (defScope s__law_new_elders) := ⟨rfl, rfl, rfl, by decide +kernel, rfl, by decide +kernel, by decide +kernel⟩

def r__law_new_elders : List PyData → List PyData → PyData → List PyData → Prop := fun ds rs d ds' => ∃ (feed_ : (List Int)) (name_ : Str) (lines_ : (List Str)), ds = feed_.map eI ∧ rs = [eS name_, (eL eS) lines_] ∧ (1 ≤ feed_.length) ∧ (lines_.length = 3) ∧ d = (eL (eT2 (eL eS) (eL eS))) (m__law_new_elders feed_ name_ lines_).1 ∧ ds' = (m__law_new_elders feed_ name_ lines_).2.map eI

set_option maxHeartbeats 8000000 in
theorem ok__law_new_elders {f : Addr} {fd : FuncData} {k : Nat} (F : Fun K "_law_new_elders" "_law_new_elders" s__law_new_elders f fd) {f__law_next : Addr} {fd__law_next : FuncData} {k__law_next : Nat} (F__law_next : Fun K "_law_next" "_law_next" s__law_next f__law_next fd__law_next) (b__law_next : Binds K fd__law_next ["feed", "many"] []) (g__law_next : mg "_law_next" = some (.ref f__law_next)) (G__law_next : FnOk P w K mg base CX0 k__law_next f__law_next fd__law_next ["feed", "many"] (SpM r__law_next)) (k__law_next_ : k__law_next ≤ k) {f__law_new_text : Addr} {fd__law_new_text : FuncData} {k__law_new_text : Nat} (F__law_new_text : Fun K "_law_new_text" "_law_new_text" s__law_new_text f__law_new_text fd__law_new_text) (b__law_new_text : Binds K fd__law_new_text ["feed", "lines", "shift", "most"] []) (g__law_new_text : mg "_law_new_text" = some (.ref f__law_new_text)) (G__law_new_text : FnOk P w K mg base CX0 k__law_new_text f__law_new_text fd__law_new_text ["feed", "lines", "shift", "most"] (SpM2 r__law_new_text)) (k__law_new_text_ : k__law_new_text ≤ k) (m_range : mg "range" = none) (m_len : mg "len" = none) (m_int : mg "int" = none) : FnOk P w K mg base CX0 (k + 1) f fd ["feed", "name", "lines"] (SpM2 r__law_new_elders) := by
  refine F.ok sc__law_new_elders (fun vs H Q E h => ?_) (fun cdv A outer s H vs Q E hr h => ?_)
  · obtain ⟨oa, xs, vr, o, ds, rs, d, ds', rfl, lo, ho, ha, hxs, hvr, ⟨feed_, name_, lines_, rfl, rfl, h1, h2, rfl, rfl⟩, _⟩ := h
    have := hvr.length
    simp at this
    simp [this]
  · obtain ⟨oa, xs, vr, o, ds, rs, d, ds', rfl, lo, ho, ha, hxs, hvr, ⟨feed_, name_, lines_, rfl, rfl, h1, h2, rfl, rfl⟩, q⟩ := h
    refine ⟨_, (pss_cons (ps_set (i := 3) sc__law_new_elders.nd rfl (Or.inr rfl) (pe_lst (pa_cons pe_str (pa_cons pe_str (pa_cons (pv 1) (pa_cons pe_str (pa_cons pe_str pa_nil))))))) (pss_cons (ps_set (i := 4) sc__law_new_elders.nd rfl (Or.inl rfl) (pe_lst pa_nil)) (pss_cons (ps_for PassesOwn.never rfl (pi_range1 rfl m_range (pa_cons (pe_ix (r := rIxL K) ix_list (pe_lst (pa_cons pe_int (pa_cons pe_int (pa_cons pe_int (pa_cons pe_int (pa_cons pe_int (pa_cons pe_int (pa_cons pe_int (pa_cons pe_int pa_nil))))))))) (pe_call G__law_next (hr.mono k__law_next_) (by rfl) g__law_next F__law_next.kp b__law_next .nil pass0 (pa_cons (pv 0) (pa_cons pe_int pa_nil))) (fun _ _ => rfl)) pa_nil)) (pg_name (i := 5) sc__law_new_elders.nd rfl (Or.inr rfl)) (pss_cons (ps_set (i := 6) sc__law_new_elders.nd rfl (Or.inl rfl) (pe_call G__law_new_text (hr.mono k__law_new_text_) (by rfl) g__law_new_text F__law_new_text.kp b__law_new_text .nil pass0 (pa_cons (pv 0) (pa_cons (pv 2) (pa_cons (pe_op op_add (pv 5) pe_int) (pa_cons pe_int pa_nil)))))) (pss_cons (ps_setLc (i := 7) (own := [("j", 8)]) (g := gName 8) (tt := tYes) rfl sc__law_new_elders.nd rfl rfl (sw_true rfl rfl rfl (by decide +kernel)) (pi_range1 rfl m_range (pa_cons (pe_callB (r := rLenK K) call_len_seq (by rfl) m_len PySem.boot_len (pa_cons (pv 6) pa_nil)) pa_nil)) (blkOk_by (own := [("j", 8)]) (N := N__law_new_elders) (sc := defScope s__law_new_elders) (by decide +kernel)) (fun _ _ _ _ _ => pg_name (i := 8) sc__law_new_elders.nd rfl (Or.inl rfl)) (fun _ _ _ _ _ => pts_nil) (fun _ _ _ _ _ => (pe_op op_add (pe_op op_add (pv 8) (pv 5)) (pe_call G__law_next (hr.mono k__law_next_) (by rfl) g__law_next F__law_next.kp b__law_next .nil pass0 (pa_cons (pv 0) (pa_cons pe_int pa_nil)))))) (pss_cons (ps_expr (pe_bm PySem.F.plainAttrs_list PySem.F.slot_list_append PySem.F.type_list_append mt_append (pv 4) (pa_cons (pe_tup (pa_cons (pv 6) (pa_cons (pe_lc (own := [("at", 9)]) (g := gName 9) (tt := tYes) rfl sc__law_new_elders.nd (pi_list (pv 7)) (blkOk_by (own := [("at", 9)]) (N := N__law_new_elders) (sc := defScope s__law_new_elders) (by decide +kernel)) (fun _ _ _ _ _ => pg_name (i := 9) sc__law_new_elders.nd rfl (Or.inl rfl)) (fun _ _ _ _ _ => pts_nil) (fun _ _ _ _ _ => (pe_ix (r := rIxL K) ix_list (pv 3) (pe_op op_modN (pe_callTy call_int1 (by rfl) m_int (by decide +kernel) (pa_cons (pv 9) pa_nil)) pe_int) (fun _ _ => rfl)))) pa_nil))) pa_nil))) pss_nil)))) (pss_cons (ps_ret (pv 4)) pss_nil)))), ?_⟩
    have B := bs_M2 (N := N__law_new_elders) lo ho ha hxs hvr (by rw [hvr.length]; exact Nat.le_of_ble_eq_true rfl)
    have B : Bs _ _ _ [.ow true oa (feed_.map eI), .va true (eS name_), .va true ((eL eS) lines_), .no, .no, .no, .no, .no, .no, .no] := B
    have e0 : Ex (hid (fun b => b = oa) H) (hid (fun b => b = oa) H) := Ex.refl _
    have hk : m__law_new_elders feed_ name_ lines_ = (match (List.foldl (l__law_new_elders_1 name_ lines_) ((m__law_next feed_ (8 : Int)).2, []) (rng 0 (getI ([(2 : Int), (3 : Int), (1 : Int), (4 : Int), (0 : Int), (3 : Int), (2 : Int), (4 : Int)]) ((m__law_next feed_ (8 : Int)).1)))) with | (feed_r1, elders_r1) => (elders_r1, feed_r1)) := rfl
    have nb := next_b (feed := feed_) (many := 8) (by omega)
    have g8h := g8 (m__law_next feed_ 8).1
    refine q_asg (f := true) B ((en_lstM (em := eS) (xs := [("r" : Str), ("s2" : Str), name_, ("t" : Str), ("u10z" : Str)]) (ea_cons ev_str (ea_cons ev_str (ea_cons (ev_sc B rfl (.str _)) (ea_cons ev_str (ea_cons ev_str ea_nil))))) (by simp)).ev (B.live true)) fun σ1 H1 B => ?_
    have B : Bs _ _ _ [.ow true oa (feed_.map eI), .va true (eS name_), .va true ((eL eS) lines_), .va true ((eL eS) ([("r" : Str), ("s2" : Str), name_, ("t" : Str), ("u10z" : Str)])), .no, .no, .no, .no, .no, .no] := B
    refine q_asgN (f := true) B (en_lstM (em := (eT2 (eL eS) (eL eS))) (xs := []) ea_nil (by simp)) fun a4 σ1 H1 B => ?_
    have B : Bs _ _ _ [.ow true oa (feed_.map eI), .va true (eS name_), .va true ((eL eS) lines_), .va true ((eL eS) ([("r" : Str), ("s2" : Str), name_, ("t" : Str), ("u10z" : Str)])), .ow true a4 (([]).map (eT2 (eL eS) (eL eS))), .no, .no, .no, .no, .no] := B
    refine q_rng1M (em_ixM ((en_lstM (em := eI) (xs := [(2 : Int), (3 : Int), (1 : Int), (4 : Int), (0 : Int), (3 : Int), (2 : Int), (4 : Int)]) (ea_cons ev_int (ea_cons ev_int (ea_cons ev_int (ea_cons ev_int (ea_cons ev_int (ea_cons ev_int (ea_cons ev_int (ea_cons ev_int ea_nil)))))))) (by simp)).ev (B.live true)) (fun p => (adr_ow (i := 0) rfl p).symm) (fun H2 e2 => by have B := B.mono e2; exact (em_call B rfl (ea_cons ev_int ea_nil) ⟨feed_, (8 : Int), rfl, rfl, by first | assumption | omega | exact next_l (by assumption) (by omega) | exact next_l (next_l (by assumption) (by omega)) (by omega), by first | assumption | omega | exact next_l (by assumption) (by omega) | exact next_l (next_l (by assumption) (by omega)) (by omega), by first | assumption | omega | exact next_l (by assumption) (by omega) | exact next_l (next_l (by assumption) (by omega)) (by omega), rfl, rfl⟩)) (show inB ([(2 : Int), (3 : Int), (1 : Int), (4 : Int), (0 : Int), (3 : Int), (2 : Int), (4 : Int)]) ((m__law_next feed_ (8 : Int)).1) from by first | assumption | (unfold inB; first | omega | (simp; omega) | (simp at *; omega)))) fun H1 B => ?_
    have B : Bs _ _ _ [.ow true oa (((m__law_next feed_ (8 : Int)).2).map eI), .va true (eS name_), .va true ((eL eS) lines_), .va true ((eL eS) ([("r" : Str), ("s2" : Str), name_, ("t" : Str), ("u10z" : Str)])), .ow true a4 (([]).map (eT2 (eL eS) (eL eS))), .no, .no, .no, .no, .no] := B
    refine q_foldR1 (fun (s : (List Int) × (List ((List Str) × (List Str)))) => [.ow true oa (s.1.map eI), .va true (eS name_), .va true ((eL eS) lines_), .va true ((eL eS) ([("r" : Str), ("s2" : Str), name_, ("t" : Str), ("u10z" : Str)])), .ow true a4 (s.2.map (eT2 (eL eS) (eL eS))), .no, .no, .no, .no, .no]) (l__law_new_elders_1 name_ lines_) ((m__law_next feed_ (8 : Int)).2, []) (fun n s => 1 ≤ s.1.length ∧ s.2.length ≤ n) B ev_int (by omega) (.cons (.refl _) (.cons (.refl _) (.cons (.refl _) (.cons (.refl _) (.cons (.refl _) (.cons (.no _) (.cons (.no _) (.cons (.no _) (.cons (.no _) (.cons (.no _) .nil)))))))))) ⟨next_l h1 (by omega), by simp⟩ (fun B0 e1 n s k_t1 σ1 H1 hx hn hJ B => ?_) (fun s σ1 H1 hs hJ B => ?_)
    · rcases s with ⟨feed_1, elders_1⟩
      have B : Bs _ _ _ [.ow true oa (feed_1.map eI), .va true (eS name_), .va true ((eL eS) lines_), .va true ((eL eS) ([("r" : Str), ("s2" : Str), name_, ("t" : Str), ("u10z" : Str)])), .ow true a4 (elders_1.map (eT2 (eL eS) (eL eS))), .va true (eI k_t1), .no, .no, .no, .no] := B
      have hx_f := rng_mem.mp hx
      try simp only [List.length_reverse, rng_len, List.length_map] at hn
      have e0 := e0.trans e1
      have hk1 : l__law_new_elders_1 name_ lines_ (feed_1, elders_1) k_t1 = (match (List.foldl (stepE (n__law_new_elders_2 k_t1)) ([], (m__law_new_text feed_1 lines_ (k_t1 + (1 : Int)) (5 : Int)).2) (rng 0 (List.length ((m__law_new_text feed_1 lines_ (k_t1 + (1 : Int)) (5 : Int)).1) : Int))) with | (row_y2, feed_y2) => (feed_y2, (elders_1 ++ [((m__law_new_text feed_1 lines_ (k_t1 + (1 : Int)) (5 : Int)).1, (row_y2.map fun (at_c : Int) => (getI ([("r" : Str), ("s2" : Str), name_, ("t" : Str), ("u10z" : Str)]) (Int.fmod at_c (5 : Int)))))]))) := rfl
      simp only at hJ
      obtain ⟨j1, j2⟩ := hJ
      have tx := text_inv (feed := feed_1) (lines := lines_) (shift := (k_t1 + (1 : Int))) (most := 5) j1 (by omega)
      have tx1 := tx.1
      have rl : (rng 0 (List.length ((m__law_new_text feed_1 lines_ (k_t1 + (1 : Int)) (5 : Int)).1) : Int)).length ≤ 10 := by rw [rng_len]; omega
      refine q_asgM (em_call2 B rfl (ea_cons (ev_va B rfl) (ea_cons (ev_I0 (ev_sc B rfl (.int _)) ev_int) (ea_cons ev_int ea_nil))) ⟨feed_1, lines_, (k_t1 + (1 : Int)), (5 : Int), rfl, rfl, j1, h2, by omega, by omega, rfl, rfl⟩) fun σ1 H1 B => ?_
      have B : Bs _ _ _ [.ow true oa (((m__law_new_text feed_1 lines_ (k_t1 + (1 : Int)) (5 : Int)).2).map eI), .va true (eS name_), .va true ((eL eS) lines_), .va true ((eL eS) ([("r" : Str), ("s2" : Str), name_, ("t" : Str), ("u10z" : Str)])), .ow true a4 (elders_1.map (eT2 (eL eS) (eL eS))), .va true (eI k_t1), .va true ((eL eS) ((m__law_new_text feed_1 lines_ (k_t1 + (1 : Int)) (5 : Int)).1)), .no, .no, .no] := B
      refine q_asgE (j := 8) (ci := 0) (emg := eI) (em2 := eI) (n__law_new_elders_2 k_t1) (fun gs => 1 ≤ gs.length) B rfl rfl tx.2.1 (fun gs k h => next_l h (by omega)) (it_R1M (ev_lenM ((ev_va B rfl).w0)) (by omega)) (by omega) (fun c' feed_g2 j_c σ1 H1 hx hJ B => ?_) (fun row_y2 feed_y2 σ1 H1 hs hJ B => ?_)
      · have hx_f := rng_mem.mp hx
        have B : Bs _ _ _ [.ow true oa (feed_g2.map eI), .va true (eS name_), .va true ((eL eS) lines_), .va true ((eL eS) ([("r" : Str), ("s2" : Str), name_, ("t" : Str), ("u10z" : Str)])), .ow true a4 (elders_1.map (eT2 (eL eS) (eL eS))), .va true (eI k_t1), .va true ((eL eS) ((m__law_new_text feed_1 lines_ (k_t1 + (1 : Int)) (5 : Int)).1)), .no, .va true (eI j_c), .no] := B
        exact (em_I0r (ev_I0 (ev_sc B rfl (.int _)) (ev_sc B rfl (.int _))) (fun H2 e2 => by have B := B.mono e2; exact (em_call B rfl (ea_cons ev_int ea_nil) ⟨feed_g2, (5 : Int), rfl, rfl, by first | assumption | omega | exact next_l (by assumption) (by omega) | exact next_l (next_l (by assumption) (by omega)) (by omega), by first | assumption | omega | exact next_l (by assumption) (by omega) | exact next_l (next_l (by assumption) (by omega)) (by omega), by first | assumption | omega | exact next_l (by assumption) (by omega) | exact next_l (next_l (by assumption) (by omega)) (by omega), rfl, rfl⟩)))
      · rw [← hs] at hk1
        try dsimp only at hk1
        have B : Bs _ _ _ [.ow true oa (feed_y2.map eI), .va true (eS name_), .va true ((eL eS) lines_), .va true ((eL eS) ([("r" : Str), ("s2" : Str), name_, ("t" : Str), ("u10z" : Str)])), .ow true a4 (elders_1.map (eT2 (eL eS) (eL eS))), .va true (eI k_t1), .va true ((eL eS) ((m__law_new_text feed_1 lines_ (k_t1 + (1 : Int)) (5 : Int)).1)), .va true ((eL eI) row_y2), .no, .no] := B
        obtain ⟨x1, x2⟩ := fold_E0 hs
        refine q_app (f := true) B rfl (ev_tup (ds := [(eL eS) ((m__law_new_text feed_1 lines_ (k_t1 + (1 : Int)) (5 : Int)).1), (eL eS) (row_y2.map fun (at_c : Int) => (getI ([("r" : Str), ("s2" : Str), name_, ("t" : Str), ("u10z" : Str)]) (Int.fmod at_c (5 : Int))))]) (B.live true) (ea_cons (ev_va B rfl) (ea_cons ((en_lcM1 (g := true) (em2 := eS) (fun at_c => (getI ([("r" : Str), ("s2" : Str), name_, ("t" : Str), ("u10z" : Str)]) (Int.fmod at_c (5 : Int)))) B rfl (ev_va B rfl) (by omega) (fun c' at_c σ1 H1 hx B => ((ev_ixM (em := eS) (xs := [("r" : Str), ("s2" : Str), name_, ("t" : Str), ("u10z" : Str)]) ((ev_va B rfl).w0) (ev_IC (ev_intI (ev_sc B rfl (.int _))) ev_int (by omega)) (show inB ([("r" : Str), ("s2" : Str), name_, ("t" : Str), ("u10z" : Str)]) (Int.fmod at_c (5 : Int)) from by first | assumption | (have := fmod_b (x := at_c) (m := (5 : Int)) (by omega); unfold inB; first | omega | (simp; omega) | (simp at *; omega)))).sc (.str _)))).ev (B.live true)) ea_nil)) (by simp)) (by first | omega | (simp; done) | (simp; omega) | exact cutG_le' (by omega) | (simp at *; omega)) fun H1 B => ?_
        have B : Bs _ _ _ [.ow true oa (feed_y2.map eI), .va true (eS name_), .va true ((eL eS) lines_), .va true ((eL eS) ([("r" : Str), ("s2" : Str), name_, ("t" : Str), ("u10z" : Str)])), .ow true a4 ((elders_1 ++ [((m__law_new_text feed_1 lines_ (k_t1 + (1 : Int)) (5 : Int)).1, (row_y2.map fun (at_c : Int) => (getI ([("r" : Str), ("s2" : Str), name_, ("t" : Str), ("u10z" : Str)]) (Int.fmod at_c (5 : Int)))))]).map (eT2 (eL eS) (eL eS))), .va true (eI k_t1), .va true ((eL eS) ((m__law_new_text feed_1 lines_ (k_t1 + (1 : Int)) (5 : Int)).1)), .va true ((eL eI) row_y2), .no, .no] := B.le (.cons (.refl _) (.cons (.refl _) (.cons (.refl _) (.cons (.refl _) (.cons (.eqo (by simp)) (.cons (.refl _) (.cons (.refl _) (.cons (.refl _) (.cons (.refl _) (.cons (.refl _) .nil))))))))))
        exact ⟨_, hk1.symm, ⟨hJ, by simp; omega⟩, B.le (.cons (.refl _) (.cons (.refl _) (.cons (.refl _) (.cons (.refl _) (.cons (.refl _) (.cons (.no _) (.cons (.no _) (.cons (.no _) (.cons (.no _) (.cons (.no _) .nil))))))))))⟩
    · rw [← hs] at hk
      try simp only [List.length_reverse, rng_len, List.length_map] at hJ
      obtain ⟨feed_r1, elders_r1⟩ := s
      try dsimp only at hk
      have B : Bs _ _ _ [.ow true oa (feed_r1.map eI), .va true (eS name_), .va true ((eL eS) lines_), .va true ((eL eS) ([("r" : Str), ("s2" : Str), name_, ("t" : Str), ("u10z" : Str)])), .ow true a4 (elders_r1.map (eT2 (eL eS) (eL eS))), .no, .no, .no, .no, .no] := B
      have B := B.le (δ' := [.ow true oa (feed_r1.map eI), .va true (eS name_), .va true ((eL eS) lines_), .va true ((eL eS) ([("r" : Str), ("s2" : Str), name_, ("t" : Str), ("u10z" : Str)])), .va true ((eL (eT2 (eL eS) (eL eS))) elders_r1), .no, .no, .no, .no, .no]) (.cons (.refl _) (.cons (.refl _) (.cons (.refl _) (.cons (.refl _) (.cons (.fz _ _ _) (.cons (.refl _) (.cons (.refl _) (.cons (.refl _) (.cons (.refl _) (.cons (.refl _) .nil))))))))))
      refine q_retM (i := 0) B rfl (ev_va B rfl) rfl fun v xs' H' hb hp hxs hv => q v xs' H' hb hp ?_ ?_
      · rw [hk]; exact hxs
      · rw [hk]; exact hv

end
end K4
namespace K4
open PySem PySem.Spec PyProof.Rows L2 HL
open Evl (Ex)
section
variable {P : Program} {w : World} {K : PySem.W.Frag} {mg : Str → Option Value} {base : Heap}

theorem lm_eq (old new : List Str) : m__law_matched old new = m_matched old new := rfl
structure MI (old new : List Str) (acc : List (Int × Int)) (i j : Int) : Prop where
  i0 : 0 ≤ i
  i1 : i ≤ old.length
  j0 : 0 ≤ j
  j1 : j ≤ new.length
  inn : ∀ p ∈ acc, 0 ≤ p.1 ∧ p.1 < old.length ∧ 0 ≤ p.2 ∧ p.2 < new.length ∧ p.2 < j
  inc : acc.Pairwise fun a b => a.2 < b.2
theorem matched_mi (old new : List Str) : ∃ i j, MI old new (m_matched old new) i j := by
  have h := whileF_post (c := l_matched_1_c old new) (f := l_matched_1 old new) (I := fun s => MI old new s.1 s.2.1 s.2.2) (M := l_matched_1_m old new) (fun s h hc => ?_) (l_matched_1_m old new ([], (0 : Int), (0 : Int))) ([], (0 : Int), (0 : Int)) ⟨by simp, by simp, by simp, by simp, by simp, by simp⟩ (Nat.le_refl _)
  · unfold m_matched
    generalize whileF (l_matched_1_c old new) (l_matched_1 old new) (l_matched_1_m old new ([], (0 : Int), (0 : Int))) ([], (0 : Int), (0 : Int)) = s at h
    obtain ⟨acc, i, j⟩ := s
    exact ⟨i, j, h.1⟩
  · obtain ⟨acc, i, j⟩ := s
    simp only [l_matched_1_c, Bool.and_eq_true, decide_eq_true_eq] at hc
    obtain ⟨a1, a2, a3, a4, a5, a6⟩ := h
    simp only at a1 a2 a3 a4 a5 a6
    simp only [l_matched_1, l_matched_1_m]
    split
    · refine ⟨⟨by simp only; omega, by simp only; omega, by simp only; omega, by simp only; omega, fun p hp => ?_, ?_⟩, by simp only; omega⟩
      · rcases List.mem_append.mp hp with q | q
        · have := a5 p q; simp only; omega
        · rw [List.mem_singleton.mp q]; simp only; omega
      · refine List.pairwise_append.mpr ⟨a6, by simp, fun x hx y hy => ?_⟩
        rw [List.mem_singleton.mp hy]
        exact (a5 x hx).2.2.2.2
    · split
      · exact ⟨⟨by simp only; omega, by simp only; omega, by simp only; omega, by simp only; omega, a5, a6⟩, by simp only; omega⟩
      · exact ⟨⟨by simp only; omega, by simp only; omega, by simp only; omega, by simp only; omega, fun p hp => by have := a5 p hp; simp only; omega, a6⟩, by simp only; omega⟩
theorem mt_in {old new : List Str} {p : Int × Int} (h : p ∈ m_matched old new) : 0 ≤ p.1 ∧ p.1 < old.length ∧ 0 ≤ p.2 ∧ p.2 < new.length := by
  obtain ⟨i, j, q⟩ := matched_mi old new
  have := q.inn p h
  omega
theorem lm_in {old new : List Str} {p : Int × Int} (h : p ∈ m__law_matched old new) : 0 ≤ p.1 ∧ p.1 < old.length ∧ 0 ≤ p.2 ∧ p.2 < new.length := mt_in h
def l_line_origins_2 (p_t1 : ((List Str) × (List Str))) (s : (List Str)) (p_t2 : (Int × Int)) : (List Str) :=
  match s with
  | found_2 => (setI found_2 p_t2.2 (getI p_t1.2 p_t2.1))

def l_line_origins_1 (text_ : (List Str)) (s : (List Str)) (p_t1 : ((List Str) × (List Str))) : (List Str) :=
  match s with
  | found_1 => (match (List.foldl (l_line_origins_2 p_t1) found_1 (m_matched (p_t1.1) (text_))) with | found_r2 => found_r2)

def m_line_origins (name_ : Str) (text_ : (List Str)) (elders_ : (List ((List Str) × (List Str)))) : (List Str) :=
  (match (List.foldl (l_line_origins_1 text_) ((List.replicate (Int.toNat (List.length text_ : Int)) ([name_])).flatten) ((elders_).reverse)) with | found_r1 => found_r1)

abbrev s_line_origins : Stmt := topS 4

abbrev N_line_origins : List Str := ["name", "text", "elders", "found", "elder", "origins", "i", "j"]

theorem sc_line_origins : FnScope N_line_origins ["name", "text", "elders"] (defScope s_line_origins) := ⟨rfl, rfl, rfl, by decide +kernel, rfl, by decide +kernel, by decide +kernel⟩

def r_line_origins : List PyData → PyData → Prop := fun ds d => ∃ (name_ : Str) (text_ : (List Str)) (elders_ : (List ((List Str) × (List Str)))), ds = [eS name_, (eL eS) text_, (eL (eT2 (eL eS) (eL eS))) elders_] ∧ (text_.length ≤ 1000) ∧ (∀ e ∈ elders_, e.1.length = e.2.length ∧ e.1.length ≤ 1000) ∧ d = (eL eS) (m_line_origins name_ text_ elders_)

set_option maxHeartbeats 8000000 in
theorem ok_line_origins {f : Addr} {fd : FuncData} {k : Nat} (F : Fun K "line_origins" "line_origins" s_line_origins f fd) {f_matched : Addr} {fd_matched : FuncData} {k_matched : Nat} (F_matched : Fun K "matched" "matched" s_matched f_matched fd_matched) (b_matched : Binds K fd_matched ["old", "new"] []) (g_matched : mg "matched" = some (.ref f_matched)) (G_matched : FnOk P w K mg base CX0 k_matched f_matched fd_matched ["old", "new"] (SpF r_matched)) (k_matched_ : k_matched ≤ k) (m_len : mg "len" = none) (m_reversed : mg "reversed" = none) : FnOk P w K mg base CX0 (k + 1) f fd ["name", "text", "elders"] (SpF r_line_origins) := by
  refine F.ok sc_line_origins (fun vs H Q E h => ?_) (fun cdv A outer s H vs Q E hr h => ?_)
  · obtain ⟨ds, d, hd, ⟨name_, text_, elders_, rfl, h1, h2, rfl⟩, _⟩ := h
    exact hd.length
  · obtain ⟨ds, d, hd, ⟨name_, text_, elders_, rfl, h1, h2, rfl⟩, q⟩ := h
    refine ⟨_, (pss_cons (ps_set (i := 3) sc_line_origins.nd rfl (Or.inl rfl) (pe_op op_rep (pe_lst (pa_cons (pv 0) pa_nil)) (pe_callB (r := rLenK K) call_len_seq (by rfl) m_len PySem.boot_len (pa_cons (pv 1) pa_nil)))) (pss_cons (ps_for PassesOwn.never rfl (pi_reversed rfl m_reversed (pa_cons (pv 2) pa_nil)) (pg_tup rfl (pgs_cons (pg_name (i := 4) sc_line_origins.nd rfl (Or.inl rfl)) (pgs_cons (pg_name (i := 5) sc_line_origins.nd rfl (Or.inl rfl)) pgs_nil))) (pss_cons (ps_for PassesOwn.never rfl (pi_list (pe_call G_matched (hr.mono k_matched_) (by rfl) g_matched F_matched.kp b_matched .nil pass0 (pa_cons (pv 4) (pa_cons (pv 1) pa_nil)))) (pg_tup rfl (pgs_cons (pg_name (i := 6) sc_line_origins.nd rfl (Or.inl rfl)) (pgs_cons (pg_name (i := 7) sc_line_origins.nd rfl (Or.inl rfl)) pgs_nil))) (pss_cons (ps_asg (pe_ix (r := rIxL K) ix_list (pv 5) (pv 6) (fun _ _ => rfl)) (pg_sub (pv 3) (pv 7) set_list)) pss_nil)) pss_nil)) (pss_cons (ps_ret (pv 3)) pss_nil))), ?_⟩
    have e0 : Ex H H := Ex.refl H
    have B := bs_F hd (N := N_line_origins) (by rw [hd.length]; exact Nat.le_of_ble_eq_true rfl)
    have B : Bs _ _ _ [.va false (eS name_), .va false ((eL eS) text_), .va false ((eL (eT2 (eL eS) (eL eS))) elders_), .no, .no, .no, .no, .no] := B
    have B : Bs _ _ _ [.va true (eS name_), .va false ((eL eS) text_), .va false ((eL (eT2 (eL eS) (eL eS))) elders_), .no, .no, .no, .no, .no] := B.le (.cons (.sc (.str _)) (.cons (.refl _) (.cons (.refl _) (.cons (.refl _) (.cons (.refl _) (.cons (.refl _) (.cons (.refl _) (.cons (.refl _) .nil))))))))
    have hk : m_line_origins name_ text_ elders_ = (match (List.foldl (l_line_origins_1 text_) ((List.replicate (Int.toNat (List.length text_ : Int)) ([name_])).flatten) ((elders_).reverse)) with | found_r1 => found_r1) := rfl
    refine q_asgN (f := true) B ((en_repM ((en_lstM (em := eS) (xs := [name_]) (ea_cons (ev_sc B rfl (.str _)) ea_nil) (by simp)).ev live0) (ev_lenM ((ev_va B rfl).w0)) (by omega) (by first | omega | (simp; done) | (simp; omega) | exact cutG_le' (by omega) | (simp at *; omega))).scL (fun _ => (.str _))) fun a1 σ1 H1 B => ?_
    have B : Bs _ _ _ [.va true (eS name_), .va false ((eL eS) text_), .va false ((eL (eT2 (eL eS) (eL eS))) elders_), .ow true a1 (((List.replicate (Int.toNat (List.length text_ : Int)) ([name_])).flatten).map eS), .no, .no, .no, .no] := B
    refine q_foldRG tgt_tup2 (fun (s : (List Str)) => [.va true (eS name_), .va false ((eL eS) text_), .va false ((eL (eT2 (eL eS) (eL eS))) elders_), .ow true a1 (s.map eS), .no, .no, .no, .no]) (l_line_origins_1 text_) ((List.replicate (Int.toNat (List.length text_ : Int)) ([name_])).flatten) (fun n s => s.length = text_.length) B (ev_va B rfl) (.cons (.refl _) (.cons (.refl _) (.cons (.refl _) (.cons (.refl _) (.cons (.no _) (.cons (.no _) (.cons (.no _) (.cons (.no _) .nil)))))))) (by simp) (fun B0 e1 n found_1 p_t1 σ1 H1 hx hn hJ B => ?_) (fun found_r1 σ1 H1 hs hJ B => ?_)
    · skip
      have B : Bs _ _ _ [.va true (eS name_), .va false ((eL eS) text_), .va false ((eL (eT2 (eL eS) (eL eS))) elders_), .ow true a1 (found_1.map eS), .va false ((eL eS) p_t1.1), .va false ((eL eS) p_t1.2), .no, .no] := B
      try simp only [List.length_reverse, rng_len, List.length_map] at hn
      have e0 := e0.trans e1
      have hk1 : l_line_origins_1 text_ found_1 p_t1 = (match (List.foldl (l_line_origins_2 p_t1) found_1 (m_matched (p_t1.1) (text_))) with | found_r2 => found_r2) := rfl
      have ex := h2 _ hx
      refine q_foldLG tgt_tup2 (fun (s : (List Str)) => [.va true (eS name_), .va false ((eL eS) text_), .va false ((eL (eT2 (eL eS) (eL eS))) elders_), .ow true a1 (s.map eS), .va false ((eL eS) p_t1.1), .va false ((eL eS) p_t1.2), .no, .no]) (l_line_origins_2 p_t1) found_1 (fun n s => s.length = text_.length) B (ev_callF (B.live true) (ea_cons ((ev_va B rfl).w0) (ea_cons ((ev_va B rfl).w0) ea_nil)) ⟨p_t1.1, text_, rfl, by first | assumption | omega | (simp at *; omega), by first | assumption | omega | (simp at *; omega), rfl⟩) (.cons (.refl _) (.cons (.refl _) (.cons (.refl _) (.cons (.refl _) (.cons (.refl _) (.cons (.refl _) (.cons (.no _) (.cons (.no _) .nil)))))))) hJ (fun B0 e1 n found_2 p_t2 σ1 H1 hx hn hJ B => ?_) (fun found_r2 σ1 H1 hs hJ B => ?_)
      · skip
        have B : Bs _ _ _ [.va true (eS name_), .va false ((eL eS) text_), .va false ((eL (eT2 (eL eS) (eL eS))) elders_), .ow true a1 (found_2.map eS), .va false ((eL eS) p_t1.1), .va false ((eL eS) p_t1.2), .va true (eI p_t2.1), .va true (eI p_t2.2)] := B
        try simp only [List.length_reverse, rng_len, List.length_map] at hn
        have e0 := e0.trans e1
        have hk2 : l_line_origins_2 p_t1 found_2 p_t2 = (setI found_2 p_t2.2 (getI p_t1.2 p_t2.1)) := rfl
        have mm := mt_in hx
        refine q_setM (f := true) B rfl ((ev_ixM (em := eS) (xs := p_t1.2) ((ev_va B rfl).w0) (ev_sc B rfl (.int _)) (show inB p_t1.2 p_t2.1 from by first | assumption | (unfold inB; first | omega | (simp; omega) | (simp at *; omega)))).sc (.str _)) (ev_sc B rfl (.int _)) (show inB found_2 p_t2.2 from by first | assumption | (unfold inB; first | omega | (simp; omega) | (simp at *; omega))) fun H1 B => ?_
        have B : Bs _ _ _ [.va true (eS name_), .va false ((eL eS) text_), .va false ((eL (eT2 (eL eS) (eL eS))) elders_), .ow true a1 ((setI found_2 p_t2.2 (getI p_t1.2 p_t2.1)).map eS), .va false ((eL eS) p_t1.1), .va false ((eL eS) p_t1.2), .va true (eI p_t2.1), .va true (eI p_t2.2)] := B
        exact ⟨_, hk2.symm, (by show (setI _ _ _).length = _; rw [setI_len]; exact hJ), B.le (.cons (.refl _) (.cons (.refl _) (.cons (.refl _) (.cons (.refl _) (.cons (.refl _) (.cons (.refl _) (.cons (.no _) (.cons (.no _) .nil))))))))⟩
      · rw [← hs] at hk1
        try simp only [List.length_reverse, rng_len, List.length_map] at hJ
        try dsimp only at hk1
        have B : Bs _ _ _ [.va true (eS name_), .va false ((eL eS) text_), .va false ((eL (eT2 (eL eS) (eL eS))) elders_), .ow true a1 (found_r2.map eS), .va false ((eL eS) p_t1.1), .va false ((eL eS) p_t1.2), .no, .no] := B
        exact ⟨_, hk1.symm, hJ, B.le (.cons (.refl _) (.cons (.refl _) (.cons (.refl _) (.cons (.refl _) (.cons (.no _) (.cons (.no _) (.cons (.no _) (.cons (.no _) .nil))))))))⟩
    · rw [← hs] at hk
      try simp only [List.length_reverse, rng_len, List.length_map] at hJ
      try dsimp only at hk
      have B : Bs _ _ _ [.va true (eS name_), .va false ((eL eS) text_), .va false ((eL (eT2 (eL eS) (eL eS))) elders_), .ow true a1 (found_r1.map eS), .no, .no, .no, .no] := B
      have B := B.le (δ' := [.va true (eS name_), .va false ((eL eS) text_), .va false ((eL (eT2 (eL eS) (eL eS))) elders_), .va true ((eL eS) found_r1), .no, .no, .no, .no]) (.cons (.refl _) (.cons (.refl _) (.cons (.refl _) (.cons (.fz _ _ _) (.cons (.refl _) (.cons (.refl _) (.cons (.refl _) (.cons (.refl _) .nil))))))))
      refine q_ret (f := true) B (ev_va B rfl) fun v H1 x hv => q v H1 (e0.trans x) ?_
      rw [hk]; exact new_of hv

def l__law_own_lines_2 (p_t1 : ((List Str) × (List Str))) (s : (List (Option Str))) (p_t2 : (Int × Int)) : (List (Option Str)) :=
  match s with
  | found_2 => (if (Option.isNone (getI found_2 p_t2.2)) = true then (setI found_2 p_t2.2 (some (getI p_t1.2 p_t2.1))) else found_2)

def l__law_own_lines_1 (text_ : (List Str)) (s : (List (Option Str))) (p_t1 : ((List Str) × (List Str))) : (List (Option Str)) :=
  match s with
  | found_1 => (match (List.foldl (l__law_own_lines_2 p_t1) found_1 (m__law_matched (p_t1.1) (text_))) with | found_r2 => found_r2)

def m__law_own_lines (name_ : Str) (text_ : (List Str)) (elders_ : (List ((List Str) × (List Str)))) : (List Str) :=
  (match (List.foldl (l__law_own_lines_1 text_) ((List.replicate (Int.toNat (List.length text_ : Int)) ([(none : (Option Str))])).flatten) elders_) with | found_r1 => (found_r1.map fun (mark_c : (Option Str)) => (if (Option.isNone mark_c) = true then name_ else (Option.getD mark_c default))))

abbrev s__law_own_lines : Stmt := topS 12

abbrev N__law_own_lines : List Str := ["name", "text", "elders", "found", "old", "marks", "i", "j", "mark"]

theorem sc__law_own_lines : FnScope N__law_own_lines ["name", "text", "elders"] (defScope s__law_own_lines) := ⟨rfl, rfl, rfl, by decide +kernel, rfl, by decide +kernel, by decide +kernel⟩

def r__law_own_lines : List PyData → PyData → Prop := fun ds d => ∃ (name_ : Str) (text_ : (List Str)) (elders_ : (List ((List Str) × (List Str)))), ds = [eS name_, (eL eS) text_, (eL (eT2 (eL eS) (eL eS))) elders_] ∧ (text_.length ≤ 1000) ∧ (∀ e ∈ elders_, e.1.length = e.2.length ∧ e.1.length ≤ 1000) ∧ d = (eL eS) (m__law_own_lines name_ text_ elders_)

set_option maxHeartbeats 8000000 in
theorem ok__law_own_lines {f : Addr} {fd : FuncData} {k : Nat} (F : Fun K "_law_own_lines" "_law_own_lines" s__law_own_lines f fd) {f__law_matched : Addr} {fd__law_matched : FuncData} {k__law_matched : Nat} (F__law_matched : Fun K "_law_matched" "_law_matched" s__law_matched f__law_matched fd__law_matched) (b__law_matched : Binds K fd__law_matched ["old", "new"] []) (g__law_matched : mg "_law_matched" = some (.ref f__law_matched)) (G__law_matched : FnOk P w K mg base CX0 k__law_matched f__law_matched fd__law_matched ["old", "new"] (SpF r__law_matched)) (k__law_matched_ : k__law_matched ≤ k) (m_len : mg "len" = none) : FnOk P w K mg base CX0 (k + 1) f fd ["name", "text", "elders"] (SpF r__law_own_lines) := by
  refine F.ok sc__law_own_lines (fun vs H Q E h => ?_) (fun cdv A outer s H vs Q E hr h => ?_)
  · obtain ⟨ds, d, hd, ⟨name_, text_, elders_, rfl, h1, h2, rfl⟩, _⟩ := h
    exact hd.length
  · obtain ⟨ds, d, hd, ⟨name_, text_, elders_, rfl, h1, h2, rfl⟩, q⟩ := h
    refine ⟨_, (pss_cons (ps_set (i := 3) sc__law_own_lines.nd rfl (Or.inl rfl) (pe_op op_rep (pe_lst (pa_cons pe_non pa_nil)) (pe_callB (r := rLenK K) call_len_seq (by rfl) m_len PySem.boot_len (pa_cons (pv 1) pa_nil)))) (pss_cons (ps_for PassesOwn.never rfl (pi_list (pv 2)) (pg_tup rfl (pgs_cons (pg_name (i := 4) sc__law_own_lines.nd rfl (Or.inl rfl)) (pgs_cons (pg_name (i := 5) sc__law_own_lines.nd rfl (Or.inl rfl)) pgs_nil))) (pss_cons (ps_for PassesOwn.never rfl (pi_list (pe_call G__law_matched (hr.mono k__law_matched_) (by rfl) g__law_matched F__law_matched.kp b__law_matched .nil pass0 (pa_cons (pv 4) (pa_cons (pv 1) pa_nil)))) (pg_tup rfl (pgs_cons (pg_name (i := 6) sc__law_own_lines.nd rfl (Or.inl rfl)) (pgs_cons (pg_name (i := 7) sc__law_own_lines.nd rfl (Or.inl rfl)) pgs_nil))) (pss_cons (ps_if (pt_cmpR (op_isN) (pe_ix (r := rIxL K) ix_list (pv 3) (pv 7) (fun _ _ => rfl)) pe_non (nomark _)) (pss_cons (ps_asg (pe_ix (r := rIxL K) ix_list (pv 5) (pv 6) (fun _ _ => rfl)) (pg_sub (pv 3) (pv 7) set_list)) pss_nil) pss_nil) pss_nil)) pss_nil)) (pss_cons (ps_ret (pe_lc (own := [("mark", 8)]) (g := gName 8) (tt := tYes) rfl sc__law_own_lines.nd (pi_list (pv 3)) (blkOk_by (own := [("mark", 8)]) (N := N__law_own_lines) (sc := defScope s__law_own_lines) (by decide +kernel)) (fun _ _ _ _ _ => pg_name (i := 8) sc__law_own_lines.nd rfl (Or.inl rfl)) (fun _ _ _ _ _ => pts_nil) (fun _ _ _ _ _ => (pe_ifExp (pt_cmpR (op_isN) (pv 8) pe_non (nomark _)) (pv 0) (pv 8))))) pss_nil))), ?_⟩
    have e0 : Ex H H := Ex.refl H
    have B := bs_F hd (N := N__law_own_lines) (by rw [hd.length]; exact Nat.le_of_ble_eq_true rfl)
    have B : Bs _ _ _ [.va false (eS name_), .va false ((eL eS) text_), .va false ((eL (eT2 (eL eS) (eL eS))) elders_), .no, .no, .no, .no, .no, .no] := B
    have B : Bs _ _ _ [.va true (eS name_), .va false ((eL eS) text_), .va false ((eL (eT2 (eL eS) (eL eS))) elders_), .no, .no, .no, .no, .no, .no] := B.le (.cons (.sc (.str _)) (.cons (.refl _) (.cons (.refl _) (.cons (.refl _) (.cons (.refl _) (.cons (.refl _) (.cons (.refl _) (.cons (.refl _) (.cons (.refl _) .nil)))))))))
    have hk : m__law_own_lines name_ text_ elders_ = (match (List.foldl (l__law_own_lines_1 text_) ((List.replicate (Int.toNat (List.length text_ : Int)) ([(none : (Option Str))])).flatten) elders_) with | found_r1 => (found_r1.map fun (mark_c : (Option Str)) => (if (Option.isNone mark_c) = true then name_ else (Option.getD mark_c default)))) := rfl
    refine q_asgN (f := true) B ((en_repM ((en_lstM (em := (eO eS)) (xs := [(none : (Option Str))]) (ea_cons ev_non ea_nil) (by simp)).ev live0) (ev_lenM ((ev_va B rfl).w0)) (by omega) (by first | omega | (simp; done) | (simp; omega) | exact cutG_le' (by omega) | (simp at *; omega))).scL (fun _ => scO)) fun a4 σ1 H1 B => ?_
    have B : Bs _ _ _ [.va true (eS name_), .va false ((eL eS) text_), .va false ((eL (eT2 (eL eS) (eL eS))) elders_), .ow true a4 (((List.replicate (Int.toNat (List.length text_ : Int)) ([(none : (Option Str))])).flatten).map (eO eS)), .no, .no, .no, .no, .no] := B
    refine q_foldLG tgt_tup2 (fun (s : (List (Option Str))) => [.va true (eS name_), .va false ((eL eS) text_), .va false ((eL (eT2 (eL eS) (eL eS))) elders_), .ow true a4 (s.map (eO eS)), .no, .no, .no, .no, .no]) (l__law_own_lines_1 text_) ((List.replicate (Int.toNat (List.length text_ : Int)) ([(none : (Option Str))])).flatten) (fun n s => s.length = text_.length) B (ev_va B rfl) (.cons (.refl _) (.cons (.refl _) (.cons (.refl _) (.cons (.refl _) (.cons (.no _) (.cons (.no _) (.cons (.no _) (.cons (.no _) (.cons (.no _) .nil))))))))) (by simp) (fun B0 e1 n found_1 p_t1 σ1 H1 hx hn hJ B => ?_) (fun found_r1 σ1 H1 hs hJ B => ?_)
    · skip
      have B : Bs _ _ _ [.va true (eS name_), .va false ((eL eS) text_), .va false ((eL (eT2 (eL eS) (eL eS))) elders_), .ow true a4 (found_1.map (eO eS)), .va false ((eL eS) p_t1.1), .va false ((eL eS) p_t1.2), .no, .no, .no] := B
      try simp only [List.length_reverse, rng_len, List.length_map] at hn
      have e0 := e0.trans e1
      have hk1 : l__law_own_lines_1 text_ found_1 p_t1 = (match (List.foldl (l__law_own_lines_2 p_t1) found_1 (m__law_matched (p_t1.1) (text_))) with | found_r2 => found_r2) := rfl
      have ex := h2 _ hx
      refine q_foldLG tgt_tup2 (fun (s : (List (Option Str))) => [.va true (eS name_), .va false ((eL eS) text_), .va false ((eL (eT2 (eL eS) (eL eS))) elders_), .ow true a4 (s.map (eO eS)), .va false ((eL eS) p_t1.1), .va false ((eL eS) p_t1.2), .no, .no, .no]) (l__law_own_lines_2 p_t1) found_1 (fun n s => s.length = text_.length) B (ev_callF (B.live true) (ea_cons ((ev_va B rfl).w0) (ea_cons ((ev_va B rfl).w0) ea_nil)) ⟨p_t1.1, text_, rfl, by first | assumption | omega | (simp at *; omega), by first | assumption | omega | (simp at *; omega), rfl⟩) (.cons (.refl _) (.cons (.refl _) (.cons (.refl _) (.cons (.refl _) (.cons (.refl _) (.cons (.refl _) (.cons (.no _) (.cons (.no _) (.cons (.no _) .nil))))))))) hJ (fun B0 e1 n found_2 p_t2 σ1 H1 hx hn hJ B => ?_) (fun found_r2 σ1 H1 hs hJ B => ?_)
      · skip
        have B : Bs _ _ _ [.va true (eS name_), .va false ((eL eS) text_), .va false ((eL (eT2 (eL eS) (eL eS))) elders_), .ow true a4 (found_2.map (eO eS)), .va false ((eL eS) p_t1.1), .va false ((eL eS) p_t1.2), .va true (eI p_t2.1), .va true (eI p_t2.2), .no] := B
        try simp only [List.length_reverse, rng_len, List.length_map] at hn
        have e0 := e0.trans e1
        have hk2 : l__law_own_lines_2 p_t1 found_2 p_t2 = (if (Option.isNone (getI found_2 p_t2.2)) = true then (setI found_2 p_t2.2 (some (getI p_t1.2 p_t2.1))) else found_2) := rfl
        have mm := lm_in hx
        refine q_if B (et_test ((ev_isN ((ev_ixOM B rfl (ev_sc B rfl (.int _)) (show inB found_2 p_t2.2 from by first | assumption | (unfold inB; first | omega | (simp; omega) | (simp at *; omega)))).sc scO)).is (congrArg (fun b => PyData.bool b) (isNO (em := eS) (fun _ => rfl) (getI found_2 p_t2.2))))) (fun hc5 H1 B => ?_) (fun hc5 H1 B => ?_)
        · rw [if_pos hc5] at hk2
          have hc5_f := hc5
          try simp only [Bool.and_eq_true, Bool.or_eq_true, Bool.not_eq_true', Bool.and_eq_false_imp, Bool.or_eq_false_iff, Bool.not_eq_false', decide_eq_true_eq, decide_eq_false_iff_not] at hc5_f
          refine q_setM (f := true) B rfl (show Ev _ _ _ _ ((eO eS) (some (getI p_t1.2 p_t2.1))) from ((ev_ixM (em := eS) (xs := p_t1.2) ((ev_va B rfl).w0) (ev_sc B rfl (.int _)) (show inB p_t1.2 p_t2.1 from by first | assumption | (unfold inB; first | omega | (simp; omega) | (simp at *; omega)))).sc (.str _))) (ev_sc B rfl (.int _)) (show inB found_2 p_t2.2 from by first | assumption | (unfold inB; first | omega | (simp; omega) | (simp at *; omega))) fun H1 B => ?_
          have B : Bs _ _ _ [.va true (eS name_), .va false ((eL eS) text_), .va false ((eL (eT2 (eL eS) (eL eS))) elders_), .ow true a4 ((setI found_2 p_t2.2 (some (getI p_t1.2 p_t2.1))).map (eO eS)), .va false ((eL eS) p_t1.1), .va false ((eL eS) p_t1.2), .va true (eI p_t2.1), .va true (eI p_t2.2), .no] := B
          exact ⟨_, hk2.symm, (by first | exact hJ | (show (setI _ _ _).length = _; rw [setI_len]; exact hJ)), B.le (.cons (.refl _) (.cons (.refl _) (.cons (.refl _) (.cons (.refl _) (.cons (.refl _) (.cons (.refl _) (.cons (.no _) (.cons (.no _) (.cons (.no _) .nil)))))))))⟩
        · rw [if_neg (show ¬ (Option.isNone (getI found_2 p_t2.2)) = true from by rw [hc5]; exact Bool.false_ne_true)] at hk2
          have hc5_f := hc5
          try simp only [Bool.and_eq_true, Bool.or_eq_true, Bool.not_eq_true', Bool.and_eq_false_imp, Bool.or_eq_false_iff, Bool.not_eq_false', decide_eq_true_eq, decide_eq_false_iff_not] at hc5_f
          exact ⟨_, hk2.symm, (by first | exact hJ | (show (setI _ _ _).length = _; rw [setI_len]; exact hJ)), B.le (.cons (.refl _) (.cons (.refl _) (.cons (.refl _) (.cons (.refl _) (.cons (.refl _) (.cons (.refl _) (.cons (.no _) (.cons (.no _) (.cons (.no _) .nil)))))))))⟩
      · rw [← hs] at hk1
        try simp only [List.length_reverse, rng_len, List.length_map] at hJ
        try dsimp only at hk1
        have B : Bs _ _ _ [.va true (eS name_), .va false ((eL eS) text_), .va false ((eL (eT2 (eL eS) (eL eS))) elders_), .ow true a4 (found_r2.map (eO eS)), .va false ((eL eS) p_t1.1), .va false ((eL eS) p_t1.2), .no, .no, .no] := B
        exact ⟨_, hk1.symm, hJ, B.le (.cons (.refl _) (.cons (.refl _) (.cons (.refl _) (.cons (.refl _) (.cons (.no _) (.cons (.no _) (.cons (.no _) (.cons (.no _) (.cons (.no _) .nil)))))))))⟩
    · rw [← hs] at hk
      try simp only [List.length_reverse, rng_len, List.length_map] at hJ
      try dsimp only at hk
      have B : Bs _ _ _ [.va true (eS name_), .va false ((eL eS) text_), .va false ((eL (eT2 (eL eS) (eL eS))) elders_), .ow true a4 (found_r1.map (eO eS)), .no, .no, .no, .no, .no] := B
      have B : Bs _ _ _ [.va true (eS name_), .va false ((eL eS) text_), .va false ((eL (eT2 (eL eS) (eL eS))) elders_), .va true ((eL (eO eS)) found_r1), .no, .no, .no, .no, .no] := B.le (.cons (.refl _) (.cons (.refl _) (.cons (.refl _) (.cons (.fz _ _ _) (.cons (.refl _) (.cons (.refl _) (.cons (.refl _) (.cons (.refl _) (.cons (.refl _) .nil)))))))))
      refine q_ret (f := true) B ((en_lcM1 (g := true) (em2 := eS) (fun mark_c => (if (Option.isNone mark_c) = true then name_ else (Option.getD mark_c default))) B rfl (ev_va B rfl) (by first | omega | (simp; done) | (simp; omega) | exact cutG_le' (by omega) | (simp at *; omega)) (fun c' mark_c σ1 H1 hx B => ((ev_if (et_test ((ev_isN (ev_sc B rfl scO)).is (congrArg (fun b => PyData.bool b) (isNO (em := eS) (fun _ => rfl) mark_c)))) (fun hc => (ev_sc B rfl (.str _))) (fun hn9 => ((ev_sc B rfl scO).is (oSome2 (d := default) hn9)))).is (by split <;> rfl)))).ev (B.live true)) fun v H1 x hv => q v H1 (e0.trans x) ?_
      rw [hk]; exact new_of hv

end
end K4
namespace K4
open PySem PySem.Spec PyProof.Rows L2 HL
abbrev Eld := List Str × List Str
theorem ixN_pos {n : Nat} {m : Int} (h0 : 0 ≤ m) (h1 : m < n) : ixN n m = some m.toNat := by
  obtain ⟨k, rfl⟩ := Int.eq_ofNat_of_zero_le h0
  rw [Evl.ixN_nat (by omega)]
  simp
theorem setI_pos {α : Type} {xs : List α} {m : Int} {x : α} (h0 : 0 ≤ m) (h1 : m < xs.length) : setI xs m x = xs.set m.toNat x := by
  unfold setI
  rw [ixN_pos h0 h1]
theorem getI_pos {α : Type} [Inhabited α] {xs : List α} {m : Int} (h0 : 0 ≤ m) (h1 : m < xs.length) : getI xs m = xs[m.toNat]'(by omega) := by
  unfold getI atI
  rw [ixN_pos h0 h1]
  simp [List.getElem?_eq_getElem (show m.toNat < xs.length by omega)]
def vl (marks : List Str) : List (Int × Int) → Nat → Option Str
  | [], _ => none
  | p :: ps, j => if p.2.toNat = j then some (getI marks p.1) else vl marks ps j
theorem vl_cons {marks : List Str} {p : Int × Int} {ps : List (Int × Int)} {j : Nat} : vl marks (p :: ps) j = if p.2.toNat = j then some (getI marks p.1) else vl marks ps j := rfl
theorem vl_none {marks : List Str} : ∀ {ps : List (Int × Int)} {j : Nat}, (∀ p ∈ ps, p.2.toNat ≠ j) → vl marks ps j = none
  | [], _, _ => rfl
  | p :: ps, j, h => by
    rw [vl_cons]
    rw [if_neg (h p (by simp)), vl_none fun q hq => h q (List.mem_cons_of_mem _ hq)]
theorem set_all (marks : List Str) : ∀ (ps : List (Int × Int)) (s : List Str), (∀ p ∈ ps, 0 ≤ p.2 ∧ p.2 < s.length) → (ps.Pairwise fun a b => a.2 < b.2) →
    (ps.foldl (fun s p => setI s p.2 (getI marks p.1)) s).length = s.length ∧ ∀ (j : Nat) (hj : j < s.length), (ps.foldl (fun s p => setI s p.2 (getI marks p.1)) s)[j]? = some ((vl marks ps j).getD s[j])
  | [], s, _, _ => ⟨rfl, fun j hj => by simp [vl, hj]⟩
  | p :: ps, s, h, w => by
    obtain ⟨w1, w2⟩ := List.pairwise_cons.mp w
    have hp := h p (by simp)
    rw [List.foldl_cons, setI_pos hp.1 hp.2]
    have hl : (s.set p.2.toNat (getI marks p.1)).length = s.length := List.length_set
    obtain ⟨a, b⟩ := set_all marks ps (s.set p.2.toNat (getI marks p.1)) (fun q hq => by rw [hl]; exact h q (List.mem_cons_of_mem _ hq)) w2
    refine ⟨by rw [a, hl], fun j hj => ?_⟩
    rw [b j (by rw [hl]; exact hj)]
    rw [vl_cons]
    by_cases e : p.2.toNat = j
    · rw [if_pos e, vl_none fun q hq => by have := w1 q hq; omega]
      subst e
      simp
    · rw [if_neg e]
      simp [List.getElem_set_ne e]
theorem opt_all (marks : List Str) : ∀ (ps : List (Int × Int)) (s : List (Option Str)), (∀ p ∈ ps, 0 ≤ p.2 ∧ p.2 < s.length) →
    (ps.foldl (fun s p => if (Option.isNone (getI s p.2)) = true then setI s p.2 (some (getI marks p.1)) else s) s).length = s.length ∧
      ∀ (j : Nat) (hj : j < s.length), (ps.foldl (fun s p => if (Option.isNone (getI s p.2)) = true then setI s p.2 (some (getI marks p.1)) else s) s)[j]? = some (match s[j] with | some x => some x | none => vl marks ps j)
  | [], s, _ => ⟨rfl, fun j hj => by cases e : s[j] <;> simp [vl, hj, e]⟩
  | p :: ps, s, h => by
    have hp := h p (by simp)
    rw [List.foldl_cons, getI_pos hp.1 hp.2, setI_pos hp.1 hp.2]
    by_cases c : (s[p.2.toNat]'(by omega)).isNone = true
    · rw [if_pos c]
      have hl : (s.set p.2.toNat (some (getI marks p.1))).length = s.length := List.length_set
      obtain ⟨a, b⟩ := opt_all marks ps (s.set p.2.toNat (some (getI marks p.1))) (fun q hq => by rw [hl]; exact h q (List.mem_cons_of_mem _ hq))
      refine ⟨by rw [a, hl], fun j hj => ?_⟩
      rw [b j (by rw [hl]; exact hj)]
      rw [vl_cons]
      by_cases e : p.2.toNat = j
      · subst e
        rw [if_pos rfl]
        have : s[p.2.toNat] = none := by simpa using c
        simp [this]
      · rw [if_neg e]
        simp [List.getElem_set_ne e]
    · rw [if_neg c]
      obtain ⟨a, b⟩ := opt_all marks ps s (fun q hq => h q (List.mem_cons_of_mem _ hq))
      refine ⟨a, fun j hj => ?_⟩
      rw [b j hj]
      rw [vl_cons]
      by_cases e : p.2.toNat = j
      · subst e
        cases q : s[p.2.toNat] with
        | none => rw [q] at c; exact absurd rfl c
        | some y => rfl
      · rw [if_neg e]
def T (text : List Str) (e : Eld) (j : Nat) : Option Str := vl e.2 (m_matched e.1 text) j
def first (text : List Str) : List Eld → Nat → Option Str
  | [], _ => none
  | e :: es, j => match T text e j with | some x => some x | none => first text es j
theorem first_cons {text : List Str} {e : Eld} {es : List Eld} {j : Nat} : first text (e :: es) j = match vl e.2 (m_matched e.1 text) j with | some x => some x | none => first text es j := rfl
theorem prog_is (name : Str) (text : List Str) : ∀ es : List Eld,
    (List.foldr (fun e s => l_line_origins_1 text s e) (List.replicate text.length name) es).length = text.length ∧
      ∀ j, j < text.length → (List.foldr (fun e s => l_line_origins_1 text s e) (List.replicate text.length name) es)[j]? = some ((first text es j).getD name)
  | [] => ⟨by simp, fun j hj => by simp [first, hj]⟩
  | e :: es => by
    obtain ⟨a, b⟩ := prog_is name text es
    rw [List.foldr_cons]
    generalize List.foldr (fun e s => l_line_origins_1 text s e) (List.replicate text.length name) es = s at a b
    obtain ⟨i0, j0, mi⟩ := matched_mi e.1 text
    obtain ⟨c, d⟩ := set_all e.2 (m_matched e.1 text) s (fun p hp => by have := mi.inn p hp; rw [a]; omega) mi.inc
    have e1 : l_line_origins_1 text s e = (m_matched e.1 text).foldl (fun s p => setI s p.2 (getI e.2 p.1)) s := rfl
    rw [e1]
    refine ⟨by rw [c, a], fun j hj => ?_⟩
    rw [d j (by rw [a]; exact hj)]
    have q := b j hj
    rw [List.getElem?_eq_getElem (by rw [a]; exact hj)] at q
    have q := Option.some.inj q
    rw [q]
    rw [first_cons]
    cases vl e.2 (m_matched e.1 text) j <;> rfl
theorem law_is (text : List Str) : ∀ (es : List Eld) (s : List (Option Str)), s.length = text.length →
    (List.foldl (l__law_own_lines_1 text) s es).length = text.length ∧
      ∀ (j : Nat) (hj : j < s.length), (List.foldl (l__law_own_lines_1 text) s es)[j]? = some (match s[j] with | some x => some x | none => first text es j)
  | [], s, h => ⟨h, fun j hj => by cases e : s[j] <;> simp [first, hj, e]⟩
  | e :: es, s, h => by
    rw [List.foldl_cons]
    obtain ⟨i0, j0, mi⟩ := matched_mi e.1 text
    obtain ⟨c, d⟩ := opt_all e.2 (m_matched e.1 text) s (fun p hp => by have := mi.inn p hp; rw [h]; omega)
    have e1 : l__law_own_lines_1 text s e = (m_matched e.1 text).foldl (fun s p => if (Option.isNone (getI s p.2)) = true then setI s p.2 (some (getI e.2 p.1)) else s) s := rfl
    rw [e1]
    generalize (m_matched e.1 text).foldl (fun s p => if (Option.isNone (getI s p.2)) = true then setI s p.2 (some (getI e.2 p.1)) else s) s = s2 at c d
    obtain ⟨a, b⟩ := law_is text es s2 (by rw [c, h])
    refine ⟨a, fun j hj => ?_⟩
    rw [b j (by rw [c]; exact hj)]
    have q := d j hj
    rw [List.getElem?_eq_getElem (by rw [c]; exact hj)] at q
    have q := Option.some.inj q
    rw [q]
    rw [first_cons]
    cases s[j] <;> cases vl e.2 (m_matched e.1 text) j <;> rfl
theorem rep_flat {α : Type} (n : Nat) (x : α) : (List.replicate n [x]).flatten = List.replicate n x := by
  induction n with
  | zero => rfl
  | succ n ih => rw [List.replicate_succ, List.replicate_succ, List.flatten_cons, ih]; rfl
theorem origins_is (name : Str) (text : List Str) (es : List Eld) : m_line_origins name text es = m__law_own_lines name text es := by
  have e1 : m_line_origins name text es = List.foldl (l_line_origins_1 text) ((List.replicate (Int.toNat (text.length : Int)) [name]).flatten) es.reverse := rfl
  have e2 : m__law_own_lines name text es = (List.foldl (l__law_own_lines_1 text) ((List.replicate (Int.toNat (text.length : Int)) [(none : Option Str)]).flatten) es).map fun m => if Option.isNone m = true then name else Option.getD m default := rfl
  rw [e1, e2, rep_flat, rep_flat, List.foldl_reverse, Int.toNat_natCast]
  obtain ⟨a, b⟩ := prog_is name text es
  obtain ⟨c, d⟩ := law_is text es (List.replicate text.length none) (by simp)
  apply List.ext_getElem?
  intro j
  by_cases hj : j < text.length
  · rw [b j hj, List.getElem?_map, d j (by simpa using hj)]
    simp only [List.getElem_replicate, Option.map_some]
    cases first text es j <;> rfl
  · rw [List.getElem?_eq_none (by rw [a]; omega), List.getElem?_eq_none (by rw [List.length_map, c]; omega)]
theorem origins_ok {name : Str} {text : List Str} {es : List Eld} (h1 : PyData.strOk name = true) (h2 : ∀ e ∈ es, ∀ x ∈ e.2, PyData.strOk x = true) : ∀ x ∈ m_line_origins name text es, PyData.strOk x = true := by
  have e1 : m_line_origins name text es = List.foldl (l_line_origins_1 text) ((List.replicate (Int.toNat (text.length : Int)) [name]).flatten) es.reverse := rfl
  rw [e1, rep_flat]
  have st : ∀ (ps : List (Int × Int)) (marks s : List Str), (∀ x ∈ marks, PyData.strOk x = true) → (∀ x ∈ s, PyData.strOk x = true) → ∀ x ∈ ps.foldl (fun s p => setI s p.2 (getI marks p.1)) s, PyData.strOk x = true := by
    intro ps marks
    induction ps with
    | nil => intro s _ h; exact h
    | cons p ps ih =>
      intro s hm h
      rw [List.foldl_cons]
      refine ih _ hm fun x hx => ?_
      unfold setI at hx
      split at hx
      · rcases List.mem_or_eq_of_mem_set hx with q | q
        · exact h x q
        · rw [q]; exact getI_all (p := fun x => PyData.strOk x = true) hm ok_def
      · exact h x hx
  have all : ∀ (l : List Eld) (s : List Str), (∀ e ∈ l, ∀ x ∈ e.2, PyData.strOk x = true) → (∀ x ∈ s, PyData.strOk x = true) → ∀ x ∈ l.foldl (l_line_origins_1 text) s, PyData.strOk x = true := by
    intro l
    induction l with
    | nil => intro s _ h; exact h
    | cons e l ih =>
      intro s hl h
      rw [List.foldl_cons]
      exact ih _ (fun e' he => hl e' (List.mem_cons_of_mem _ he)) (st (m_matched e.1 text) e.2 s (hl e (by simp)) h)
  exact all _ _ (fun e he => h2 e (List.mem_reverse.mp he)) (fun x hx => by rw [(List.mem_replicate.mp hx).2]; exact h1)
end K4
namespace K4
open PySem PySem.Spec PyProof.Rows L2 HL
open Evl (Ex)
section
variable {P : Program} {w : World} {K : PySem.W.Frag} {mg : Str → Option Value} {base : Heap}

structure EOK (e : Eld) : Prop where
  l1 : e.1.length = e.2.length
  l2 : e.1.length ≤ 100
  s1 : ∀ x ∈ e.1, PyData.strOk x = true
  s2 : ∀ x ∈ e.2, PyData.strOk x = true
theorem pass_id (es : List Eld) : (es.map fun (p : Eld) => (p.1, p.2)) = es := by
  induction es with
  | nil => rfl
  | cons e es ih => rw [List.map_cons, ih]
theorem prog_len (name : Str) (text : List Str) (es : List Eld) : (m_line_origins name text es).length = text.length := by
  have e1 : m_line_origins name text es = List.foldl (l_line_origins_1 text) ((List.replicate (Int.toNat (text.length : Int)) [name]).flatten) es.reverse := rfl
  rw [e1, rep_flat, List.foldl_reverse, Int.toNat_natCast]
  exact (prog_is name text es).1
def m__law_good (name_ : Str) (text_ : (List Str)) (elders_ : (List ((List Str) × (List Str)))) : Bool :=
  (if ((!decide ((m_line_origins (name_) (text_) ((elders_.map fun (p_c1 : ((List Str) × (List Str))) => (p_c1.1, p_c1.2)))) = (m__law_own_lines (name_) (text_) (elders_)))) || ((!decide (text_ = text_)) || (!decide ((elders_.map fun (p_c1 : ((List Str) × (List Str))) => (p_c1.1, p_c1.2)) = elders_)))) = true then false else (decide ((m_line_origins (name_) (text_) ((elders_.map fun (p_c1 : ((List Str) × (List Str))) => (p_c1.1, p_c1.2)))) = (m__law_own_lines (name_) (text_) (elders_)))))

abbrev s__law_good : Stmt := topS 13

abbrev N__law_good : List Str := ["name", "text", "elders", "due", "sent", "passed", "told", "old", "marks"]

theorem sc__law_good : FnScope N__law_good ["name", "text", "elders"] (defScope s__law_good) := ⟨rfl, rfl, rfl, by decide +kernel, rfl, by decide +kernel, by decide +kernel⟩

def r__law_good : List PyData → PyData → Prop := fun ds d => ∃ (name_ : Str) (text_ : (List Str)) (elders_ : (List ((List Str) × (List Str)))), ds = [eS name_, (eL eS) text_, (eL (eT2 (eL eS) (eL eS))) elders_] ∧ (text_.length ≤ 100) ∧ (elders_.length ≤ 100) ∧ (PyData.strOk name_ = true) ∧ (∀ x ∈ text_, PyData.strOk x = true) ∧ (∀ e ∈ elders_, EOK e) ∧ d = eB (m__law_good name_ text_ elders_)

set_option maxHeartbeats 8000000 in
theorem ok__law_good {f : Addr} {fd : FuncData} {k : Nat} (F : Fun K "_law_good" "_law_good" s__law_good f fd) {f__law_own_lines : Addr} {fd__law_own_lines : FuncData} {k__law_own_lines : Nat} (F__law_own_lines : Fun K "_law_own_lines" "_law_own_lines" s__law_own_lines f__law_own_lines fd__law_own_lines) (b__law_own_lines : Binds K fd__law_own_lines ["name", "text", "elders"] []) (g__law_own_lines : mg "_law_own_lines" = some (.ref f__law_own_lines)) (G__law_own_lines : FnOk P w K mg base CX0 k__law_own_lines f__law_own_lines fd__law_own_lines ["name", "text", "elders"] (SpF r__law_own_lines)) (k__law_own_lines_ : k__law_own_lines ≤ k) {f_line_origins : Addr} {fd_line_origins : FuncData} {k_line_origins : Nat} (F_line_origins : Fun K "line_origins" "line_origins" s_line_origins f_line_origins fd_line_origins) (b_line_origins : Binds K fd_line_origins ["name", "text", "elders"] []) (g_line_origins : mg "line_origins" = some (.ref f_line_origins)) (G_line_origins : FnOk P w K mg base CX0 k_line_origins f_line_origins fd_line_origins ["name", "text", "elders"] (SpF r_line_origins)) (k_line_origins_ : k_line_origins ≤ k) (m_list : mg "list" = none) : FnOk P w K mg base CX0 (k + 1) f fd ["name", "text", "elders"] (SpF r__law_good) := by
  refine F.ok sc__law_good (fun vs H Q E h => ?_) (fun cdv A outer s H vs Q E hr h => ?_)
  · obtain ⟨ds, d, hd, ⟨name_, text_, elders_, rfl, h1, h2, h3, h4, h5, rfl⟩, _⟩ := h
    exact hd.length
  · obtain ⟨ds, d, hd, ⟨name_, text_, elders_, rfl, h1, h2, h3, h4, h5, rfl⟩, q⟩ := h
    refine ⟨_, (pss_cons (ps_set (i := 3) sc__law_good.nd rfl (Or.inl rfl) (pe_call G__law_own_lines (hr.mono k__law_own_lines_) (by rfl) g__law_own_lines F__law_own_lines.kp b__law_own_lines .nil pass0 (pa_cons (pv 0) (pa_cons (pv 1) (pa_cons (pv 2) pa_nil))))) (pss_cons (ps_set (i := 4) sc__law_good.nd rfl (Or.inl rfl) (pe_callTy (r := rListOfK K) call_list_of (by rfl) m_list (by decide +kernel) (pa_cons (pv 1) pa_nil))) (pss_cons (ps_setLc (i := 5) (own := [("old", 7), ("marks", 8)]) (g := (gTup K 2 (gCons (gName 7) (gCons (gName 8) gNil)))) (tt := tYes) rfl sc__law_good.nd rfl rfl (sw_true rfl rfl rfl (by decide +kernel)) (pi_list (pv 2)) (blkOk_by (own := [("old", 7), ("marks", 8)]) (N := N__law_good) (sc := defScope s__law_good) (by decide +kernel)) (fun _ _ _ _ _ => pg_tup rfl (pgs_cons (pg_name (i := 7) sc__law_good.nd rfl (Or.inl rfl)) (pgs_cons (pg_name (i := 8) sc__law_good.nd rfl (Or.inl rfl)) pgs_nil))) (fun _ _ _ _ _ => pts_nil) (fun _ _ _ _ _ => (pe_tup (pa_cons (pe_callTy (r := rListOfK K) call_list_of (by rfl) m_list (by decide +kernel) (pa_cons (pv 7) pa_nil)) (pa_cons (pe_callTy (r := rListOfK K) call_list_of (by rfl) m_list (by decide +kernel) (pa_cons (pv 8) pa_nil)) pa_nil))))) (pss_cons (ps_set (i := 6) sc__law_good.nd rfl (Or.inl rfl) (pe_call G_line_origins (hr.mono k_line_origins_) (by rfl) g_line_origins F_line_origins.kp b_line_origins .nil pass0 (pa_cons (pv 0) (pa_cons (pv 4) (pa_cons (pv 5) pa_nil))))) (pss_cons (ps_if (PW.pt (pw_or (pt_cmpR (r := rNeD K) (op_neD hr.units) (pv 6) (pv 3) (nomark _)) (pw_or (pt_cmpR (r := rNeD K) (op_neD hr.units) (pv 4) (pv 1) (nomark _)) (pw_or1 (pt_cmpR (r := rNeD K) (op_neD hr.units) (pv 5) (pv 2) (nomark _)))))) (pss_cons (ps_ret pe_bl) pss_nil) pss_nil) (pss_cons (ps_expr (pe_bm PySem.F.plainAttrs_list PySem.F.slot_list_append PySem.F.type_list_append mt_append (pv 6) (pa_cons pe_str pa_nil))) (pss_cons (ps_ret (pe_cmpR (r := rEqD K) (op_eqD hr.units) (pe_call G_line_origins (hr.mono k_line_origins_) (by rfl) g_line_origins F_line_origins.kp b_line_origins .nil pass0 (pa_cons (pv 0) (pa_cons (pv 4) (pa_cons (pv 5) pa_nil)))) (pv 3) (nomark _))) pss_nil))))))), ?_⟩
    have e0 : Ex H H := Ex.refl H
    have B := bs_F hd (N := N__law_good) (by rw [hd.length]; exact Nat.le_of_ble_eq_true rfl)
    have B : Bs _ _ _ [.va false (eS name_), .va false ((eL eS) text_), .va false ((eL (eT2 (eL eS) (eL eS))) elders_), .no, .no, .no, .no, .no, .no] := B
    have B : Bs _ _ _ [.va true (eS name_), .va false ((eL eS) text_), .va false ((eL (eT2 (eL eS) (eL eS))) elders_), .no, .no, .no, .no, .no, .no] := B.le (.cons (.sc (.str _)) (.cons (.refl _) (.cons (.refl _) (.cons (.refl _) (.cons (.refl _) (.cons (.refl _) (.cons (.refl _) (.cons (.refl _) (.cons (.refl _) .nil)))))))))
    have hk : m__law_good name_ text_ elders_ = (if ((!decide ((m_line_origins (name_) (text_) ((elders_.map fun (p_c1 : ((List Str) × (List Str))) => (p_c1.1, p_c1.2)))) = (m__law_own_lines (name_) (text_) (elders_)))) || ((!decide (text_ = text_)) || (!decide ((elders_.map fun (p_c1 : ((List Str) × (List Str))) => (p_c1.1, p_c1.2)) = elders_)))) = true then false else (decide ((m_line_origins (name_) (text_) ((elders_.map fun (p_c1 : ((List Str) × (List Str))) => (p_c1.1, p_c1.2)))) = (m__law_own_lines (name_) (text_) (elders_))))) := rfl
    have ow := origins_ok (name := name_) (text := text_) (es := elders_) h3 (fun e he => (h5 e he).s2)
    have eq := origins_is name_ text_ elders_
    have ow2 := ow
    rw [eq] at ow2
    have pg := pass_id elders_
    have hE : ∀ e ∈ elders_, (∀ x ∈ e.1, PyData.strOk x = true) ∧ (∀ x ∈ e.2, PyData.strOk x = true) := fun e he => ⟨(h5 e he).s1, (h5 e he).s2⟩
    refine q_asg (f := true) B (ev_callF (B.live true) (ea_cons (ev_sc B rfl (.str _)) (ea_cons ((ev_va B rfl).w0) (ea_cons ((ev_va B rfl).w0) ea_nil))) ⟨name_, text_, elders_, rfl, by omega, fun e he => ⟨(h5 e he).l1, by have := (h5 e he).l2; omega⟩, rfl⟩) fun σ1 H1 B => ?_
    have B : Bs _ _ _ [.va true (eS name_), .va false ((eL eS) text_), .va false ((eL (eT2 (eL eS) (eL eS))) elders_), .va true ((eL eS) (m__law_own_lines (name_) (text_) (elders_))), .no, .no, .no, .no, .no] := B
    refine q_asg (f := true) B (((en_listM ((ev_va B rfl).w0)).scL (fun _ => (.str _))).ev (B.live true)) fun σ1 H1 B => ?_
    have B : Bs _ _ _ [.va true (eS name_), .va false ((eL eS) text_), .va false ((eL (eT2 (eL eS) (eL eS))) elders_), .va true ((eL eS) (m__law_own_lines (name_) (text_) (elders_))), .va true ((eL eS) text_), .no, .no, .no, .no] := B
    refine q_asg (f := true) B ((en_lcGM1 (js := [7, 8]) (g := true) (em2 := (eT2 (eL eS) (eL eS))) (fun p_c1 => (p_c1.1, p_c1.2)) (tgw_tup2 (by simp) (by simp)) B (by intro j hj; simp at hj; rcases hj with rfl | rfl <;> rfl) (fun y b h => adr_put rfl b (adr_put rfl b h)) (ev_va B rfl) (by omega) (fun c' p_c1 σ1 H1 hx B => by have B : Bs _ _ _ [.va true (eS name_), .va false ((eL eS) text_), .va false ((eL (eT2 (eL eS) (eL eS))) elders_), .va true ((eL eS) (m__law_own_lines (name_) (text_) (elders_))), .va true ((eL eS) text_), .no, .no, .va false ((eL eS) p_c1.1), .va false ((eL eS) p_c1.2)] := B; exact (ev_tup (B.live true) (ea_cons (((en_listM ((ev_va B rfl).w0)).scL (fun _ => (.str _))).ev (B.live true)) (ea_cons (((en_listM ((ev_va B rfl).w0)).scL (fun _ => (.str _))).ev (B.live true)) ea_nil)) (by simp)))).ev (B.live true)) fun σ1 H1 B => ?_
    have B : Bs _ _ _ [.va true (eS name_), .va false ((eL eS) text_), .va false ((eL (eT2 (eL eS) (eL eS))) elders_), .va true ((eL eS) (m__law_own_lines (name_) (text_) (elders_))), .va true ((eL eS) text_), .va true ((eL (eT2 (eL eS) (eL eS))) (elders_.map fun (p_c1 : ((List Str) × (List Str))) => (p_c1.1, p_c1.2))), .no, .no, .no] := B
    refine q_asgN (f := true) B (en_callF (B.live true) (ea_cons (ev_sc B rfl (.str _)) (ea_cons ((ev_va B rfl).w0) (ea_cons ((ev_va B rfl).w0) ea_nil))) ⟨name_, text_, (elders_.map fun (p_c1 : ((List Str) × (List Str))) => (p_c1.1, p_c1.2)), rfl, by omega, (fun e he => by rw [pg] at he; exact ⟨(h5 e he).l1, by have := (h5 e he).l2; omega⟩), rfl⟩) fun a2 σ1 H1 B => ?_
    have B : Bs _ _ _ [.va true (eS name_), .va false ((eL eS) text_), .va false ((eL (eT2 (eL eS) (eL eS))) elders_), .va true ((eL eS) (m__law_own_lines (name_) (text_) (elders_))), .va true ((eL eS) text_), .va true ((eL (eT2 (eL eS) (eL eS))) (elders_.map fun (p_c1 : ((List Str) × (List Str))) => (p_c1.1, p_c1.2))), .ow true a2 ((m_line_origins (name_) (text_) ((elders_.map fun (p_c1 : ((List Str) × (List Str))) => (p_c1.1, p_c1.2)))).map eS), .no, .no] := B
    refine q_if B (et_or (et_test (ev_neM (a := (m_line_origins (name_) (text_) ((elders_.map fun (p_c1 : ((List Str) × (List Str))) => (p_c1.1, p_c1.2))))) (b := (m__law_own_lines (name_) (text_) (elders_))) (emL emS) (ev_owM B rfl) ((ev_va B rfl).w0) (by first | (rw [pg]; exact ow) | exact ow2 | exact h4 | (rw [pg]; exact hE) | exact hE) (by first | (rw [pg]; exact ow) | exact ow2 | exact h4 | (rw [pg]; exact hE) | exact hE))) fun hc => (et_or (et_test (ev_neM (a := text_) (b := text_) (emL emS) ((ev_va B rfl).w0) ((ev_va B rfl).w0) (by first | (rw [pg]; exact ow) | exact ow2 | exact h4 | (rw [pg]; exact hE) | exact hE) (by first | (rw [pg]; exact ow) | exact ow2 | exact h4 | (rw [pg]; exact hE) | exact hE))) fun hc => (et_test (ev_neM (a := (elders_.map fun (p_c1 : ((List Str) × (List Str))) => (p_c1.1, p_c1.2))) (b := elders_) (emL (emT2 (emL emS) (emL emS))) ((ev_va B rfl).w0) ((ev_va B rfl).w0) (by first | (rw [pg]; exact ow) | exact ow2 | exact h4 | (rw [pg]; exact hE) | exact hE) (by first | (rw [pg]; exact ow) | exact ow2 | exact h4 | (rw [pg]; exact hE) | exact hE))))) (fun hc3 H1 B => ?_) (fun hc3 H1 B => ?_)
    · rw [if_pos hc3] at hk
      have hc3_f := hc3
      try simp only [Bool.and_eq_true, Bool.or_eq_true, Bool.not_eq_true', Bool.and_eq_false_imp, Bool.or_eq_false_iff, Bool.not_eq_false', decide_eq_true_eq, decide_eq_false_iff_not] at hc3_f
      refine q_ret (f := true) B ev_bl fun v H1 x hv => q v H1 (e0.trans x) ?_
      rw [hk]; exact Dn.sc (.bl _) hv
    · rw [if_neg (show ¬ ((!decide ((m_line_origins (name_) (text_) ((elders_.map fun (p_c1 : ((List Str) × (List Str))) => (p_c1.1, p_c1.2)))) = (m__law_own_lines (name_) (text_) (elders_)))) || ((!decide (text_ = text_)) || (!decide ((elders_.map fun (p_c1 : ((List Str) × (List Str))) => (p_c1.1, p_c1.2)) = elders_)))) = true from by rw [hc3]; exact Bool.false_ne_true)] at hk
      have hc3_f := hc3
      try simp only [Bool.and_eq_true, Bool.or_eq_true, Bool.not_eq_true', Bool.and_eq_false_imp, Bool.or_eq_false_iff, Bool.not_eq_false', decide_eq_true_eq, decide_eq_false_iff_not] at hc3_f
      dsimp only [tNext]
      refine q_app (f := true) B rfl ev_str (by rw [pg, List.length_map, prog_len]; omega) fun H1 B => ?_
      have B : Bs _ _ _ [.va true (eS name_), .va false ((eL eS) text_), .va false ((eL (eT2 (eL eS) (eL eS))) elders_), .va true ((eL eS) (m__law_own_lines (name_) (text_) (elders_))), .va true ((eL eS) text_), .va true ((eL (eT2 (eL eS) (eL eS))) (elders_.map fun (p_c1 : ((List Str) × (List Str))) => (p_c1.1, p_c1.2))), .ow true a2 (((m_line_origins (name_) (text_) ((elders_.map fun (p_c1 : ((List Str) × (List Str))) => (p_c1.1, p_c1.2)))) ++ [("spoilt" : Str)]).map eS), .no, .no] := B.le (.cons (.refl _) (.cons (.refl _) (.cons (.refl _) (.cons (.refl _) (.cons (.refl _) (.cons (.refl _) (.cons (.eqo (by simp)) (.cons (.refl _) (.cons (.refl _) .nil)))))))))
      refine q_ret (f := true) B (ev_eqM (a := (m_line_origins (name_) (text_) ((elders_.map fun (p_c1 : ((List Str) × (List Str))) => (p_c1.1, p_c1.2))))) (b := (m__law_own_lines (name_) (text_) (elders_))) (emL emS) (ev_callF live0 (ea_cons (ev_sc B rfl (.str _)) (ea_cons ((ev_va B rfl).w0) (ea_cons ((ev_va B rfl).w0) ea_nil))) ⟨name_, text_, (elders_.map fun (p_c1 : ((List Str) × (List Str))) => (p_c1.1, p_c1.2)), rfl, by omega, (fun e he => by rw [pg] at he; exact ⟨(h5 e he).l1, by have := (h5 e he).l2; omega⟩), rfl⟩) ((ev_va B rfl).w0) (by first | (rw [pg]; exact ow) | exact ow2 | exact h4 | (rw [pg]; exact hE) | exact hE) (by first | (rw [pg]; exact ow) | exact ow2 | exact h4 | (rw [pg]; exact hE) | exact hE)) fun v H1 x hv => q v H1 (e0.trans x) ?_
      rw [hk]; exact Dn.sc (.bl _) hv

end
end K4
namespace K4
open PySem PySem.Spec PyProof.Rows L2 HL
open Evl (Ex)
section
variable {P : Program} {w : World} {K : PySem.W.Frag} {mg : Str → Option Value} {base : Heap}

def m_law (ns : List Int) : Bool :=
  (if (!(m__law_good ((getI ([("n" : Str), ("new10" : Str), ("b2c0z9" : Str)]) ((m__law_next (m__law_feed ns) (3 : Int)).1))) ((m__law_new_text ((m__law_new_lines ((m__law_next (m__law_feed ns) (3 : Int)).2) ).2) ((m__law_new_lines ((m__law_next (m__law_feed ns) (3 : Int)).2) ).1) (0 : Int) (6 : Int)).1) ((m__law_new_elders ((m__law_new_text ((m__law_new_lines ((m__law_next (m__law_feed ns) (3 : Int)).2) ).2) ((m__law_new_lines ((m__law_next (m__law_feed ns) (3 : Int)).2) ).1) (0 : Int) (6 : Int)).2) (getI ([("n" : Str), ("new10" : Str), ("b2c0z9" : Str)]) ((m__law_next (m__law_feed ns) (3 : Int)).1)) ((m__law_new_lines ((m__law_next (m__law_feed ns) (3 : Int)).2) ).1)).1))) = true then false else (if (!(m__law_good ((getI ([("n" : Str), ("new10" : Str), ("b2c0z9" : Str)]) ((m__law_next (m__law_feed ns) (3 : Int)).1))) ((m__law_new_text ((m__law_new_lines ((m__law_next (m__law_feed ns) (3 : Int)).2) ).2) ((m__law_new_lines ((m__law_next (m__law_feed ns) (3 : Int)).2) ).1) (0 : Int) (6 : Int)).1) (((m__law_new_elders ((m__law_new_text ((m__law_new_lines ((m__law_next (m__law_feed ns) (3 : Int)).2) ).2) ((m__law_new_lines ((m__law_next (m__law_feed ns) (3 : Int)).2) ).1) (0 : Int) (6 : Int)).2) (getI ([("n" : Str), ("new10" : Str), ("b2c0z9" : Str)]) ((m__law_next (m__law_feed ns) (3 : Int)).1)) ((m__law_new_lines ((m__law_next (m__law_feed ns) (3 : Int)).2) ).1)).1).reverse))) = true then false else (if ((!(m__law_good ((getI ([("n" : Str), ("new10" : Str), ("b2c0z9" : Str)]) ((m__law_next (m__law_feed ns) (3 : Int)).1))) ((m__law_new_text ((m__law_new_lines ((m__law_next (m__law_feed ns) (3 : Int)).2) ).2) ((m__law_new_lines ((m__law_next (m__law_feed ns) (3 : Int)).2) ).1) (0 : Int) (6 : Int)).1) ([]))) || (!(m__law_good ((getI ([("n" : Str), ("new10" : Str), ("b2c0z9" : Str)]) ((m__law_next (m__law_feed ns) (3 : Int)).1))) ([]) ((m__law_new_elders ((m__law_new_text ((m__law_new_lines ((m__law_next (m__law_feed ns) (3 : Int)).2) ).2) ((m__law_new_lines ((m__law_next (m__law_feed ns) (3 : Int)).2) ).1) (0 : Int) (6 : Int)).2) (getI ([("n" : Str), ("new10" : Str), ("b2c0z9" : Str)]) ((m__law_next (m__law_feed ns) (3 : Int)).1)) ((m__law_new_lines ((m__law_next (m__law_feed ns) (3 : Int)).2) ).1)).1)))) = true then false else (m__law_good (("other" : Str)) ((m__law_new_text ((m__law_new_lines ((m__law_next (m__law_feed ns) (3 : Int)).2) ).2) ((m__law_new_lines ((m__law_next (m__law_feed ns) (3 : Int)).2) ).1) (0 : Int) (6 : Int)).1) ((m__law_new_elders ((m__law_new_text ((m__law_new_lines ((m__law_next (m__law_feed ns) (3 : Int)).2) ).2) ((m__law_new_lines ((m__law_next (m__law_feed ns) (3 : Int)).2) ).1) (0 : Int) (6 : Int)).2) (getI ([("n" : Str), ("new10" : Str), ("b2c0z9" : Str)]) ((m__law_next (m__law_feed ns) (3 : Int)).1)) ((m__law_new_lines ((m__law_next (m__law_feed ns) (3 : Int)).2) ).1)).1)))))

theorem lines_inv {feed : List Int} : (m__law_new_lines feed).1.length = 3 ∧ (∀ x ∈ (m__law_new_lines feed).1, PyData.strOk x = true) ∧ (1 ≤ feed.length → 1 ≤ (m__law_new_lines feed).2.length) := by
  unfold m__law_new_lines
  refine ⟨by simp [rng_len], fun x hx => ?_, fun h => next_l (many := 16) h (by omega)⟩
  obtain ⟨y, _, rfl⟩ := List.mem_map.mp hx
  exact getI_all (p := fun x => PyData.strOk x = true) (by decide +kernel) ok_def
theorem foldl_inv2 {S α : Type} {f : S → α → S} (I : Nat → S → Prop) : ∀ (l : List α) (n : Nat) (s : S), (∀ n s x, x ∈ l → I n s → I (n + 1) (f s x)) → I n s → I (n + l.length) (l.foldl f s)
  | [], n, s, h, q => q
  | x :: l, n, s, h, q => by
    have := foldl_inv2 I l (n + 1) (f s x) (fun n s y hy => h n s y (List.mem_cons_of_mem _ hy)) (h n s x List.mem_cons_self q)
    rw [List.foldl_cons, List.length_cons]
    rw [show n + (l.length + 1) = n + 1 + l.length by omega]
    exact this
theorem elders_inv {feed : List Int} {name : Str} {lines : List Str} (h : 1 ≤ feed.length) (h1 : PyData.strOk name = true) (h2 : ∀ x ∈ lines, PyData.strOk x = true) : (m__law_new_elders feed name lines).1.length ≤ 4 ∧ ∀ e ∈ (m__law_new_elders feed name lines).1, EOK e := by
  have g := g8 (m__law_next feed 8).1
  have nb := next_b (feed := feed) (many := 8) (by omega)
  have q := foldl_inv2 (f := l__law_new_elders_1 name lines) (fun n s => 1 ≤ s.1.length ∧ s.2.length ≤ n ∧ ∀ e ∈ s.2, EOK e) (rng 0 (getI [(2 : Int), 3, 1, 4, 0, 3, 2, 4] (m__law_next feed 8).1)) 0 ((m__law_next feed 8).2, []) (fun n s k hk q => by
    obtain ⟨f1, e1⟩ := s
    obtain ⟨q1, q2, q3⟩ := q
    have tx := text_inv (feed := f1) (lines := lines) (shift := k + 1) (most := 5) q1 (by omega)
    have tx1 := tx.1
    have e0 : l__law_new_elders_1 name lines (f1, e1) k = ((List.foldl (stepE (n__law_new_elders_2 k)) ([], (m__law_new_text f1 lines (k + 1) 5).2) (rng 0 ((m__law_new_text f1 lines (k + 1) 5).1.length : Int))).2, e1 ++ [((m__law_new_text f1 lines (k + 1) 5).1, (List.foldl (stepE (n__law_new_elders_2 k)) ([], (m__law_new_text f1 lines (k + 1) 5).2) (rng 0 ((m__law_new_text f1 lines (k + 1) 5).1.length : Int))).1.map fun at_c => getI [("r" : Str), ("s2" : Str), name, ("t" : Str), ("u10z" : Str)] (Int.fmod at_c 5))]) := rfl
    rw [e0]
    refine ⟨fold_EJ (nx := n__law_new_elders_2 k) (J := fun (gs : List Int) => 1 ≤ gs.length) (fun gs k h => next_l (many := 5) h (by omega)) _ _ _ tx.2.1, by simp; exact q2, fun e he => ?_⟩
    rcases List.mem_append.mp he with z | z
    · exact q3 e z
    · rw [List.mem_singleton.mp z]
      refine ⟨?_, by simp only; omega, tx.2.2 h2, fun x hx => ?_⟩
      · simp only [List.length_map]
        rw [(fold_E _ ([], _)).1, rng_len]
        simp
      · obtain ⟨y, _, rfl⟩ := List.mem_map.mp hx
        refine getI_all (p := fun x => PyData.strOk x = true) (fun x hx => ?_) ok_def
        simp only [List.mem_cons, List.not_mem_nil, or_false] at hx
        rcases hx with rfl | rfl | rfl | rfl | rfl
        · decide +kernel
        · decide +kernel
        · exact h1
        · decide +kernel
        · decide +kernel) ⟨next_l h (by omega), by simp, fun e he => by simp at he⟩
  rw [rng_len] at q
  have e1 : (m__law_new_elders feed name lines).1 = (List.foldl (l__law_new_elders_1 name lines) ((m__law_next feed 8).2, []) (rng 0 (getI [(2 : Int), 3, 1, 4, 0, 3, 2, 4] (m__law_next feed 8).1))).2 := rfl
  rw [e1]
  exact ⟨by have := q.2.1; omega, q.2.2⟩
theorem feed_l (ns : List Int) : 1 ≤ (m__law_feed ns).length := by unfold m__law_feed; simp
theorem name_ok (m : Int) : PyData.strOk (getI [("n" : Str), ("new10" : Str), ("b2c0z9" : Str)] m) = true := getI_all (p := fun x => PyData.strOk x = true) (by decide +kernel) ok_def
theorem other_ok : PyData.strOk ("other" : Str) = true := by decide +kernel


abbrev s_law : Stmt := topS 14

abbrev N_law : List Str := ["script", "feed", "name", "lines", "text", "elders"]

theorem sc_law : FnScope N_law ["script"] (defScope s_law) := ⟨rfl, rfl, rfl, by decide +kernel, rfl, by decide +kernel, by decide +kernel⟩

def sp_law (K : PySem.W.Frag) : Sp := fun vs H Q _ => ∃ (a : Addr) (ns : List Int), vs = [.ref a] ∧ SqL K H a (ns.map V.int) ∧ ns.length ≤ 63 ∧ ∀ v H', Dn H' v (.bool (m_law ns)) → Q v H'

set_option maxHeartbeats 16000000 in
theorem ok_law {f : Addr} {fd : FuncData} {k : Nat} (F : Fun K "law" "law" s_law f fd) {f__law_feed : Addr} {fd__law_feed : FuncData} {k__law_feed : Nat} (F__law_feed : Fun K "_law_feed" "_law_feed" s__law_feed f__law_feed fd__law_feed) (b__law_feed : Binds K fd__law_feed ["script"] []) (g__law_feed : mg "_law_feed" = some (.ref f__law_feed)) (G__law_feed : FnOk P w K mg base CX0 k__law_feed f__law_feed fd__law_feed ["script"] (sp__law_feed K)) (k__law_feed_ : k__law_feed ≤ k) {f__law_next : Addr} {fd__law_next : FuncData} {k__law_next : Nat} (F__law_next : Fun K "_law_next" "_law_next" s__law_next f__law_next fd__law_next) (b__law_next : Binds K fd__law_next ["feed", "many"] []) (g__law_next : mg "_law_next" = some (.ref f__law_next)) (G__law_next : FnOk P w K mg base CX0 k__law_next f__law_next fd__law_next ["feed", "many"] (SpM r__law_next)) (k__law_next_ : k__law_next ≤ k) {f__law_new_lines : Addr} {fd__law_new_lines : FuncData} {k__law_new_lines : Nat} (F__law_new_lines : Fun K "_law_new_lines" "_law_new_lines" s__law_new_lines f__law_new_lines fd__law_new_lines) (b__law_new_lines : Binds K fd__law_new_lines ["feed"] []) (g__law_new_lines : mg "_law_new_lines" = some (.ref f__law_new_lines)) (G__law_new_lines : FnOk P w K mg base CX0 k__law_new_lines f__law_new_lines fd__law_new_lines ["feed"] (SpM r__law_new_lines)) (k__law_new_lines_ : k__law_new_lines ≤ k) {f__law_new_text : Addr} {fd__law_new_text : FuncData} {k__law_new_text : Nat} (F__law_new_text : Fun K "_law_new_text" "_law_new_text" s__law_new_text f__law_new_text fd__law_new_text) (b__law_new_text : Binds K fd__law_new_text ["feed", "lines", "shift", "most"] []) (g__law_new_text : mg "_law_new_text" = some (.ref f__law_new_text)) (G__law_new_text : FnOk P w K mg base CX0 k__law_new_text f__law_new_text fd__law_new_text ["feed", "lines", "shift", "most"] (SpM2 r__law_new_text)) (k__law_new_text_ : k__law_new_text ≤ k) {f__law_new_elders : Addr} {fd__law_new_elders : FuncData} {k__law_new_elders : Nat} (F__law_new_elders : Fun K "_law_new_elders" "_law_new_elders" s__law_new_elders f__law_new_elders fd__law_new_elders) (b__law_new_elders : Binds K fd__law_new_elders ["feed", "name", "lines"] []) (g__law_new_elders : mg "_law_new_elders" = some (.ref f__law_new_elders)) (G__law_new_elders : FnOk P w K mg base CX0 k__law_new_elders f__law_new_elders fd__law_new_elders ["feed", "name", "lines"] (SpM2 r__law_new_elders)) (k__law_new_elders_ : k__law_new_elders ≤ k) {f__law_good : Addr} {fd__law_good : FuncData} {k__law_good : Nat} (F__law_good : Fun K "_law_good" "_law_good" s__law_good f__law_good fd__law_good) (b__law_good : Binds K fd__law_good ["name", "text", "elders"] []) (g__law_good : mg "_law_good" = some (.ref f__law_good)) (G__law_good : FnOk P w K mg base CX0 k__law_good f__law_good fd__law_good ["name", "text", "elders"] (SpF r__law_good)) (k__law_good_ : k__law_good ≤ k) : FnOk P w K mg base CX0 (k + 1) f fd ["script"] (sp_law K) := by
  refine F.ok sc_law (fun vs H Q E h => ?_) (fun cdv A outer s H vs Q E hr h => ?_)
  · obtain ⟨a, ns, rfl, _⟩ := h; rfl
  · obtain ⟨a, ns, rfl, hS, hl, q⟩ := h
    refine ⟨_, (pss_cons (ps_set (i := 1) sc_law.nd rfl (Or.inl rfl) (pe_call G__law_feed (hr.mono k__law_feed_) (by rfl) g__law_feed F__law_feed.kp b__law_feed .nil pass0 (pa_cons (pv 0) pa_nil))) (pss_cons (ps_set (i := 2) sc_law.nd rfl (Or.inl rfl) (pe_ix (r := rIxL K) ix_list (pe_lst (pa_cons pe_str (pa_cons pe_str (pa_cons pe_str pa_nil)))) (pe_call G__law_next (hr.mono k__law_next_) (by rfl) g__law_next F__law_next.kp b__law_next .nil pass0 (pa_cons (pv 1) (pa_cons pe_int pa_nil))) (fun _ _ => rfl))) (pss_cons (ps_set (i := 3) sc_law.nd rfl (Or.inl rfl) (pe_call G__law_new_lines (hr.mono k__law_new_lines_) (by rfl) g__law_new_lines F__law_new_lines.kp b__law_new_lines .nil pass0 (pa_cons (pv 1) pa_nil))) (pss_cons (ps_set (i := 4) sc_law.nd rfl (Or.inl rfl) (pe_call G__law_new_text (hr.mono k__law_new_text_) (by rfl) g__law_new_text F__law_new_text.kp b__law_new_text .nil pass0 (pa_cons (pv 1) (pa_cons (pv 3) (pa_cons pe_int (pa_cons pe_int pa_nil)))))) (pss_cons (ps_set (i := 5) sc_law.nd rfl (Or.inl rfl) (pe_call G__law_new_elders (hr.mono k__law_new_elders_) (by rfl) g__law_new_elders F__law_new_elders.kp b__law_new_elders .nil pass0 (pa_cons (pv 1) (pa_cons (pv 2) (pa_cons (pv 3) pa_nil))))) (pss_cons (ps_if (pt_not (pt_val (pe_call G__law_good (hr.mono k__law_good_) (by rfl) g__law_good F__law_good.kp b__law_good .nil pass0 (pa_cons (pv 2) (pa_cons (pv 4) (pa_cons (pv 5) pa_nil)))))) (pss_cons (ps_ret pe_bl) pss_nil) pss_nil) (pss_cons (ps_if (pt_not (pt_val (pe_call G__law_good (hr.mono k__law_good_) (by rfl) g__law_good F__law_good.kp b__law_good .nil pass0 (pa_cons (pv 2) (pa_cons (pv 4) (pa_cons (pe_revL (pv 5)) pa_nil)))))) (pss_cons (ps_ret pe_bl) pss_nil) pss_nil) (pss_cons (ps_if (PW.pt (pw_or (pt_not (pt_val (pe_call G__law_good (hr.mono k__law_good_) (by rfl) g__law_good F__law_good.kp b__law_good .nil pass0 (pa_cons (pv 2) (pa_cons (pv 4) (pa_cons (pe_lst pa_nil) pa_nil)))))) (pw_or1 (pt_not (pt_val (pe_call G__law_good (hr.mono k__law_good_) (by rfl) g__law_good F__law_good.kp b__law_good .nil pass0 (pa_cons (pv 2) (pa_cons (pe_lst pa_nil) (pa_cons (pv 5) pa_nil))))))))) (pss_cons (ps_ret pe_bl) pss_nil) pss_nil) (pss_cons (ps_ret (pe_call G__law_good (hr.mono k__law_good_) (by rfl) g__law_good F__law_good.kp b__law_good .nil pass0 (pa_cons pe_str (pa_cons (pv 4) (pa_cons (pv 5) pa_nil))))) pss_nil))))))))), ?_⟩
    have B := bs_0 (N := N_law) (vs := [.ref a]) (H := H) (Nat.le_of_ble_eq_true rfl)
    have B : Bs _ _ _ [.no, .no, .no, .no, .no, .no] := B
    have e0 : Ex H H := Ex.refl H
    have hk : m_law ns = (if (!(m__law_good ((getI ([("n" : Str), ("new10" : Str), ("b2c0z9" : Str)]) ((m__law_next (m__law_feed ns) (3 : Int)).1))) ((m__law_new_text ((m__law_new_lines ((m__law_next (m__law_feed ns) (3 : Int)).2) ).2) ((m__law_new_lines ((m__law_next (m__law_feed ns) (3 : Int)).2) ).1) (0 : Int) (6 : Int)).1) ((m__law_new_elders ((m__law_new_text ((m__law_new_lines ((m__law_next (m__law_feed ns) (3 : Int)).2) ).2) ((m__law_new_lines ((m__law_next (m__law_feed ns) (3 : Int)).2) ).1) (0 : Int) (6 : Int)).2) (getI ([("n" : Str), ("new10" : Str), ("b2c0z9" : Str)]) ((m__law_next (m__law_feed ns) (3 : Int)).1)) ((m__law_new_lines ((m__law_next (m__law_feed ns) (3 : Int)).2) ).1)).1))) = true then false else (if (!(m__law_good ((getI ([("n" : Str), ("new10" : Str), ("b2c0z9" : Str)]) ((m__law_next (m__law_feed ns) (3 : Int)).1))) ((m__law_new_text ((m__law_new_lines ((m__law_next (m__law_feed ns) (3 : Int)).2) ).2) ((m__law_new_lines ((m__law_next (m__law_feed ns) (3 : Int)).2) ).1) (0 : Int) (6 : Int)).1) (((m__law_new_elders ((m__law_new_text ((m__law_new_lines ((m__law_next (m__law_feed ns) (3 : Int)).2) ).2) ((m__law_new_lines ((m__law_next (m__law_feed ns) (3 : Int)).2) ).1) (0 : Int) (6 : Int)).2) (getI ([("n" : Str), ("new10" : Str), ("b2c0z9" : Str)]) ((m__law_next (m__law_feed ns) (3 : Int)).1)) ((m__law_new_lines ((m__law_next (m__law_feed ns) (3 : Int)).2) ).1)).1).reverse))) = true then false else (if ((!(m__law_good ((getI ([("n" : Str), ("new10" : Str), ("b2c0z9" : Str)]) ((m__law_next (m__law_feed ns) (3 : Int)).1))) ((m__law_new_text ((m__law_new_lines ((m__law_next (m__law_feed ns) (3 : Int)).2) ).2) ((m__law_new_lines ((m__law_next (m__law_feed ns) (3 : Int)).2) ).1) (0 : Int) (6 : Int)).1) ([]))) || (!(m__law_good ((getI ([("n" : Str), ("new10" : Str), ("b2c0z9" : Str)]) ((m__law_next (m__law_feed ns) (3 : Int)).1))) ([]) ((m__law_new_elders ((m__law_new_text ((m__law_new_lines ((m__law_next (m__law_feed ns) (3 : Int)).2) ).2) ((m__law_new_lines ((m__law_next (m__law_feed ns) (3 : Int)).2) ).1) (0 : Int) (6 : Int)).2) (getI ([("n" : Str), ("new10" : Str), ("b2c0z9" : Str)]) ((m__law_next (m__law_feed ns) (3 : Int)).1)) ((m__law_new_lines ((m__law_next (m__law_feed ns) (3 : Int)).2) ).1)).1)))) = true then false else (m__law_good (("other" : Str)) ((m__law_new_text ((m__law_new_lines ((m__law_next (m__law_feed ns) (3 : Int)).2) ).2) ((m__law_new_lines ((m__law_next (m__law_feed ns) (3 : Int)).2) ).1) (0 : Int) (6 : Int)).1) ((m__law_new_elders ((m__law_new_text ((m__law_new_lines ((m__law_next (m__law_feed ns) (3 : Int)).2) ).2) ((m__law_new_lines ((m__law_next (m__law_feed ns) (3 : Int)).2) ).1) (0 : Int) (6 : Int)).2) (getI ([("n" : Str), ("new10" : Str), ("b2c0z9" : Str)]) ((m__law_next (m__law_feed ns) (3 : Int)).1)) ((m__law_new_lines ((m__law_next (m__law_feed ns) (3 : Int)).2) ).1)).1))))) := rfl
    have f1 := feed_l ns
    have f2 := next_l (feed := m__law_feed ns) (many := 3) f1 (by omega)
    have nb := next_b (feed := m__law_feed ns) (many := 3) (by omega)
    have nm := name_ok (m__law_next (m__law_feed ns) 3).1
    obtain ⟨l1, l2, l3⟩ := lines_inv (feed := (m__law_next (m__law_feed ns) 3).2)
    have f3 := l3 f2
    obtain ⟨t1, t2, t3⟩ := text_inv (feed := (m__law_new_lines (m__law_next (m__law_feed ns) 3).2).2) (lines := (m__law_new_lines (m__law_next (m__law_feed ns) 3).2).1) (shift := 0) (most := 6) f3 (by omega)
    have t4 := t3 l2
    obtain ⟨e1, e2⟩ := elders_inv (feed := (m__law_new_text (m__law_new_lines (m__law_next (m__law_feed ns) 3).2).2 (m__law_new_lines (m__law_next (m__law_feed ns) 3).2).1 0 6).2) (lines := (m__law_new_lines (m__law_next (m__law_feed ns) 3).2).1) t2 nm l2
    have e3 := fun e he => e2 e (List.mem_reverse.mp he)
    refine q_asgN (f := true) B ((en__law_feed (B.live true) rfl hS hl).scL (fun _ => (.int _))) fun a1 σ1 H1 B => ?_
    have B : Bs _ _ _ [.no, .ow true a1 ((m__law_feed ns).map eI), .no, .no, .no, .no] := B
    refine q_asgM (em_ixM ((en_lstM (em := eS) (xs := [("n" : Str), ("new10" : Str), ("b2c0z9" : Str)]) (ea_cons ev_str (ea_cons ev_str (ea_cons ev_str ea_nil))) (by simp)).ev (B.live true)) (fun p => (adr_ow (i := 1) rfl p).symm) (fun H2 e2 => by have B := B.mono e2; exact (em_call B rfl (ea_cons ev_int ea_nil) ⟨(m__law_feed ns), (3 : Int), rfl, rfl, f1, by omega, by omega, rfl, rfl⟩)) (show inB ([("n" : Str), ("new10" : Str), ("b2c0z9" : Str)]) ((m__law_next (m__law_feed ns) (3 : Int)).1) from by first | assumption | (unfold inB; first | omega | (simp; omega) | (simp at *; omega)))) fun σ1 H1 B => ?_
    have B : Bs _ _ _ [.no, .ow true a1 (((m__law_next (m__law_feed ns) (3 : Int)).2).map eI), .va true (eS (getI ([("n" : Str), ("new10" : Str), ("b2c0z9" : Str)]) ((m__law_next (m__law_feed ns) (3 : Int)).1))), .no, .no, .no] := B
    refine q_asgM (em_call B rfl ea_nil ⟨(m__law_next (m__law_feed ns) (3 : Int)).2, rfl, rfl, f2, rfl, rfl⟩) fun σ1 H1 B => ?_
    have B : Bs _ _ _ [.no, .ow true a1 (((m__law_new_lines ((m__law_next (m__law_feed ns) (3 : Int)).2) ).2).map eI), .va true (eS (getI ([("n" : Str), ("new10" : Str), ("b2c0z9" : Str)]) ((m__law_next (m__law_feed ns) (3 : Int)).1))), .va true ((eL eS) ((m__law_new_lines ((m__law_next (m__law_feed ns) (3 : Int)).2) ).1)), .no, .no] := B
    refine q_asgM (em_call2 B rfl (ea_cons (ev_va B rfl) (ea_cons ev_int (ea_cons ev_int ea_nil))) ⟨(m__law_new_lines ((m__law_next (m__law_feed ns) (3 : Int)).2) ).2, (m__law_new_lines ((m__law_next (m__law_feed ns) (3 : Int)).2) ).1, (0 : Int), (6 : Int), rfl, rfl, f3, l1, by omega, by omega, rfl, rfl⟩) fun σ1 H1 B => ?_
    have B : Bs _ _ _ [.no, .ow true a1 (((m__law_new_text ((m__law_new_lines ((m__law_next (m__law_feed ns) (3 : Int)).2) ).2) ((m__law_new_lines ((m__law_next (m__law_feed ns) (3 : Int)).2) ).1) (0 : Int) (6 : Int)).2).map eI), .va true (eS (getI ([("n" : Str), ("new10" : Str), ("b2c0z9" : Str)]) ((m__law_next (m__law_feed ns) (3 : Int)).1))), .va true ((eL eS) ((m__law_new_lines ((m__law_next (m__law_feed ns) (3 : Int)).2) ).1)), .va true ((eL eS) ((m__law_new_text ((m__law_new_lines ((m__law_next (m__law_feed ns) (3 : Int)).2) ).2) ((m__law_new_lines ((m__law_next (m__law_feed ns) (3 : Int)).2) ).1) (0 : Int) (6 : Int)).1)), .no] := B
    refine q_asgM (em_call2 B rfl (ea_cons (ev_sc B rfl (.str _)) (ea_cons (ev_va B rfl) ea_nil)) ⟨(m__law_new_text ((m__law_new_lines ((m__law_next (m__law_feed ns) (3 : Int)).2) ).2) ((m__law_new_lines ((m__law_next (m__law_feed ns) (3 : Int)).2) ).1) (0 : Int) (6 : Int)).2, (getI ([("n" : Str), ("new10" : Str), ("b2c0z9" : Str)]) ((m__law_next (m__law_feed ns) (3 : Int)).1)), (m__law_new_lines ((m__law_next (m__law_feed ns) (3 : Int)).2) ).1, rfl, rfl, t2, l1, rfl, rfl⟩) fun σ1 H1 B => ?_
    have B : Bs _ _ _ [.no, .ow true a1 (((m__law_new_elders ((m__law_new_text ((m__law_new_lines ((m__law_next (m__law_feed ns) (3 : Int)).2) ).2) ((m__law_new_lines ((m__law_next (m__law_feed ns) (3 : Int)).2) ).1) (0 : Int) (6 : Int)).2) (getI ([("n" : Str), ("new10" : Str), ("b2c0z9" : Str)]) ((m__law_next (m__law_feed ns) (3 : Int)).1)) ((m__law_new_lines ((m__law_next (m__law_feed ns) (3 : Int)).2) ).1)).2).map eI), .va true (eS (getI ([("n" : Str), ("new10" : Str), ("b2c0z9" : Str)]) ((m__law_next (m__law_feed ns) (3 : Int)).1))), .va true ((eL eS) ((m__law_new_lines ((m__law_next (m__law_feed ns) (3 : Int)).2) ).1)), .va true ((eL eS) ((m__law_new_text ((m__law_new_lines ((m__law_next (m__law_feed ns) (3 : Int)).2) ).2) ((m__law_new_lines ((m__law_next (m__law_feed ns) (3 : Int)).2) ).1) (0 : Int) (6 : Int)).1)), .va true ((eL (eT2 (eL eS) (eL eS))) ((m__law_new_elders ((m__law_new_text ((m__law_new_lines ((m__law_next (m__law_feed ns) (3 : Int)).2) ).2) ((m__law_new_lines ((m__law_next (m__law_feed ns) (3 : Int)).2) ).1) (0 : Int) (6 : Int)).2) (getI ([("n" : Str), ("new10" : Str), ("b2c0z9" : Str)]) ((m__law_next (m__law_feed ns) (3 : Int)).1)) ((m__law_new_lines ((m__law_next (m__law_feed ns) (3 : Int)).2) ).1)).1))] := B
    refine q_if B (et_not (et_B ((ev_callF (B.live true) (ea_cons (ev_sc B rfl (.str _)) (ea_cons ((ev_va B rfl).w0) (ea_cons ((ev_va B rfl).w0) ea_nil))) ⟨(getI ([("n" : Str), ("new10" : Str), ("b2c0z9" : Str)]) ((m__law_next (m__law_feed ns) (3 : Int)).1)), (m__law_new_text ((m__law_new_lines ((m__law_next (m__law_feed ns) (3 : Int)).2) ).2) ((m__law_new_lines ((m__law_next (m__law_feed ns) (3 : Int)).2) ).1) (0 : Int) (6 : Int)).1, (m__law_new_elders ((m__law_new_text ((m__law_new_lines ((m__law_next (m__law_feed ns) (3 : Int)).2) ).2) ((m__law_new_lines ((m__law_next (m__law_feed ns) (3 : Int)).2) ).1) (0 : Int) (6 : Int)).2) (getI ([("n" : Str), ("new10" : Str), ("b2c0z9" : Str)]) ((m__law_next (m__law_feed ns) (3 : Int)).1)) ((m__law_new_lines ((m__law_next (m__law_feed ns) (3 : Int)).2) ).1)).1, rfl, by omega, by omega, nm, t4, e2, rfl⟩).sc (.bl _)))) (fun hc2 H1 B => ?_) (fun hc2 H1 B => ?_)
    · rw [if_pos hc2] at hk
      have hc2_f := hc2
      try simp only [Bool.and_eq_true, Bool.or_eq_true, Bool.not_eq_true', Bool.and_eq_false_imp, Bool.or_eq_false_iff, Bool.not_eq_false', decide_eq_true_eq, decide_eq_false_iff_not] at hc2_f
      refine q_ret (f := true) B ev_bl fun v H1 x hv => q v H1 ?_
      rw [hk]; exact hv.up
    · rw [if_neg (show ¬ (!(m__law_good ((getI ([("n" : Str), ("new10" : Str), ("b2c0z9" : Str)]) ((m__law_next (m__law_feed ns) (3 : Int)).1))) ((m__law_new_text ((m__law_new_lines ((m__law_next (m__law_feed ns) (3 : Int)).2) ).2) ((m__law_new_lines ((m__law_next (m__law_feed ns) (3 : Int)).2) ).1) (0 : Int) (6 : Int)).1) ((m__law_new_elders ((m__law_new_text ((m__law_new_lines ((m__law_next (m__law_feed ns) (3 : Int)).2) ).2) ((m__law_new_lines ((m__law_next (m__law_feed ns) (3 : Int)).2) ).1) (0 : Int) (6 : Int)).2) (getI ([("n" : Str), ("new10" : Str), ("b2c0z9" : Str)]) ((m__law_next (m__law_feed ns) (3 : Int)).1)) ((m__law_new_lines ((m__law_next (m__law_feed ns) (3 : Int)).2) ).1)).1))) = true from by rw [hc2]; exact Bool.false_ne_true)] at hk
      have hc2_f := hc2
      try simp only [Bool.and_eq_true, Bool.or_eq_true, Bool.not_eq_true', Bool.and_eq_false_imp, Bool.or_eq_false_iff, Bool.not_eq_false', decide_eq_true_eq, decide_eq_false_iff_not] at hc2_f
      dsimp only [tNext]
      refine q_if B (et_not (et_B ((ev_callF (B.live true) (ea_cons (ev_sc B rfl (.str _)) (ea_cons ((ev_va B rfl).w0) (ea_cons ((en_revM ((ev_va B rfl).w0)).ev live0) ea_nil))) ⟨(getI ([("n" : Str), ("new10" : Str), ("b2c0z9" : Str)]) ((m__law_next (m__law_feed ns) (3 : Int)).1)), (m__law_new_text ((m__law_new_lines ((m__law_next (m__law_feed ns) (3 : Int)).2) ).2) ((m__law_new_lines ((m__law_next (m__law_feed ns) (3 : Int)).2) ).1) (0 : Int) (6 : Int)).1, ((m__law_new_elders ((m__law_new_text ((m__law_new_lines ((m__law_next (m__law_feed ns) (3 : Int)).2) ).2) ((m__law_new_lines ((m__law_next (m__law_feed ns) (3 : Int)).2) ).1) (0 : Int) (6 : Int)).2) (getI ([("n" : Str), ("new10" : Str), ("b2c0z9" : Str)]) ((m__law_next (m__law_feed ns) (3 : Int)).1)) ((m__law_new_lines ((m__law_next (m__law_feed ns) (3 : Int)).2) ).1)).1).reverse, rfl, by omega, by (rw [List.length_reverse]; omega), nm, t4, e3, rfl⟩).sc (.bl _)))) (fun hc3 H1 B => ?_) (fun hc3 H1 B => ?_)
      · rw [if_pos hc3] at hk
        have hc3_f := hc3
        try simp only [Bool.and_eq_true, Bool.or_eq_true, Bool.not_eq_true', Bool.and_eq_false_imp, Bool.or_eq_false_iff, Bool.not_eq_false', decide_eq_true_eq, decide_eq_false_iff_not] at hc3_f
        refine q_ret (f := true) B ev_bl fun v H1 x hv => q v H1 ?_
        rw [hk]; exact hv.up
      · rw [if_neg (show ¬ (!(m__law_good ((getI ([("n" : Str), ("new10" : Str), ("b2c0z9" : Str)]) ((m__law_next (m__law_feed ns) (3 : Int)).1))) ((m__law_new_text ((m__law_new_lines ((m__law_next (m__law_feed ns) (3 : Int)).2) ).2) ((m__law_new_lines ((m__law_next (m__law_feed ns) (3 : Int)).2) ).1) (0 : Int) (6 : Int)).1) (((m__law_new_elders ((m__law_new_text ((m__law_new_lines ((m__law_next (m__law_feed ns) (3 : Int)).2) ).2) ((m__law_new_lines ((m__law_next (m__law_feed ns) (3 : Int)).2) ).1) (0 : Int) (6 : Int)).2) (getI ([("n" : Str), ("new10" : Str), ("b2c0z9" : Str)]) ((m__law_next (m__law_feed ns) (3 : Int)).1)) ((m__law_new_lines ((m__law_next (m__law_feed ns) (3 : Int)).2) ).1)).1).reverse))) = true from by rw [hc3]; exact Bool.false_ne_true)] at hk
        have hc3_f := hc3
        try simp only [Bool.and_eq_true, Bool.or_eq_true, Bool.not_eq_true', Bool.and_eq_false_imp, Bool.or_eq_false_iff, Bool.not_eq_false', decide_eq_true_eq, decide_eq_false_iff_not] at hc3_f
        dsimp only [tNext]
        refine q_if B (et_or (et_not (et_B ((ev_callF (B.live true) (ea_cons (ev_sc B rfl (.str _)) (ea_cons ((ev_va B rfl).w0) (ea_cons ((en_lstM (em := (eT2 (eL eS) (eL eS))) (xs := []) ea_nil (by simp)).ev live0) ea_nil))) ⟨(getI ([("n" : Str), ("new10" : Str), ("b2c0z9" : Str)]) ((m__law_next (m__law_feed ns) (3 : Int)).1)), (m__law_new_text ((m__law_new_lines ((m__law_next (m__law_feed ns) (3 : Int)).2) ).2) ((m__law_new_lines ((m__law_next (m__law_feed ns) (3 : Int)).2) ).1) (0 : Int) (6 : Int)).1, [], rfl, by omega, by simp, nm, t4, fun e he => by simp at he, rfl⟩).sc (.bl _)))) fun hc => (et_not (et_B ((ev_callF (B.live true) (ea_cons (ev_sc B rfl (.str _)) (ea_cons ((en_lstM (em := eS) (xs := []) ea_nil (by simp)).ev live0) (ea_cons ((ev_va B rfl).w0) ea_nil))) ⟨(getI ([("n" : Str), ("new10" : Str), ("b2c0z9" : Str)]) ((m__law_next (m__law_feed ns) (3 : Int)).1)), [], (m__law_new_elders ((m__law_new_text ((m__law_new_lines ((m__law_next (m__law_feed ns) (3 : Int)).2) ).2) ((m__law_new_lines ((m__law_next (m__law_feed ns) (3 : Int)).2) ).1) (0 : Int) (6 : Int)).2) (getI ([("n" : Str), ("new10" : Str), ("b2c0z9" : Str)]) ((m__law_next (m__law_feed ns) (3 : Int)).1)) ((m__law_new_lines ((m__law_next (m__law_feed ns) (3 : Int)).2) ).1)).1, rfl, by simp, by omega, nm, fun x hx => by simp at hx, e2, rfl⟩).sc (.bl _))))) (fun hc4 H1 B => ?_) (fun hc4 H1 B => ?_)
        · rw [if_pos hc4] at hk
          have hc4_f := hc4
          try simp only [Bool.and_eq_true, Bool.or_eq_true, Bool.not_eq_true', Bool.and_eq_false_imp, Bool.or_eq_false_iff, Bool.not_eq_false', decide_eq_true_eq, decide_eq_false_iff_not] at hc4_f
          refine q_ret (f := true) B ev_bl fun v H1 x hv => q v H1 ?_
          rw [hk]; exact hv.up
        · rw [if_neg (show ¬ ((!(m__law_good ((getI ([("n" : Str), ("new10" : Str), ("b2c0z9" : Str)]) ((m__law_next (m__law_feed ns) (3 : Int)).1))) ((m__law_new_text ((m__law_new_lines ((m__law_next (m__law_feed ns) (3 : Int)).2) ).2) ((m__law_new_lines ((m__law_next (m__law_feed ns) (3 : Int)).2) ).1) (0 : Int) (6 : Int)).1) ([]))) || (!(m__law_good ((getI ([("n" : Str), ("new10" : Str), ("b2c0z9" : Str)]) ((m__law_next (m__law_feed ns) (3 : Int)).1))) ([]) ((m__law_new_elders ((m__law_new_text ((m__law_new_lines ((m__law_next (m__law_feed ns) (3 : Int)).2) ).2) ((m__law_new_lines ((m__law_next (m__law_feed ns) (3 : Int)).2) ).1) (0 : Int) (6 : Int)).2) (getI ([("n" : Str), ("new10" : Str), ("b2c0z9" : Str)]) ((m__law_next (m__law_feed ns) (3 : Int)).1)) ((m__law_new_lines ((m__law_next (m__law_feed ns) (3 : Int)).2) ).1)).1)))) = true from by rw [hc4]; exact Bool.false_ne_true)] at hk
          have hc4_f := hc4
          try simp only [Bool.and_eq_true, Bool.or_eq_true, Bool.not_eq_true', Bool.and_eq_false_imp, Bool.or_eq_false_iff, Bool.not_eq_false', decide_eq_true_eq, decide_eq_false_iff_not] at hc4_f
          dsimp only [tNext]
          refine q_ret (f := true) B ((ev_callF (B.live true) (ea_cons ev_str (ea_cons ((ev_va B rfl).w0) (ea_cons ((ev_va B rfl).w0) ea_nil))) ⟨("other" : Str), (m__law_new_text ((m__law_new_lines ((m__law_next (m__law_feed ns) (3 : Int)).2) ).2) ((m__law_new_lines ((m__law_next (m__law_feed ns) (3 : Int)).2) ).1) (0 : Int) (6 : Int)).1, (m__law_new_elders ((m__law_new_text ((m__law_new_lines ((m__law_next (m__law_feed ns) (3 : Int)).2) ).2) ((m__law_new_lines ((m__law_next (m__law_feed ns) (3 : Int)).2) ).1) (0 : Int) (6 : Int)).2) (getI ([("n" : Str), ("new10" : Str), ("b2c0z9" : Str)]) ((m__law_next (m__law_feed ns) (3 : Int)).1)) ((m__law_new_lines ((m__law_next (m__law_feed ns) (3 : Int)).2) ).1)).1, rfl, by omega, by omega, other_ok, t4, e2, rfl⟩).sc (.bl _)) fun v H1 x hv => q v H1 ?_
          rw [hk]; exact hv.up

end
end K4
namespace K4
open PySem PySem.Spec PyProof.Rows L2 HL
theorem good_true (a : Str) (b : List Str) (c : List Eld) : m__law_good a b c = true := by
  unfold m__law_good
  rw [pass_id, origins_is]
  simp
theorem law_true (ns : List Int) : m_law ns = true := by
  unfold m_law
  simp [good_true]
def spLaw (K : PySem.W.Frag) : Sp := fun vs H Q _ => ∃ (a : Addr) (ns : List Int), vs = [.ref a] ∧ SqL K H a (ns.map V.int) ∧ ns.length ≤ 63 ∧ ∀ H', Q (.bl true) H'
theorem law_imp {P : Program} {w : World} {K : PySem.W.Frag} {mg : Str → Option Value} {base : Heap} {k : Nat} {f : Addr} {fd : FuncData} (G : FnOk P w K mg base CX0 k f fd ["script"] (sp_law K)) : FnOk P w K mg base CX0 k f fd ["script"] (spLaw K) :=
  G.imp fun vs H Q E ⟨a, ns, h1, h2, h3, h4⟩ => ⟨a, ns, h1, h2, h3, fun v H' hv => by
    rw [law_true] at hv
    cases hv
    exact h4 H'⟩
theorem own_exc {K : PySem.W.Frag} {C : Addr} (a : PySem.W.subIn K (.ref C) (.type "BaseException") = some true) (b : PySem.W.isClsIn K C = true) (c : PySem.W.typeIn K (.ref C) = some (.type "type")) (d : PySem.W.subIn K (.ref C) (.ref C) = some true) : PySem.W.exmOne K (.ref C) (.ref C) = some true := by
  have b' : (PySem.W.clsIn K C).isSome = true := b
  simp [PySem.W.exmOne, PySem.W.kitCls, PySem.W.isClsIn, a, b', c, d]
theorem all_mk {l : PySem.W.OpenLaw} {w : World} {K : PySem.W.Frag} {h : Heap} {mg : Str → Option Value} {fa : Addr} (X : K.In h) (G : h.Ns mainGlobals mg) (hfa : mg "law" = some (.ref fa))
    {f0 : Addr} {od0 an0 : Option Addr} {sl0 : Array (Option Value)} {oc0 kV0 dc0 pm0 cd0 ct0 : Value}
    {f1 : Addr} {od1 an1 : Option Addr} {sl1 : Array (Option Value)} {oc1 kV1 dc1 pm1 cd1 ct1 : Value}
    {f2 : Addr} {od2 an2 : Option Addr} {sl2 : Array (Option Value)} {oc2 kV2 dc2 pm2 cd2 ct2 : Value}
    {f3 : Addr} {od3 an3 : Option Addr} {sl3 : Array (Option Value)} {oc3 kV3 dc3 pm3 cd3 ct3 : Value}
    {f4 : Addr} {od4 an4 : Option Addr} {sl4 : Array (Option Value)} {oc4 kV4 dc4 pm4 cd4 ct4 : Value}
    {f5 : Addr} {od5 an5 : Option Addr} {sl5 : Array (Option Value)} {oc5 kV5 dc5 pm5 cd5 ct5 : Value}
    {f6 : Addr} {od6 an6 : Option Addr} {sl6 : Array (Option Value)} {oc6 kV6 dc6 pm6 cd6 ct6 : Value}
    {f7 : Addr} {od7 an7 : Option Addr} {sl7 : Array (Option Value)} {oc7 kV7 dc7 pm7 cd7 ct7 : Value}
    {f8 : Addr} {od8 an8 : Option Addr} {sl8 : Array (Option Value)} {oc8 kV8 dc8 pm8 cd8 ct8 : Value}
    {f9 : Addr} {od9 an9 : Option Addr} {sl9 : Array (Option Value)} {oc9 kV9 dc9 pm9 cd9 ct9 : Value}
    {f10 : Addr} {od10 an10 : Option Addr} {sl10 : Array (Option Value)} {oc10 kV10 dc10 pm10 cd10 ct10 : Value}
    {f11 : Addr} {od11 an11 : Option Addr} {sl11 : Array (Option Value)} {oc11 kV11 dc11 pm11 cd11 ct11 : Value}
    (a0 : PySem.W.nsIn K mainGlobals "_common_lengths" = some (some (.ref f0))) (l0 : K.lookup f0 = some ⟨oc0, od0, .func (PySem.W.fnOf "_common_lengths" "_common_lengths" (defArgs s__common_lengths) (defBody s__common_lengths) (defScope s__common_lengths) .none kV0 dc0 pm0 an0 cd0 ct0), sl0⟩) (c0 : PySem.W.codeIn K cd0 "_common_lengths" = true) (k0 : PySem.W.keepIn K (.ref f0) = true)
    (a1 : PySem.W.nsIn K mainGlobals "matched" = some (some (.ref f1))) (l1 : K.lookup f1 = some ⟨oc1, od1, .func (PySem.W.fnOf "matched" "matched" (defArgs s_matched) (defBody s_matched) (defScope s_matched) .none kV1 dc1 pm1 an1 cd1 ct1), sl1⟩) (c1 : PySem.W.codeIn K cd1 "matched" = true) (k1 : PySem.W.keepIn K (.ref f1) = true)
    (a2 : PySem.W.nsIn K mainGlobals "line_origins" = some (some (.ref f2))) (l2 : K.lookup f2 = some ⟨oc2, od2, .func (PySem.W.fnOf "line_origins" "line_origins" (defArgs s_line_origins) (defBody s_line_origins) (defScope s_line_origins) .none kV2 dc2 pm2 an2 cd2 ct2), sl2⟩) (c2 : PySem.W.codeIn K cd2 "line_origins" = true) (k2 : PySem.W.keepIn K (.ref f2) = true)
    (a3 : PySem.W.nsIn K mainGlobals "_law_feed" = some (some (.ref f3))) (l3 : K.lookup f3 = some ⟨oc3, od3, .func (PySem.W.fnOf "_law_feed" "_law_feed" (defArgs s__law_feed) (defBody s__law_feed) (defScope s__law_feed) .none kV3 dc3 pm3 an3 cd3 ct3), sl3⟩) (c3 : PySem.W.codeIn K cd3 "_law_feed" = true) (k3 : PySem.W.keepIn K (.ref f3) = true)
    (a4 : PySem.W.nsIn K mainGlobals "_law_next" = some (some (.ref f4))) (l4 : K.lookup f4 = some ⟨oc4, od4, .func (PySem.W.fnOf "_law_next" "_law_next" (defArgs s__law_next) (defBody s__law_next) (defScope s__law_next) .none kV4 dc4 pm4 an4 cd4 ct4), sl4⟩) (c4 : PySem.W.codeIn K cd4 "_law_next" = true) (k4 : PySem.W.keepIn K (.ref f4) = true)
    (a5 : PySem.W.nsIn K mainGlobals "_law_matched" = some (some (.ref f5))) (l5 : K.lookup f5 = some ⟨oc5, od5, .func (PySem.W.fnOf "_law_matched" "_law_matched" (defArgs s__law_matched) (defBody s__law_matched) (defScope s__law_matched) .none kV5 dc5 pm5 an5 cd5 ct5), sl5⟩) (c5 : PySem.W.codeIn K cd5 "_law_matched" = true) (k5 : PySem.W.keepIn K (.ref f5) = true)
    (a6 : PySem.W.nsIn K mainGlobals "_law_new_lines" = some (some (.ref f6))) (l6 : K.lookup f6 = some ⟨oc6, od6, .func (PySem.W.fnOf "_law_new_lines" "_law_new_lines" (defArgs s__law_new_lines) (defBody s__law_new_lines) (defScope s__law_new_lines) .none kV6 dc6 pm6 an6 cd6 ct6), sl6⟩) (c6 : PySem.W.codeIn K cd6 "_law_new_lines" = true) (k6 : PySem.W.keepIn K (.ref f6) = true)
    (a7 : PySem.W.nsIn K mainGlobals "_law_new_text" = some (some (.ref f7))) (l7 : K.lookup f7 = some ⟨oc7, od7, .func (PySem.W.fnOf "_law_new_text" "_law_new_text" (defArgs s__law_new_text) (defBody s__law_new_text) (defScope s__law_new_text) .none kV7 dc7 pm7 an7 cd7 ct7), sl7⟩) (c7 : PySem.W.codeIn K cd7 "_law_new_text" = true) (k7 : PySem.W.keepIn K (.ref f7) = true)
    (a8 : PySem.W.nsIn K mainGlobals "_law_new_elders" = some (some (.ref f8))) (l8 : K.lookup f8 = some ⟨oc8, od8, .func (PySem.W.fnOf "_law_new_elders" "_law_new_elders" (defArgs s__law_new_elders) (defBody s__law_new_elders) (defScope s__law_new_elders) .none kV8 dc8 pm8 an8 cd8 ct8), sl8⟩) (c8 : PySem.W.codeIn K cd8 "_law_new_elders" = true) (k8 : PySem.W.keepIn K (.ref f8) = true)
    (a9 : PySem.W.nsIn K mainGlobals "_law_own_lines" = some (some (.ref f9))) (l9 : K.lookup f9 = some ⟨oc9, od9, .func (PySem.W.fnOf "_law_own_lines" "_law_own_lines" (defArgs s__law_own_lines) (defBody s__law_own_lines) (defScope s__law_own_lines) .none kV9 dc9 pm9 an9 cd9 ct9), sl9⟩) (c9 : PySem.W.codeIn K cd9 "_law_own_lines" = true) (k9 : PySem.W.keepIn K (.ref f9) = true)
    (a10 : PySem.W.nsIn K mainGlobals "_law_good" = some (some (.ref f10))) (l10 : K.lookup f10 = some ⟨oc10, od10, .func (PySem.W.fnOf "_law_good" "_law_good" (defArgs s__law_good) (defBody s__law_good) (defScope s__law_good) .none kV10 dc10 pm10 an10 cd10 ct10), sl10⟩) (c10 : PySem.W.codeIn K cd10 "_law_good" = true) (k10 : PySem.W.keepIn K (.ref f10) = true)
    (a11 : PySem.W.nsIn K mainGlobals "law" = some (some (.ref f11))) (l11 : K.lookup f11 = some ⟨oc11, od11, .func (PySem.W.fnOf "law" "law" (defArgs s_law) (defBody s_law) (defScope s_law) .none kV11 dc11 pm11 an11 cd11 ct11), sl11⟩) (c11 : PySem.W.codeIn K cd11 "law" = true) (k11 : PySem.W.keepIn K (.ref f11) = true)
    (z0 : PySem.W.nsIn K mainGlobals "len" = some none)
    (z1 : PySem.W.nsIn K mainGlobals "reversed" = some none)
    (z2 : PySem.W.nsIn K mainGlobals "int" = some none)
    (z3 : PySem.W.nsIn K mainGlobals "range" = some none)
    (z4 : PySem.W.nsIn K mainGlobals "list" = some none)
    (z5 : PySem.W.nsIn K mainGlobals "max" = some none)
    (z6 : PySem.W.nsIn K mainGlobals "isinstance" = some none)
    (z7 : PySem.W.nsIn K mainGlobals "tuple" = some none)
    (z8 : PySem.W.nsIn K mainGlobals "bool" = some none)
    (z9 : PySem.W.nsIn K mainGlobals "str" = some none)
    (z10 : PySem.W.nsIn K mainGlobals "abs" = some none)
    : ∃ fd : FuncData, (∀ (s : Shared) (v : Value), BindsTo s fd ⟨[v], []⟩ [("script", v)]) ∧ ∀ base : Heap, K.In base → base.Ns mainGlobals mg → FnOk l.prog w K mg base CX0 5 fa fd ["script"] (spLaw K) := by
  have e := hfa.symm.trans (PySem.W.mg_of X G a11)
  cases e
  have F__common_lengths := fun_mk (st := s__common_lengths) l0 c0 k0
  have b__common_lengths := F__common_lengths.binds (ps := ["old", "new"]) fun _ _ _ _ _ _ us hl => match us, hl with | [_, _], _ => rfl
  have g__common_lengths := PySem.W.mg_of X G a0
  have F_matched := fun_mk (st := s_matched) l1 c1 k1
  have b_matched := F_matched.binds (ps := ["old", "new"]) fun _ _ _ _ _ _ us hl => match us, hl with | [_, _], _ => rfl
  have g_matched := PySem.W.mg_of X G a1
  have F_line_origins := fun_mk (st := s_line_origins) l2 c2 k2
  have b_line_origins := F_line_origins.binds (ps := ["name", "text", "elders"]) fun _ _ _ _ _ _ us hl => match us, hl with | [_, _, _], _ => rfl
  have g_line_origins := PySem.W.mg_of X G a2
  have F__law_feed := fun_mk (st := s__law_feed) l3 c3 k3
  have b__law_feed := F__law_feed.binds (ps := ["script"]) fun _ _ _ _ _ _ us hl => match us, hl with | [_], _ => rfl
  have g__law_feed := PySem.W.mg_of X G a3
  have F__law_next := fun_mk (st := s__law_next) l4 c4 k4
  have b__law_next := F__law_next.binds (ps := ["feed", "many"]) fun _ _ _ _ _ _ us hl => match us, hl with | [_, _], _ => rfl
  have g__law_next := PySem.W.mg_of X G a4
  have F__law_matched := fun_mk (st := s__law_matched) l5 c5 k5
  have b__law_matched := F__law_matched.binds (ps := ["old", "new"]) fun _ _ _ _ _ _ us hl => match us, hl with | [_, _], _ => rfl
  have g__law_matched := PySem.W.mg_of X G a5
  have F__law_new_lines := fun_mk (st := s__law_new_lines) l6 c6 k6
  have b__law_new_lines := F__law_new_lines.binds (ps := ["feed"]) fun _ _ _ _ _ _ us hl => match us, hl with | [_], _ => rfl
  have g__law_new_lines := PySem.W.mg_of X G a6
  have F__law_new_text := fun_mk (st := s__law_new_text) l7 c7 k7
  have b__law_new_text := F__law_new_text.binds (ps := ["feed", "lines", "shift", "most"]) fun _ _ _ _ _ _ us hl => match us, hl with | [_, _, _, _], _ => rfl
  have g__law_new_text := PySem.W.mg_of X G a7
  have F__law_new_elders := fun_mk (st := s__law_new_elders) l8 c8 k8
  have b__law_new_elders := F__law_new_elders.binds (ps := ["feed", "name", "lines"]) fun _ _ _ _ _ _ us hl => match us, hl with | [_, _, _], _ => rfl
  have g__law_new_elders := PySem.W.mg_of X G a8
  have F__law_own_lines := fun_mk (st := s__law_own_lines) l9 c9 k9
  have b__law_own_lines := F__law_own_lines.binds (ps := ["name", "text", "elders"]) fun _ _ _ _ _ _ us hl => match us, hl with | [_, _, _], _ => rfl
  have g__law_own_lines := PySem.W.mg_of X G a9
  have F__law_good := fun_mk (st := s__law_good) l10 c10 k10
  have b__law_good := F__law_good.binds (ps := ["name", "text", "elders"]) fun _ _ _ _ _ _ us hl => match us, hl with | [_, _, _], _ => rfl
  have g__law_good := PySem.W.mg_of X G a10
  have F_law := fun_mk (st := s_law) l11 c11 k11
  have m_len := PySem.W.mg_none_of X G z0
  have m_reversed := PySem.W.mg_none_of X G z1
  have m_int := PySem.W.mg_none_of X G z2
  have m_range := PySem.W.mg_none_of X G z3
  have m_list := PySem.W.mg_none_of X G z4
  have m_max := PySem.W.mg_none_of X G z5
  have m_isinstance := PySem.W.mg_none_of X G z6
  have m_tuple := PySem.W.mg_none_of X G z7
  have m_bool := PySem.W.mg_none_of X G z8
  have m_str := PySem.W.mg_none_of X G z9
  have m_abs := PySem.W.mg_none_of X G z10
  refine ⟨PySem.W.fnOf "law" "law" (defArgs s_law) (defBody s_law) (defScope s_law) .none kV11 dc11 pm11 an11 cd11 ct11, fun s v => .of_eq rfl, fun base _ _ => ?_⟩
  have G__common_lengths := ok__common_lengths (P := l.prog) (w := w) (mg := mg) (base := base) (k := 0) F__common_lengths m_len m_range m_reversed m_max
  have G_matched := ok_matched (P := l.prog) (w := w) (mg := mg) (base := base) (k := 1) F_matched  F__common_lengths b__common_lengths g__common_lengths G__common_lengths (by omega) m_len
  have G_line_origins := ok_line_origins (P := l.prog) (w := w) (mg := mg) (base := base) (k := 2) F_line_origins  F_matched b_matched g_matched G_matched (by omega) m_len m_reversed
  have G__law_feed := ok__law_feed (P := l.prog) (w := w) (mg := mg) (base := base) (k := 0) F__law_feed m_abs m_int
  have G__law_next := ok__law_next (P := l.prog) (w := w) (mg := mg) (base := base) (k := 0) F__law_next  m_len m_int
  have G__law_matched := ok__law_matched (P := l.prog) (w := w) (mg := mg) (base := base) (k := 0) F__law_matched m_len m_range m_max
  have G__law_new_lines := ok__law_new_lines (P := l.prog) (w := w) (mg := mg) (base := base) (k := 1) F__law_new_lines  F__law_next b__law_next g__law_next G__law_next (by omega) m_range m_int
  have G__law_new_text := ok__law_new_text (P := l.prog) (w := w) (mg := mg) (base := base) (k := 1) F__law_new_text  F__law_next b__law_next g__law_next G__law_next (by omega) m_range m_int
  have G__law_new_elders := ok__law_new_elders (P := l.prog) (w := w) (mg := mg) (base := base) (k := 2) F__law_new_elders  F__law_next b__law_next g__law_next G__law_next (by omega) F__law_new_text b__law_new_text g__law_new_text G__law_new_text (by omega) m_range m_len m_int
  have G__law_own_lines := ok__law_own_lines (P := l.prog) (w := w) (mg := mg) (base := base) (k := 1) F__law_own_lines  F__law_matched b__law_matched g__law_matched G__law_matched (by omega) m_len
  have G__law_good := ok__law_good (P := l.prog) (w := w) (mg := mg) (base := base) (k := 3) F__law_good  F__law_own_lines b__law_own_lines g__law_own_lines G__law_own_lines (by omega) F_line_origins b_line_origins g_line_origins G_line_origins (by omega) m_list
  have G_law := ok_law (P := l.prog) (w := w) (mg := mg) (base := base) (k := 4) F_law  F__law_feed b__law_feed g__law_feed G__law_feed (by omega) F__law_next b__law_next g__law_next G__law_next (by omega) F__law_new_lines b__law_new_lines g__law_new_lines G__law_new_lines (by omega) F__law_new_text b__law_new_text g__law_new_text G__law_new_text (by omega) F__law_new_elders b__law_new_elders g__law_new_elders G__law_new_elders (by omega) F__law_good b__law_good g__law_good G__law_good (by omega) 
  exact law_imp G_law
end K4
open PySem PySem.W PyProof.Rows
set_option maxHeartbeats 0 in
theorem PySem.Challenge.cw_partclones_k38_line_origins_holds : PySem.Challenge.rw_partclones_k38_line_origins.Holds := by
  w_on; o_law; k_head; (case hw => w_witness2)
  k_fill
  refine L2.walk_of (l := PySem.Challenge.rw_partclones_k38_line_origins) (n := 63) (k := 5) (x := "script") (CX := fun _ => L2.CX0) (sp := fun w => K4.spLaw _) rfl (by decide) rfl ⟨rfl, by decide, by decide⟩ (fun w h Y => PySem.W.kIn_of Y) ?F (fun _ _ a ns hl _ hS => ⟨a, ns, rfl, hS, hl, fun _ => rfl⟩) (fun _ _ _ _ _ h => h)
  case F =>
    intro w mg fa h KX G hmg
    refine' K4.all_mk KX G hmg ?a0 ?l0 ?c0 ?k0 ?a1 ?l1 ?c1 ?k1 ?a2 ?l2 ?c2 ?k2 ?a3 ?l3 ?c3 ?k3 ?a4 ?l4 ?c4 ?k4 ?a5 ?l5 ?c5 ?k5 ?a6 ?l6 ?c6 ?k6 ?a7 ?l7 ?c7 ?k7 ?a8 ?l8 ?c8 ?k8 ?a9 ?l9 ?c9 ?k9 ?a10 ?l10 ?c10 ?k10 ?a11 ?l11 ?c11 ?k11 ?z0 ?z1 ?z2 ?z3 ?z4 ?z5 ?z6 ?z7 ?z8 ?z9 ?z10
    (case a0 => k_is); (case l0 => k_is); (case c0 => k_is); (case k0 => k_is); (case a1 => k_is); (case l1 => k_is); (case c1 => k_is); (case k1 => k_is); (case a2 => k_is); (case l2 => k_is); (case c2 => k_is); (case k2 => k_is); (case a3 => k_is); (case l3 => k_is); (case c3 => k_is); (case k3 => k_is); (case a4 => k_is); (case l4 => k_is); (case c4 => k_is); (case k4 => k_is); (case a5 => k_is); (case l5 => k_is); (case c5 => k_is); (case k5 => k_is); (case a6 => k_is); (case l6 => k_is); (case c6 => k_is); (case k6 => k_is); (case a7 => k_is); (case l7 => k_is); (case c7 => k_is); (case k7 => k_is); (case a8 => k_is); (case l8 => k_is); (case c8 => k_is); (case k8 => k_is); (case a9 => k_is); (case l9 => k_is); (case c9 => k_is); (case k9 => k_is); (case a10 => k_is); (case l10 => k_is); (case c10 => k_is); (case k10 => k_is); (case a11 => k_is); (case l11 => k_is); (case c11 => k_is); (case k11 => k_is); (case z0 => k_is); (case z1 => k_is); (case z2 => k_is); (case z3 => k_is); (case z4 => k_is); (case z5 => k_is); (case z6 => k_is); (case z7 => k_is); (case z8 => k_is); (case z9 => k_is); (case z10 => k_is)
