import PyProof.Rows.All
import Wide.All
import OpenK.AllK
import Wide.FinOn
import PySem.Challenge.RW_partclones_k04_merge_unlike_lines
import HandS.ForMost
import HandS.Evl
import HandS.Flow
import HandS.Style
import HandS.RevRange
import HandS.Conv
import HandS.More
import HandS.IsInst
import HandS.Iter
import PyProof.AutoSeq1
import HandS.TupAny
import HandS.HotCalls
import HandS.ForSpec
import HandS.Zip
import KE.GoesMore
import KE.GoesEnum
import KE.DataAny
import HandS.Star
import HandS.Dict
set_option Elab.async false
set_option linter.all false
set_option maxRecDepth 100000
set_option maxHeartbeats 4000000
namespace HL
open PySem PySem.Spec PyProof.Rows L2
open Evl (Ex)

abbrev Sta := L2.St
def keyD : Key → PyData
  | .inl i => .int i
  | .inr x => .str x
mutual
inductive Dn (H : Hp) : V → PyData → Prop
  | non : Dn H .non .none
  | bl (b : Bool) : Dn H (.bl b) (.bool b)
  | int (i : Int) : Dn H (.int i) (.int i)
  | str (x : Str) : Dn H (.str x) (.str x)
  | lst {a : Addr} {xs : List V} {ds : List PyData} : H a = some (.lst xs) → DnA H xs ds → Dn H (.ref a) (.list ds)
  | tup {a : Addr} {xs : List V} {ds : List PyData} : H a = some (.tup xs) → DnA H xs ds → Dn H (.ref a) (.tuple ds)
  | dct {a : Addr} {xs : List (Key × V)} {ds : List (PyData × PyData)} : H a = some (.dK xs) → DnK H xs ds → Dn H (.ref a) (.dict ds)
inductive DnA (H : Hp) : List V → List PyData → Prop
  | nil : DnA H [] []
  | cons {v : V} {d : PyData} {vs : List V} {ds : List PyData} : Dn H v d → DnA H vs ds → DnA H (v :: vs) (d :: ds)
inductive DnK (H : Hp) : List (Key × V) → List (PyData × PyData) → Prop
  | nil : DnK H [] []
  | cons {k : Key} {v : V} {d : PyData} {vs : List (Key × V)} {ds : List (PyData × PyData)} : Dn H v d → DnK H vs ds → DnK H ((k, v) :: vs) ((keyD k, d) :: ds)
end
mutual
theorem Dn.mono {H H' : Hp} (e : Ex H H') : ∀ {v : V} {d : PyData}, Dn H v d → Dn H' v d
  | _, _, .non => .non
  | _, _, .bl b => .bl b
  | _, _, .int i => .int i
  | _, _, .str x => .str x
  | _, _, .lst h r => .lst (e _ _ h) (DnA.mono e r)
  | _, _, .tup h r => .tup (e _ _ h) (DnA.mono e r)
  | _, _, .dct h r => .dct (e _ _ h) (DnK.mono e r)
theorem DnA.mono {H H' : Hp} (e : Ex H H') : ∀ {vs : List V} {ds : List PyData}, DnA H vs ds → DnA H' vs ds
  | _, _, .nil => .nil
  | _, _, .cons h r => .cons (Dn.mono e h) (DnA.mono e r)
theorem DnK.mono {H H' : Hp} (e : Ex H H') : ∀ {vs : List (Key × V)} {ds : List (PyData × PyData)}, DnK H vs ds → DnK H' vs ds
  | _, _, .nil => .nil
  | _, _, .cons h r => .cons (Dn.mono e h) (DnK.mono e r)
end
mutual
def flatD : PyData → Bool
  | .dict _ => false
  | .list ds => flatDs ds
  | .tuple ds => flatDs ds
  | _ => true
def flatDs : List PyData → Bool
  | [] => true
  | d :: ds => flatD d && flatDs ds
end
mutual
/-- data without dicts, in the layer's own words -/
theorem Dn.dp {K : PySem.W.Frag} {H : Hp} : ∀ {v : V} {d : PyData}, Dn H v d → flatD d = true → Dp K H v d
  | _, _, .non, _ => .non
  | _, _, .bl b, _ => .bl b
  | _, _, .int i, _ => .int i
  | _, _, .str x, _ => .str x
  | _, _, .lst h r, e => .lst (Or.inl (Or.inl h)) (DnA.dp r (by simpa [flatD] using e))
  | _, _, .tup h r, e => .tup (Or.inl (Or.inl h)) (DnA.dp r (by simpa [flatD] using e))
theorem DnA.dp {K : PySem.W.Frag} {H : Hp} : ∀ {vs : List V} {ds : List PyData}, DnA H vs ds → flatDs ds = true → DpAll K H vs ds
  | _, _, .nil, _ => .nil
  | _, _, .cons h r, e => .cons (Dn.dp h (by simp [flatDs] at e; exact e.1)) (DnA.dp r (by simp [flatDs] at e; exact e.2))
end
theorem DnA.length {H : Hp} : ∀ {vs : List V} {ds : List PyData}, DnA H vs ds → vs.length = ds.length
  | _, _, .nil => rfl
  | _, _, .cons _ r => by simp [DnA.length r]
theorem DnA.get {H : Hp} : ∀ {vs : List V} {ds : List PyData} {i : Nat} {d : PyData}, DnA H vs ds → ds[i]? = some d → ∃ v, vs[i]? = some v ∧ Dn H v d
  | _, _, _, _, .nil, e => by simp at e
  | _, _, 0, _, .cons h r, e => by simp at e; subst e; exact ⟨_, rfl, h⟩
  | _, _, i + 1, d, .cons h r, e => by
    obtain ⟨v, h1, h2⟩ := DnA.get (i := i) (d := d) r (by simpa using e)
    exact ⟨v, by simpa using h1, h2⟩
theorem DnA.get' {H : Hp} : ∀ {vs : List V} {ds : List PyData} {i : Nat} {v : V}, DnA H vs ds → vs[i]? = some v → ∃ d, ds[i]? = some d ∧ Dn H v d
  | _, _, _, _, .nil, e => by simp at e
  | _, _, 0, _, .cons h r, e => by simp at e; subst e; exact ⟨_, rfl, h⟩
  | _, _, i + 1, d, .cons h r, e => by
    obtain ⟨v, h1, h2⟩ := DnA.get' (i := i) (v := d) r (by simpa using e)
    exact ⟨v, by simpa using h1, h2⟩
theorem DnA.append {H : Hp} : ∀ {vs ws : List V} {ds es : List PyData}, DnA H vs ds → DnA H ws es → DnA H (vs ++ ws) (ds ++ es)
  | _, _, _, _, .nil, s => s
  | _, _, _, _, .cons h r, s => .cons h (DnA.append r s)
theorem DnA.one {H : Hp} {v : V} {d : PyData} (h : Dn H v d) : DnA H [v] [d] := .cons h .nil
theorem DnA.drop {H : Hp} : ∀ {vs : List V} {ds : List PyData} (n : Nat), DnA H vs ds → DnA H (vs.drop n) (ds.drop n)
  | _, _, 0, h => h
  | _, _, _ + 1, .nil => .nil
  | _, _, n + 1, .cons _ r => DnA.drop n r
theorem DnA.take {H : Hp} : ∀ {vs : List V} {ds : List PyData} (n : Nat), DnA H vs ds → DnA H (vs.take n) (ds.take n)
  | _, _, 0, _ => .nil
  | _, _, _ + 1, .nil => .nil
  | _, _, n + 1, .cons h r => .cons h (DnA.take n r)
theorem DnA.reverse {H : Hp} : ∀ {vs : List V} {ds : List PyData}, DnA H vs ds → DnA H vs.reverse ds.reverse
  | _, _, .nil => .nil
  | _, _, .cons h r => by simpa using DnA.append (DnA.reverse r) (.one h)
theorem DnA.set {H : Hp} {v : V} {d : PyData} (h : Dn H v d) : ∀ {vs : List V} {ds : List PyData} (i : Nat), DnA H vs ds → DnA H (vs.set i v) (ds.set i d)
  | _, _, _, .nil => .nil
  | _, _, 0, .cons _ r => .cons h r
  | _, _, i + 1, .cons h' r => .cons h' (DnA.set h i r)
theorem DnA.replicate {H : Hp} {v : V} {d : PyData} (h : Dn H v d) : ∀ n : Nat, DnA H (List.replicate n v) (List.replicate n d)
  | 0 => .nil
  | n + 1 => .cons h (DnA.replicate h n)
theorem DnA.flatten_rep {H : Hp} {vs : List V} {ds : List PyData} (h : DnA H vs ds) : ∀ n : Nat, DnA H (List.replicate n vs).flatten (List.replicate n ds).flatten
  | 0 => .nil
  | n + 1 => by
    rw [List.replicate_succ, List.replicate_succ, List.flatten_cons, List.flatten_cons]
    exact h.append (DnA.flatten_rep h n)
theorem DnA.eraseIdx {H : Hp} : ∀ {vs : List V} {ds : List PyData} (i : Nat), DnA H vs ds → DnA H (vs.eraseIdx i) (ds.eraseIdx i)
  | _, _, _, .nil => .nil
  | _, _, 0, .cons _ r => r
  | _, _, i + 1, .cons h' r => .cons h' (DnA.eraseIdx i r)
theorem DnA.strs {H : Hp} : ∀ {vs : List V} {xs : List Str}, DnA H vs (xs.map .str) → vs = xs.map .str
  | _, [], .nil => rfl
  | _, x :: xs, .cons h r => by cases h; simp [DnA.strs r]
theorem DnA.ints {H : Hp} : ∀ {vs : List V} {xs : List Int}, DnA H vs (xs.map .int) → vs = xs.map .int
  | _, [], .nil => rfl
  | _, x :: xs, .cons h r => by cases h; simp [DnA.ints r]
theorem DnA.of_strs {H : Hp} : ∀ (xs : List Str), DnA H (xs.map .str) (xs.map .str)
  | [] => .nil
  | x :: xs => .cons (.str x) (DnA.of_strs xs)
theorem DnA.of_ints {H : Hp} : ∀ (xs : List Int), DnA H (xs.map .int) (xs.map .int)
  | [] => .nil
  | x :: xs => .cons (.int x) (DnA.of_ints xs)

/-! ### heaps with some addresses hidden -/
abbrev Hd := Addr → Prop
open Classical in
noncomputable def hid (o : Hd) (H : Hp) : Hp := fun b => if o b then none else H b
theorem hid_at {o : Hd} {H : Hp} {b : Addr} (h : ¬ o b) : hid o H b = H b := by unfold hid; rw [if_neg h]
theorem hid_in {o : Hd} {H : Hp} {b : Addr} (h : o b) : hid o H b = none := by unfold hid; rw [if_pos h]
theorem hid_ex {o : Hd} {H : Hp} : Ex (hid o H) H := fun a u h => by
  unfold hid at h
  split at h
  · cases h
  · exact h
theorem hid_of {o : Hd} {H : Hp} {a : Addr} {u : HO} (h : hid o H a = some u) : ¬ o a ∧ H a = some u := by
  unfold hid at h
  split at h
  · cases h
  · exact ⟨by assumption, h⟩
theorem hid_mono {o : Hd} {H H' : Hp} (e : Ex H H') : Ex (hid o H) (hid o H') := fun a u h => by
  obtain ⟨h1, h2⟩ := hid_of h
  rw [hid_at h1]; exact e _ _ h2
theorem hid_sub {o o' : Hd} {H : Hp} (s : ∀ a, o' a → o a) : Ex (hid o H) (hid o' H) := fun a u h => by
  obtain ⟨h1, h2⟩ := hid_of h
  rw [hid_at fun z => h1 (s a z)]; exact h2
theorem hid_sub_mono {o o' : Hd} {H H' : Hp} (s : ∀ a, o' a → o a) (e : Ex H H') : Ex (hid o H) (hid o' H') := (hid_sub s).trans (hid_mono e)
theorem hid_none {H : Hp} : hid (fun _ => False) H = H := by funext b; exact hid_at id
def Live (o : Hd) (H : Hp) : Prop := ∀ a, o a → H a ≠ none
theorem Live.mono {o : Hd} {H H' : Hp} (l : Live o H) (e : Ex H H') : Live o H' := fun a h z => by
  cases q : H a with
  | none => exact l a h q
  | some u => rw [e a u q] at z; cases z
theorem Live.fresh {o : Hd} {H : Hp} {p : Addr} (l : Live o H) (h : H p = none) : ¬ o p := fun z => l p z h
abbrev o0 : Hd := fun _ => False
theorem live0 {H : Hp} : Live o0 H := fun _ h => h.elim
theorem Dn.up {H : Hp} {o : Hd} {v : V} {d : PyData} (h : Dn (hid o H) v d) : Dn H v d := h.mono hid_ex
theorem DnA.up {H : Hp} {o : Hd} {vs : List V} {ds : List PyData} (h : DnA (hid o H) vs ds) : DnA H vs ds := h.mono hid_ex
theorem Dn.to0 {H : Hp} {o : Hd} {v : V} {d : PyData} (h : Dn (hid o H) v d) : Dn (hid o0 H) v d := h.mono (hid_sub fun _ z => z.elim)
theorem Dn.of0 {H : Hp} {v : V} {d : PyData} (h : Dn (hid o0 H) v d) : Dn H v d := h.mono hid_ex
theorem hid_upd_new {o : Hd} {H : Hp} {p : Addr} {u : HO} (h : H p = none) : Ex (hid o H) (hid o (upd H p u)) := hid_mono (Evl.Ex.new h)
/-- a hidden object may be rewritten -/
theorem hid_upd_in {o : Hd} {H : Hp} {p : Addr} {u : HO} (h : o p) : hid o (upd H p u) = hid o H := by
  funext b
  by_cases q : o b
  · rw [hid_in q, hid_in q]
  · rw [hid_at q, hid_at q, upd_ne (fun z => q (by rw [z]; exact h))]
theorem at_new {o : Hd} {H : Hp} {p : Addr} {u : HO} (l : Live o H) (h : H p = none) : hid o (upd H p u) p = some u := by
  rw [hid_at (l.fresh h), upd_same]

/-! ### readings: which data comes out, with nothing changed -/
def Ev (o : Hd) (te : TE) (σ : Sta) (H : Hp) (d : PyData) : Prop := ∀ H1, Ex H H1 → ∀ Q : VK, (∀ v H2, Ex H1 H2 → Dn (hid o H2) v d → Q v H2) → te σ H1 Q
/-- a new list, hidden from what it holds -/
def EvN (o : Hd) (te : TE) (σ : Sta) (H : Hp) (ds : List PyData) : Prop := ∀ H1, Ex H H1 → ∀ Q : VK, (∀ p vs H2, H1 p = none → Ex H1 H2 → H2 p = some (.lst vs) → DnA (hid (fun a => o a ∨ a = p) H2) vs ds → Q (.ref p) H2) → te σ H1 Q
def EvT (tt : TT) (σ : Sta) (H : Hp) (b : Bool) : Prop := ∀ H1, Ex H H1 → ∀ Q : Bool → Hp → Prop, (∀ H2, Ex H1 H2 → Q b H2) → tt σ H1 Q
def EvA (o : Hd) (ta : TA) (σ : Sta) (H : Hp) (ds : List PyData) : Prop := ∀ H1, Ex H H1 → ∀ Q : List V → Hp → Prop, (∀ vs H2, Ex H1 H2 → DnA (hid o H2) vs ds → Q vs H2) → ta σ H1 Q
def EvO (to : TO) (σ : Sta) (H : Hp) (i : Option Int) : Prop := ∀ H1, Ex H H1 → ∀ Q : Option Int → Hp → Prop, (∀ H2, Ex H1 H2 → Q i H2) → to σ H1 Q

section
variable {K : PySem.W.Frag} {o o' : Hd} {σ : Sta} {H H' : Hp} {ta tb te tx : TE} {t u : TT} {d e : PyData} {ds es : List PyData} {r : R2}
theorem Ev.mono (x : Ex H H') (h : Ev o te σ H d) : Ev o te σ H' d := fun H1 a Q q => h H1 (x.trans a) Q q
theorem EvN.mono (x : Ex H H') (h : EvN o te σ H ds) : EvN o te σ H' ds := fun H1 a Q q => h H1 (x.trans a) Q q
theorem EvT.mono {b : Bool} (x : Ex H H') (h : EvT t σ H b) : EvT t σ H' b := fun H1 a Q q => h H1 (x.trans a) Q q
theorem EvA.mono {ta : TA} (x : Ex H H') (h : EvA o ta σ H ds) : EvA o ta σ H' ds := fun H1 a Q q => h H1 (x.trans a) Q q
theorem Ev.weak (s : ∀ a, o' a → o a) (h : Ev o te σ H d) : Ev o' te σ H d := fun H1 a Q q => h H1 a Q fun v H2 e2 hv => q v H2 e2 (hv.mono (hid_sub s))
theorem Ev.w0 (h : Ev o te σ H d) : Ev o0 te σ H d := h.weak fun _ z => z.elim
theorem Ev.is (h : Ev o te σ H d) (x : d = e) : Ev o te σ H e := x ▸ h
theorem EvN.is (h : EvN o te σ H ds) (x : ds = es) : EvN o te σ H es := x ▸ h
theorem EvT.is {a b : Bool} (h : EvT t σ H a) (x : a = b) : EvT t σ H b := x ▸ h
theorem Ev.go {Q : VK} (h : Ev o te σ H d) (k : ∀ v H2, Ex H H2 → Dn (hid o H2) v d → Q v H2) : te σ H Q := h H (Ex.refl H) Q k
/-- data without objects -/
inductive Sc : PyData → Prop
  | non : Sc .none
  | bl (b : Bool) : Sc (.bool b)
  | int (i : Int) : Sc (.int i)
  | str (x : Str) : Sc (.str x)
theorem Dn.sc (s : Sc d) {v : V} (h : Dn H v d) : Dn H' v d := by
  cases s <;> cases h <;> constructor
theorem Ev.sc (h : Ev o te σ H d) (s : Sc d) : Ev o' te σ H d := fun H1 a Q q => h H1 a Q fun v H2 e2 hv => q v H2 e2 (Dn.sc s hv)
theorem EvN.ev (l : Live o H) (h : EvN o te σ H ds) : Ev o te σ H (.list ds) := fun H1 a Q q => h H1 a Q fun p vs H2 np e2 hp hv =>
  q _ H2 e2 (.lst (by rw [hid_at ((l.mono a).fresh np)]; exact hp) (hv.mono (hid_sub fun _ z => .inl z)))
theorem EvN.ev0 (h : EvN o te σ H ds) : Ev o0 te σ H (.list ds) := fun H1 a Q q => h H1 a Q fun p vs H2 np e2 hp hv =>
  q _ H2 e2 (.lst (by rw [hid_at id]; exact hp) (hv.mono (hid_sub fun _ z => z.elim)))

/-! constants and operators -/
theorem ev_int {i : Int} : Ev o (tC (.int i)) σ H (.int i) := fun H1 _ _ q => q _ H1 (Ex.refl H1) (.int i)
theorem ev_str {x : Str} : Ev o (tC (.str x)) σ H (.str x) := fun H1 _ _ q => q _ H1 (Ex.refl H1) (.str x)
theorem ev_bl {b : Bool} : Ev o (tC (.bl b)) σ H (.bool b) := fun H1 _ _ q => q _ H1 (Ex.refl H1) (.bl b)
theorem ev_non : Ev o (tC .non) σ H .none := fun H1 _ _ q => q _ H1 (Ex.refl H1) .non
theorem ev_I0 {g : Int → Int → Int} {i j : Int} (ha : Ev o0 ta σ H (.int i)) (hb : Ev o0 tb σ H (.int j)) : Ev o (tOp (rI0 fun i j => .int (g i j)) ta tb) σ H (.int (g i j)) := fun H1 a Q q =>
  ha H1 a _ fun v H2 e2 hv => hb H2 (a.trans e2) _ fun w H3 e3 hw => by
    cases hv; cases hw
    exact ⟨i, j, rfl, rfl, q _ H3 (e2.trans e3) (.int _)⟩
theorem ev_B0 {g : Int → Int → Bool} {i j : Int} (ha : Ev o0 ta σ H (.int i)) (hb : Ev o0 tb σ H (.int j)) : Ev o (tOp (rI0 fun i j => .bl (g i j)) ta tb) σ H (.bool (g i j)) := fun H1 a Q q =>
  ha H1 a _ fun v H2 e2 hv => hb H2 (a.trans e2) _ fun w H3 e3 hw => by
    cases hv; cases hw
    exact ⟨i, j, rfl, rfl, q _ H3 (e2.trans e3) (.bl _)⟩
theorem ev_IC {C : Int → Int → Prop} {g : Int → Int → Int} {i j : Int} (ha : Ev o0 ta σ H (.int i)) (hb : Ev o0 tb σ H (.int j)) (hc : C i j) : Ev o (tOp (rI C fun i j => .int (g i j)) ta tb) σ H (.int (g i j)) := fun H1 a Q q =>
  ha H1 a _ fun v H2 e2 hv => hb H2 (a.trans e2) _ fun w H3 e3 hw => by
    cases hv; cases hw
    exact ⟨i, j, rfl, rfl, hc, q _ H3 (e2.trans e3) (.int _)⟩
theorem ev_neg {i : Int} (ha : Ev o0 ta σ H (.int i)) : Ev o (tUn (rU fun i => .int (-i)) ta) σ H (.int (-i)) := fun H1 a Q q =>
  ha H1 a _ fun v H2 e2 hv => by
    cases hv
    exact ⟨i, rfl, q _ H2 e2 (.int _)⟩
/-- == of flat values of one kind, or with None -/
def scV : PyData → V
  | .none => .non
  | .bool b => .bl b
  | .int i => .int i
  | .str x => .str x
  | _ => .non
theorem Dn.scV {v : V} (s : Sc d) (h : Dn H v d) : v = scV d := by cases s <;> cases h <;> rfl
theorem ev_eq (sd : Sc d) (se : Sc e) (ha : Ev o0 ta σ H d) (hb : Ev o0 tb σ H e) (hs : scal (scV d) (scV e) = true) : Ev o (tOp rEq ta tb) σ H (.bool (decide (scV d = scV e))) := fun H1 a Q q =>
  ha H1 a _ fun v H2 e2 hv => hb H2 (a.trans e2) _ fun w H3 e3 hw => by
    rw [hv.scV sd, hw.scV se]
    exact ⟨hs, q _ H3 (e2.trans e3) (.bl _)⟩
theorem ev_ne (sd : Sc d) (se : Sc e) (ha : Ev o0 ta σ H d) (hb : Ev o0 tb σ H e) (hs : scal (scV d) (scV e) = true) : Ev o (tOp rNe ta tb) σ H (.bool (!decide (scV d = scV e))) := fun H1 a Q q =>
  ha H1 a _ fun v H2 e2 hv => hb H2 (a.trans e2) _ fun w H3 e3 hw => by
    rw [hv.scV sd, hw.scV se]
    exact ⟨hs, q _ H3 (e2.trans e3) (.bl _)⟩
theorem ev_eqS {x y : Str} (ha : Ev o0 ta σ H (.str x)) (hb : Ev o0 tb σ H (.str y)) : Ev o (tOp rEq ta tb) σ H (.bool (decide (x = y))) :=
  (ev_eq (.str x) (.str y) ha hb rfl).is (by simp [scV])
theorem ev_neS {x y : Str} (ha : Ev o0 ta σ H (.str x)) (hb : Ev o0 tb σ H (.str y)) : Ev o (tOp rNe ta tb) σ H (.bool (!decide (x = y))) :=
  (ev_ne (.str x) (.str y) ha hb rfl).is (by simp [scV])
theorem ev_eqI {x y : Int} (ha : Ev o0 ta σ H (.int x)) (hb : Ev o0 tb σ H (.int y)) : Ev o (tOp rEq ta tb) σ H (.bool (decide (x = y))) :=
  (ev_eq (.int x) (.int y) ha hb rfl).is (by simp [scV])
theorem ev_neI {x y : Int} (ha : Ev o0 ta σ H (.int x)) (hb : Ev o0 tb σ H (.int y)) : Ev o (tOp rNe ta tb) σ H (.bool (!decide (x = y))) :=
  (ev_ne (.int x) (.int y) ha hb rfl).is (by simp [scV])
theorem ev_eqB {x y : Bool} (ha : Ev o0 ta σ H (.bool x)) (hb : Ev o0 tb σ H (.bool y)) : Ev o (tOp rEq ta tb) σ H (.bool (decide (x = y))) :=
  (ev_eq (.bl x) (.bl y) ha hb rfl).is (by simp [scV])
theorem ev_neB {x y : Bool} (ha : Ev o0 ta σ H (.bool x)) (hb : Ev o0 tb σ H (.bool y)) : Ev o (tOp rNe ta tb) σ H (.bool (!decide (x = y))) :=
  (ev_ne (.bl x) (.bl y) ha hb rfl).is (by simp [scV])
/-- x is None -/
def isNoneD : PyData → Bool
  | .none => true
  | _ => false
theorem ev_isN (ha : Ev o0 ta σ H d) : Ev o (tOp (fun x y H Q => y = .non ∧ Q (.bl (decide (x = .non))) H) ta (tC .non)) σ H (.bool (isNoneD d)) := fun H1 a Q q =>
  ha H1 a _ fun v H2 e2 hv => ⟨rfl, by
    have z : decide (v = V.non) = (isNoneD d) := by cases hv <;> rfl
    rw [z]; exact q _ H2 e2 (.bl _)⟩
theorem ev_notN (ha : Ev o0 ta σ H d) : Ev o (tOp (fun x y H Q => y = .non ∧ Q (.bl (!decide (x = .non))) H) ta (tC .non)) σ H (.bool (!(isNoneD d))) := fun H1 a Q q =>
  ha H1 a _ fun v H2 e2 hv => ⟨rfl, by
    have z : decide (v = V.non) = (isNoneD d) := by cases hv <;> rfl
    rw [z]; exact q _ H2 e2 (.bl _)⟩
/-- == of data -/
theorem ev_eqD {b : Bool} (ha : Ev o0 ta σ H d) (hb : Ev o0 tb σ H e) (fd : flatD d = true) (fe : flatD e = true) (sd : SeqAt.shaped d = true) (se : SeqAt.shaped e = true) (h : PyData.eqv d e = b) : Ev o (tOp (rEqD K) ta tb) σ H (.bool b) := fun H1 a Q q =>
  ha H1 a _ fun v H2 e2 hv => hb H2 (a.trans e2) _ fun w H3 e3 hw =>
    ⟨d, e, (hv.up.mono e3).dp fd, hw.up.dp fe, sd, se, by rw [h]; exact q _ H3 (e2.trans e3) (.bl _)⟩
theorem ev_neD {b : Bool} (ha : Ev o0 ta σ H d) (hb : Ev o0 tb σ H e) (fd : flatD d = true) (fe : flatD e = true) (sd : SeqAt.shaped d = true) (se : SeqAt.shaped e = true) (h : PyData.eqv d e = b) : Ev o (tOp (rNeD K) ta tb) σ H (.bool !b) := fun H1 a Q q =>
  ha H1 a _ fun v H2 e2 hv => hb H2 (a.trans e2) _ fun w H3 e3 hw =>
    ⟨d, e, (hv.up.mono e3).dp fd, hw.up.dp fe, sd, se, by rw [h]; exact q _ H3 (e2.trans e3) (.bl _)⟩

/-! tests -/
theorem et_test {b : Bool} (h : Ev o0 te σ H (.bool b)) : EvT (tTest te) σ H b := fun H1 a _ q => h H1 a _ fun v H2 e2 hv => by cases hv; exact ⟨b, rfl, q H2 e2⟩
theorem et_B {b : Bool} (h : Ev o0 te σ H (.bool b)) : EvT (tB te) σ H b := fun H1 a _ q => h H1 a _ fun v H2 e2 hv => by cases hv; exact ⟨b, rfl, q H2 e2⟩
theorem et_and {a b : Bool} (h1 : EvT t σ H a) (h2 : a = true → EvT u σ H b) : EvT (tAnd t u) σ H (a && b) := fun H1 x Q q => h1 H1 x _ fun H2 e2 => by
  cases a with
  | true => rw [if_pos rfl]; exact h2 rfl H2 (x.trans e2) Q fun H3 e3 => q H3 (e2.trans e3)
  | false => rw [if_neg Bool.false_ne_true]; exact q H2 e2
theorem et_or {a b : Bool} (h1 : EvT t σ H a) (h2 : a = false → EvT u σ H b) : EvT (tOr t u) σ H (a || b) := fun H1 x Q q => h1 H1 x _ fun H2 e2 => by
  cases a with
  | true => rw [if_pos rfl]; exact q H2 e2
  | false => rw [if_neg Bool.false_ne_true]; exact h2 rfl H2 (x.trans e2) Q fun H3 e3 => q H3 (e2.trans e3)
theorem et_not {a : Bool} (h1 : EvT t σ H a) : EvT (tNot t) σ H (!a) := fun H1 x _ q => h1 H1 x _ fun H2 e2 => q H2 e2
theorem ev_andV {a b : Bool} (h1 : Ev o0 ta σ H (.bool a)) (h2 : a = true → Ev o0 tb σ H (.bool b)) : Ev o (tAndV ta tb) σ H (.bool (a && b)) := fun H1 x Q q => h1 H1 x _ fun v H2 e2 hv => by
  cases hv
  refine ⟨a, rfl, ?_⟩
  cases a with
  | true => rw [if_pos rfl]; exact h2 rfl H2 (x.trans e2) Q fun w H3 e3 hw => q w H3 (e2.trans e3) (Dn.sc (.bl _) hw)
  | false => rw [if_neg Bool.false_ne_true]; exact q _ H2 e2 (.bl _)
theorem ev_orV {a b : Bool} (h1 : Ev o0 ta σ H (.bool a)) (h2 : a = false → Ev o0 tb σ H (.bool b)) : Ev o (tOrV ta tb) σ H (.bool (a || b)) := fun H1 x Q q => h1 H1 x _ fun v H2 e2 hv => by
  cases hv
  refine ⟨a, rfl, ?_⟩
  cases a with
  | true => rw [if_pos rfl]; exact q _ H2 e2 (.bl _)
  | false => rw [if_neg Bool.false_ne_true]; exact h2 rfl H2 (x.trans e2) Q fun w H3 e3 hw => q w H3 (e2.trans e3) (Dn.sc (.bl _) hw)
theorem ev_notV {a : Bool} (h1 : Ev o0 ta σ H (.bool a)) : Ev o (tNotV ta) σ H (.bool (!a)) := fun H1 x _ q => h1 H1 x _ fun v H2 e2 hv => by cases hv; exact ⟨a, rfl, q _ H2 e2 (.bl _)⟩
theorem ev_if {b : Bool} (h : EvT t σ H b) (h1 : b = true → Ev o ta σ H d) (h2 : b = false → Ev o tb σ H e) : Ev o (tIf t ta tb) σ H (if b = true then d else e) := fun H1 x Q q => h H1 x _ fun H2 e2 => by
  cases b with
  | true => rw [if_pos rfl]; rw [if_pos rfl] at q; exact h1 rfl H2 (x.trans e2) Q fun v H3 e3 hv => q v H3 (e2.trans e3) hv
  | false => rw [if_neg Bool.false_ne_true]; rw [if_neg Bool.false_ne_true] at q; exact h2 rfl H2 (x.trans e2) Q fun v H3 e3 hv => q v H3 (e2.trans e3) hv

/-! arguments, displays -/
theorem ea_nil : EvA o tNil σ H [] := fun H1 _ _ q => q _ H1 (Ex.refl H1) .nil
theorem ea_cons {tr : TA} (h : Ev o ta σ H d) (hr : EvA o tr σ H ds) : EvA o (tCons ta tr) σ H (d :: ds) := fun H1 a _ q =>
  h H1 a _ fun v H2 e2 hv => hr H2 (a.trans e2) _ fun vs H3 e3 hvs => q _ H3 (e2.trans e3) (.cons (hv.mono (hid_mono e3)) hvs)
theorem ev_tup {tr : TA} (l : Live o H) (h : EvA o tr σ H ds) (hz : ds.length ≤ 100000) : Ev o (tTup tr) σ H (.tuple ds) := fun H1 a _ q =>
  h H1 a _ fun vs H2 e2 hv => ⟨Evl.sz_of (by rw [hv.length]; exact hz), fun p np => q _ _ (e2.trans (Evl.Ex.new np)) (.tup (at_new ((l.mono a).mono e2) np) (hv.mono (hid_upd_new np)))⟩
theorem en_lst {tr : TA} (h : EvA o tr σ H ds) (hz : ds.length ≤ 100000) : EvN o (tLst tr) σ H ds := fun H1 a _ q =>
  h H1 a _ fun vs H2 e2 hv => ⟨Evl.sz_of (by rw [hv.length]; exact hz), fun p np => q p vs _ (Evl.fresh_back e2 np) (e2.trans (Evl.Ex.new np)) upd_same (hv.mono (fun b u hb => by
    obtain ⟨h1, h2⟩ := hid_of hb
    have nb : b ≠ p := ne_of_none h2 np
    rw [hid_at (fun z => z.elim h1 nb), upd_ne nb]; exact h2))⟩
end
end HL
namespace HL
open PySem PySem.Spec PyProof.Rows L2
open Evl (Ex)

/-! ### the state of a body -/
/-- what a slot holds: nothing that is known; a value (f: of the body's own making); a list that the body may change -/
inductive Ent where
  | no
  | va (f : Bool) (d : PyData)
  | ow (f : Bool) (a : Addr) (ds : List PyData)
  | rw (v : V)
def Adr (δ : List Ent) (a : Addr) : Prop := ∃ (i : Nat) (f : Bool) (ds : List PyData), δ[i]? = some (.ow f a ds)
/-- the heap at the entry; what a made value may not hold; what no value may hold -/
structure Wd where
  B : Hp
  O : Hd
  N : Hd
def Wd.hd (c : Wd) (f : Bool) (δ : List Ent) : Hd := fun a => (f = true ∧ c.O a) ∨ c.N a ∨ Adr δ a
def EntOk (c : Wd) (δ : List Ent) (H : Hp) (x : Option (Option V)) : Ent → Prop
  | .no => True
  | .va f d => ∃ v, x = some (some v) ∧ Dn (hid (c.hd f δ) H) v d
  | .ow f a ds => ∃ vs, x = some (some (.ref a)) ∧ H a = some (.lst vs) ∧ DnA (hid (c.hd f δ) H) vs ds
  | .rw v => x = some (some v)
structure Bs (c : Wd) (H : Hp) (σ : Sta) (δ : List Ent) : Prop where
  base : Ex c.B H
  liO : Live c.O H
  liN : Live c.N H
  own : ∀ a, Adr δ a → c.B a = none ∧ ¬ c.O a ∧ ¬ c.N a
  one : ∀ (i j : Nat) (f g : Bool) (a : Addr) (ds es : List PyData), δ[i]? = some (.ow f a ds) → δ[j]? = some (.ow g a es) → i = j
  len : σ.length = δ.length
  ent : ∀ (i : Nat) (e : Ent), δ[i]? = some e → EntOk c δ H σ[i]? e

section
variable {K : PySem.W.Frag} {c : Wd} {H H1 H' : Hp} {σ : Sta} {δ δ' : List Ent} {i j : Nat} {f g : Bool} {a : Addr} {d : PyData} {ds : List PyData} {ta tb te : TE}
theorem Bs.live (S : Bs c H σ δ) (f : Bool) : Live (c.hd f δ) H := fun b h z => by
  rcases h with ⟨_, h⟩ | h | ⟨i, f, ds, h⟩
  · exact S.liO b h z
  · exact S.liN b h z
  · obtain ⟨vs, _, q, _⟩ := S.ent i _ h
    rw [q] at z; cases z
theorem EntOk.mono {x : Option (Option V)} {e : Ent} (he : Ex H H') (h : EntOk c δ H x e) : EntOk c δ H' x e := by
  cases e with
  | no => trivial
  | va f d => obtain ⟨v, e, q⟩ := h; exact ⟨v, e, q.mono (hid_mono he)⟩
  | ow f a ds => obtain ⟨vs, e, q, r⟩ := h; exact ⟨vs, e, he _ _ q, r.mono (hid_mono he)⟩
  | rw v => exact h
theorem Bs.mono (he : Ex H H') (S : Bs c H σ δ) : Bs c H' σ δ :=
  ⟨S.base.trans he, S.liO.mono he, S.liN.mono he, S.own, S.one, S.len, fun i e h => (S.ent i e h).mono he⟩
/-- one entry is worth another -/
inductive Le1 : Ent → Ent → Prop
  | refl (e : Ent) : Le1 e e
  | no (e : Ent) : Le1 e .no
  | rd (d : PyData) : Le1 (.va true d) (.va false d)
  | fz (f : Bool) (a : Addr) (ds : List PyData) : Le1 (.ow f a ds) (.va f (.list ds))
  | eq {f : Bool} {d d' : PyData} (h : d = d') : Le1 (.va f d) (.va f d')
  | eqo {f : Bool} {a : Addr} {ds ds' : List PyData} (h : ds = ds') : Le1 (.ow f a ds) (.ow f a ds')
  | sc {d : PyData} (s : Sc d) : Le1 (.va false d) (.va true d)
inductive LeA : List Ent → List Ent → Prop
  | nil : LeA [] []
  | cons {e e' : Ent} {r r' : List Ent} : Le1 e e' → LeA r r' → LeA (e :: r) (e' :: r')
theorem LeA.refl : ∀ δ : List Ent, LeA δ δ
  | [] => .nil
  | e :: r => .cons (.refl e) (LeA.refl r)
theorem LeA.len : ∀ {δ δ' : List Ent}, LeA δ δ' → δ.length = δ'.length
  | _, _, .nil => rfl
  | _, _, .cons _ r => by simp [LeA.len r]
theorem LeA.get : ∀ {δ δ' : List Ent} {i : Nat} {e' : Ent}, LeA δ δ' → δ'[i]? = some e' → ∃ e, δ[i]? = some e ∧ Le1 e e'
  | _, _, _, _, .nil, h => by simp at h
  | _, _, 0, _, .cons h r, e => by simp at e; subst e; exact ⟨_, rfl, h⟩
  | _, _, i + 1, e', .cons h r, e => by
    obtain ⟨x, h1, h2⟩ := LeA.get (i := i) (e' := e') r (by simpa using e)
    exact ⟨x, by simpa using h1, h2⟩
theorem LeA.adr (l : LeA δ δ') (h : Adr δ' a) : Adr δ a := by
  obtain ⟨i, f, ds, h⟩ := h
  obtain ⟨e, h1, h2⟩ := l.get h
  cases h2 with
  | refl _ => exact ⟨i, f, ds, h1⟩
  | eqo _ => exact ⟨i, f, _, h1⟩
theorem hd_sub (l : ∀ a, Adr δ' a → Adr δ a) : ∀ a, c.hd f δ' a → c.hd f δ a := fun a h => by
  rcases h with h | h | h
  · exact .inl h
  · exact .inr (.inl h)
  · exact .inr (.inr (l a h))
theorem hd_ft : ∀ a, c.hd false δ a → c.hd true δ a := fun a h => by
  rcases h with ⟨h, _⟩ | h | h
  · cases h
  · exact .inr (.inl h)
  · exact .inr (.inr h)
theorem hd_le (h : f = true → g = true) : ∀ a, c.hd f δ a → c.hd g δ a := fun a z => by
  rcases z with ⟨z, y⟩ | z | z
  · exact .inl ⟨h z, y⟩
  · exact .inr (.inl z)
  · exact .inr (.inr z)
theorem Bs.le (S : Bs c H σ δ) (l : LeA δ δ') : Bs c H σ δ' := by
  refine ⟨S.base, S.liO, S.liN, fun a h => S.own a (l.adr h), fun i j f g a ds es h1 h2 => ?_, S.len.trans l.len, fun i e h => ?_⟩
  · have q : ∀ {i : Nat} {f : Bool} {ds : List PyData}, δ'[i]? = some (.ow f a ds) → ∃ (f : Bool) (ds : List PyData), δ[i]? = some (.ow f a ds) := fun h => by
      obtain ⟨e, h1, h2⟩ := l.get h
      cases h2 with
      | refl _ => exact ⟨_, _, h1⟩
      | eqo _ => exact ⟨_, _, h1⟩
    obtain ⟨f1, d1, q1⟩ := q h1
    obtain ⟨f2, d2, q2⟩ := q h2
    exact S.one _ _ _ _ _ _ _ q1 q2
  · obtain ⟨e0, h1, h2⟩ := l.get h
    have q := S.ent i e0 h1
    have hs : ∀ f, Ex (hid (c.hd f δ) H) (hid (c.hd f δ') H) := fun f => hid_sub (hd_sub fun a => l.adr)
    cases h2 with
    | refl _ =>
      cases e with
      | no => trivial
      | va f d => obtain ⟨v, e, q⟩ := q; exact ⟨v, e, q.mono (hs f)⟩
      | ow f a ds => obtain ⟨vs, e, q, r⟩ := q; exact ⟨vs, e, q, r.mono (hs f)⟩
      | rw v => exact q
    | no _ => trivial
    | rd d => obtain ⟨v, e, q⟩ := q; exact ⟨v, e, (q.mono (hid_sub hd_ft)).mono (hs false)⟩
    | fz f a ds =>
      obtain ⟨vs, e, q, r⟩ := q
      refine ⟨.ref a, e, .lst ?_ (r.mono (hs f))⟩
      rw [hid_at]
      · exact q
      · intro z
        obtain ⟨_, o1, o2⟩ := S.own a ⟨i, f, ds, h1⟩
        rcases z with ⟨_, z⟩ | z | z
        · exact o1 z
        · exact o2 z
        · obtain ⟨k, f2, ds2, z⟩ := z
          obtain ⟨e2, h3, h4⟩ := l.get z
          have hk : k = i := by
            cases h4 with
            | refl _ => exact S.one _ _ _ _ _ _ _ h3 h1
            | eqo _ => exact S.one _ _ _ _ _ _ _ h3 h1
          subst hk
          rw [z] at h; cases h
    | eq hh => obtain ⟨v, e, q⟩ := q; subst hh; exact ⟨v, e, q.mono (hs _)⟩
    | eqo hh => obtain ⟨vs, e, q, r⟩ := q; subst hh; exact ⟨vs, e, q, r.mono (hs _)⟩
    | sc s => obtain ⟨v, e, q⟩ := q; exact ⟨v, e, q.sc s⟩

/-! names -/
theorem ev_va (S : Bs c H σ δ) (h : δ[i]? = some (.va f d)) : Ev (c.hd f δ) (tVar i) σ H d := fun H1 x Q q => by
  obtain ⟨v, e, hv⟩ := S.ent i _ h
  exact ⟨v, e, q v H1 (Ex.refl H1) (hv.mono (hid_mono x))⟩
theorem ev_sc {o : Hd} (S : Bs c H σ δ) (h : δ[i]? = some (.va f d)) (s : Sc d) : Ev o (tVar i) σ H d := (ev_va S h).sc s
theorem ev_owR (S : Bs c H σ δ) (h : δ[i]? = some (.ow f a ds)) : Ev o0 (tVar i) σ H (.list ds) := fun H1 x Q q => by
  obtain ⟨vs, e, hq, hv⟩ := S.ent i _ h
  exact ⟨.ref a, e, q _ H1 (Ex.refl H1) (.lst (by rw [hid_at id]; exact x _ _ hq) ((hv.mono (hid_mono x)).mono (hid_sub fun _ z => z.elim)))⟩

/-! stores -/
theorem adr_set {e : Ent} (h : Adr (δ.set i e) a) : Adr δ a ∨ ∃ f ds, e = .ow f a ds := by
  obtain ⟨k, f, ds, h⟩ := h
  by_cases q : i = k
  · subst q
    rw [List.getElem?_set] at h
    simp at h
    exact .inr ⟨f, ds, h.2⟩
  · rw [List.getElem?_set_ne q] at h
    exact .inl ⟨k, f, ds, h⟩
theorem set_va (S : Bs c H σ δ) {v : V} (hv : Dn (hid (c.hd f δ) H) v d) : Bs c H (σ.set i (some v)) (δ.set i (.va f d)) := by
  have sub : ∀ b, Adr (δ.set i (.va f d)) b → Adr δ b := fun b z => by
    rcases adr_set z with z | ⟨_, _, z⟩
    · exact z
    · cases z
  have hs : ∀ f', Ex (hid (c.hd f' δ) H) (hid (c.hd f' (δ.set i (.va f d))) H) := fun f' => hid_sub (hd_sub sub)
  refine ⟨S.base, S.liO, S.liN, fun a h => S.own a (sub a h), fun x y f1 f2 a ds es h1 h2 => ?_, by simp [S.len], fun k e h => ?_⟩
  · have q : ∀ {k : Nat} {f' : Bool} {ds : List PyData}, (δ.set i (.va f d))[k]? = some (.ow f' a ds) → δ[k]? = some (.ow f' a ds) := fun {k f' ds} h => by
      by_cases z : i = k
      · subst z
        rw [List.getElem?_set] at h
        simp at h
      · rwa [List.getElem?_set_ne z] at h
    exact S.one _ _ _ _ _ _ _ (q h1) (q h2)
  · by_cases z : i = k
    · subst z
      rw [List.getElem?_set] at h
      simp at h
      obtain ⟨hl, h⟩ := h
      subst h
      exact ⟨v, by rw [List.getElem?_set]; simp [S.len, hl], hv.mono (hs f)⟩
    · rw [List.getElem?_set_ne z] at h
      rw [List.getElem?_set_ne z]
      have q := S.ent k e h
      cases e with
      | no => trivial
      | va f d => obtain ⟨v, e, q⟩ := q; exact ⟨v, e, q.mono (hs _)⟩
      | ow f a ds => obtain ⟨vs, e, q, r⟩ := q; exact ⟨vs, e, q, r.mono (hs _)⟩
      | rw v => exact q
/-- a new list of the body's own -/
theorem set_ow (S : Bs c H σ δ) (he : Ex H H') {vs : List V} (np : H a = none) (hp : H' a = some (.lst vs)) (hv : DnA (hid (fun b => c.hd f δ b ∨ b = a) H') vs ds) : Bs c H' (σ.set i (some (.ref a))) (δ.set i (.ow f a ds)) := by
  have nad : ¬ Adr δ a := fun ⟨k, f, ds, h⟩ => by
    obtain ⟨vs, _, q, _⟩ := S.ent k _ h
    rw [q] at np; cases np
  have sub : ∀ b, Adr (δ.set i (.ow f a ds)) b → Adr δ b ∨ b = a := fun b z => by
    rcases adr_set z with z | ⟨_, _, z⟩
    · exact .inl z
    · injection z with z1 z2 z3; exact .inr z2.symm
  have hsub : ∀ f' b, c.hd f' (δ.set i (.ow f a ds)) b → c.hd f' δ b ∨ b = a := fun f' b z => by
    rcases z with z | z | z
    · exact .inl (.inl z)
    · exact .inl (.inr (.inl z))
    · rcases sub b z with z | z
      · exact .inl (.inr (.inr z))
      · exact .inr z
  have hs : ∀ f', Ex (hid (c.hd f' δ) H) (hid (c.hd f' (δ.set i (.ow f a ds))) H') := fun f' b u q => by
    obtain ⟨q1, q2⟩ := hid_of q
    rw [hid_at]
    · exact he _ _ q2
    · intro z
      rcases hsub f' b z with z | z
      · exact q1 z
      · subst z; rw [q2] at np; cases np
  refine ⟨S.base.trans he, S.liO.mono he, S.liN.mono he, fun b h => ?_, fun x y f1 f2 b ds1 es h1 h2 => ?_, by simp [S.len], fun k e h => ?_⟩
  · rcases sub b h with z | z
    · exact S.own b z
    · subst z
      refine ⟨?_, S.liO.fresh np, S.liN.fresh np⟩
      cases q : c.B b with
      | none => rfl
      | some u => rw [S.base _ _ q] at np; cases np
  · by_cases zx : i = x
    · by_cases zy : i = y
      · omega
      · subst zx
        rw [List.getElem?_set] at h1
        simp at h1
        rw [List.getElem?_set_ne zy] at h2
        obtain ⟨_, _, e, _⟩ := h1
        subst e
        exact absurd ⟨y, f2, es, h2⟩ nad
    · rw [List.getElem?_set_ne zx] at h1
      by_cases zy : i = y
      · subst zy
        rw [List.getElem?_set] at h2
        simp at h2
        obtain ⟨_, _, e, _⟩ := h2
        subst e
        exact absurd ⟨x, f1, ds1, h1⟩ nad
      · rw [List.getElem?_set_ne zy] at h2
        exact S.one _ _ _ _ _ _ _ h1 h2
  · by_cases z : i = k
    · subst z
      rw [List.getElem?_set] at h
      simp at h
      obtain ⟨hl, h⟩ := h
      subst h
      exact ⟨vs, by rw [List.getElem?_set]; simp [S.len, hl], hp, hv.mono (hid_sub (hsub f))⟩
    · rw [List.getElem?_set_ne z] at h
      rw [List.getElem?_set_ne z]
      have q := S.ent k e h
      cases e with
      | no => trivial
      | va f d => obtain ⟨v, e, q⟩ := q; exact ⟨v, e, q.mono (hs _)⟩
      | ow f a ds => obtain ⟨vs, e, q, r⟩ := q; exact ⟨vs, e, he _ _ q, r.mono (hs _)⟩
      | rw v => exact q
/-- the body's own list is changed -/
theorem set_in (S : Bs c H σ δ) (h : δ[i]? = some (.ow f a ds)) {vs' : List V} {ds' : List PyData} (hv : DnA (hid (c.hd f δ) H) vs' ds') : Bs c (upd H a (.lst vs')) σ (δ.set i (.ow f a ds')) := by
  obtain ⟨vs, e1, ha, _⟩ := S.ent i _ h
  have hl : i < δ.length := by
    rw [List.getElem?_eq_some_iff] at h
    exact h.1
  obtain ⟨b1, b2, b3⟩ := S.own a ⟨i, f, ds, h⟩
  have adr : ∀ b, Adr (δ.set i (.ow f a ds')) b ↔ Adr δ b := fun b => by
    constructor
    · intro z
      rcases adr_set z with z | ⟨_, _, z⟩
      · exact z
      · injection z with _ z _; subst z; exact ⟨i, f, ds, h⟩
    · rintro ⟨k, g, es, z⟩
      by_cases q : i = k
      · subst q
        rw [h] at z
        injection z with z; injection z with z1 z2 z3
        subst z1; subst z2
        exact ⟨i, f, ds', by rw [List.getElem?_set]; simp [hl]⟩
      · exact ⟨k, g, es, by rw [List.getElem?_set_ne q]; exact z⟩
  have ehd : ∀ g, c.hd g (δ.set i (.ow f a ds')) = c.hd g δ := fun g => by
    funext b; unfold Wd.hd; rw [adr b]
  have inn : ∀ g, c.hd g δ a := fun g => .inr (.inr ⟨i, f, ds, h⟩)
  have hh : ∀ g, hid (c.hd g (δ.set i (.ow f a ds'))) (upd H a (.lst vs')) = hid (c.hd g δ) H := fun g => by
    rw [ehd g, hid_upd_in (inn g)]
  have lv : ∀ {o : Hd}, Live o H → Live o (upd H a (.lst vs')) := fun {o} l b hb z => by
    by_cases q : b = a
    · subst q; rw [upd_same] at z; cases z
    · rw [upd_ne q] at z; exact l b hb z
  refine ⟨fun b u q => ?_, lv S.liO, lv S.liN, fun b z => S.own b ((adr b).mp z), fun x y f1 f2 b ds1 es h1 h2 => ?_, by simp [S.len], fun k e q => ?_⟩
  · rw [upd_ne (fun z => by subst z; rw [b1] at q; cases q)]
    exact S.base _ _ q
  · have q : ∀ {k : Nat} {f' : Bool} {ds1 : List PyData}, (δ.set i (.ow f a ds'))[k]? = some (.ow f' b ds1) → ∃ (f' : Bool) (ds1 : List PyData), δ[k]? = some (.ow f' b ds1) := fun {k f' ds1} z => by
      by_cases w : i = k
      · subst w
        rw [List.getElem?_set] at z
        simp at z
        obtain ⟨_, _, e, _⟩ := z
        subst e
        exact ⟨f, ds, h⟩
      · rw [List.getElem?_set_ne w] at z; exact ⟨_, _, z⟩
    obtain ⟨_, _, q1⟩ := q h1
    obtain ⟨_, _, q2⟩ := q h2
    exact S.one _ _ _ _ _ _ _ q1 q2
  · by_cases z : i = k
    · subst z
      rw [List.getElem?_set] at q
      simp at q
      obtain ⟨_, q⟩ := q
      subst q
      exact ⟨vs', e1, upd_same, by rw [hh]; exact hv⟩
    · rw [List.getElem?_set_ne z] at q
      have w := S.ent k e q
      cases e with
      | no => trivial
      | va f d => obtain ⟨v, e, w⟩ := w; exact ⟨v, e, by rw [hh]; exact w⟩
      | ow g b es =>
        obtain ⟨ws, e, w, r⟩ := w
        refine ⟨ws, e, ?_, by rw [hh]; exact r⟩
        rw [upd_ne]
        · exact w
        · intro y
          subst y
          exact z (S.one _ _ _ _ _ _ _ h q)
      | rw v => exact w

/-! statements -/
variable {D : Ends} {tu tw : TS} {t : TT} {b : Bool}
theorem s_asg (S : Bs c H σ δ) (h : Ev (c.hd f δ) te σ H d) (k : ∀ σ1 H1, Bs c H1 σ1 (δ.set i (.va f d)) → D.nx σ1 H1) : tAsg te (gName i) D σ H :=
  h.go fun v H2 e2 hv => k _ _ (set_va (S.mono e2) hv)
theorem s_asgN (S : Bs c H σ δ) (h : EvN (c.hd f δ) te σ H ds) (k : ∀ a σ1 H1, Bs c H1 σ1 (δ.set i (.ow f a ds)) → D.nx σ1 H1) : tAsg te (gName i) D σ H :=
  h H (Ex.refl H) _ fun p vs H2 np e2 hp hv => k p _ _ (set_ow S e2 np hp hv)
theorem s_asg2 (S : Bs c H σ δ) (h : Ev (c.hd f δ) te σ H d) (k : ∀ σ1 H1, Bs c H1 σ1 ((δ.set i (.va f d)).set j (.va f d)) → D.nx σ1 H1) : tAsg2 te (gName i) (gName j) D σ H :=
  h.go fun v H2 e2 hv => k _ _ (set_va (set_va (S.mono e2) hv) (hv.mono (hid_sub (hd_sub fun b z => by
    rcases adr_set z with z | ⟨_, _, z⟩
    · exact z
    · cases z))))
theorem s_ret (S : Bs c H σ δ) (h : Ev (c.hd f δ) te σ H d) (k : ∀ v H1, Ex c.B H1 → Live c.O H1 → Dn (hid (c.hd f []) H1) v d → D.rt v H1) : tRet te D σ H :=
  h.go fun v H2 e2 hv => k v H2 (S.base.trans e2) (S.liO.mono e2) (hv.mono (hid_sub (hd_sub fun b ⟨i, f, ds, z⟩ => by simp at z)))
theorem s_if (S : Bs c H σ δ) (h : EvT t σ H b) (h1 : b = true → ∀ H1, Bs c H1 σ δ → tu D σ H1) (h2 : b = false → ∀ H1, Bs c H1 σ δ → tw D σ H1) : tIfS t tu tw D σ H :=
  h H (Ex.refl H) _ fun H1 e => by
    cases b with
    | true => rw [if_pos rfl]; exact h1 rfl H1 (S.mono e)
    | false => rw [if_neg Bool.false_ne_true]; exact h2 rfl H1 (S.mono e)
theorem s_drop (S : Bs c H σ δ) (h : Ev o0 te σ H d) (k : ∀ H1, Bs c H1 σ δ → D.nx σ H1) : tDrop te D σ H := h.go fun v H2 e2 _ => k H2 (S.mono e2)
theorem s_aug {x y : Int} {p : Int → Int → Int} (S : Bs c H σ δ) (hx : δ[i]? = some (.va f (.int x))) (h : Ev o0 te σ H (.int y)) (k : ∀ σ1 H1, Bs c H1 σ1 (δ.set i (.va true (.int (p x y)))) → D.nx σ1 H1) : tAug i te (ipI p) D σ H := by
  obtain ⟨v, e, hv⟩ := S.ent i _ hx
  cases hv
  refine ⟨_, e, h.go fun v H2 e2 hv => ?_⟩
  cases hv
  exact ⟨x, y, rfl, rfl, k _ _ (set_va (S.mono e2) (.int _))⟩
theorem s_app (S : Bs c H σ δ) (hx : δ[i]? = some (.ow f a ds)) (h : Ev (c.hd f δ) te σ H d) (hz : ds.length < 100000) (k : ∀ H1, Bs c H1 σ (δ.set i (.ow f a (ds ++ [d]))) → D.nx σ H1) :
    tDrop (tBM K "list" rAppend (tVar i) (tCons te tNil)) D σ H := by
  obtain ⟨vs, e, ha, hv⟩ := S.ent i _ hx
  refine ⟨.ref a, e, .inl ⟨rfl, vs, .inl (.inl ha)⟩, h.go fun v H2 e2 hd => ⟨a, vs, v, rfl, rfl, e2 _ _ ha, Evl.sz_lt (by rw [hv.length]; exact hz), k _ ?_⟩⟩
  exact set_in (S.mono e2) hx ((hv.mono (hid_mono e2)).append (.one hd))
theorem s_setI {ti : TE} {m : Int} {n : Nat} (S : Bs c H σ δ) (hx : δ[i]? = some (.ow f a ds)) (h : Ev (c.hd f δ) te σ H d) (hi : Ev o0 ti σ H (.int m)) (hm : ixN ds.length m = some n) (k : ∀ H1, Bs c H1 σ (δ.set i (.ow f a (ds.set n d))) → D.nx σ H1) :
    tAsg te (gSub (tVar i) ti rSetL) D σ H :=
  h.go fun v H2 e2 hd => by
    have S2 := S.mono e2
    obtain ⟨vs, e, ha, hv⟩ := S2.ent i _ hx
    refine ⟨.ref a, e, (hi.mono e2).go fun w H3 e3 hw => ?_⟩
    cases hw
    refine ⟨a, vs, m, n, rfl, rfl, e3 _ _ ha, by rw [hv.length]; exact hm, k _ ?_⟩
    exact set_in (S2.mono e3) hx ((hv.mono (hid_mono e3)).set (hd.mono (hid_mono e3)) n)
end
end HL
namespace HL
open PySem PySem.Spec PyProof.Rows L2
open Evl (Ex)

/-- slices of any list -/
def cutG {α : Type} (xs : List α) (lo hi : Option Int) : List α := (xs.drop (HT.sIx xs.length 0 lo)).take (HT.sIx xs.length xs.length hi - HT.sIx xs.length 0 lo)
theorem DnA.cut {H : Hp} {vs : List V} {ds : List PyData} (h : DnA H vs ds) (lo hi : Option Int) : DnA H (cutV vs lo hi) (cutG ds lo hi) := by
  unfold cutV cutG
  rw [h.length]
  exact (h.drop _).take _
theorem DnA.atI {H : Hp} {vs : List V} {ds : List PyData} {m : Int} {d : PyData} (h : DnA H vs ds) (e : L2.atI ds m = some d) : ∃ v, L2.atI vs m = some v ∧ Dn H v d := by
  unfold L2.atI at e ⊢
  rw [h.length]
  cases q : ixN ds.length m with
  | none => rw [q] at e; cases e
  | some j => rw [q] at e; exact h.get e
theorem DnA.hidNew {o : Hd} {H : Hp} {vs : List V} {ds : List PyData} {p : Addr} {u : HO} (h : DnA (hid o H) vs ds) (np : H p = none) : DnA (hid (fun a => o a ∨ a = p) (upd H p u)) vs ds := h.mono (fun b x hb => by
  obtain ⟨h1, h2⟩ := hid_of hb
  have nb : b ≠ p := ne_of_none h2 np
  rw [hid_at (fun z => z.elim h1 nb), upd_ne nb]; exact h2)

section
variable {K : PySem.W.Frag} {c : Wd} {o : Hd} {H H1 H' : Hp} {σ : Sta} {δ δ' : List Ent} {i j : Nat} {f g : Bool} {a : Addr} {d e : PyData} {ds es : List PyData} {ta tb te : TE} {tl th : TO}

/-! len, items, slices -/
theorem ev_len (ha : Ev o0 ta σ H (.list ds)) : Ev o (tCB (fun xs H Q => ∃ p ys, xs = [.ref p] ∧ (SqL K H p ys ∨ SqT K H p ys) ∧ Q (.int ys.length) H) (tCons ta tNil)) σ H (.int ds.length) := fun H1 x Q q =>
  ha H1 x _ fun v H2 e2 hv => by
    cases hv.up with
    | lst h r => exact ⟨_, _, rfl, .inl (.inl (.inl h)), by rw [r.length]; exact q _ H2 e2 (.int _)⟩
theorem ev_lenT (ha : Ev o0 ta σ H (.tuple ds)) : Ev o (tCB (fun xs H Q => ∃ p ys, xs = [.ref p] ∧ (SqL K H p ys ∨ SqT K H p ys) ∧ Q (.int ys.length) H) (tCons ta tNil)) σ H (.int ds.length) := fun H1 x Q q =>
  ha H1 x _ fun v H2 e2 hv => by
    cases hv.up with
    | tup h r => exact ⟨_, _, rfl, .inr (.inl (.inl h)), by rw [r.length]; exact q _ H2 e2 (.int _)⟩
theorem ev_lenS {z : Str} (ha : Ev o0 ta σ H (.str z)) (hz : z.length ≤ 100000) : Ev o (tCB (fun xs H Q => ∃ z, xs = [.str z] ∧ z.length ≤ sizeLine ∧ Q (.int z.length) H) (tCons ta tNil)) σ H (.int z.length) := fun H1 x Q q =>
  ha H1 x _ fun v H2 e2 hv => by
    cases hv
    exact ⟨z, rfl, Evl.sz_of hz, q _ H2 e2 (.int _)⟩
theorem ev_ixL {m : Int} (ha : Ev o ta σ H (.list ds)) (hi : Ev o0 tb σ H (.int m)) (hg : atI ds m = some d) : Ev o (tOp (rIxL K) ta tb) σ H d := fun H1 x Q q =>
  ha H1 x _ fun v H2 e2 hv => hi H2 (x.trans e2) _ fun w H3 e3 hw => by
    cases hw
    cases hv with
    | lst h r =>
      obtain ⟨y, y1, y2⟩ := (r.mono (hid_mono e3)).atI hg
      exact ⟨_, _, m, y, rfl, rfl, .inl (.inl (e3 _ _ (hid_ex _ _ h))), y1, q _ H3 (e2.trans e3) y2⟩
theorem ev_ixT {m : Int} (ha : Ev o ta σ H (.tuple ds)) (hi : Ev o0 tb σ H (.int m)) (hg : atI ds m = some d) : Ev o (tOp (rIxT K) ta tb) σ H d := fun H1 x Q q =>
  ha H1 x _ fun v H2 e2 hv => hi H2 (x.trans e2) _ fun w H3 e3 hw => by
    cases hw
    cases hv with
    | tup h r =>
      obtain ⟨y, y1, y2⟩ := (r.mono (hid_mono e3)).atI hg
      exact ⟨_, _, m, y, rfl, rfl, .inl (.inl (e3 _ _ (hid_ex _ _ h))), y1, q _ H3 (e2.trans e3) y2⟩
/-- an item of the body's own list -/
theorem ev_ixO {m : Int} (S : Bs c H σ δ) (hx : δ[i]? = some (.ow f a ds)) (hi : Ev o0 tb σ H (.int m)) (hg : atI ds m = some d) : Ev (c.hd f δ) (tOp (rIxL K) (tVar i) tb) σ H d := fun H1 x Q q => by
  obtain ⟨vs, e, ha, r⟩ := S.ent i _ hx
  refine ⟨.ref a, e, hi H1 x _ fun w H3 e3 hw => ?_⟩
  cases hw
  obtain ⟨y, y1, y2⟩ := (r.mono (hid_mono (x.trans e3))).atI hg
  exact ⟨a, vs, m, y, rfl, rfl, .inl (.inl (e3 _ _ (x _ _ ha))), y1, q _ H3 e3 y2⟩
theorem eo_none : EvO tNoPart σ H none := fun H1 _ _ q => q H1 (Ex.refl H1)
theorem eo_some {m : Int} (h : Ev o0 te σ H (.int m)) : EvO (tPart te) σ H (some m) := fun H1 x _ q => h H1 x _ fun v H2 e2 hv => by cases hv; exact ⟨m, rfl, q H2 e2⟩
theorem en_sl {lo hi : Option Int} (h : Ev o te σ H (.list ds)) (h1 : EvO tl σ H lo) (h2 : EvO th σ H hi) : EvN o (tSl (rSlL K) te tl th) σ H (cutG ds lo hi) := fun H1 x _ q =>
  h H1 x _ fun v H2 e2 hv => h1 H2 (x.trans e2) _ fun H3 e3 => h2 H3 ((x.trans e2).trans e3) _ fun H4 e4 => by
    cases hv with
    | lst h r =>
      refine ⟨_, _, rfl, .inl (.inl (e4 _ _ (e3 _ _ (hid_ex _ _ h)))), fun p np => ?_⟩
      exact q p _ _ (Evl.fresh_back (e2.trans (e3.trans e4)) np) ((e2.trans (e3.trans e4)).trans (Evl.Ex.new np)) upd_same ((((r.mono (hid_mono (e3.trans e4)))).cut lo hi).hidNew np)
theorem en_rev (h : Ev o te σ H (.list ds)) : EvN o (tRevL K te) σ H ds.reverse := fun H1 x _ q =>
  h H1 x _ fun v H2 e2 hv => by
    cases hv with
    | lst h r => exact ⟨_, _, rfl, .inl (.inl (hid_ex _ _ h)), fun p np => q p _ _ (Evl.fresh_back e2 np) (e2.trans (Evl.Ex.new np)) upd_same (r.reverse.hidNew np)⟩
theorem en_cat (ha : Ev o ta σ H (.list ds)) (hb : Ev o tb σ H (.list es)) (hz : ds.length + es.length ≤ 100000) : EvN o (tOp rCat ta tb) σ H (ds ++ es) := fun H1 x _ q =>
  ha H1 x _ fun v H2 e2 hv => hb H2 (x.trans e2) _ fun w H3 e3 hw => by
    cases hv with
    | lst h r =>
      cases hw with
      | lst h' r' =>
        exact ⟨_, _, _, _, rfl, rfl, e3 _ _ (hid_ex _ _ h), hid_ex _ _ h', Evl.sz_of (by rw [r.length, r'.length]; exact hz), fun p np =>
          q p _ _ (Evl.fresh_back (e2.trans e3) np) ((e2.trans e3).trans (Evl.Ex.new np)) upd_same (((r.mono (hid_mono e3)).append r').hidNew np)⟩
theorem en_rep {m : Int} (ha : Ev o ta σ H (.list ds)) (hb : Ev o0 tb σ H (.int m)) (h0 : -100000 ≤ m) (h1 : m ≤ 100000) (hz : ds.length * m.toNat ≤ 100000) : EvN o (tOp rRep ta tb) σ H (List.replicate m.toNat ds).flatten := fun H1 x _ q =>
  ha H1 x _ fun v H2 e2 hv => hb H2 (x.trans e2) _ fun w H3 e3 hw => by
    cases hw
    cases hv with
    | lst h r =>
      exact ⟨_, m, _, rfl, rfl, e3 _ _ (hid_ex _ _ h), by omega, by omega, Evl.sz_of (by rw [r.length]; exact hz), fun p np =>
        q p _ _ (Evl.fresh_back (e2.trans e3) np) ((e2.trans e3).trans (Evl.Ex.new np)) upd_same (((r.mono (hid_mono e3)).flatten_rep _).hidNew np)⟩
theorem en_listL (ha : Ev o ta σ H (.list ds)) : EvN o (tCB (fun xs H Q => ∃ p ys, xs = [.ref p] ∧ (SqL K H p ys ∨ SqT K H p ys) ∧ ∀ l, H l = none → Q (.ref l) (upd H l (.lst ys))) (tCons ta tNil)) σ H ds := fun H1 x _ q =>
  ha H1 x _ fun v H2 e2 hv => by
    cases hv with
    | lst h r => exact ⟨_, _, rfl, .inl (.inl (.inl (hid_ex _ _ h))), fun p np => q p _ _ (Evl.fresh_back e2 np) (e2.trans (Evl.Ex.new np)) upd_same (r.hidNew np)⟩
theorem en_listT (ha : Ev o ta σ H (.tuple ds)) : EvN o (tCB (fun xs H Q => ∃ p ys, xs = [.ref p] ∧ (SqL K H p ys ∨ SqT K H p ys) ∧ ∀ l, H l = none → Q (.ref l) (upd H l (.lst ys))) (tCons ta tNil)) σ H ds := fun H1 x _ q =>
  ha H1 x _ fun v H2 e2 hv => by
    cases hv with
    | tup h r => exact ⟨_, _, rfl, .inr (.inl (.inl (hid_ex _ _ h))), fun p np => q p _ _ (Evl.fresh_back e2 np) (e2.trans (Evl.Ex.new np)) upd_same (r.hidNew np)⟩
theorem ev_tupL (l : Live o H) (ha : Ev o ta σ H (.list ds)) : Ev o (tCB (fun xs H Q => ∃ p ys, xs = [.ref p] ∧ ((SqL K H p ys ∧ ∀ l, H l = none → Q (.ref l) (upd H l (.tup ys))) ∨ (SqT K H p ys ∧ Q (.ref p) H))) (tCons ta tNil)) σ H (.tuple ds) := fun H1 x _ q =>
  ha H1 x _ fun v H2 e2 hv => by
    cases hv with
    | lst h r => exact ⟨_, _, rfl, .inl ⟨.inl (.inl (hid_ex _ _ h)), fun p np => q _ _ (e2.trans (Evl.Ex.new np)) (.tup (at_new ((l.mono x).mono e2) np) (r.mono (hid_upd_new np)))⟩⟩
theorem ev_tupT (ha : Ev o ta σ H (.tuple ds)) : Ev o (tCB (fun xs H Q => ∃ p ys, xs = [.ref p] ∧ ((SqL K H p ys ∧ ∀ l, H l = none → Q (.ref l) (upd H l (.tup ys))) ∨ (SqT K H p ys ∧ Q (.ref p) H))) (tCons ta tNil)) σ H (.tuple ds) := fun H1 x _ q =>
  ha H1 x _ fun v H2 e2 hv => by
    cases hv with
    | tup h r => exact ⟨_, _, rfl, .inr ⟨.inl (.inl (hid_ex _ _ h)), q _ _ e2 (.tup h r)⟩⟩

/-! built-in functions of numbers -/
theorem ev_abs {m : Int} (ha : Ev o0 ta σ H (.int m)) : Ev o (tCB (fun xs H Q => ∃ i, xs = [.int i] ∧ Q (.int (if i < 0 then -i else i)) H) (tCons ta tNil)) σ H (.int (if m < 0 then -m else m)) := fun H1 x _ q =>
  ha H1 x _ fun v H2 e2 hv => by cases hv; exact ⟨m, rfl, q _ H2 e2 (.int _)⟩
theorem ev_intI {m : Int} (ha : Ev o0 ta σ H (.int m)) : Ev o (tCB (fun xs H Q => (∃ i, xs = [.int i] ∧ Q (.int i) H) ∨ ∃ k, xs = [.bl k] ∧ Q (.int (if k then 1 else 0)) H) (tCons ta tNil)) σ H (.int m) := fun H1 x _ q =>
  ha H1 x _ fun v H2 e2 hv => by cases hv; exact .inl ⟨m, rfl, q _ H2 e2 (.int _)⟩
theorem ev_max2 {m n : Int} (ha : Ev o0 ta σ H (.int m)) (hb : Ev o0 tb σ H (.int n)) : Ev o (tCB (fun xs H Q => ∃ i j, xs = [.int i, .int j] ∧ Q (.int (if j > i then j else i)) H) (tCons ta (tCons tb tNil))) σ H (.int (if n > m then n else m)) := fun H1 x _ q =>
  ha H1 x _ fun v H2 e2 hv => hb H2 (x.trans e2) _ fun w H3 e3 hw => by cases hv; cases hw; exact ⟨m, n, rfl, q _ H3 (e2.trans e3) (.int _)⟩
theorem ev_min2 {m n : Int} (ha : Ev o0 ta σ H (.int m)) (hb : Ev o0 tb σ H (.int n)) : Ev o (tCB (fun xs H Q => ∃ i j, xs = [.int i, .int j] ∧ Q (.int (if j < i then j else i)) H) (tCons ta (tCons tb tNil))) σ H (.int (if n < m then n else m)) := fun H1 x _ q =>
  ha H1 x _ fun v H2 e2 hv => hb H2 (x.trans e2) _ fun w H3 e3 hw => by cases hv; cases hw; exact ⟨m, n, rfl, q _ H3 (e2.trans e3) (.int _)⟩
/-- the greatest of whole numbers -/
def maxI : List Int → Int
  | [] => 0
  | [x] => x
  | x :: y :: r => max x (maxI (y :: r))
theorem maxI_is : ∀ (xs : List Int) (m : Int), m ∈ xs → (∀ x ∈ xs, x ≤ m) → maxI xs = m
  | [], m, h, _ => by simp at h
  | [x], m, h, _ => by simp at h; simp [maxI, h]
  | x :: y :: r, m, h, hle => by
    have h1 := hle x (by simp)
    by_cases q : m ∈ y :: r
    · have ih := maxI_is (y :: r) m q (fun z hz => hle z (by simp at hz ⊢; right; exact hz))
      simp only [maxI] at ih ⊢
      rw [ih]; omega
    · have hx : x = m := by simp at h q; rcases h with h | h | h
                            · exact h.symm
                            · exact absurd h q.1
                            · exact absurd h q.2
      subst hx
      have hb : maxI (y :: r) ≤ x := by
        have : maxI (y :: r) ∈ y :: r := by
          clear q h h1 hle
          induction r generalizing y with
          | nil => simp [maxI]
          | cons z r ih =>
            simp only [maxI]
            have := ih z
            rcases Int.le_total y (maxI (z :: r)) with q | q
            · rw [Int.max_eq_right q]; exact List.mem_cons_of_mem _ this
            · rw [Int.max_eq_left q]; simp
        exact hle _ (List.mem_cons_of_mem _ this)
      simp only [maxI]; omega
theorem ev_maxL {ns : List Int} (ha : Ev o0 ta σ H (.list (ns.map .int))) (hne : 0 < ns.length) : Ev o (tCB (rMax K) (tCons ta tNil)) σ H (.int (maxI ns)) := fun H1 x _ q =>
  ha H1 x _ fun v H2 e2 hv => by
    cases hv with
    | lst h r =>
      have er := r.ints
      subst er
      exact ⟨_, ns, rfl, .inl (.inl (hid_ex _ _ h)), hne, fun m hm hle => by rw [← maxI_is ns m hm hle]; exact q _ H2 e2 (.int _)⟩

/-! isinstance -/
def tyN : PyData → String
  | .none => "NoneType" | .bool _ => "bool" | .int _ => "int" | .str _ => "str" | .list _ => "list" | .tuple _ => "tuple" | .dict _ => "dict"
theorem Dn.ty {v : V} (h : Dn H v d) : TyX K H v (.type (tyN d)) := by
  cases h with
  | non => exact .base .non
  | bl b => exact .base (.bl b)
  | int i => exact .base (.int i)
  | str x => exact .base (.str x)
  | lst h _ => exact .base (.lst h)
  | tup h _ => exact .base (.tup h)
  | dct h _ => exact .base (.dK h)
def isAN (t T : String) : Bool := t == T || (T == "int" && t == "bool")
def isA (d : PyData) (T : String) : Bool := isAN (tyN d) T
theorem kit_all : ∀ t ∈ ["NoneType", "bool", "int", "str", "list", "tuple", "dict"], ∀ T ∈ ["list", "tuple", "int", "bool", "str", "dict"], kitB t T = some (isAN t T) := by decide +kernel
theorem tyN_mem : tyN d ∈ ["NoneType", "bool", "int", "str", "list", "tuple", "dict"] := by cases d <;> simp [tyN]
theorem kit_is {T : String} (hT : T = "list" ∨ T = "tuple" ∨ T = "int" ∨ T = "bool" ∨ T = "str" ∨ T = "dict") : PySem.W.kitOne K (.type (tyN d)) (.type T) = some (isA d T) := by
  exact kit_ty (kit_all _ tyN_mem _ (by rcases hT with rfl | rfl | rfl | rfl | rfl | rfl <;> simp))
theorem ev_isi {T : String} (hT : T = "list" ∨ T = "tuple" ∨ T = "int" ∨ T = "bool" ∨ T = "str" ∨ T = "dict") (ha : Ev o0 ta σ H d) : Ev o (tCB (rIsi K) (tCons ta (tCons (tC (.ty T)) tNil))) σ H (.bool (isA d T)) := fun H1 x _ q =>
  ha H1 x _ fun v H2 e2 hv => ⟨v, .ty T, _, _, _, rfl, .ty T, hv.up.ty, kit_is hT, q _ H2 e2 (.bl _)⟩
theorem ev_isi2 {T U : String} (hT : T = "list" ∨ T = "tuple" ∨ T = "int" ∨ T = "bool" ∨ T = "str" ∨ T = "dict") (hU : U = "list" ∨ U = "tuple" ∨ U = "int" ∨ U = "bool" ∨ U = "str" ∨ U = "dict") (ha : Ev o0 ta σ H d) :
    Ev o (tCB (rIsiT K) (tCons ta (tCons (tTup (tCons (tC (.ty T)) (tCons (tC (.ty U)) tNil))) tNil))) σ H (.bool (isA d T || isA d U)) := fun H1 x _ q =>
  ha H1 x _ fun v H2 e2 hv => ⟨by show 2 ≤ sizeLine; decide, fun p np => ⟨v, p, _, _, _, _, rfl, upd_same, .cons (.ty T) (.cons (.ty U) .nil), (hv.up.mono (Evl.Ex.new np)).ty, (by
    refine kitAny_cons (kit_is hT) (fun h => ?_) (fun h => ?_) (r := isA d T || isA d U)
    · rw [h, Bool.false_or]
      exact kitAny_cons (kit_is hU) (fun h => by rw [h]; exact kitAny_nil) (fun h => h)
    · rw [h]; rfl), q _ _ (e2.trans (Evl.Ex.new np)) (.bl _)⟩⟩

/-! ### promises of defs, calls -/
/-- all that comes back is new -/
noncomputable def new (H H' : Hp) : Hp := hid (fun a => H a ≠ none) H'
def SpF (R : List PyData → PyData → Prop) : Sp := fun vs H Q _ => ∃ ds d, DnA H vs ds ∧ R ds d ∧ ∀ v H', Ex H H' → Dn (new H H') v d → Q v H'
/-- what comes back may hold what was passed -/
def SpS (R : List PyData → PyData → Prop) : Sp := fun vs H Q _ => ∃ (o : Hd) (ds : List PyData) (d : PyData), Live o H ∧ DnA (hid o H) vs ds ∧ R ds d ∧ ∀ v H', Ex H H' → Dn (hid o H') v d → Q v H'
theorem ev_callF {R : List PyData → PyData → Prop} {E : XK} {tr : TA} (l : Live o H) (h : EvA o0 tr σ H ds) (hr : R ds d) : Ev o (tCall (SpF R) [] E tr) σ H d := fun H1 x Q q =>
  h H1 x _ fun vs H2 e2 hv => ⟨ds, d, by rw [List.append_nil]; exact hv.up, hr, fun v H3 e3 hd => q v H3 (e2.trans e3) (hd.mono (hid_sub ((l.mono x).mono e2)))⟩
theorem ev_callS {R : List PyData → PyData → Prop} {E : XK} {tr : TA} (l : Live o H) (h : EvA o tr σ H ds) (hr : R ds d) : Ev o (tCall (SpS R) [] E tr) σ H d := fun H1 x Q q =>
  h H1 x _ fun vs H2 e2 hv => ⟨o, ds, d, (l.mono x).mono e2, by rw [List.append_nil]; exact hv, hr, fun v H3 e3 hd => q v H3 (e2.trans e3) hd⟩
end

/-! the state at a def's entry -/
theorem start_get {N : List Str} {vs : List V} {k : Nat} (h : k < vs.length) (hN : vs.length ≤ N.length) : (L2.start N vs)[k]? = some (some vs[k]) := by
  unfold L2.start
  rw [List.getElem?_append_left (by simpa using h)]
  simp [h]
end HL
namespace HL
open PySem PySem.Spec PyProof.Rows L2
open Evl (Ex)

/-- while the loop runs, all that stands at its start but the body's own lists stays -/
noncomputable def Wd.at_ (c : Wd) (δ : List Ent) (H : Hp) : Wd := { c with B := hid (fun a => Adr δ a) H }
section
variable {K : PySem.W.Frag} {c : Wd} {o : Hd} {H H1 H' : Hp} {σ : Sta} {δ δ' : List Ent} {i j : Nat} {f g : Bool} {a : Addr} {d e : PyData} {ds es : List PyData} {ta tb te tl : TE} {t : TT} {ts : TS} {D : Ends} {S : Type}
theorem Bs.under (B : Bs c H σ δ) : Ex c.B (hid (fun a => Adr δ a) H) := fun a u h => by
  rw [hid_at]
  · exact B.base _ _ h
  · intro z; rw [(B.own a z).1] at h; cases h
theorem Bs.rebase (B : Bs c H σ δ) : Bs (c.at_ δ H) H σ δ := by
  refine ⟨hid_ex, B.liO, B.liN, fun a h => ⟨hid_in h, (B.own a h).2⟩, B.one, B.len, fun i e h => B.ent i e h⟩
theorem Bs.debase {B0 : Hp} (e : Ex c.B B0) (B : Bs { c with B := B0 } H σ δ) : Bs c H σ δ := by
  refine ⟨e.trans B.base, B.liO, B.liN, fun a h => ⟨?_, (B.own a h).2⟩, B.one, B.len, fun i e h => B.ent i e h⟩
  cases q : c.B a with
  | none => rfl
  | some u => have := (B.own a h).1; simp only at this; rw [e _ _ q] at this; cases this
/-- what stood at the loop's start is still to be used -/
theorem Bs.pers {B0 : Hp} {H2 : Hp} {σ2 : Sta} (B : Bs { c with B := B0 } H2 σ2 δ') (h : ∀ a u, hid (c.hd f δ) H a = some u → B0 a = some u) : Ex (hid (c.hd f δ) H) (hid (c.hd f δ') H2) := fun a u q => by
  have q0 := h a u q
  obtain ⟨q1, q2⟩ := hid_of q
  rw [hid_at]
  · exact B.base _ _ q0
  · intro z
    rcases z with z | z | z
    · exact q1 (.inl z)
    · exact q1 (.inr (.inl z))
    · have := (B.own a z).1; simp only at this; rw [q0] at this; cases this
theorem at_has {a : Addr} {u : HO} (q : hid (c.hd f δ) H a = some u) : hid (fun a => Adr δ a) H a = some u := by
  obtain ⟨q1, q2⟩ := hid_of q
  rw [hid_at]
  · exact q2
  · intro z; exact q1 (.inr (.inr z))

/-- what holds between two turns -/
def NX (c : Wd) (B0 : Hp) (S : Type) (Δ : S → List Ent) (I : Nat → S → Prop) (n : Nat) : Sta → Hp → Prop := fun σ H => ∃ s, I n s ∧ Bs { c with B := B0 } H σ (Δ s)
/-- for x in a list -/
theorem s_forL (S : Type) (I : Nat → S → Prop) (Δ : S → List Ent) (s0 : S) (B : Bs c H σ δ) (h : Ev (c.hd f δ) tl σ H (.list ds)) (w : LeA δ (Δ s0)) (i0 : I 0 s0)
    (body : ∀ (B0 : Hp), Ex c.B B0 → ∀ (n : Nat) (s : S) (d : PyData) (σ1 : Sta) (H1 : Hp), ds[n]? = some d → I n s → Bs { c with B := B0 } H1 σ1 ((Δ s).set j (.va f d)) →
      ts { D with nx := NX c B0 S Δ I (n + 1), ct := NX c B0 S Δ I (n + 1), bk := D.nx } σ1 H1)
    (done : ∀ s σ1 H1, I ds.length s → Bs c H1 σ1 (Δ s) → D.nx σ1 H1) : tFor (iList K tl) (gName j) ts D σ H := by
  refine h.go fun v H2 e2 hv => ?_
  have B2 := B.mono e2
  cases hv with
  | @lst p vs _ hp hr =>
    have u := B2.under
    have W : ∀ {H3 σ3 s}, Bs { c with B := hid (fun a => Adr δ a) H2 } H3 σ3 (Δ s) → Ex (hid (c.hd f δ) H2) (hid (c.hd f (Δ s)) H3) := fun B3 => B3.pers fun a u q => at_has q
    refine ⟨p, rfl, ⟨vs, .inl (.inl (hid_ex _ _ hp))⟩, for_list (xs := vs) (NX c _ S Δ I) ⟨s0, i0, (B2.rebase).le w⟩ (fun n σ3 H3 _ ⟨s, _, B3⟩ => ?_) (fun n x σ3 H3 hx ⟨s, hi, B3⟩ => ?_) (fun σ3 H3 ⟨s, hi, B3⟩ => ?_)⟩
    · exact .inl (.inl (hid_ex _ _ (W B3 _ _ hp)))
    · obtain ⟨d, hd, q⟩ := hr.get' hx
      exact body _ u n s d _ _ hd hi (set_va B3 (q.mono (W B3)))
    · rw [hr.length] at hi
      exact done s _ _ hi (B3.debase u)
/-- for x in a tuple -/
theorem s_forT (S : Type) (I : Nat → S → Prop) (Δ : S → List Ent) (s0 : S) (B : Bs c H σ δ) (h : Ev (c.hd f δ) tl σ H (.tuple ds)) (w : LeA δ (Δ s0)) (i0 : I 0 s0)
    (body : ∀ (B0 : Hp), Ex c.B B0 → ∀ (n : Nat) (s : S) (d : PyData) (σ1 : Sta) (H1 : Hp), ds[n]? = some d → I n s → Bs { c with B := B0 } H1 σ1 ((Δ s).set j (.va f d)) →
      ts { D with nx := NX c B0 S Δ I (n + 1), ct := NX c B0 S Δ I (n + 1), bk := D.nx } σ1 H1)
    (done : ∀ s σ1 H1, I ds.length s → Bs c H1 σ1 (Δ s) → D.nx σ1 H1) : tFor (iTup K tl) (gName j) ts D σ H := by
  refine h.go fun v H2 e2 hv => ?_
  have B2 := B.mono e2
  cases hv with
  | @tup p vs _ hp hr =>
    have u := B2.under
    have W : ∀ {H3 σ3 s}, Bs { c with B := hid (fun a => Adr δ a) H2 } H3 σ3 (Δ s) → Ex (hid (c.hd f δ) H2) (hid (c.hd f (Δ s)) H3) := fun B3 => B3.pers fun a u q => at_has q
    refine ⟨p, rfl, ⟨vs, .inl (.inl (hid_ex _ _ hp))⟩, for_tup (xs := vs) (NX c _ S Δ I) ⟨s0, i0, (B2.rebase).le w⟩ (fun n σ3 H3 _ ⟨s, _, B3⟩ => ?_) (fun n x σ3 H3 hx ⟨s, hi, B3⟩ => ?_) (fun σ3 H3 ⟨s, hi, B3⟩ => ?_)⟩
    · exact .inl (.inl (hid_ex _ _ (W B3 _ _ hp)))
    · obtain ⟨d, hd, q⟩ := hr.get' hx
      exact body _ u n s d _ _ hd hi (set_va B3 (q.mono (W B3)))
    · rw [hr.length] at hi
      exact done s _ _ hi (B3.debase u)
/-- for x in a list of the body's own, that the loop leaves as it is -/
theorem s_forO (S : Type) (I : Nat → S → Prop) (Δ : S → List Ent) (s0 : S) (B : Bs c H σ δ) (hk : ∀ s, (Δ s)[i]? = some (.ow f a ds)) (w : LeA δ (Δ s0)) (i0 : I 0 s0)
    (body : ∀ (B0 : Hp), Ex c.B B0 → ∀ (n : Nat) (s : S) (d : PyData) (σ1 : Sta) (H1 : Hp), ds[n]? = some d → I n s → Bs { c with B := B0 } H1 σ1 ((Δ s).set j (.va f d)) →
      ts { D with nx := NX c B0 S Δ I (n + 1), ct := NX c B0 S Δ I (n + 1), bk := D.nx } σ1 H1)
    (done : ∀ s σ1 H1, I ds.length s → Bs c H1 σ1 (Δ s) → D.nx σ1 H1) : tFor (iList K (tVar i)) (gName j) ts D σ H := by
  obtain ⟨vs, e, hp, hr⟩ := (B.le w).ent i _ (hk s0)
  have u := B.under
  have hl := hr.length
  refine ⟨.ref a, e, a, rfl, ⟨vs, .inl (.inl hp)⟩, ⟨fun n m σ3 H3 => m = ds.length - n ∧ n ≤ ds.length ∧ NX c (hid (fun a => Adr δ a) H) S Δ I n σ3 H3, ⟨ds.length, rfl, Nat.zero_le _, s0, i0, B.rebase.le w⟩, ?_⟩⟩
  rintro n m σ3 H3 ⟨rfl, hn, s, hi, B3⟩
  obtain ⟨vs3, e3, hp3, hr3⟩ := B3.ent i _ (hk s)
  by_cases hlt : n < ds.length
  · obtain ⟨v, hv, hd⟩ := hr3.get (List.getElem?_eq_getElem hlt)
    refine .inr ⟨⟨vs3, v, .inl (.inl hp3), hv⟩, NX c _ S Δ I (n + 1), fun σ' H' q => ⟨ds.length - (n + 1), by omega, rfl, hlt, q⟩, ?_⟩
    rintro x H' ⟨rfl, hx⟩
    have ex : v = x := Option.some.inj (hv.symm.trans (hx _ (.inl (.inl hp3))))
    subst ex
    exact body _ u n s _ _ _ (List.getElem?_eq_getElem hlt) hi (set_va B3 hd)
  · have en : n = ds.length := by omega
    subst en
    exact .inl ⟨⟨vs3, .inl (.inl hp3), by rw [hr3.length]; exact Nat.le_refl _⟩, done s _ _ hi (B3.debase u)⟩
/-- for k in range(..) -/
theorem forR_core {lo : Int} {m : Nat} (S : Type) (I : Nat → S → Prop) (Δ : S → List Ent) (s0 : S) (B : Bs c H σ δ) (w : LeA δ (Δ s0)) (i0 : I 0 s0)
    (body : ∀ (B0 : Hp), Ex c.B B0 → ∀ (n : Nat) (s : S) (σ1 : Sta) (H1 : Hp), n < m → I n s → Bs { c with B := B0 } H1 σ1 ((Δ s).set j (.va true (.int (lo + n)))) →
      ts { D with nx := NX c B0 S Δ I (n + 1), ct := NX c B0 S Δ I (n + 1), bk := D.nx } σ1 H1)
    (done : ∀ s σ1 H1, I m s → Bs c H1 σ1 (Δ s) → D.nx σ1 H1) :
    ∃ W : Nat → Nat → L2.St → Hp → Prop, (∃ m, W 0 m σ H) ∧ ∀ i k σ H, W i k σ H →
      ((Itr lo m).stop i H ∧ D.nx σ H) ∨ ((Itr lo m).go i H ∧ ∃ N : L2.St → Hp → Prop, (∀ σ' H', N σ' H' → ∃ m', m' < k ∧ W (i + 1) m' σ' H') ∧ ∀ x H', (Itr lo m).yld i H x H' → gName j x σ H' fun σ2 H2 => ts { D with nx := N, ct := N, bk := D.nx } σ2 H2) := by
  have u := B.under
  exact for_range (lo := lo) (n := m) (NX c (hid (fun a => Adr δ a) H) S Δ I) ⟨s0, i0, B.rebase.le w⟩ (fun n σ3 H3 hn ⟨s, hi, B3⟩ => body _ u n s _ _ hn hi (set_va B3 (.int _))) (fun σ3 H3 ⟨s, hi, B3⟩ => done s _ _ hi (B3.debase u))
theorem s_forR1 {m : Int} (S : Type) (I : Nat → S → Prop) (Δ : S → List Ent) (s0 : S) (B : Bs c H σ δ) (h : Ev o0 te σ H (.int m)) (hm : -1000000 ≤ m ∧ m ≤ 1000000) (w : LeA δ (Δ s0)) (i0 : I 0 s0)
    (body : ∀ (B0 : Hp), Ex c.B B0 → ∀ (n : Nat) (s : S) (σ1 : Sta) (H1 : Hp), n < m.toNat → I n s → Bs { c with B := B0 } H1 σ1 ((Δ s).set j (.va true (.int (0 + n)))) →
      ts { D with nx := NX c B0 S Δ I (n + 1), ct := NX c B0 S Δ I (n + 1), bk := D.nx } σ1 H1)
    (done : ∀ s σ1 H1, I m.toNat s → Bs c H1 σ1 (Δ s) → D.nx σ1 H1) : tFor (iRng1 (tCons te tNil)) (gName j) ts D σ H := by
  refine h.go fun v H2 e2 hv => ?_
  cases hv
  exact ⟨m, rfl, by omega, by omega, forR_core S I Δ s0 (B.mono e2) w i0 body done⟩
theorem s_forR2 {lo m : Int} (S : Type) (I : Nat → S → Prop) (Δ : S → List Ent) (s0 : S) (B : Bs c H σ δ) (h1 : Ev o0 ta σ H (.int lo)) (h2 : Ev o0 te σ H (.int m)) (hm : -1000000 ≤ lo ∧ lo ≤ 1000000 ∧ -1000000 ≤ m ∧ m ≤ 1000000) (w : LeA δ (Δ s0)) (i0 : I 0 s0)
    (body : ∀ (B0 : Hp), Ex c.B B0 → ∀ (n : Nat) (s : S) (σ1 : Sta) (H1 : Hp), n < (m - lo).toNat → I n s → Bs { c with B := B0 } H1 σ1 ((Δ s).set j (.va true (.int (lo + n)))) →
      ts { D with nx := NX c B0 S Δ I (n + 1), ct := NX c B0 S Δ I (n + 1), bk := D.nx } σ1 H1)
    (done : ∀ s σ1 H1, I (m - lo).toNat s → Bs c H1 σ1 (Δ s) → D.nx σ1 H1) : tFor (iRng2 (tCons ta (tCons te tNil))) (gName j) ts D σ H := by
  refine h1.go fun v H2 e2 hv => (h2.mono e2).go fun v' H3 e3 hv' => ?_
  cases hv; cases hv'
  exact ⟨lo, m, rfl, by omega, forR_core S I Δ s0 (B.mono (e2.trans e3)) w i0 body done⟩
/-- for k in reversed(range(m)) -/
theorem s_forRev {m : Int} (S : Type) (I : Nat → S → Prop) (Δ : S → List Ent) (s0 : S) (B : Bs c H σ δ) (h : Ev o0 te σ H (.int m)) (hm : -1000000 ≤ m ∧ m ≤ 1000000) (w : LeA δ (Δ s0)) (i0 : I 0 s0)
    (body : ∀ (B0 : Hp), Ex c.B B0 → ∀ (n : Nat) (s : S) (σ1 : Sta) (H1 : Hp), n < m.toNat → I n s → Bs { c with B := B0 } H1 σ1 ((Δ s).set j (.va true (.int (m - 1 - n)))) →
      ts { D with nx := NX c B0 S Δ I (n + 1), ct := NX c B0 S Δ I (n + 1), bk := D.nx } σ1 H1)
    (done : ∀ s σ1 H1, I m.toNat s → Bs c H1 σ1 (Δ s) → D.nx σ1 H1) : tFor (iRevR (tRg1 te)) (gName j) ts D σ H := by
  refine h.go fun v H2 e2 hv => ?_
  cases hv
  have B2 := B.mono e2
  have u := B2.under
  refine ⟨m, rfl, by omega, by omega, by omega, by omega, ?_⟩
  have em : (m - 0).toNat = m.toNat := by rw [Int.sub_zero]
  rw [em]
  refine for_rangeC (n := m.toNat) (NX c (hid (fun a => Adr δ a) H2) S Δ I) ⟨s0, i0, B2.rebase.le w⟩ (fun n σ3 H3 hn ⟨s, hi, B3⟩ => ?_) (fun σ3 H3 ⟨s, hi, B3⟩ => done s _ _ hi (B3.debase u))
  have ev : (0 + ((m.toNat : Nat) : Int) - 1 + (n : Nat) * -1) = m - 1 - n := by omega
  rw [ev]
  exact body _ u n s _ _ hn hi (set_va B3 (.int _))
/-- while: M falls -/
theorem s_while (S : Type) (I : S → Prop) (M : S → Nat) (Δ : S → List Ent) (s0 : S) (b : S → Bool) (B : Bs c H σ δ) (w : LeA δ (Δ s0)) (i0 : I s0)
    (test : ∀ (B0 : Hp), Ex c.B B0 → ∀ (s : S) (σ1 : Sta) (H1 : Hp), I s → Bs { c with B := B0 } H1 σ1 (Δ s) → EvT t σ1 H1 (b s))
    (body : ∀ (B0 : Hp), Ex c.B B0 → ∀ (s : S) (σ1 : Sta) (H1 : Hp), I s → b s = true → Bs { c with B := B0 } H1 σ1 (Δ s) →
      ts { D with nx := fun σ' H' => ∃ s', (I s' ∧ M s' < M s) ∧ Bs { c with B := B0 } H' σ' (Δ s'), ct := fun σ' H' => ∃ s', (I s' ∧ M s' < M s) ∧ Bs { c with B := B0 } H' σ' (Δ s'), bk := D.nx } σ1 H1)
    (done : ∀ s σ1 H1, I s → b s = false → Bs c H1 σ1 (Δ s) → D.nx σ1 H1) : tWhile t ts D σ H := by
  have u := B.under
  refine ⟨fun m σ' H' => ∃ s, m = M s ∧ I s ∧ Bs { c with B := hid (fun a => Adr δ a) H } H' σ' (Δ s), ⟨_, s0, rfl, i0, B.rebase.le w⟩, ?_⟩
  rintro m σ1 H1 ⟨s, rfl, hi, B1⟩
  refine test _ u s σ1 H1 hi B1 H1 (Ex.refl H1) _ fun H2 e2 => ?_
  cases q : b s with
  | true =>
    rw [if_pos rfl]
    exact ⟨_, fun σ' H' ⟨s', ⟨h1, h2⟩, h3⟩ => ⟨M s', h2, s', rfl, h1, h3⟩, body _ u s σ1 H2 hi q (B1.mono e2)⟩
  | false =>
    rw [if_neg Bool.false_ne_true]
    exact done s _ _ hi q ((B1.mono e2).debase u)

/-! comprehensions with one for, over a list -/
theorem en_lcL {α : Type} (xs : List α) (em : α → PyData) (cs : α → Bool) (e : α → PyData) (B : Bs c H σ δ) (h : Ev (c.hd f δ) tl σ H (.list (xs.map em))) (hz : xs.length ≤ 40000)
    (body : ∀ (c' : Wd) (x : α) (σ1 : Sta) (H1 : Hp), x ∈ xs → Bs c' H1 σ1 (δ.set j (.va f (em x))) → EvT t σ1 H1 (cs x) ∧ (cs x = true → Ev (c'.hd g (δ.set j (.va f (em x)))) te σ1 H1 (e x)))
    (hj : δ[j]? = some .no) : EvN (c.hd g δ) (tLc (iList K tl) (gName j) t te [j]) σ H ((xs.filter cs).map e) := fun H1 x1 Q q => by
  refine h H1 x1 _ fun v H2 e2 hv => ?_
  have B2 : Bs c H2 σ δ := B.mono (x1.trans e2)
  cases hv with
  | @lst p vs _ hp hr =>
    refine ⟨p, rfl, ⟨vs, .inl (.inl (hid_ex _ _ hp))⟩, fun C nC => ?_⟩
    -- the block's world: the new list may not be met
    let c' : Wd := { c with B := hid (fun a => Adr δ a ∨ a = C) H2, N := fun a => c.N a ∨ a = C }
    have eC : ∀ {u}, Ex H2 (upd H2 C u) := fun {u} => Evl.Ex.new nC
    have hdn : ∀ f' a, c'.hd f' δ a ↔ c.hd f' δ a ∨ a = C := fun f' a => by
      constructor
      · rintro (z | (z | z) | z)
        · exact .inl (.inl z)
        · exact .inl (.inr (.inl z))
        · exact .inr z
        · exact .inl (.inr (.inr z))
      · rintro ((z | z | z) | z)
        · exact .inl z
        · exact .inr (.inl (.inl z))
        · exact .inr (.inr z)
        · exact .inr (.inl (.inr z))
    have lift : ∀ {H3 : Hp} (f' : Bool), Ex (hid (fun a => Adr δ a ∨ a = C) H2) H3 → Ex (hid (c.hd f' δ) H2) (hid (c'.hd f' δ) H3) := fun {H3} f' e3 a u q => by
      obtain ⟨q1, q2⟩ := hid_of q
      have ha : ¬ a = C := ne_of_none q2 nC
      rw [hid_at (fun z => ((hdn f' a).mp z).elim q1 ha)]
      exact e3 a u (by rw [hid_at (fun z => z.elim (fun z => q1 (.inr (.inr z))) ha)]; exact q2)
    have mk : ∀ {H3 : Hp} {acc : List V}, Ex (hid (fun a => Adr δ a ∨ a = C) H2) H3 → (∀ a u, Adr δ a → H2 a = some u → H3 a = some u) → H3 C = some (.lst acc) → Live c.O H3 → Live c.N H3 → Bs c' H3 (wipe σ [j]) δ := fun {H3 acc} e3 eo hC lO lN => by
      refine ⟨e3, lO, fun a ha => ?_, fun a ha => ⟨(show hid (fun a => Adr δ a ∨ a = C) H2 a = none from hid_in (Or.inl ha)), (B2.own a ha).2.1, fun z => ?_⟩, B2.one, by rw [wipe_length]; exact B2.len, fun i e he => ?_⟩
      · rcases ha with ha | ha
        · exact lN a ha
        · subst ha; rw [hC]; simp
      · rcases z with z | z
        · exact (B2.own a ha).2.2 z
        · subst z
          obtain ⟨k, f, ds, ha⟩ := ha
          obtain ⟨vs, _, q, _⟩ := B2.ent k _ ha
          rw [q] at nC; cases nC
      · have w := B2.ent i e he
        have nj : ∀ f d, e = .va f d → i ≠ j := fun f d z y => by subst y; subst z; rw [hj] at he; cases he
        have nj2 : ∀ f a d, e = .ow f a d → i ≠ j := fun f a d z y => by subst y; subst z; rw [hj] at he; cases he
        have nj3 : ∀ v, e = .rw v → i ≠ j := fun v z y => by subst y; subst z; rw [hj] at he; cases he
        cases e with
        | no => trivial
        | va f' d =>
          obtain ⟨v, e, w⟩ := w
          refine ⟨v, ?_, w.mono (lift f' e3)⟩
          show ((wipe σ []).set j none)[i]? = _
          rw [List.getElem?_set_ne (fun z => nj _ _ rfl z.symm)]; exact e
        | ow f' b es =>
          obtain ⟨ws, e, w, r⟩ := w
          refine ⟨ws, ?_, eo _ _ ⟨i, f', es, he⟩ w, r.mono (lift f' e3)⟩
          show ((wipe σ []).set j none)[i]? = _
          rw [List.getElem?_set_ne (fun z => nj2 _ _ _ rfl z.symm)]; exact e
        | rw v =>
          show ((wipe σ []).set j none)[i]? = _
          rw [List.getElem?_set_ne (fun z => nj3 _ rfl z.symm)]; exact w
    refine lc_list (xs := vs) (fun n H3 => ∃ acc, Ex (hid (fun a => Adr δ a ∨ a = C) H2) H3 ∧ (∀ a u, a ≠ C → H2 a = some u → H3 a = some u) ∧ H3 C = some (.lst acc) ∧ DnA (hid (c'.hd g δ) H3) acc (((xs.take n).filter cs).map e) ∧ Live c.O H3 ∧ Live c.N H3) ?_ (fun n H3 _ ⟨acc, e3, en, _, _, _, _⟩ => ?_) (fun n x H3 hx hP => ?_) (fun H3 hP => ?_)
    · refine ⟨[], fun a u h => ?_, fun a u na h => ?_, upd_same, ?_, (B2.liO).mono eC, (B2.liN).mono eC⟩
      · obtain ⟨h1, h2⟩ := hid_of h
        rw [upd_ne (fun z => h1 (.inr z))]; exact h2
      · rw [upd_ne na]; exact h
      · simp; exact .nil
    · refine .inl (.inl (en _ _ ?_ (hid_ex _ _ hp)))
      intro z; subst z; rw [hid_ex _ _ hp] at nC; cases nC
    · obtain ⟨acc, e3, en, hC, hacc, lO, lN⟩ := hP
      obtain ⟨dd, hdd, hdv⟩ := hr.get' hx
      rw [List.getElem?_map] at hdd
      obtain ⟨y, hy, ey⟩ := Option.map_eq_some_iff.mp hdd
      subst ey
      have B3 : Bs c' H3 (wipe σ [j]) δ := mk e3 (fun a u ha h => en a u (fun z => by
        subst z
        obtain ⟨k, f, ds, ha⟩ := ha
        obtain ⟨vs, _, q, _⟩ := B2.ent k _ ha
        rw [q] at nC; cases nC) h) hC lO lN
      have B4 := set_va (i := j) B3 (hdv.mono (lift f e3))
      have hyx : y ∈ xs := List.mem_of_getElem? hy
      obtain ⟨t1, t2⟩ := body c' y _ _ hyx B4
      have hn : n < xs.length := by rw [List.getElem?_eq_some_iff] at hy; exact hy.1
      have tk : xs.take (n + 1) = xs.take n ++ [y] := by rw [List.take_add_one, hy]; rfl
      have keepAdr : ∀ {H4 : Hp}, Ex H3 H4 → Ex (hid (fun a => Adr δ a ∨ a = C) H2) H4 ∧ (∀ a u, a ≠ C → H2 a = some u → H4 a = some u) := fun e4 => ⟨e3.trans e4, fun a u na h => e4 _ _ (en a u na h)⟩
      refine ⟨?_, t1 H3 (Ex.refl H3) _ fun H4 e4 => ?_⟩
      · show ((((wipe σ []).set j none).set j (some x)).set j none) = _
        rw [List.set_set, List.set_set]; rfl
      · cases hb : cs y with
        | false =>
          rw [if_neg Bool.false_ne_true]
          refine ⟨acc, (keepAdr e4).1, (keepAdr e4).2, e4 _ _ hC, ?_, lO.mono e4, lN.mono e4⟩
          rw [tk, List.filter_append]
          simp only [List.filter_cons, hb, List.filter_nil, Bool.false_eq_true, if_false, List.append_nil]
          exact hacc.mono (hid_mono e4)
        | true =>
          rw [if_pos rfl]
          refine t2 hb H4 e4 _ fun v5 H5 e5 h5 => ?_
          have e45 := e4.trans e5
          refine ⟨acc, e45 _ _ hC, ?_, acc ++ [v5], ?_, ?_, upd_same, ?_, ?_, ?_⟩
          · refine Evl.sz_lt ?_
            rw [hacc.length, List.length_map]
            have h1 : ((xs.take n).filter cs).length ≤ (xs.take n).length := List.length_filter_le _ _
            have h2 : (xs.take n).length ≤ n := List.length_take_le _ _
            omega
          · intro a u h
            obtain ⟨h1, h2⟩ := hid_of h
            rw [upd_ne (fun z => h1 (.inr z))]
            exact (keepAdr e45).1 a u h
          · intro a u na h
            rw [upd_ne na]
            exact (keepAdr e45).2 a u na h
          · rw [hid_upd_in ((hdn g C).mpr (.inr rfl)), tk, List.filter_append, List.map_append]
            simp only [List.filter_cons, hb, List.filter_nil, if_true, List.map_cons, List.map_nil]
            refine (hacc.mono (hid_mono e45)).append (.one (h5.mono (hid_sub (hd_sub fun b z => ?_))))
            obtain ⟨k, f', ds', z⟩ := z
            exact ⟨k, f', ds', by rw [List.getElem?_set_ne (fun y => by subst y; rw [hj] at z; cases z)]; exact z⟩
          · intro b hb z
            by_cases q : b = C
            · subst q; rw [upd_same] at z; cases z
            · rw [upd_ne q] at z; exact (lO.mono e45) b hb z
          · intro b hb z
            by_cases q : b = C
            · subst q; rw [upd_same] at z; cases z
            · rw [upd_ne q] at z; exact (lN.mono e45) b hb z
    · obtain ⟨acc, e3, en, hC, hacc, lO, lN⟩ := hP
      have el : vs.length = xs.length := by rw [hr.length, List.length_map]
      rw [el, List.take_length] at hacc
      refine q C acc H3 (Evl.fresh_back e2 nC) (e2.trans fun a u h => ?_) hC (hacc.mono (hid_sub fun a z => (hdn g a).mpr z))
      exact en a u (ne_of_none h nC) h
end
end HL
namespace HL
open PySem PySem.Spec PyProof.Rows L2
open Evl (Ex)
section
variable {K : PySem.W.Frag} {c : Wd} {o : Hd} {H H1 H' : Hp} {σ : Sta} {δ δ' : List Ent} {i j : Nat} {f g : Bool} {a : Addr} {d e : PyData} {ds es : List PyData} {ta tb te tl : TE} {t : TT} {ts : TS} {D : Ends} {S : Type}
theorem it_R1 {m : Int} (h : Ev o0 te σ H (.int m)) (hm : -1000000 ≤ m ∧ m ≤ 1000000) : ∀ H1, Ex H H1 → ∀ R : It → Hp → Prop, (∀ H2, Ex H1 H2 → R (Itr 0 m.toNat) H2) → iRng1 (tCons te tNil) σ H1 R := fun H1 x R q => h H1 x _ fun v H2 e2 hv => by
  cases hv
  exact ⟨m, rfl, by omega, by omega, q H2 e2⟩
theorem it_R2 {lo m : Int} (h1 : Ev o0 ta σ H (.int lo)) (h : Ev o0 te σ H (.int m)) (hm : -1000000 ≤ lo ∧ lo ≤ 1000000 ∧ -1000000 ≤ m ∧ m ≤ 1000000) : ∀ H1, Ex H H1 → ∀ R : It → Hp → Prop, (∀ H2, Ex H1 H2 → R (Itr lo (m - lo).toNat) H2) → iRng2 (tCons ta (tCons te tNil)) σ H1 R := fun H1 x R q => h1 H1 x _ fun v H2 e2 hv => h H2 (x.trans e2) _ fun w H3 e3 hw => by
  cases hv; cases hw
  exact ⟨lo, m, rfl, by omega, q H3 (e2.trans e3)⟩
/-! the same over a range -/
theorem en_lcR {lo : Int} {m : Nat} (cs : Nat → Bool) (e : Nat → PyData) {tr : TI} (B : Bs c H σ δ) (h : ∀ H1, Ex H H1 → ∀ R : It → Hp → Prop, (∀ H2, Ex H1 H2 → R (Itr lo m) H2) → tr σ H1 R) (hz : m ≤ 40000)
    (body : ∀ (c' : Wd) (x : Nat) (σ1 : Sta) (H1 : Hp), x < m → Bs c' H1 σ1 (δ.set j (.va true (.int (lo + x)))) → EvT t σ1 H1 (cs x) ∧ (cs x = true → Ev (c'.hd g (δ.set j (.va true (.int (lo + x))))) te σ1 H1 (e x)))
    (hj : δ[j]? = some .no) : EvN (c.hd g δ) (tLc tr (gName j) t te [j]) σ H (((List.range m).filter cs).map e) := fun H1 x1 Q q => by
  refine h H1 x1 _ fun H2 e2 => ?_
  have B2 : Bs c H2 σ δ := B.mono (x1.trans e2)
  · refine fun C nC => ?_
    -- the block's world: the new list may not be met
    let c' : Wd := { c with B := hid (fun a => Adr δ a ∨ a = C) H2, N := fun a => c.N a ∨ a = C }
    have eC : ∀ {u}, Ex H2 (upd H2 C u) := fun {u} => Evl.Ex.new nC
    have hdn : ∀ f' a, c'.hd f' δ a ↔ c.hd f' δ a ∨ a = C := fun f' a => by
      constructor
      · rintro (z | (z | z) | z)
        · exact .inl (.inl z)
        · exact .inl (.inr (.inl z))
        · exact .inr z
        · exact .inl (.inr (.inr z))
      · rintro ((z | z | z) | z)
        · exact .inl z
        · exact .inr (.inl (.inl z))
        · exact .inr (.inr z)
        · exact .inr (.inl (.inr z))
    have lift : ∀ {H3 : Hp} (f' : Bool), Ex (hid (fun a => Adr δ a ∨ a = C) H2) H3 → Ex (hid (c.hd f' δ) H2) (hid (c'.hd f' δ) H3) := fun {H3} f' e3 a u q => by
      obtain ⟨q1, q2⟩ := hid_of q
      have ha : ¬ a = C := ne_of_none q2 nC
      rw [hid_at (fun z => ((hdn f' a).mp z).elim q1 ha)]
      exact e3 a u (by rw [hid_at (fun z => z.elim (fun z => q1 (.inr (.inr z))) ha)]; exact q2)
    have mk : ∀ {H3 : Hp} {acc : List V}, Ex (hid (fun a => Adr δ a ∨ a = C) H2) H3 → (∀ a u, Adr δ a → H2 a = some u → H3 a = some u) → H3 C = some (.lst acc) → Live c.O H3 → Live c.N H3 → Bs c' H3 (wipe σ [j]) δ := fun {H3 acc} e3 eo hC lO lN => by
      refine ⟨e3, lO, fun a ha => ?_, fun a ha => ⟨(show hid (fun a => Adr δ a ∨ a = C) H2 a = none from hid_in (Or.inl ha)), (B2.own a ha).2.1, fun z => ?_⟩, B2.one, by rw [wipe_length]; exact B2.len, fun i e he => ?_⟩
      · rcases ha with ha | ha
        · exact lN a ha
        · subst ha; rw [hC]; simp
      · rcases z with z | z
        · exact (B2.own a ha).2.2 z
        · subst z
          obtain ⟨k, f, ds, ha⟩ := ha
          obtain ⟨vs, _, q, _⟩ := B2.ent k _ ha
          rw [q] at nC; cases nC
      · have w := B2.ent i e he
        have nj : ∀ f d, e = .va f d → i ≠ j := fun f d z y => by subst y; subst z; rw [hj] at he; cases he
        have nj2 : ∀ f a d, e = .ow f a d → i ≠ j := fun f a d z y => by subst y; subst z; rw [hj] at he; cases he
        have nj3 : ∀ v, e = .rw v → i ≠ j := fun v z y => by subst y; subst z; rw [hj] at he; cases he
        cases e with
        | no => trivial
        | va f' d =>
          obtain ⟨v, e, w⟩ := w
          refine ⟨v, ?_, w.mono (lift f' e3)⟩
          show ((wipe σ []).set j none)[i]? = _
          rw [List.getElem?_set_ne (fun z => nj _ _ rfl z.symm)]; exact e
        | ow f' b es =>
          obtain ⟨ws, e, w, r⟩ := w
          refine ⟨ws, ?_, eo _ _ ⟨i, f', es, he⟩ w, r.mono (lift f' e3)⟩
          show ((wipe σ []).set j none)[i]? = _
          rw [List.getElem?_set_ne (fun z => nj2 _ _ _ rfl z.symm)]; exact e
        | rw v =>
          show ((wipe σ []).set j none)[i]? = _
          rw [List.getElem?_set_ne (fun z => nj3 _ rfl z.symm)]; exact w
    refine lc_range (lo := lo) (n := m) (fun n H3 => ∃ acc, Ex (hid (fun a => Adr δ a ∨ a = C) H2) H3 ∧ (∀ a u, a ≠ C → H2 a = some u → H3 a = some u) ∧ H3 C = some (.lst acc) ∧ DnA (hid (c'.hd g δ) H3) acc (((List.range n).filter cs).map e) ∧ Live c.O H3 ∧ Live c.N H3) ?_ (fun n H3 hn hP => ?_) (fun H3 hP => ?_)
    · refine ⟨[], fun a u h => ?_, fun a u na h => ?_, upd_same, ?_, (B2.liO).mono eC, (B2.liN).mono eC⟩
      · obtain ⟨h1, h2⟩ := hid_of h
        rw [upd_ne (fun z => h1 (.inr z))]; exact h2
      · rw [upd_ne na]; exact h
      · simp; exact .nil
    · obtain ⟨acc, e3, en, hC, hacc, lO, lN⟩ := hP
      have B3 : Bs c' H3 (wipe σ [j]) δ := mk e3 (fun a u ha h => en a u (fun z => by
        subst z
        obtain ⟨k, f, ds, ha⟩ := ha
        obtain ⟨vs, _, q, _⟩ := B2.ent k _ ha
        rw [q] at nC; cases nC) h) hC lO lN
      have B4 := set_va (i := j) (f := true) B3 (.int (lo + n))
      obtain ⟨t1, t2⟩ := body c' n _ _ hn B4
      have tk : List.range (n + 1) = List.range n ++ [n] := List.range_succ
      have keepAdr : ∀ {H4 : Hp}, Ex H3 H4 → Ex (hid (fun a => Adr δ a ∨ a = C) H2) H4 ∧ (∀ a u, a ≠ C → H2 a = some u → H4 a = some u) := fun e4 => ⟨e3.trans e4, fun a u na h => e4 _ _ (en a u na h)⟩
      refine ⟨?_, t1 H3 (Ex.refl H3) _ fun H4 e4 => ?_⟩
      · show ((((wipe σ []).set j none).set j (some (.int (lo + n)))).set j none) = _
        rw [List.set_set, List.set_set]; rfl
      · cases hb : cs n with
        | false =>
          rw [if_neg Bool.false_ne_true]
          refine ⟨acc, (keepAdr e4).1, (keepAdr e4).2, e4 _ _ hC, ?_, lO.mono e4, lN.mono e4⟩
          rw [tk, List.filter_append]
          simp only [List.filter_cons, hb, List.filter_nil, Bool.false_eq_true, if_false, List.append_nil]
          exact hacc.mono (hid_mono e4)
        | true =>
          rw [if_pos rfl]
          refine t2 hb H4 e4 _ fun v5 H5 e5 h5 => ?_
          have e45 := e4.trans e5
          refine ⟨acc, e45 _ _ hC, ?_, acc ++ [v5], ?_, ?_, upd_same, ?_, ?_, ?_⟩
          · refine Evl.sz_lt ?_
            rw [hacc.length, List.length_map]
            have h1 : ((List.range n).filter cs).length ≤ (List.range n).length := List.length_filter_le _ _
            rw [List.length_range] at h1
            omega
          · intro a u h
            obtain ⟨h1, h2⟩ := hid_of h
            rw [upd_ne (fun z => h1 (.inr z))]
            exact (keepAdr e45).1 a u h
          · intro a u na h
            rw [upd_ne na]
            exact (keepAdr e45).2 a u na h
          · rw [hid_upd_in ((hdn g C).mpr (.inr rfl)), tk, List.filter_append, List.map_append]
            simp only [List.filter_cons, hb, List.filter_nil, if_true, List.map_cons, List.map_nil]
            refine (hacc.mono (hid_mono e45)).append (.one (h5.mono (hid_sub (hd_sub fun b z => ?_))))
            obtain ⟨k, f', ds', z⟩ := z
            exact ⟨k, f', ds', by rw [List.getElem?_set_ne (fun y => by subst y; rw [hj] at z; cases z)]; exact z⟩
          · intro b hb z
            by_cases q : b = C
            · subst q; rw [upd_same] at z; cases z
            · rw [upd_ne q] at z; exact (lO.mono e45) b hb z
          · intro b hb z
            by_cases q : b = C
            · subst q; rw [upd_same] at z; cases z
            · rw [upd_ne q] at z; exact (lN.mono e45) b hb z
    · obtain ⟨acc, e3, en, hC, hacc, lO, lN⟩ := hP
      refine q C acc H3 (Evl.fresh_back e2 nC) (e2.trans fun a u h => ?_) hC (hacc.mono (hid_sub fun a z => (hdn g a).mpr z))
      exact en a u (ne_of_none h nC) h
end
end HL
namespace HL
open PySem PySem.Spec PyProof.Rows L2
open Evl (Ex)

/-! ### at a def's entry -/
theorem Adr_none {δ : List Ent} (h : ∀ (e : Ent), e ∈ δ → ∀ f a ds, e ≠ .ow f a ds) (a : Addr) : ¬ Adr δ a := fun ⟨i, f, ds, q⟩ => h _ (List.mem_of_getElem? q) f a ds rfl
theorem start_len {N : List Str} {vs : List V} (h : vs.length ≤ N.length) : (L2.start N vs).length = N.length := by
  unfold L2.start
  simp; omega
def args (f : Bool) (n : Nat) (ds : List PyData) : List Ent := ds.map (.va f) ++ List.replicate (n - ds.length) .no
theorem bs_start {N : List Str} {vs : List V} {ds : List PyData} {H : Hp} {o : Hd} (f : Bool) (l : Live o H) (hf : DnA (hid (fun a => f = true ∧ o a) H) vs ds) (hN : vs.length ≤ N.length) : Bs ⟨H, o, o0⟩ H (L2.start N vs) (args f N.length ds) := by
  have hl := hf.length
  have na : ∀ a, ¬ Adr (args f N.length ds) a := Adr_none (fun e he f' a ds' z => by
    subst z
    unfold args at he
    rcases List.mem_append.mp he with he | he
    · obtain ⟨d, _, q⟩ := List.mem_map.mp he; cases q
    · have := (List.mem_replicate.mp he).2; cases this)
  refine ⟨Ex.refl H, l, live0, fun a h => (na a h).elim, fun i j f1 g a d1 es h1 h2 => (na a ⟨i, f1, d1, h1⟩).elim, ?_, fun i e he => ?_⟩
  · rw [start_len hN]; unfold args; simp; omega
  · unfold args at he
    by_cases hi : i < ds.length
    · rw [List.getElem?_append_left (by simpa using hi), List.getElem?_map] at he
      obtain ⟨d, hd, q⟩ := Option.map_eq_some_iff.mp he
      subst q
      obtain ⟨v, hv, q⟩ := hf.get hd
      refine ⟨v, ?_, q.mono (hid_sub fun a z => ?_)⟩
      · rw [start_get (by rw [hl]; exact hi) hN]
        rw [List.getElem?_eq_some_iff] at hv
        rw [hv.2]
      · rcases z with z | z | z
        · exact z
        · exact z.elim
        · exact (na a z).elim
    · rw [List.getElem?_append_right (by simp; omega)] at he
      have := (List.mem_replicate.mp (List.mem_of_getElem? he)).2
      subst this
      trivial
theorem bs_F {N : List Str} {vs : List V} {ds : List PyData} {H : Hp} (h : DnA H vs ds) (hN : vs.length ≤ N.length) : Bs ⟨H, fun a => H a ≠ none, o0⟩ H (L2.start N vs) (args false N.length ds) :=
  bs_start false (fun _ h => h) (h.mono (fun a u q => by rw [hid_at (fun z => Bool.noConfusion z.1)]; exact q)) hN
theorem bs_S {N : List Str} {vs : List V} {ds : List PyData} {H : Hp} {o : Hd} (l : Live o H) (h : DnA (hid o H) vs ds) (hN : vs.length ≤ N.length) : Bs ⟨H, o, o0⟩ H (L2.start N vs) (args true N.length ds) :=
  bs_start true l (h.mono (hid_sub fun a z => z.2)) hN
theorem new_of {H H1 : Hp} {v : V} {d : PyData} (h : Dn (hid ((⟨H, fun a => H a ≠ none, o0⟩ : Wd).hd true []) H1) v d) : Dn (new H H1) v d := h.mono (hid_sub fun a z => .inl ⟨rfl, z⟩)
theorem hd_nil {c : Wd} {H1 : Hp} {v : V} {d : PyData} (h : Dn (hid (c.hd true []) H1) v d) : Dn (hid c.O H1) v d := h.mono (hid_sub fun a z => .inl ⟨rfl, z⟩)

/-! ### readings that change the body's own lists -/
def EvM (c : Wd) (te : TE) (σ : Sta) (H : Hp) (δ : List Ent) (d : PyData) (δ' : List Ent) : Prop := ∀ Q : VK, (∀ v H2, Bs c H2 σ δ' → (∀ a u, ¬ Adr δ a → H a = some u → H2 a = some u) → Dn (hid (c.hd true δ') H2) v d → Q v H2) → te σ H Q
/-- a def that changes the list that it is passed first -/
def SpM (R : List PyData → List PyData → PyData → List PyData → Prop) : Sp := fun vs H Q _ => ∃ (a : Addr) (xs vr : List V) (o : Hd) (ds rs : List PyData) (d : PyData) (ds' : List PyData), vs = .ref a :: vr ∧ Live o H ∧ o a ∧ H a = some (.lst xs) ∧ DnA (hid o H) xs ds ∧ DnA H vr rs ∧ R ds rs d ds' ∧
  ∀ v xs' H', (∀ b u, b ≠ a → H b = some u → H' b = some u) → H' a = some (.lst xs') → DnA (hid o H') xs' ds' → Dn (hid o H') v d → Q v H'
section
variable {K : PySem.W.Frag} {c : Wd} {o : Hd} {H H1 H' : Hp} {σ : Sta} {δ δ' δ'' : List Ent} {i j : Nat} {f g : Bool} {a : Addr} {d e : PyData} {ds ds' es : List PyData} {ta tb te tl : TE} {t : TT} {ts : TS} {D : Ends}
theorem Bs.exN (B : Bs c H σ δ) (e : Ex H H') : ∀ a u, ¬ Adr δ a → H a = some u → H' a = some u := fun a u _ h => e a u h
theorem em_pure (B : Bs c H σ δ) (h : Ev (c.hd true δ) te σ H d) : EvM c te σ H δ d δ := fun Q q => h.go fun v H2 e2 hv => q v H2 (B.mono e2) (B.exN e2) hv
theorem em_int {m : Int} (h : EvM c ta σ H δ (.int m) δ') : EvM c (tCB (fun xs H Q => (∃ i, xs = [.int i] ∧ Q (.int i) H) ∨ ∃ k, xs = [.bl k] ∧ Q (.int (if k then 1 else 0)) H) (tCons ta tNil)) σ H δ (.int m) δ' := fun Q q =>
  h _ fun v H2 B2 k2 hv => by cases hv; exact .inl ⟨m, rfl, q _ H2 B2 k2 (.int _)⟩
theorem em_I0 {p : Int → Int → Int} {x y : Int} (h : EvM c ta σ H δ (.int x) δ') (hb : ∀ H2, Bs c H2 σ δ' → Ev o0 tb σ H2 (.int y)) : EvM c (tOp (rI0 fun i j => .int (p i j)) ta tb) σ H δ (.int (p x y)) δ' := fun Q q =>
  h _ fun v H2 B2 k2 hv => (hb H2 B2).go fun w H3 e3 hw => by cases hv; cases hw; exact ⟨x, y, rfl, rfl, q _ H3 (B2.mono e3) (fun a u na h => e3 _ _ (k2 a u na h)) (.int _)⟩
theorem em_IC {C : Int → Int → Prop} {p : Int → Int → Int} {x y : Int} (h : EvM c ta σ H δ (.int x) δ') (hb : ∀ H2, Bs c H2 σ δ' → Ev o0 tb σ H2 (.int y)) (hc : C x y) : EvM c (tOp (rI C fun i j => .int (p i j)) ta tb) σ H δ (.int (p x y)) δ' := fun Q q =>
  h _ fun v H2 B2 k2 hv => (hb H2 B2).go fun w H3 e3 hw => by cases hv; cases hw; exact ⟨x, y, rfl, rfl, hc, q _ H3 (B2.mono e3) (fun a u na h => e3 _ _ (k2 a u na h)) (.int _)⟩
/-- an item of a list at a place that is drawn -/
theorem em_ixL {m : Int} (ha : Ev (c.hd true δ) ta σ H (.list ds)) (stay : ∀ p, Adr δ p ↔ Adr δ' p) (h : ∀ H2, Ex H H2 → EvM c tb σ H2 δ (.int m) δ') (hg : atI ds m = some d) : EvM c (tOp (rIxL K) ta tb) σ H δ d δ' := fun Q q =>
  ha.go fun v H2 e2 hv => h H2 e2 _ fun w H3 B3 k3 hw => by
    cases hw
    cases hv with
    | lst h r =>
      have up : Ex (hid (c.hd true δ) H2) (hid (c.hd true δ') H3) := fun b u q => by
        obtain ⟨q1, q2⟩ := hid_of q
        rw [hid_at (fun z => q1 (by
          rcases z with z | z | z
          · exact .inl z
          · exact .inr (.inl z)
          · exact .inr (.inr ((stay b).mpr z))))]
        exact k3 b u (fun z => q1 (.inr (.inr z))) q2
      obtain ⟨y, y1, y2⟩ := (r.mono up).atI hg
      exact ⟨_, _, m, y, rfl, rfl, .inl (.inl (hid_ex _ _ (up _ _ h))), y1, q _ H3 B3 (fun a u na h => k3 a u na (e2 _ _ h)) y2⟩
/-- the call of a def that changes the own list in slot i -/
theorem em_call {R : List PyData → List PyData → PyData → List PyData → Prop} {E : XK} {tr : TA} (B : Bs c H σ δ) (hx : δ[i]? = some (.ow true a ds)) (h : EvA o0 tr σ H es) (hr : R ds es d ds') :
    EvM c (tCall (SpM R) [] E (tCons (tVar i) tr)) σ H δ d (δ.set i (.ow true a ds')) := fun Q q => by
  obtain ⟨vs, e1, ha, hv⟩ := B.ent i _ hx
  refine ⟨.ref a, e1, h H (Ex.refl H) _ fun ws H2 e2 hw => ?_⟩
  have B2 := B.mono e2
  refine ⟨a, vs, ws, c.hd true δ, ds, es, d, ds', by rw [List.append_nil], B2.live true, .inr (.inr ⟨i, true, ds, hx⟩), e2 _ _ ha, hv.mono (hid_mono e2), hw.up, hr, fun v xs' H' hk hp hxs hvd => ?_⟩
  have ex : Ex H2 (upd H' a (.lst vs)) := fun b u qq => by
    by_cases z : b = a
    · subst z; rw [upd_same]; rw [e2 _ _ ha] at qq; exact qq
    · rw [upd_ne z]; exact hk b u z qq
  have ia : ∀ g, c.hd g δ a := fun g => .inr (.inr ⟨i, true, ds, hx⟩)
  have B3 := B2.mono ex
  have B4 := set_in (vs' := xs') (ds' := ds') B3 hx (by rw [hid_upd_in (ia true)]; exact hxs)
  have eH : upd (upd H' a (.lst vs)) a (.lst xs') = H' := by
    funext b
    by_cases z : b = a
    · subst z; rw [upd_same, hp]
    · rw [upd_ne z, upd_ne z]
  rw [eH] at B4
  have hl : i < δ.length := by rw [List.getElem?_eq_some_iff] at hx; exact hx.1
  refine q v H' B4 (fun b u nb hb => hk b u (fun z => nb ⟨i, true, ds, by rw [z] ; exact hx⟩) (e2 _ _ hb)) (hvd.mono (hid_sub (hd_sub fun b z => ?_)))
  rcases adr_set z with z | ⟨_, _, z⟩
  · exact z
  · injection z with _ z _; subst z; exact ⟨i, true, ds, hx⟩
theorem s_asgM (h : EvM c te σ H δ d δ') (k : ∀ σ1 H1, Bs c H1 σ1 (δ'.set i (.va true d)) → D.nx σ1 H1) : tAsg te (gName i) D σ H := h _ fun v H2 B2 _ hv => k _ _ (set_va B2 hv)
theorem s_retM {Q : V → Hp → Prop} (hD : D.rt = Q) (h : EvM c te σ H δ d δ') (k : ∀ v H1, Bs c H1 σ δ' → Dn (hid (c.hd true δ') H1) v d → Q v H1) : tRet te D σ H := h _ fun v H2 B2 _ hv => by rw [hD]; exact k v H2 B2 hv

/-! own lists -/
theorem s_pop0 {m : Int} {n : Nat} {x : PyData} (B : Bs c H σ δ) (hx : δ[i]? = some (.ow f a ds)) (h : Ev o0 te σ H (.int m)) (hb : -1000000 ≤ m ∧ m ≤ 1000000) (hm : ixN ds.length m = some n) (hd : ds[n]? = some x) (k : ∀ H1, Bs c H1 σ (δ.set i (.ow f a (ds.eraseIdx n))) → D.nx σ H1) :
    tDrop (tBM K "list" rPopAt (tVar i) (tCons te tNil)) D σ H := by
  obtain ⟨vs, e, ha, hv⟩ := B.ent i _ hx
  refine ⟨.ref a, e, .inl ⟨rfl, vs, .inl (.inl ha)⟩, h.go fun v H2 e2 hw => ?_⟩
  cases hw
  obtain ⟨y, hy, _⟩ := hv.get hd
  refine ⟨a, vs, m, n, y, rfl, rfl, e2 _ _ ha, by omega, by omega, ?_, hy, k _ ?_⟩
  · rw [hv.length]; exact (ixN_seq hm).1
  · exact set_in (B.mono e2) hx ((hv.mono (hid_mono e2)).eraseIdx n)
theorem s_ins0 {m : Int} (B : Bs c H σ δ) (hx : δ[i]? = some (.ow f a ds)) (h : Ev o0 te σ H (.int m)) (hb : 0 ≤ m ∧ m ≤ 1000000) (hd : Ev (c.hd f δ) ta σ H d) (hz : ds.length < 100000) (k : ∀ H1, Bs c H1 σ (δ.set i (.ow f a (ds.take m.toNat ++ [d] ++ ds.drop m.toNat))) → D.nx σ H1) :
    tDrop (tBM K "list" (fun x vs H Q => ∃ (l : Addr) (xs : List V) (i : Int) (y : V), x = .ref l ∧ vs = [.int i, y] ∧ H l = some (.lst xs) ∧ xs.length < sizeLine ∧ 0 ≤ i ∧ i < 2 ^ 63 ∧ Q .non (upd H l (.lst (xs.take i.toNat ++ [y] ++ xs.drop i.toNat)))) (tVar i) (tCons te (tCons ta tNil))) D σ H := by
  obtain ⟨vs, e, ha, hv⟩ := B.ent i _ hx
  refine ⟨.ref a, e, .inl ⟨rfl, vs, .inl (.inl ha)⟩, h.go fun v H2 e2 hw => (hd.mono e2).go fun y H3 e3 hy => ?_⟩
  cases hw
  have e23 := e2.trans e3
  refine ⟨a, vs, m, y, rfl, rfl, e23 _ _ ha, Evl.sz_lt (by rw [hv.length]; exact hz), hb.1, by omega, k _ ?_⟩
  have r := hv.mono (hid_mono e23)
  exact set_in (B.mono e23) hx (((r.take _).append (.one hy)).append (r.drop _))
end
end HL
namespace HL
open PySem PySem.Spec PyProof.Rows L2
open Evl (Ex)
section
variable {K : PySem.W.Frag} {c : Wd} {o : Hd} {H H1 H' : Hp} {σ : Sta} {δ δ' : List Ent} {i j : Nat} {f g b : Bool} {a : Addr} {d e : PyData} {ds es : List PyData} {ta tb te tl : TE} {t : TT} {ts tu tw tz : TS} {D : Ends} {S : Type}
theorem q_asg (S : Bs c H σ δ) (h : Ev (c.hd f δ) te σ H d) (k : ∀ σ1 H1, Bs c H1 σ1 (δ.set i (.va f d)) → tz D σ1 H1) :
    tSeq (tAsg te (gName i)) tz D σ H := s_asg (D := { D with nx := tz D }) S h k
theorem q_asgN (S : Bs c H σ δ) (h : EvN (c.hd f δ) te σ H ds) (k : ∀ a σ1 H1, Bs c H1 σ1 (δ.set i (.ow f a ds)) → tz D σ1 H1) :
    tSeq (tAsg te (gName i)) tz D σ H := s_asgN (D := { D with nx := tz D }) S h k
theorem q_asg2 (S : Bs c H σ δ) (h : Ev (c.hd f δ) te σ H d) (k : ∀ σ1 H1, Bs c H1 σ1 ((δ.set i (.va f d)).set j (.va f d)) → tz D σ1 H1) :
    tSeq (tAsg2 te (gName i) (gName j)) tz D σ H := s_asg2 (D := { D with nx := tz D }) S h k
theorem q_if (S : Bs c H σ δ) (h : EvT t σ H b) (h1 : b = true → ∀ H1, Bs c H1 σ δ → tu { D with nx := tz D } σ H1) (h2 : b = false → ∀ H1, Bs c H1 σ δ → tw { D with nx := tz D } σ H1) :
    tSeq (tIfS t tu tw) tz D σ H := s_if (D := { D with nx := tz D }) S h h1 h2
theorem q_drop (S : Bs c H σ δ) (h : Ev o0 te σ H d) (k : ∀ H1, Bs c H1 σ δ → tz D σ H1) :
    tSeq (tDrop te) tz D σ H := s_drop (D := { D with nx := tz D }) S h k
theorem q_aug {x y : Int} {p : Int → Int → Int} (S : Bs c H σ δ) (hx : δ[i]? = some (.va f (.int x))) (h : Ev o0 te σ H (.int y)) (k : ∀ σ1 H1, Bs c H1 σ1 (δ.set i (.va true (.int (p x y)))) → tz D σ1 H1) :
    tSeq (tAug i te (ipI p)) tz D σ H := s_aug (D := { D with nx := tz D }) S hx h k
theorem q_app (S : Bs c H σ δ) (hx : δ[i]? = some (.ow f a ds)) (h : Ev (c.hd f δ) te σ H d) (hz : ds.length < 100000) (k : ∀ H1, Bs c H1 σ (δ.set i (.ow f a (ds ++ [d]))) → tz D σ H1) :
    tSeq (tDrop (tBM K "list" rAppend (tVar i) (tCons te tNil))) tz D σ H := s_app (D := { D with nx := tz D }) S hx h hz k
theorem q_setI {ti : TE} {m : Int} {n : Nat} (S : Bs c H σ δ) (hx : δ[i]? = some (.ow f a ds)) (h : Ev (c.hd f δ) te σ H d) (hi : Ev o0 ti σ H (.int m)) (hm : ixN ds.length m = some n) (k : ∀ H1, Bs c H1 σ (δ.set i (.ow f a (ds.set n d))) → tz D σ H1) :
    tSeq (tAsg te (gSub (tVar i) ti rSetL)) tz D σ H := s_setI (D := { D with nx := tz D }) S hx h hi hm k
theorem q_forL (S : Type) (I : Nat → S → Prop) (Δ : S → List Ent) (s0 : S) (B : Bs c H σ δ) (h : Ev (c.hd f δ) tl σ H (.list ds)) (w : LeA δ (Δ s0)) (i0 : I 0 s0)
    (body : ∀ (B0 : Hp), Ex c.B B0 → ∀ (n : Nat) (s : S) (d : PyData) (σ1 : Sta) (H1 : Hp), ds[n]? = some d → I n s → Bs { c with B := B0 } H1 σ1 ((Δ s).set j (.va f d)) →
      ts { D with nx := NX c B0 S Δ I (n + 1), ct := NX c B0 S Δ I (n + 1), bk := tz D } σ1 H1)
    (done : ∀ s σ1 H1, I ds.length s → Bs c H1 σ1 (Δ s) → tz D σ1 H1) :
    tSeq (tFor (iList K tl) (gName j) ts) tz D σ H := s_forL (D := { D with nx := tz D }) S I Δ s0 B h w i0 body done
theorem q_forT (S : Type) (I : Nat → S → Prop) (Δ : S → List Ent) (s0 : S) (B : Bs c H σ δ) (h : Ev (c.hd f δ) tl σ H (.tuple ds)) (w : LeA δ (Δ s0)) (i0 : I 0 s0)
    (body : ∀ (B0 : Hp), Ex c.B B0 → ∀ (n : Nat) (s : S) (d : PyData) (σ1 : Sta) (H1 : Hp), ds[n]? = some d → I n s → Bs { c with B := B0 } H1 σ1 ((Δ s).set j (.va f d)) →
      ts { D with nx := NX c B0 S Δ I (n + 1), ct := NX c B0 S Δ I (n + 1), bk := tz D } σ1 H1)
    (done : ∀ s σ1 H1, I ds.length s → Bs c H1 σ1 (Δ s) → tz D σ1 H1) :
    tSeq (tFor (iTup K tl) (gName j) ts) tz D σ H := s_forT (D := { D with nx := tz D }) S I Δ s0 B h w i0 body done
theorem q_forO (S : Type) (I : Nat → S → Prop) (Δ : S → List Ent) (s0 : S) (B : Bs c H σ δ) (hk : ∀ s, (Δ s)[i]? = some (.ow f a ds)) (w : LeA δ (Δ s0)) (i0 : I 0 s0)
    (body : ∀ (B0 : Hp), Ex c.B B0 → ∀ (n : Nat) (s : S) (d : PyData) (σ1 : Sta) (H1 : Hp), ds[n]? = some d → I n s → Bs { c with B := B0 } H1 σ1 ((Δ s).set j (.va f d)) →
      ts { D with nx := NX c B0 S Δ I (n + 1), ct := NX c B0 S Δ I (n + 1), bk := tz D } σ1 H1)
    (done : ∀ s σ1 H1, I ds.length s → Bs c H1 σ1 (Δ s) → tz D σ1 H1) :
    tSeq (tFor (iList K (tVar i)) (gName j) ts) tz D σ H := s_forO (D := { D with nx := tz D }) S I Δ s0 B hk w i0 body done
theorem q_forR1 {m : Int} (S : Type) (I : Nat → S → Prop) (Δ : S → List Ent) (s0 : S) (B : Bs c H σ δ) (h : Ev o0 te σ H (.int m)) (hm : -1000000 ≤ m ∧ m ≤ 1000000) (w : LeA δ (Δ s0)) (i0 : I 0 s0)
    (body : ∀ (B0 : Hp), Ex c.B B0 → ∀ (n : Nat) (s : S) (σ1 : Sta) (H1 : Hp), n < m.toNat → I n s → Bs { c with B := B0 } H1 σ1 ((Δ s).set j (.va true (.int (0 + n)))) →
      ts { D with nx := NX c B0 S Δ I (n + 1), ct := NX c B0 S Δ I (n + 1), bk := tz D } σ1 H1)
    (done : ∀ s σ1 H1, I m.toNat s → Bs c H1 σ1 (Δ s) → tz D σ1 H1) :
    tSeq (tFor (iRng1 (tCons te tNil)) (gName j) ts) tz D σ H := s_forR1 (D := { D with nx := tz D }) S I Δ s0 B h hm w i0 body done
theorem q_forR2 {lo m : Int} (S : Type) (I : Nat → S → Prop) (Δ : S → List Ent) (s0 : S) (B : Bs c H σ δ) (h1 : Ev o0 ta σ H (.int lo)) (h2 : Ev o0 te σ H (.int m)) (hm : -1000000 ≤ lo ∧ lo ≤ 1000000 ∧ -1000000 ≤ m ∧ m ≤ 1000000) (w : LeA δ (Δ s0)) (i0 : I 0 s0)
    (body : ∀ (B0 : Hp), Ex c.B B0 → ∀ (n : Nat) (s : S) (σ1 : Sta) (H1 : Hp), n < (m - lo).toNat → I n s → Bs { c with B := B0 } H1 σ1 ((Δ s).set j (.va true (.int (lo + n)))) →
      ts { D with nx := NX c B0 S Δ I (n + 1), ct := NX c B0 S Δ I (n + 1), bk := tz D } σ1 H1)
    (done : ∀ s σ1 H1, I (m - lo).toNat s → Bs c H1 σ1 (Δ s) → tz D σ1 H1) :
    tSeq (tFor (iRng2 (tCons ta (tCons te tNil))) (gName j) ts) tz D σ H := s_forR2 (D := { D with nx := tz D }) S I Δ s0 B h1 h2 hm w i0 body done
theorem q_forRev {m : Int} (S : Type) (I : Nat → S → Prop) (Δ : S → List Ent) (s0 : S) (B : Bs c H σ δ) (h : Ev o0 te σ H (.int m)) (hm : -1000000 ≤ m ∧ m ≤ 1000000) (w : LeA δ (Δ s0)) (i0 : I 0 s0)
    (body : ∀ (B0 : Hp), Ex c.B B0 → ∀ (n : Nat) (s : S) (σ1 : Sta) (H1 : Hp), n < m.toNat → I n s → Bs { c with B := B0 } H1 σ1 ((Δ s).set j (.va true (.int (m - 1 - n)))) →
      ts { D with nx := NX c B0 S Δ I (n + 1), ct := NX c B0 S Δ I (n + 1), bk := tz D } σ1 H1)
    (done : ∀ s σ1 H1, I m.toNat s → Bs c H1 σ1 (Δ s) → tz D σ1 H1) :
    tSeq (tFor (iRevR (tRg1 te)) (gName j) ts) tz D σ H := s_forRev (D := { D with nx := tz D }) S I Δ s0 B h hm w i0 body done
theorem q_while (S : Type) (I : S → Prop) (M : S → Nat) (Δ : S → List Ent) (s0 : S) (b : S → Bool) (B : Bs c H σ δ) (w : LeA δ (Δ s0)) (i0 : I s0)
    (test : ∀ (B0 : Hp), Ex c.B B0 → ∀ (s : S) (σ1 : Sta) (H1 : Hp), I s → Bs { c with B := B0 } H1 σ1 (Δ s) → EvT t σ1 H1 (b s))
    (body : ∀ (B0 : Hp), Ex c.B B0 → ∀ (s : S) (σ1 : Sta) (H1 : Hp), I s → b s = true → Bs { c with B := B0 } H1 σ1 (Δ s) →
      ts { D with nx := fun σ' H' => ∃ s', (I s' ∧ M s' < M s) ∧ Bs { c with B := B0 } H' σ' (Δ s'), ct := fun σ' H' => ∃ s', (I s' ∧ M s' < M s) ∧ Bs { c with B := B0 } H' σ' (Δ s'), bk := tz D } σ1 H1)
    (done : ∀ s σ1 H1, I s → b s = false → Bs c H1 σ1 (Δ s) → tz D σ1 H1) :
    tSeq (tWhile t ts) tz D σ H := s_while (D := { D with nx := tz D }) S I M Δ s0 b B w i0 test body done
theorem q_asgM (h : EvM c te σ H δ d δ') (k : ∀ σ1 H1, Bs c H1 σ1 (δ'.set i (.va true d)) → tz D σ1 H1) :
    tSeq (tAsg te (gName i)) tz D σ H := s_asgM (D := { D with nx := tz D }) h k
theorem q_pop0 {m : Int} {n : Nat} {x : PyData} (B : Bs c H σ δ) (hx : δ[i]? = some (.ow f a ds)) (h : Ev o0 te σ H (.int m)) (hb : -1000000 ≤ m ∧ m ≤ 1000000) (hm : ixN ds.length m = some n) (hd : ds[n]? = some x) (k : ∀ H1, Bs c H1 σ (δ.set i (.ow f a (ds.eraseIdx n))) → tz D σ H1) :
    tSeq (tDrop (tBM K "list" rPopAt (tVar i) (tCons te tNil))) tz D σ H := s_pop0 (D := { D with nx := tz D }) B hx h hb hm hd k
theorem q_ins0 {m : Int} (B : Bs c H σ δ) (hx : δ[i]? = some (.ow f a ds)) (h : Ev o0 te σ H (.int m)) (hb : 0 ≤ m ∧ m ≤ 1000000) (hd : Ev (c.hd f δ) ta σ H d) (hz : ds.length < 100000) (k : ∀ H1, Bs c H1 σ (δ.set i (.ow f a (ds.take m.toNat ++ [d] ++ ds.drop m.toNat))) → tz D σ H1) :
    tSeq (tDrop (tBM K "list" (fun x vs H Q => ∃ (l : Addr) (xs : List V) (i : Int) (y : V), x = .ref l ∧ vs = [.int i, y] ∧ H l = some (.lst xs) ∧ xs.length < sizeLine ∧ 0 ≤ i ∧ i < 2 ^ 63 ∧ Q .non (upd H l (.lst (xs.take i.toNat ++ [y] ++ xs.drop i.toNat)))) (tVar i) (tCons te (tCons ta tNil)))) tz D σ H := s_ins0 (D := { D with nx := tz D }) B hx h hb hd hz k
/-- a statement and the rest, with a word between them -/
theorem q_cut {ts tz : TS} (M : Sta → Hp → Prop) (h : ts { D with nx := M } σ H) (k : ∀ σ' H', M σ' H' → tz D σ' H') (mono : ∀ D D' σ H, (∀ σ H, D.nx σ H → D'.nx σ H) → D.rt = D'.rt → D.bk = D'.bk → D.ct = D'.ct → ts D σ H → ts D' σ H) : tSeq ts tz D σ H :=
  mono { D with nx := M } { D with nx := tz D } σ H k rfl rfl rfl h
end
end HL
namespace HL
open PySem PySem.Spec PyProof.Rows L2
open Evl (Ex)
instance : Inhabited PyData := ⟨.none⟩
instance : Inhabited Str := ⟨⟨#[]⟩⟩
@[reducible] def eI (i : Int) : PyData := .int i
@[reducible] def eS (x : Str) : PyData := .str x
@[reducible] def eB (b : Bool) : PyData := .bool b
@[reducible] def eU (_ : Unit) : PyData := .none
@[reducible] def eD (d : PyData) : PyData := d
@[reducible] def eL {α : Type} (em : α → PyData) (xs : List α) : PyData := .list (xs.map em)
@[reducible] def eTu {α : Type} (em : α → PyData) (xs : List α) : PyData := .tuple (xs.map em)
@[reducible] def eT2 {α β : Type} (e1 : α → PyData) (e2 : β → PyData) (p : α × β) : PyData := .tuple [e1 p.1, e2 p.2]
@[reducible] def eT3 {α β γ : Type} (e1 : α → PyData) (e2 : β → PyData) (e3 : γ → PyData) (p : α × β × γ) : PyData := .tuple [e1 p.1, e2 p.2.1, e3 p.2.2]
@[reducible] def eT4 {α β γ δ : Type} (e1 : α → PyData) (e2 : β → PyData) (e3 : γ → PyData) (e4 : δ → PyData) (p : α × β × γ × δ) : PyData := .tuple [e1 p.1, e2 p.2.1, e3 p.2.2.1, e4 p.2.2.2]
def eO {α : Type} (em : α → PyData) : Option α → PyData
  | none => .none
  | some x => em x
/-- items by Python's places -/
def getI {α : Type} [Inhabited α] (xs : List α) (m : Int) : α := (atI xs m).getD default
def inB {α : Type} (xs : List α) (m : Int) : Prop := -(xs.length : Int) ≤ m ∧ m < xs.length
def rng (lo hi : Int) : List Int := (List.range (hi - lo).toNat).map fun (n : Nat) => lo + n
theorem rng_len (lo hi : Int) : (rng lo hi).length = (hi - lo).toNat := by simp [rng]
theorem rng_get {lo hi : Int} {n : Nat} (h : n < (hi - lo).toNat) : (rng lo hi)[n]? = some (lo + n) := by simp [rng, h]
theorem rng_mem {lo hi x : Int} : x ∈ rng lo hi ↔ lo ≤ x ∧ x < hi := by
  simp only [rng, List.mem_map, List.mem_range]
  constructor
  · rintro ⟨n, hn, rfl⟩; omega
  · intro h; exact ⟨(x - lo).toNat, by omega, by omega⟩
theorem ixN_in {n : Nat} {m : Int} (h : -(n : Int) ≤ m ∧ m < n) : ∃ j, ixN n m = some j ∧ j < n := by
  unfold ixN
  by_cases h0 : 0 ≤ m
  · rw [if_pos h0, if_pos h.2]; exact ⟨m.toNat, rfl, by omega⟩
  · rw [if_neg h0, if_pos h.1]; exact ⟨(m + n).toNat, rfl, by omega⟩
theorem atI_getI {α : Type} [Inhabited α] {xs : List α} {m : Int} (h : inB xs m) (f : α → PyData) : atI (xs.map f) m = some (f (getI xs m)) := by
  obtain ⟨j, h1, h2⟩ := ixN_in h
  unfold getI atI
  rw [List.length_map, h1]
  simp [h2]
theorem getI_nat {α : Type} [Inhabited α] {xs : List α} {n : Nat} : getI xs (n : Int) = xs.getD n default := by
  unfold getI atI ixN
  rw [if_pos (by omega)]
  by_cases h : n < xs.length
  · rw [if_pos (by omega)]; simp [h]
  · rw [if_neg (by omega)]; simp [h]
theorem getI_mem {α : Type} [Inhabited α] {xs : List α} {m : Int} (h : inB xs m) : getI xs m ∈ xs := by
  obtain ⟨j, h1, h2⟩ := ixN_in h
  unfold getI atI
  rw [h1]
  simp [h2]
theorem cutG_map {α β : Type} (f : α → β) (xs : List α) (lo hi : Option Int) : cutG (xs.map f) lo hi = (cutG xs lo hi).map f := by
  unfold cutG
  rw [List.length_map, List.map_take, List.map_drop]
section
variable {K : PySem.W.Frag} {c : Wd} {o : Hd} {H H1 H' : Hp} {σ : Sta} {δ δ' : List Ent} {i j : Nat} {f g b : Bool} {a : Addr} {d e : PyData} {ta tb te tl : TE} {tlo thi : TO} {t : TT} {ts tu tw tz : TS} {D : Ends} {α β : Type} {em : α → PyData} {em2 : β → PyData} {xs ys : List α} {m n : Int}
abbrev rLenK (K : PySem.W.Frag) : List V → Hp → VK → Prop := fun xs H Q => ∃ p ys, xs = [.ref p] ∧ (SqL K H p ys ∨ SqT K H p ys) ∧ Q (.int ys.length) H
theorem ev_lenM (ha : Ev o0 ta σ H (eL em xs)) : Ev o (tCB (rLenK K) (tCons ta tNil)) σ H (eI xs.length) := (ev_len ha).is (by rw [List.length_map])
theorem ev_lenTu (ha : Ev o0 ta σ H (eTu em xs)) : Ev o (tCB (rLenK K) (tCons ta tNil)) σ H (eI xs.length) := (ev_lenT ha).is (by rw [List.length_map])
theorem ev_ixM [Inhabited α] (ha : Ev o ta σ H (eL em xs)) (hi : Ev o0 tb σ H (eI m)) (hb : inB xs m) : Ev o (tOp (rIxL K) ta tb) σ H (em (getI xs m)) := ev_ixL ha hi (atI_getI hb em)
theorem ev_ixTu [Inhabited α] (ha : Ev o ta σ H (eTu em xs)) (hi : Ev o0 tb σ H (eI m)) (hb : inB xs m) : Ev o (tOp (rIxT K) ta tb) σ H (em (getI xs m)) := ev_ixT ha hi (atI_getI hb em)
theorem ev_ixOM [Inhabited α] (B : Bs c H σ δ) (hx : δ[i]? = some (.ow f a (xs.map em))) (hi : Ev o0 tb σ H (eI m)) (hb : inB xs m) : Ev (c.hd f δ) (tOp (rIxL K) (tVar i) tb) σ H (em (getI xs m)) := ev_ixO B hx hi (atI_getI hb em)
theorem ev_owM (B : Bs c H σ δ) (hx : δ[i]? = some (.ow f a (xs.map em))) : Ev o0 (tVar i) σ H (eL em xs) := ev_owR B hx
theorem en_slM {lo hi : Option Int} (h : Ev o te σ H (eL em xs)) (h1 : EvO tlo σ H lo) (h2 : EvO thi σ H hi) : EvN o (tSl (rSlL K) te tlo thi) σ H ((cutG xs lo hi).map em) := (en_sl h h1 h2).is (cutG_map em xs lo hi)
theorem en_revM (h : Ev o te σ H (eL em xs)) : EvN o (tRevL K te) σ H (xs.reverse.map em) := (en_rev h).is (by rw [List.map_reverse])
theorem en_catM (ha : Ev o ta σ H (eL em xs)) (hb : Ev o tb σ H (eL em ys)) (hz : xs.length + ys.length ≤ 100000) : EvN o (tOp rCat ta tb) σ H ((xs ++ ys).map em) := (en_cat ha hb (by rw [List.length_map, List.length_map]; exact hz)).is (by rw [List.map_append])
theorem rep_map (k : Nat) : (List.replicate k (xs.map em)).flatten = (List.replicate k xs).flatten.map em := by
  induction k with
  | zero => rfl
  | succ k ih => rw [List.replicate_succ, List.replicate_succ, List.flatten_cons, List.flatten_cons, List.map_append, ih]
theorem en_repM (ha : Ev o ta σ H (eL em xs)) (hb : Ev o0 tb σ H (eI m)) (h0 : -100000 ≤ m ∧ m ≤ 100000) (hz : xs.length * m.toNat ≤ 100000) : EvN o (tOp rRep ta tb) σ H ((List.replicate m.toNat xs).flatten.map em) := (en_rep ha hb h0.1 h0.2 (by rw [List.length_map]; exact hz)).is (rep_map _)
abbrev rListOfK (K : PySem.W.Frag) : List V → Hp → VK → Prop := fun xs H Q => ∃ p ys, xs = [.ref p] ∧ (SqL K H p ys ∨ SqT K H p ys) ∧ ∀ l, H l = none → Q (.ref l) (upd H l (.lst ys))
theorem en_listM (ha : Ev o ta σ H (eL em xs)) : EvN o (tCB (rListOfK K) (tCons ta tNil)) σ H (xs.map em) := en_listL ha
theorem en_listTu (ha : Ev o ta σ H (eTu em xs)) : EvN o (tCB (rListOfK K) (tCons ta tNil)) σ H (xs.map em) := en_listT ha
abbrev rTupOfK (K : PySem.W.Frag) : List V → Hp → VK → Prop := fun xs H Q => ∃ p ys, xs = [.ref p] ∧ ((SqL K H p ys ∧ ∀ l, H l = none → Q (.ref l) (upd H l (.tup ys))) ∨ (SqT K H p ys ∧ Q (.ref p) H))
theorem ev_tupM (l : Live o H) (ha : Ev o ta σ H (eL em xs)) : Ev o (tCB (rTupOfK K) (tCons ta tNil)) σ H (eTu em xs) := ev_tupL l ha
theorem ev_maxM {ns : List Int} (ha : Ev o0 ta σ H (eL eI ns)) (hne : 0 < ns.length) : Ev o (tCB (rMax K) (tCons ta tNil)) σ H (eI (maxI ns)) := ev_maxL ha hne
/-- a list comprehension over a list -/
theorem en_lcM (cs : α → Bool) (ex : α → β) (B : Bs c H σ δ) (hj : δ[j]? = some .no) (h : Ev (c.hd f δ) tl σ H (eL em xs)) (hz : xs.length ≤ 40000)
    (body : ∀ (c' : Wd) (x : α) (σ1 : Sta) (H1 : Hp), x ∈ xs → Bs c' H1 σ1 (δ.set j (.va f (em x))) → EvT t σ1 H1 (cs x) ∧ (cs x = true → Ev (c'.hd g (δ.set j (.va f (em x)))) te σ1 H1 (em2 (ex x)))) :
    EvN (c.hd g δ) (tLc (iList K tl) (gName j) t te [j]) σ H (((xs.filter cs).map ex).map em2) := (en_lcL xs em cs (fun x => em2 (ex x)) B h hz body hj).is (by rw [List.map_map]; rfl)
theorem en_lcM1 (ex : α → β) (B : Bs c H σ δ) (hj : δ[j]? = some .no) (h : Ev (c.hd f δ) tl σ H (eL em xs)) (hz : xs.length ≤ 40000)
    (body : ∀ (c' : Wd) (x : α) (σ1 : Sta) (H1 : Hp), x ∈ xs → Bs c' H1 σ1 (δ.set j (.va f (em x))) → Ev (c'.hd g (δ.set j (.va f (em x)))) te σ1 H1 (em2 (ex x))) :
    EvN (c.hd g δ) (tLc (iList K tl) (gName j) tYes te [j]) σ H ((xs.map ex).map em2) :=
  (en_lcM (fun _ => true) ex B hj h hz fun c' x σ1 H1 hx B => ⟨fun H1 _ Q q => q H1 (Ex.refl H1), fun _ => body c' x σ1 H1 hx B⟩).is (by rw [List.filter_eq_self.mpr (fun _ _ => rfl)])
theorem en_lcRM {lo hi : Int} {tr : TI} (cs : Int → Bool) (ex : Int → β) (B : Bs c H σ δ) (hj : δ[j]? = some .no) (h : ∀ H1, Ex H H1 → ∀ R : It → Hp → Prop, (∀ H2, Ex H1 H2 → R (Itr lo (hi - lo).toNat) H2) → tr σ H1 R) (hz : hi - lo ≤ 40000)
    (body : ∀ (c' : Wd) (x : Int) (σ1 : Sta) (H1 : Hp), x ∈ rng lo hi → Bs c' H1 σ1 (δ.set j (.va true (eI x))) → EvT t σ1 H1 (cs x) ∧ (cs x = true → Ev (c'.hd g (δ.set j (.va true (eI x)))) te σ1 H1 (em2 (ex x)))) :
    EvN (c.hd g δ) (tLc tr (gName j) t te [j]) σ H ((((rng lo hi).filter cs).map ex).map em2) :=
  (en_lcR (fun n => cs (lo + n)) (fun n => em2 (ex (lo + n))) B h (by omega) (fun c' x σ1 H1 hx B => body c' (lo + x) σ1 H1 (rng_mem.mpr (by omega)) B) hj).is (by
    unfold rng; rw [List.filter_map, List.map_map, List.map_map]; rfl)
theorem en_lcRM1 {lo hi : Int} {tr : TI} (ex : Int → β) (B : Bs c H σ δ) (hj : δ[j]? = some .no) (h : ∀ H1, Ex H H1 → ∀ R : It → Hp → Prop, (∀ H2, Ex H1 H2 → R (Itr lo (hi - lo).toNat) H2) → tr σ H1 R) (hz : hi - lo ≤ 40000)
    (body : ∀ (c' : Wd) (x : Int) (σ1 : Sta) (H1 : Hp), x ∈ rng lo hi → Bs c' H1 σ1 (δ.set j (.va true (eI x))) → Ev (c'.hd g (δ.set j (.va true (eI x)))) te σ1 H1 (em2 (ex x))) :
    EvN (c.hd g δ) (tLc tr (gName j) tYes te [j]) σ H (((rng lo hi).map ex).map em2) :=
  (en_lcRM (fun _ => true) ex B hj h hz fun c' x σ1 H1 hx B => ⟨fun H1 _ Q q => q H1 (Ex.refl H1), fun _ => body c' x σ1 H1 hx B⟩).is (by rw [List.filter_eq_self.mpr (fun _ _ => rfl)])
theorem it_R1M {hi : Int} (h : Ev o0 te σ H (eI hi)) (hm : -1000000 ≤ hi ∧ hi ≤ 1000000) : ∀ H1, Ex H H1 → ∀ R : It → Hp → Prop, (∀ H2, Ex H1 H2 → R (Itr 0 (hi - 0).toNat) H2) → iRng1 (tCons te tNil) σ H1 R := by
  rw [Int.sub_zero]; exact it_R1 h hm

/-! loops that fold: J holds between the turns -/
def FX (c : Wd) (B0 : Hp) (S : Type) (Δ : S → List Ent) (J : Nat → S → Prop) (n : Nat) (s1 : S) : Sta → Hp → Prop := fun σ H => ∃ s', s' = s1 ∧ J n s' ∧ Bs { c with B := B0 } H σ (Δ s')
theorem take_fold {S : Type} {stp : S → α → S} {s0 : S} {k : Nat} {x : α} (h : xs[k]? = some x) : (xs.take (k + 1)).foldl stp s0 = stp ((xs.take k).foldl stp s0) x := by
  rw [List.take_add_one, h, List.foldl_append]; rfl
theorem q_foldL {S : Type} (Δ : S → List Ent) (stp : S → α → S) (s0 : S) (J : Nat → S → Prop) (B : Bs c H σ δ) (h : Ev (c.hd f δ) tl σ H (eL em xs)) (w : LeA δ (Δ s0)) (j0 : J 0 s0)
    (body : ∀ (B0 : Hp), Ex c.B B0 → ∀ (n : Nat) (s : S) (x : α) (σ1 : Sta) (H1 : Hp), x ∈ xs → n < xs.length → J n s → Bs { c with B := B0 } H1 σ1 ((Δ s).set j (.va f (em x))) →
      ts { D with nx := FX c B0 S Δ J (n + 1) (stp s x), ct := FX c B0 S Δ J (n + 1) (stp s x), bk := tz D } σ1 H1)
    (done : ∀ s σ1 H1, s = xs.foldl stp s0 → J xs.length s → Bs c H1 σ1 (Δ s) → tz D σ1 H1) : tSeq (tFor (iList K tl) (gName j) ts) tz D σ H := by
  refine q_forL S (fun n s => s = (xs.take n).foldl stp s0 ∧ J n s) Δ s0 B h w ⟨by simp, j0⟩ (fun B0 e0 n s d σ1 H1 hd hI B => ?_) (fun s σ1 H1 hI B => ?_)
  · rw [List.getElem?_map] at hd
    obtain ⟨x, hx, ex⟩ := Option.map_eq_some_iff.mp hd
    subst ex
    have q := body B0 e0 n s x σ1 H1 (List.mem_of_getElem? hx) (by rw [List.getElem?_eq_some_iff] at hx; exact hx.1) hI.2 B
    have en : FX c B0 S Δ J (n + 1) (stp s x) = NX c B0 S Δ (fun n s => s = (xs.take n).foldl stp s0 ∧ J n s) (n + 1) := by
      funext σ H
      unfold FX NX
      dsimp only
      rw [take_fold hx, ← hI.1]
      simp only [and_assoc]
    rw [en] at q
    exact q
  · rw [List.length_map] at hI
    refine done s σ1 H1 ?_ hI.2 B
    rw [hI.1, List.take_length]
theorem q_foldO {S : Type} (Δ : S → List Ent) (stp : S → α → S) (s0 : S) (J : Nat → S → Prop) (B : Bs c H σ δ) (hk : ∀ s, (Δ s)[i]? = some (.ow f a (xs.map em))) (w : LeA δ (Δ s0)) (j0 : J 0 s0)
    (body : ∀ (B0 : Hp), Ex c.B B0 → ∀ (n : Nat) (s : S) (x : α) (σ1 : Sta) (H1 : Hp), x ∈ xs → n < xs.length → J n s → Bs { c with B := B0 } H1 σ1 ((Δ s).set j (.va f (em x))) →
      ts { D with nx := FX c B0 S Δ J (n + 1) (stp s x), ct := FX c B0 S Δ J (n + 1) (stp s x), bk := tz D } σ1 H1)
    (done : ∀ s σ1 H1, s = xs.foldl stp s0 → J xs.length s → Bs c H1 σ1 (Δ s) → tz D σ1 H1) : tSeq (tFor (iList K (tVar i)) (gName j) ts) tz D σ H := by
  refine q_forO S (fun n s => s = (xs.take n).foldl stp s0 ∧ J n s) Δ s0 B hk w ⟨by simp, j0⟩ (fun B0 e0 n s d σ1 H1 hd hI B => ?_) (fun s σ1 H1 hI B => ?_)
  · rw [List.getElem?_map] at hd
    obtain ⟨x, hx, ex⟩ := Option.map_eq_some_iff.mp hd
    subst ex
    have q := body B0 e0 n s x σ1 H1 (List.mem_of_getElem? hx) (by rw [List.getElem?_eq_some_iff] at hx; exact hx.1) hI.2 B
    have en : FX c B0 S Δ J (n + 1) (stp s x) = NX c B0 S Δ (fun n s => s = (xs.take n).foldl stp s0 ∧ J n s) (n + 1) := by
      funext σ H
      unfold FX NX
      dsimp only
      rw [take_fold hx, ← hI.1]
      simp only [and_assoc]
    rw [en] at q
    exact q
  · rw [List.length_map] at hI
    refine done s σ1 H1 ?_ hI.2 B
    rw [hI.1, List.take_length]
theorem foldR_core {S : Type} {lo : Int} {k : Nat} {Δ : S → List Ent} {stp : S → Int → S} {s0 : S} {J : Nat → S → Prop} {xs : List Int} (g : Nat → Int) (hx : ∀ n, n < k → xs[n]? = some (g n)) (hl : xs.length = k) {n : Nat} {s : S} (hn : n < k) (hI : s = (xs.take n).foldl stp s0) {B0 : Hp} :
    FX c B0 S Δ J (n + 1) (stp s (g n)) = NX c B0 S Δ (fun n s => s = (xs.take n).foldl stp s0 ∧ J n s) (n + 1) := by
  funext σ H
  unfold FX NX
  dsimp only
  rw [take_fold (hx n hn), ← hI]
  simp only [and_assoc]
theorem q_foldR1 {S : Type} {hi : Int} (Δ : S → List Ent) (stp : S → Int → S) (s0 : S) (J : Nat → S → Prop) (B : Bs c H σ δ) (h : Ev o0 te σ H (eI hi)) (hm : -1000000 ≤ hi ∧ hi ≤ 1000000) (w : LeA δ (Δ s0)) (j0 : J 0 s0)
    (body : ∀ (B0 : Hp), Ex c.B B0 → ∀ (n : Nat) (s : S) (x : Int) (σ1 : Sta) (H1 : Hp), x ∈ rng 0 hi → n < (rng 0 hi).length → J n s → Bs { c with B := B0 } H1 σ1 ((Δ s).set j (.va true (eI x))) →
      ts { D with nx := FX c B0 S Δ J (n + 1) (stp s x), ct := FX c B0 S Δ J (n + 1) (stp s x), bk := tz D } σ1 H1)
    (done : ∀ s σ1 H1, s = (rng 0 hi).foldl stp s0 → J (rng 0 hi).length s → Bs c H1 σ1 (Δ s) → tz D σ1 H1) : tSeq (tFor (iRng1 (tCons te tNil)) (gName j) ts) tz D σ H := by
  have hl : (rng 0 hi).length = hi.toNat := by rw [rng_len]; omega
  refine q_forR1 S (fun n s => s = ((rng 0 hi).take n).foldl stp s0 ∧ J n s) Δ s0 B h hm w ⟨by simp, j0⟩ (fun B0 e0 n s σ1 H1 hn hI B => ?_) (fun s σ1 H1 hI B => ?_)
  · have q := body B0 e0 n s (0 + n) σ1 H1 (rng_mem.mpr (by omega)) (by omega) hI.2 B
    rw [foldR_core (k := hi.toNat) (lo := 0) (xs := rng 0 hi) (fun (n : Nat) => 0 + (n : Int)) (fun n hn => rng_get (by omega)) hl hn hI.1] at q
    exact q
  · rw [← hl] at hI
    refine done s σ1 H1 ?_ hI.2 B
    rw [hI.1, List.take_length]
theorem q_foldR2 {S : Type} {lo hi : Int} (Δ : S → List Ent) (stp : S → Int → S) (s0 : S) (J : Nat → S → Prop) (B : Bs c H σ δ) (h1 : Ev o0 ta σ H (eI lo)) (h : Ev o0 te σ H (eI hi)) (hm : -1000000 ≤ lo ∧ lo ≤ 1000000 ∧ -1000000 ≤ hi ∧ hi ≤ 1000000) (w : LeA δ (Δ s0)) (j0 : J 0 s0)
    (body : ∀ (B0 : Hp), Ex c.B B0 → ∀ (n : Nat) (s : S) (x : Int) (σ1 : Sta) (H1 : Hp), x ∈ rng lo hi → n < (rng lo hi).length → J n s → Bs { c with B := B0 } H1 σ1 ((Δ s).set j (.va true (eI x))) →
      ts { D with nx := FX c B0 S Δ J (n + 1) (stp s x), ct := FX c B0 S Δ J (n + 1) (stp s x), bk := tz D } σ1 H1)
    (done : ∀ s σ1 H1, s = (rng lo hi).foldl stp s0 → J (rng lo hi).length s → Bs c H1 σ1 (Δ s) → tz D σ1 H1) : tSeq (tFor (iRng2 (tCons ta (tCons te tNil))) (gName j) ts) tz D σ H := by
  have hl : (rng lo hi).length = (hi - lo).toNat := rng_len _ _
  refine q_forR2 S (fun n s => s = ((rng lo hi).take n).foldl stp s0 ∧ J n s) Δ s0 B h1 h hm w ⟨by simp, j0⟩ (fun B0 e0 n s σ1 H1 hn hI B => ?_) (fun s σ1 H1 hI B => ?_)
  · have q := body B0 e0 n s (lo + n) σ1 H1 (rng_mem.mpr (by omega)) (by omega) hI.2 B
    rw [foldR_core (k := (hi - lo).toNat) (lo := lo) (xs := rng lo hi) (fun (n : Nat) => lo + (n : Int)) (fun n hn => rng_get (by omega)) hl hn hI.1] at q
    exact q
  · rw [← hl] at hI
    refine done s σ1 H1 ?_ hI.2 B
    rw [hI.1, List.take_length]
theorem rng_rev {m : Int} {n : Nat} (h : n < m.toNat) : (rng 0 m).reverse[n]? = some (m - 1 - n) := by
  rw [List.getElem?_reverse (by rw [rng_len]; omega), rng_len, rng_get (by omega)]
  congr 1; omega
theorem q_foldRev {S : Type} {hi : Int} (Δ : S → List Ent) (stp : S → Int → S) (s0 : S) (J : Nat → S → Prop) (B : Bs c H σ δ) (h : Ev o0 te σ H (eI hi)) (hm : -1000000 ≤ hi ∧ hi ≤ 1000000) (w : LeA δ (Δ s0)) (j0 : J 0 s0)
    (body : ∀ (B0 : Hp), Ex c.B B0 → ∀ (n : Nat) (s : S) (x : Int) (σ1 : Sta) (H1 : Hp), x ∈ (rng 0 hi).reverse → n < (rng 0 hi).reverse.length → J n s → Bs { c with B := B0 } H1 σ1 ((Δ s).set j (.va true (eI x))) →
      ts { D with nx := FX c B0 S Δ J (n + 1) (stp s x), ct := FX c B0 S Δ J (n + 1) (stp s x), bk := tz D } σ1 H1)
    (done : ∀ s σ1 H1, s = (rng 0 hi).reverse.foldl stp s0 → J (rng 0 hi).reverse.length s → Bs c H1 σ1 (Δ s) → tz D σ1 H1) : tSeq (tFor (iRevR (tRg1 te)) (gName j) ts) tz D σ H := by
  have hl : (rng 0 hi).reverse.length = hi.toNat := by rw [List.length_reverse, rng_len]; omega
  refine q_forRev S (fun n s => s = ((rng 0 hi).reverse.take n).foldl stp s0 ∧ J n s) Δ s0 B h hm w ⟨by simp, j0⟩ (fun B0 e0 n s σ1 H1 hn hI B => ?_) (fun s σ1 H1 hI B => ?_)
  · have q := body B0 e0 n s (hi - 1 - n) σ1 H1 (List.mem_reverse.mpr (rng_mem.mpr (by omega))) (by omega) hI.2 B
    rw [foldR_core (k := hi.toNat) (lo := 0) (xs := (rng 0 hi).reverse) (fun (n : Nat) => hi - 1 - (n : Int)) (fun n hn => rng_rev hn) hl hn hI.1] at q
    exact q
  · rw [← hl] at hI
    refine done s σ1 H1 ?_ hI.2 B
    rw [hI.1, List.take_length]
/-- while loops, by fuel -/
def whileF {S : Type} (cd : S → Bool) (stp : S → S) : Nat → S → S
  | 0, s => s
  | n + 1, s => if cd s then whileF cd stp n (stp s) else s
theorem whileF_end {S : Type} {cd : S → Bool} {stp : S → S} {s : S} (h : cd s = false) : ∀ n, whileF cd stp n s = s
  | 0 => rfl
  | n + 1 => by rw [whileF, if_neg (by rw [h]; simp)]
def WX (c : Wd) (B0 : Hp) (S : Type) (Δ : S → List Ent) (J : S → Prop) (s1 : S) : Sta → Hp → Prop := fun σ H => ∃ s', s' = s1 ∧ J s' ∧ Bs { c with B := B0 } H σ (Δ s')
theorem q_whileM {S : Type} (Δ : S → List Ent) (cd : S → Bool) (stp : S → S) (M : S → Nat) (s0 : S) (J : S → Prop) (B : Bs c H σ δ) (w : LeA δ (Δ s0)) (j0 : J s0)
    (test : ∀ (B0 : Hp), Ex c.B B0 → ∀ (s : S) (σ1 : Sta) (H1 : Hp), J s → Bs { c with B := B0 } H1 σ1 (Δ s) → EvT t σ1 H1 (cd s))
    (less : ∀ s, J s → cd s = true → M (stp s) < M s)
    (body : ∀ (B0 : Hp), Ex c.B B0 → ∀ (s : S) (σ1 : Sta) (H1 : Hp), J s → cd s = true → Bs { c with B := B0 } H1 σ1 (Δ s) →
      ts { D with nx := WX c B0 S Δ J (stp s), ct := WX c B0 S Δ J (stp s), bk := tz D } σ1 H1)
    (done : ∀ s σ1 H1, s = whileF cd stp (M s0) s0 → cd s = false → J s → Bs c H1 σ1 (Δ s) → tz D σ1 H1) : tSeq (tWhile t ts) tz D σ H := by
  have u := B.under
  refine ⟨fun m σ' H' => ∃ s, m = M s ∧ (J s ∧ ∃ n, whileF cd stp (M s0) s0 = whileF cd stp n s ∧ M s ≤ n) ∧ Bs { c with B := hid (fun a => Adr δ a) H } H' σ' (Δ s), ⟨_, s0, rfl, ⟨j0, M s0, rfl, Nat.le_refl _⟩, B.rebase.le w⟩, ?_⟩
  rintro m σ1 H1 ⟨s, rfl, ⟨hJ, n, hn, hM⟩, B1⟩
  refine test _ u s σ1 H1 hJ B1 H1 (Ex.refl H1) _ fun H2 e2 => ?_
  cases q : cd s with
  | true =>
    rw [if_pos rfl]
    have hlt := less s hJ q
    cases n with
    | zero => omega
    | succ n =>
      rw [whileF, if_pos q] at hn
      exact ⟨_, fun σ' H' ⟨s', h1, h2, h3⟩ => ⟨M s', by subst h1; exact hlt, s', rfl, ⟨h2, n, by subst h1; exact hn, by subst h1; omega⟩, h3⟩, body _ u s σ1 H2 hJ q (B1.mono e2)⟩
  | false =>
    rw [if_neg Bool.false_ne_true]
    exact done s _ _ (by rw [hn, whileF_end q]) q hJ ((B1.mono e2).debase u)
end
end HL
namespace HL
open PySem PySem.Spec PyProof.Rows L2
open Evl (Ex)
theorem fmod_b {x m : Int} (h : 0 < m) : 0 ≤ x.fmod m ∧ x.fmod m < m := ⟨Int.fmod_nonneg_of_pos x h, Int.fmod_lt_of_pos x h⟩
theorem cutG_from {α : Type} (xs : List α) {m : Int} (h : 0 ≤ m) : cutG xs (some m) none = xs.drop m.toNat := by
  obtain ⟨k, rfl⟩ := Int.eq_ofNat_of_zero_le h
  unfold cutG
  rw [HT.sIx_nat, HT.sIx_none, Int.toNat_natCast]
  by_cases hk : k ≤ xs.length
  · rw [Nat.min_eq_left hk, ← List.length_drop, List.take_length]
  · rw [Nat.min_eq_right (by omega), List.drop_of_length_le (Nat.le_refl _), List.drop_of_length_le (by omega), List.take_nil]
theorem cutG_to {α : Type} (xs : List α) {m : Int} (h : 0 ≤ m) : cutG xs none (some m) = xs.take m.toNat := by
  obtain ⟨k, rfl⟩ := Int.eq_ofNat_of_zero_le h
  unfold cutG
  rw [HT.sIx_nat, HT.sIx_none, Int.toNat_natCast]
  simp
theorem cutG_le {α : Type} (xs : List α) (lo hi : Option Int) : (cutG xs lo hi).length ≤ xs.length := by
  unfold cutG
  rw [List.length_take, List.length_drop]; omega
theorem cutG_le' {α : Type} {xs : List α} {lo hi : Option Int} {n : Nat} (h : xs.length ≤ n) : (cutG xs lo hi).length ≤ n := Nat.le_trans (cutG_le xs lo hi) h
/-- a list with one item put in another's place -/
def setI {α : Type} (xs : List α) (m : Int) (x : α) : List α := match ixN xs.length m with
  | some j => xs.set j x
  | none => xs
theorem setI_len {α : Type} (xs : List α) (m : Int) (x : α) : (setI xs m x).length = xs.length := by
  unfold setI
  cases ixN xs.length m with
  | none => rfl
  | some j => exact List.length_set
theorem getI_setI {α : Type} [Inhabited α] {xs : List α} {m : Int} {x : α} (h : inB xs m) : getI (setI xs m x) m = x := by
  obtain ⟨j, h1, h2⟩ := ixN_in h
  unfold getI atI
  rw [setI_len, h1]
  unfold setI
  rw [h1]
  simp [h2]
/-- data of one kind: == is =, and the comparison may be made -/
structure Em {α : Type} [DecidableEq α] (em : α → PyData) (gd : α → Prop) (n : Nat) : Prop where
  flat : ∀ a, flatD (em a) = true
  lay : ∀ a, gd a → (em a).canLay0 = true
  dep : ∀ a, (em a).depth ≤ n
  eqv : ∀ a b, PyData.eqv (em a) (em b) = decide (a = b)
theorem emI : Em eI (fun _ => True) 0 := ⟨fun _ => rfl, fun _ _ => rfl, fun _ => by simp [PyData.depth], fun a b => by simp [PyData.eqv]; rfl⟩
theorem emB : Em eB (fun _ => True) 0 := ⟨fun _ => rfl, fun _ _ => rfl, fun _ => by simp [PyData.depth], fun a b => by simp [PyData.eqv]; rfl⟩
theorem emS : Em eS (fun x => PyData.strOk x = true) 0 := ⟨fun _ => rfl, fun _ h => by simp [PyData.canLay0]; exact h, fun _ => by simp [PyData.depth], fun a b => by
  show (a == b) = decide (a = b)
  rw [Bool.eq_iff_iff]; simp⟩
section
variable {α β : Type} [DecidableEq α] [DecidableEq β] {em : α → PyData} {e2 : β → PyData} {gd : α → Prop} {gd2 : β → Prop} {n m : Nat}
theorem eqvAll_map (h : ∀ a b, PyData.eqv (em a) (em b) = decide (a = b)) : ∀ xs ys : List α, PyData.eqvAll (xs.map em) (ys.map em) = decide (xs = ys)
  | [], [] => by simp [PyData.eqvAll]
  | [], _ :: _ => by simp [PyData.eqvAll]
  | _ :: _, [] => by simp [PyData.eqvAll]
  | x :: xs, y :: ys => by
    simp only [List.map_cons, PyData.eqvAll, h, eqvAll_map h xs ys]
    rw [Bool.eq_iff_iff]; simp
theorem flatDs_map (h : ∀ a, flatD (em a) = true) : ∀ xs : List α, flatDs (xs.map em) = true
  | [] => rfl
  | x :: xs => by simp [flatDs, h, flatDs_map h xs]
theorem layAll_map (h : ∀ a, gd a → (em a).canLay0 = true) : ∀ xs : List α, (∀ x ∈ xs, gd x) → PyData.canLayAll0 (xs.map em) = true
  | [], _ => by simp [PyData.canLayAll0]
  | x :: xs, g => by simp [PyData.canLayAll0, h x (g x (by simp)), layAll_map h xs fun y hy => g y (by simp [hy])]
theorem depthAll_map (h : ∀ a, (em a).depth ≤ n) : ∀ xs : List α, PyData.depthAll (xs.map em) ≤ n
  | [] => by simp [PyData.depthAll]
  | x :: xs => by simp only [List.map_cons, PyData.depthAll]; exact Nat.max_le.mpr ⟨h x, depthAll_map h xs⟩
theorem emL (h : Em em gd n) : Em (eL em) (fun xs => ∀ x ∈ xs, gd x) (n + 1) := ⟨fun xs => by simp [flatD, flatDs_map h.flat], fun xs g => by simp [PyData.canLay0, layAll_map h.lay xs g], fun xs => by simp [PyData.depth]; exact depthAll_map h.dep xs, fun xs ys => by simp only [PyData.eqv, eqvAll_map h.eqv]⟩
theorem emTu (h : Em em gd n) : Em (eTu em) (fun xs => ∀ x ∈ xs, gd x) (n + 1) := ⟨fun xs => by simp [flatD, flatDs_map h.flat], fun xs g => by simp [PyData.canLay0, layAll_map h.lay xs g], fun xs => by simp [PyData.depth]; exact depthAll_map h.dep xs, fun xs ys => by simp only [PyData.eqv, eqvAll_map h.eqv]⟩
theorem emT2 (h : Em em gd n) (h2 : Em e2 gd2 m) : Em (eT2 em e2) (fun p => gd p.1 ∧ gd2 p.2) (max n m + 1) := ⟨fun p => by simp [flatD, flatDs, h.flat, h2.flat], fun p g => by simp [PyData.canLay0, PyData.canLayAll0, h.lay _ g.1, h2.lay _ g.2], fun p => by
    have a := h.dep p.1
    have b := h2.dep p.2
    simp [PyData.depth, PyData.depthAll]; omega, fun p q => by
    obtain ⟨p1, p2⟩ := p
    obtain ⟨q1, q2⟩ := q
    simp only [PyData.eqv, PyData.eqvAll, h.eqv, h2.eqv]
    rw [Bool.eq_iff_iff]; simp⟩
theorem Em.shaped (h : Em em gd n) (hn : n ≤ 64) {a : α} (g : gd a) : SeqAt.shaped (em a) = true := by
  have := h.dep a
  simp only [SeqAt.shaped, h.lay a g, Bool.true_and]
  exact decide_eq_true (by omega)
variable {K : PySem.W.Frag} {o : Hd} {H : Hp} {σ : Sta} {ta tb : TE} {a b : α}
theorem ev_eqM (h : Em em gd n) (ha : Ev o0 ta σ H (em a)) (hb : Ev o0 tb σ H (em b)) (ga : gd a) (gb : gd b) (hn : n ≤ 64 := by decide) : Ev o (tOp (rEqD K) ta tb) σ H (eB (decide (a = b))) := ev_eqD ha hb (h.flat a) (h.flat b) (h.shaped hn ga) (h.shaped hn gb) (h.eqv a b)
theorem ev_neM (h : Em em gd n) (ha : Ev o0 ta σ H (em a)) (hb : Ev o0 tb σ H (em b)) (ga : gd a) (gb : gd b) (hn : n ≤ 64 := by decide) : Ev o (tOp (rNeD K) ta tb) σ H (eB (!decide (a = b))) := ev_neD ha hb (h.flat a) (h.flat b) (h.shaped hn ga) (h.shaped hn gb) (h.eqv a b)
theorem gd_nil : ∀ x ∈ ([] : List α), gd x := fun _ h => by simp at h
end
section
variable {K : PySem.W.Frag} {c : Wd} {o : Hd} {H H1 H' : Hp} {σ : Sta} {δ δ' : List Ent} {i j : Nat} {f g b : Bool} {a : Addr} {d e : PyData} {ta tb te tl : TE} {t : TT} {ts tu tw tz : TS} {D : Ends} {α β : Type} {em : α → PyData} {xs ys : List α} {m n : Int}
theorem q_ret (S : Bs c H σ δ) (h : Ev (c.hd f δ) te σ H d) (k : ∀ v H1, Ex c.B H1 → Dn (hid (c.hd f []) H1) v d → D.rt v H1) : tSeq (tRet te) tz D σ H := s_ret (D := { D with nx := tz D }) S h fun v H1 x _ hv => k v H1 x hv
theorem setI_map {m : Int} (h : inB xs m) (x : α) (f : α → PyData) : ∃ j, ixN (xs.map f).length m = some j ∧ (xs.map f).set j (f x) = (setI xs m x).map f := by
  obtain ⟨j, h1, h2⟩ := ixN_in h
  refine ⟨j, by rw [List.length_map]; exact h1, ?_⟩
  unfold setI
  rw [h1, List.map_set]
theorem q_setM {x : α} (B : Bs c H σ δ) (hx : δ[i]? = some (.ow f a (xs.map em))) (h : Ev (c.hd f δ) te σ H (em x)) (hi : Ev o0 tb σ H (eI m)) (hb : inB xs m) (k : ∀ H1, Bs c H1 σ (δ.set i (.ow f a ((setI xs m x).map em))) → tz D σ H1) :
    tSeq (tAsg te (gSub (tVar i) tb rSetL)) tz D σ H := by
  obtain ⟨n, h1, h2⟩ := setI_map hb x em
  refine q_setI B hx h hi h1 fun H1 B => k H1 ?_
  rw [h2] at B; exact B
theorem q_popH (B : Bs c H σ δ) (hx : δ[i]? = some (.ow f a (xs.map em))) (hi : Ev o0 tb σ H (eI 0)) (hb : 0 < xs.length) (k : ∀ H1, Bs c H1 σ (δ.set i (.ow f a (xs.tail.map em))) → tz D σ H1) :
    tSeq (tDrop (tBM K "list" rPopAt (tVar i) (tCons tb tNil))) tz D σ H := by
  cases xs with
  | nil => simp at hb
  | cons x r => exact q_pop0 (n := 0) B hx hi (by omega) (by unfold ixN; simp) rfl k
theorem en_lstM {tr : TA} (h : EvA o tr σ H (xs.map em)) (hz : xs.length ≤ 100000) : EvN o (tLst tr) σ H (xs.map em) := en_lst h (by rw [List.length_map]; exact hz)
/-- lists of things without objects are as new as one likes -/
theorem DnA.scM {em : α → PyData} {o' : Hd} (hs : ∀ x, Sc (em x)) {H' : Hp} : ∀ {vs : List V} {xs : List α}, DnA H vs (xs.map em) → DnA H' vs (xs.map em)
  | _, [], .nil => .nil
  | _, x :: xs, .cons h r => .cons (Dn.sc (hs x) h) (DnA.scM (o' := o') hs r)
theorem EvN.scL {o' : Hd} (h : EvN o' te σ H (xs.map em)) (hs : ∀ x, Sc (em x)) : EvN o te σ H (xs.map em) := fun H1 x1 Q q => h H1 x1 Q fun p vs H2 np e2 hp hv => q p vs H2 np e2 hp (DnA.scM (o' := o) hs hv)
/-- a comprehension over a list of things without objects, whosever it is -/
theorem en_lcS {em2 : β → PyData} (cs : α → Bool) (ex : α → β) (B : Bs c H σ δ) (hj : δ[j]? = some .no) (h : Ev (c.hd false δ) tl σ H (eL em xs)) (hs : ∀ x, Sc (em x)) (hz : xs.length ≤ 40000)
    (body : ∀ (c' : Wd) (x : α) (σ1 : Sta) (H1 : Hp), x ∈ xs → Bs c' H1 σ1 (δ.set j (.va true (em x))) → EvT t σ1 H1 (cs x) ∧ (cs x = true → Ev (c'.hd g (δ.set j (.va true (em x)))) te σ1 H1 (em2 (ex x)))) :
    EvN (c.hd g δ) (tLc (iList K tl) (gName j) t te [j]) σ H (((xs.filter cs).map ex).map em2) :=
  en_lcM cs ex B hj h hz fun c' x σ1 H1 hx B1 => by
    have l : LeA (δ.set j (.va false (em x))) (δ.set j (.va true (em x))) := by
      clear B1 B h body
      induction δ generalizing j with
      | nil => exact .nil
      | cons e r ih =>
        cases j with
        | zero => exact .cons (.sc (hs x)) (LeA.refl r)
        | succ j => exact .cons (.refl e) (ih (by simpa using hj))
    obtain ⟨h1, h2⟩ := body c' x σ1 H1 hx (B1.le l)
    refine ⟨h1, fun hc => (h2 hc).weak (hd_sub fun b z => ?_)⟩
    obtain ⟨k, f', ds, z⟩ := z
    refine ⟨k, f', ds, ?_⟩
    by_cases q : j = k
    · subst q
      rw [List.getElem?_set] at z
      simp at z
    · rw [List.getElem?_set_ne q] at z ⊢
      exact z
theorem en_lcS1 {em2 : β → PyData} (ex : α → β) (B : Bs c H σ δ) (hj : δ[j]? = some .no) (h : Ev (c.hd false δ) tl σ H (eL em xs)) (hs : ∀ x, Sc (em x)) (hz : xs.length ≤ 40000)
    (body : ∀ (c' : Wd) (x : α) (σ1 : Sta) (H1 : Hp), x ∈ xs → Bs c' H1 σ1 (δ.set j (.va true (em x))) → Ev (c'.hd g (δ.set j (.va true (em x)))) te σ1 H1 (em2 (ex x))) :
    EvN (c.hd g δ) (tLc (iList K tl) (gName j) tYes te [j]) σ H ((xs.map ex).map em2) :=
  (en_lcS (fun _ => true) ex B hj h hs hz fun c' x σ1 H1 hx B => ⟨fun H1 _ Q q => q H1 (Ex.refl H1), fun _ => body c' x σ1 H1 hx B⟩).is (by rw [List.filter_eq_self.mpr (fun _ _ => rfl)])
end
end HL
namespace HL
open PySem PySem.Spec PyProof.Rows L2
open Evl (Ex)
/-- a loop that may be left by a return -/
def loopE {S R α : Type} (stp : S → α → S ⊕ R) : List α → S → S ⊕ R
  | [], s => .inl s
  | x :: xs, s => match stp s x with
    | .inl s' => loopE stp xs s'
    | .inr r => .inr r
section
variable {K : PySem.W.Frag} {c : Wd} {o : Hd} {H H1 H' : Hp} {σ : Sta} {δ δ' : List Ent} {i j ci : Nat} {f g b : Bool} {a : Addr} {d e : PyData} {ta tb te tl : TE} {t : TT} {ts tu tw tz : TS} {D : Ends} {α β γ S R : Type} {em : α → PyData} {em2 : β → PyData} {emg : γ → PyData} {xs ys : List α} {m n : Int}
def EX (c : Wd) (B0 : Hp) (S R : Type) (Δ : S → List Ent) (J : Nat → S → Prop) (n : Nat) (s1 : S ⊕ R) : Sta → Hp → Prop := fun σ H => ∃ s', s1 = .inl s' ∧ J n s' ∧ Bs { c with B := B0 } H σ (Δ s')
theorem loopE_at {stp : S → α → S ⊕ R} {s : S} {n : Nat} {x : α} (h : xs[n]? = some x) : loopE stp (xs.drop n) s = match stp s x with
    | .inl s' => loopE stp (xs.drop (n + 1)) s'
    | .inr r => .inr r := by
  have hl : n < xs.length := by rw [List.getElem?_eq_some_iff] at h; exact h.1
  have e : xs.drop n = x :: xs.drop (n + 1) := by
    rw [List.drop_eq_getElem_cons hl]
    rw [List.getElem?_eq_getElem hl] at h
    rw [Option.some.inj h]
  rw [e]; rfl
/-- over any list of turns that the rules of the loops give -/
theorem exit_core {stp : S → α → S ⊕ R} {s0 s : S} {n : Nat} {x : α} {J : Nat → S → Prop} {Δ : S → List Ent} {B0 : Hp} (hx : xs[n]? = some x) (hI : loopE stp xs s0 = loopE stp (xs.drop n) s) {σ' : Sta} {H' : Hp} (h : EX c B0 S R Δ J (n + 1) (stp s x) σ' H') :
    NX c B0 S Δ (fun n s => loopE stp xs s0 = loopE stp (xs.drop n) s ∧ J n s) (n + 1) σ' H' := by
  obtain ⟨s', h1, h2, h3⟩ := h
  refine ⟨s', ⟨?_, h2⟩, h3⟩
  rw [hI, loopE_at hx, h1]
theorem it_flex {J : It} {m : Nat} {gt : TG} (Pv : Nat → Sta → Hp → Prop) (h0 : Pv 0 σ H) (hgo : ∀ i σ H, i < m → Pv i σ H → J.go i H) (hst : ∀ σ H, Pv m σ H → J.stop m H)
    (hs : ∀ i σ H, i < m → Pv i σ H → ∃ N : Sta → Hp → Prop, (∀ σ' H', N σ' H' → Pv (i + 1) σ' H') ∧ ∀ x H', J.yld i H x H' → gt x σ H' fun σ2 H2 => ts { D with nx := N, ct := N, bk := D.nx } σ2 H2) (hd : ∀ σ H, Pv m σ H → D.nx σ H) :
    ∃ W : Nat → Nat → L2.St → Hp → Prop, (∃ m, W 0 m σ H) ∧ ∀ i k σ H, W i k σ H →
      (J.stop i H ∧ D.nx σ H) ∨ (J.go i H ∧ ∃ N : L2.St → Hp → Prop, (∀ σ' H', N σ' H' → ∃ m', m' < k ∧ W (i + 1) m' σ' H') ∧ ∀ x H', J.yld i H x H' → gt x σ H' fun σ2 H2 => ts { D with nx := N, ct := N, bk := D.nx } σ2 H2) := by
  refine ⟨fun i k σ H => k = m - i ∧ i ≤ m ∧ Pv i σ H, ⟨m, by simp, Nat.zero_le _, h0⟩, ?_⟩
  rintro i k σ H ⟨rfl, hi, p⟩
  by_cases hlt : i < m
  · obtain ⟨N, h1, h2⟩ := hs i σ H hlt p
    exact .inr ⟨hgo i σ H hlt p, N, fun σ' H' p' => ⟨m - (i + 1), by omega, rfl, hlt, h1 _ _ p'⟩, h2⟩
  · have e : i = m := by omega
    subst e
    exact .inl ⟨hst σ H p, hd σ H p⟩
theorem q_exitL (Δ : S → List Ent) (stp : S → α → S ⊕ R) (s0 : S) (J : Nat → S → Prop) (B : Bs c H σ δ) (h : Ev (c.hd f δ) tl σ H (eL em xs)) (w : LeA δ (Δ s0)) (j0 : J 0 s0)
    (body : ∀ (B0 : Hp), Ex c.B B0 → ∀ (n : Nat) (s : S) (x : α) (σ1 : Sta) (H1 : Hp), x ∈ xs → n < xs.length → (∀ r, stp s x = .inr r → loopE stp xs s0 = .inr r) → J n s → Bs { c with B := B0 } H1 σ1 ((Δ s).set j (.va f (em x))) →
      ts { D with nx := EX c B0 S R Δ J (n + 1) (stp s x), ct := EX c B0 S R Δ J (n + 1) (stp s x), bk := tz D } σ1 H1)
    (done : ∀ s σ1 H1, loopE stp xs s0 = .inl s → J xs.length s → Bs c H1 σ1 (Δ s) → tz D σ1 H1) : tSeq (tFor (iList K tl) (gName j) ts) tz D σ H := by
  refine h.go fun v H2 e2 hv => ?_
  have B2 := B.mono e2
  cases hv with
  | @lst p vs _ hp hr =>
    have u := B2.under
    have W : ∀ {H3 σ3 s}, Bs { c with B := hid (fun a => Adr δ a) H2 } H3 σ3 (Δ s) → Ex (hid (c.hd f δ) H2) (hid (c.hd f (Δ s)) H3) := fun B3 => B3.pers fun a u q => at_has q
    have hl : vs.length = xs.length := by rw [hr.length, List.length_map]
    refine ⟨p, rfl, ⟨vs, .inl (.inl (hid_ex _ _ hp))⟩, it_flex (m := xs.length) (NX c _ S Δ (fun n s => loopE stp xs s0 = loopE stp (xs.drop n) s ∧ J n s)) ⟨s0, ⟨by simp, j0⟩, (B2.rebase).le w⟩ (fun n σ3 H3 hn ⟨s, _, B3⟩ => ?_) (fun σ3 H3 ⟨s, _, B3⟩ => ?_) (fun n σ3 H3 hn ⟨s, hi, B3⟩ => ?_) (fun σ3 H3 ⟨s, hi, B3⟩ => ?_)⟩
    · exact ⟨vs, vs[n]'(by omega), .inl (.inl (hid_ex _ _ (W B3 _ _ hp))), List.getElem?_eq_getElem (by omega)⟩
    · exact ⟨vs, .inl (.inl (hid_ex _ _ (W B3 _ _ hp))), by omega⟩
    · refine ⟨EX c _ S R Δ J (n + 1) (stp s xs[n]), fun σ' H' q => exit_core (List.getElem?_eq_getElem hn) hi.1 q, ?_⟩
      rintro x H' ⟨rfl, hx⟩
      have ex := hx _ (.inl (.inl (hid_ex _ _ (W B3 _ _ hp))))
      obtain ⟨d, hd, q⟩ := hr.get' ex
      rw [List.getElem?_map, List.getElem?_eq_getElem hn] at hd
      cases hd
      exact body _ u n s xs[n] _ _ (List.getElem_mem hn) hn (fun r hr => by rw [hi.1, loopE_at (List.getElem?_eq_getElem hn), hr]) hi.2 (set_va B3 (q.mono (W B3)))
    · refine done s _ _ ?_ hi.2 (B3.debase u)
      rw [hi.1, List.drop_length]; rfl
theorem q_exitO (Δ : S → List Ent) (stp : S → α → S ⊕ R) (s0 : S) (J : Nat → S → Prop) (B : Bs c H σ δ) (hk : ∀ s, (Δ s)[i]? = some (.ow f a (xs.map em))) (w : LeA δ (Δ s0)) (j0 : J 0 s0)
    (body : ∀ (B0 : Hp), Ex c.B B0 → ∀ (n : Nat) (s : S) (x : α) (σ1 : Sta) (H1 : Hp), x ∈ xs → n < xs.length → (∀ r, stp s x = .inr r → loopE stp xs s0 = .inr r) → J n s → Bs { c with B := B0 } H1 σ1 ((Δ s).set j (.va f (em x))) →
      ts { D with nx := EX c B0 S R Δ J (n + 1) (stp s x), ct := EX c B0 S R Δ J (n + 1) (stp s x), bk := tz D } σ1 H1)
    (done : ∀ s σ1 H1, loopE stp xs s0 = .inl s → J xs.length s → Bs c H1 σ1 (Δ s) → tz D σ1 H1) : tSeq (tFor (iList K (tVar i)) (gName j) ts) tz D σ H := by
  obtain ⟨vs, e, hp, hr⟩ := (B.le w).ent i _ (hk s0)
  have u := B.under
  refine ⟨.ref a, e, a, rfl, ⟨vs, .inl (.inl hp)⟩, it_flex (m := xs.length) (NX c (hid (fun a => Adr δ a) H) S Δ (fun n s => loopE stp xs s0 = loopE stp (xs.drop n) s ∧ J n s)) ⟨s0, ⟨by simp, j0⟩, B.rebase.le w⟩ (fun n σ3 H3 hn ⟨s, _, B3⟩ => ?_) (fun σ3 H3 ⟨s, _, B3⟩ => ?_) (fun n σ3 H3 hn ⟨s, hi, B3⟩ => ?_) (fun σ3 H3 ⟨s, hi, B3⟩ => ?_)⟩
  · obtain ⟨vs3, e3, hp3, hr3⟩ := B3.ent i _ (hk s)
    have hl : vs3.length = xs.length := by rw [hr3.length, List.length_map]
    exact ⟨vs3, vs3[n]'(by omega), .inl (.inl hp3), List.getElem?_eq_getElem (by omega)⟩
  · obtain ⟨vs3, e3, hp3, hr3⟩ := B3.ent i _ (hk s)
    have hl : vs3.length = xs.length := by rw [hr3.length, List.length_map]
    exact ⟨vs3, .inl (.inl hp3), by omega⟩
  · obtain ⟨vs3, e3, hp3, hr3⟩ := B3.ent i _ (hk s)
    refine ⟨EX c _ S R Δ J (n + 1) (stp s xs[n]), fun σ' H' q => exit_core (List.getElem?_eq_getElem hn) hi.1 q, ?_⟩
    rintro x H' ⟨rfl, hx⟩
    have ex := hx _ (.inl (.inl hp3))
    obtain ⟨d, hd, q⟩ := hr3.get' ex
    rw [List.getElem?_map, List.getElem?_eq_getElem hn] at hd
    cases hd
    exact body _ u n s xs[n] _ _ (List.getElem_mem hn) hn (fun r hr => by rw [hi.1, loopE_at (List.getElem?_eq_getElem hn), hr]) hi.2 (set_va B3 q)
  · refine done s _ _ ?_ hi.2 (B3.debase u)
    rw [hi.1, List.drop_length]; rfl
theorem exitR_core {lo : Int} {k : Nat} (zs : List Int) (hz : ∀ n, n < k → zs[n]? = some (lo + n)) (hl : zs.length = k) (Δ : S → List Ent) (stp : S → Int → S ⊕ R) (s0 : S) (J : Nat → S → Prop) (B : Bs c H σ δ) (w : LeA δ (Δ s0)) (j0 : J 0 s0)
    (body : ∀ (B0 : Hp), Ex c.B B0 → ∀ (n : Nat) (s : S) (x : Int) (σ1 : Sta) (H1 : Hp), x ∈ zs → n < zs.length → (∀ r, stp s x = .inr r → loopE stp zs s0 = .inr r) → J n s → Bs { c with B := B0 } H1 σ1 ((Δ s).set j (.va true (eI x))) →
      ts { D with nx := EX c B0 S R Δ J (n + 1) (stp s x), ct := EX c B0 S R Δ J (n + 1) (stp s x), bk := D.nx } σ1 H1)
    (done : ∀ s σ1 H1, loopE stp zs s0 = .inl s → J zs.length s → Bs c H1 σ1 (Δ s) → D.nx σ1 H1) :
    ∃ W : Nat → Nat → L2.St → Hp → Prop, (∃ m, W 0 m σ H) ∧ ∀ i q σ H, W i q σ H →
      ((Itr lo k).stop i H ∧ D.nx σ H) ∨ ((Itr lo k).go i H ∧ ∃ N : L2.St → Hp → Prop, (∀ σ' H', N σ' H' → ∃ m', m' < q ∧ W (i + 1) m' σ' H') ∧ ∀ x H', (Itr lo k).yld i H x H' → gName j x σ H' fun σ2 H2 => ts { D with nx := N, ct := N, bk := D.nx } σ2 H2) := by
  have u := B.under
  refine it_flex (m := k) (NX c (hid (fun a => Adr δ a) H) S Δ (fun n s => loopE stp zs s0 = loopE stp (zs.drop n) s ∧ J n s)) ⟨s0, ⟨by simp, j0⟩, B.rebase.le w⟩ (fun n σ3 H3 hn _ => hn) (fun σ3 H3 _ => Nat.le_refl _) (fun n σ3 H3 hn ⟨s, hi, B3⟩ => ?_) (fun σ3 H3 ⟨s, hi, B3⟩ => ?_)
  · refine ⟨EX c _ S R Δ J (n + 1) (stp s (lo + n)), fun σ' H' q => exit_core (hz n hn) hi.1 q, ?_⟩
    rintro x H' ⟨rfl, rfl⟩
    exact body _ u n s (lo + n) _ _ (List.mem_of_getElem? (hz n hn)) (by omega) (fun r hr => by rw [hi.1, loopE_at (hz n hn), hr]) hi.2 (set_va B3 (.int _))
  · rw [← hl] at hi
    refine done s _ _ ?_ hi.2 (B3.debase u)
    rw [hi.1, List.drop_length]; rfl
theorem q_exitR1 {hi : Int} (Δ : S → List Ent) (stp : S → Int → S ⊕ R) (s0 : S) (J : Nat → S → Prop) (B : Bs c H σ δ) (h : Ev o0 te σ H (eI hi)) (hm : -1000000 ≤ hi ∧ hi ≤ 1000000) (w : LeA δ (Δ s0)) (j0 : J 0 s0)
    (body : ∀ (B0 : Hp), Ex c.B B0 → ∀ (n : Nat) (s : S) (x : Int) (σ1 : Sta) (H1 : Hp), x ∈ rng 0 hi → n < (rng 0 hi).length → (∀ r, stp s x = .inr r → loopE stp (rng 0 hi) s0 = .inr r) → J n s → Bs { c with B := B0 } H1 σ1 ((Δ s).set j (.va true (eI x))) →
      ts { D with nx := EX c B0 S R Δ J (n + 1) (stp s x), ct := EX c B0 S R Δ J (n + 1) (stp s x), bk := tz D } σ1 H1)
    (done : ∀ s σ1 H1, loopE stp (rng 0 hi) s0 = .inl s → J (rng 0 hi).length s → Bs c H1 σ1 (Δ s) → tz D σ1 H1) : tSeq (tFor (iRng1 (tCons te tNil)) (gName j) ts) tz D σ H := by
  refine h.go fun v H2 e2 hv => ?_
  cases hv
  exact ⟨hi, rfl, by omega, by omega, exitR_core (D := { D with nx := tz D }) (rng 0 hi) (fun n hn => rng_get (by omega)) (by rw [rng_len]; omega) Δ stp s0 J (B.mono e2) w j0 body done⟩
theorem q_exitR2 {lo hi : Int} (Δ : S → List Ent) (stp : S → Int → S ⊕ R) (s0 : S) (J : Nat → S → Prop) (B : Bs c H σ δ) (h1 : Ev o0 ta σ H (eI lo)) (h : Ev o0 te σ H (eI hi)) (hm : -1000000 ≤ lo ∧ lo ≤ 1000000 ∧ -1000000 ≤ hi ∧ hi ≤ 1000000) (w : LeA δ (Δ s0)) (j0 : J 0 s0)
    (body : ∀ (B0 : Hp), Ex c.B B0 → ∀ (n : Nat) (s : S) (x : Int) (σ1 : Sta) (H1 : Hp), x ∈ rng lo hi → n < (rng lo hi).length → (∀ r, stp s x = .inr r → loopE stp (rng lo hi) s0 = .inr r) → J n s → Bs { c with B := B0 } H1 σ1 ((Δ s).set j (.va true (eI x))) →
      ts { D with nx := EX c B0 S R Δ J (n + 1) (stp s x), ct := EX c B0 S R Δ J (n + 1) (stp s x), bk := tz D } σ1 H1)
    (done : ∀ s σ1 H1, loopE stp (rng lo hi) s0 = .inl s → J (rng lo hi).length s → Bs c H1 σ1 (Δ s) → tz D σ1 H1) : tSeq (tFor (iRng2 (tCons ta (tCons te tNil))) (gName j) ts) tz D σ H := by
  refine h1.go fun v H2 e2 hv => (h.mono e2).go fun v' H3 e3 hv' => ?_
  cases hv; cases hv'
  exact ⟨lo, hi, rfl, by omega, exitR_core (D := { D with nx := tz D }) (rng lo hi) (fun n hn => rng_get hn) (rng_len _ _) Δ stp s0 J (B.mono (e2.trans e3)) w j0 body done⟩

/-! a value is worth one datum, and a list isn't in itself -/
end
mutual
theorem Dn.fn {H : Hp} : ∀ {v : V} {d d' : PyData}, Dn H v d → Dn H v d' → d = d'
  | _, _, _, .non, h => by cases h; rfl
  | _, _, _, .bl b, h => by cases h; rfl
  | _, _, _, .int i, h => by cases h; rfl
  | _, _, _, .str x, h => by cases h; rfl
  | _, _, _, .lst h r, h' => by
    cases h' with
    | lst h2 r2 => rw [h] at h2; cases h2; rw [DnA.fn r r2]
    | tup h2 r2 => rw [h] at h2; cases h2
    | dct h2 r2 => rw [h] at h2; cases h2
  | _, _, _, .tup h r, h' => by
    cases h' with
    | lst h2 r2 => rw [h] at h2; cases h2
    | tup h2 r2 => rw [h] at h2; cases h2; rw [DnA.fn r r2]
    | dct h2 r2 => rw [h] at h2; cases h2
  | _, _, _, .dct h r, h' => by
    cases h' with
    | lst h2 r2 => rw [h] at h2; cases h2
    | tup h2 r2 => rw [h] at h2; cases h2
    | dct h2 r2 => rw [h] at h2; cases h2; rw [DnK.fn r r2]
theorem DnA.fn {H : Hp} : ∀ {vs : List V} {ds ds' : List PyData}, DnA H vs ds → DnA H vs ds' → ds = ds'
  | _, _, _, .nil, h => by cases h; rfl
  | _, _, _, .cons h r, h' => by
    cases h' with
    | cons h2 r2 => rw [Dn.fn h h2, DnA.fn r r2]
theorem DnK.fn {H : Hp} : ∀ {vs : List (Key × V)} {ds ds' : List (PyData × PyData)}, DnK H vs ds → DnK H vs ds' → ds = ds'
  | _, _, _, .nil, h => by cases h; rfl
  | _, _, _, .cons h r, h' => by
    cases h' with
    | cons h2 r2 => rw [Dn.fn h h2, DnK.fn r r2]
end
mutual
theorem Dn.small {H : Hp} {p : Addr} {vs : List V} {ds : List PyData} (hp : H p = some (.lst vs)) (hd : DnA H vs ds) : ∀ {v : V} {d : PyData}, Dn H v d → sizeOf d < sizeOf (PyData.list ds) → Dn (hid (fun a => a = p) H) v d
  | _, _, .non, _ => .non
  | _, _, .bl b, _ => .bl b
  | _, _, .int i, _ => .int i
  | _, _, .str x, _ => .str x
  | _, _, @Dn.lst _ a xs es h r, hs => by
    have ne : ¬ a = p := fun z => by
      subst z
      rw [h] at hp; cases hp
      have := DnA.fn r hd
      subst this
      omega
    exact .lst (by rw [hid_at (o := fun a => a = p) ne]; exact h) (DnA.small hp hd r (by simp at hs ⊢; omega))
  | _, _, @Dn.tup _ a xs es h r, hs => by
    have ne : ¬ a = p := fun z => by subst z; rw [h] at hp; cases hp
    exact .tup (by rw [hid_at (o := fun a => a = p) ne]; exact h) (DnA.small hp hd r (by simp at hs ⊢; omega))
  | _, _, @Dn.dct _ a xs es h r, hs => by
    have ne : ¬ a = p := fun z => by subst z; rw [h] at hp; cases hp
    exact .dct (by rw [hid_at (o := fun a => a = p) ne]; exact h) (DnK.small hp hd r (by simp at hs ⊢; omega))
theorem DnA.small {H : Hp} {p : Addr} {vs : List V} {ds : List PyData} (hp : H p = some (.lst vs)) (hd : DnA H vs ds) : ∀ {ws : List V} {es : List PyData}, DnA H ws es → sizeOf es < sizeOf (PyData.list ds) → DnA (hid (fun a => a = p) H) ws es
  | _, _, .nil, _ => .nil
  | _, _, .cons h r, hs => .cons (Dn.small hp hd h (by simp at hs ⊢; omega)) (DnA.small hp hd r (by simp at hs ⊢; omega))
theorem DnK.small {H : Hp} {p : Addr} {vs : List V} {ds : List PyData} (hp : H p = some (.lst vs)) (hd : DnA H vs ds) : ∀ {ws : List (Key × V)} {es : List (PyData × PyData)}, DnK H ws es → sizeOf es < sizeOf (PyData.list ds) → DnK (hid (fun a => a = p) H) ws es
  | _, _, .nil, _ => .nil
  | _, _, .cons h r, hs => .cons (Dn.small hp hd h (by simp at hs ⊢; omega)) (DnK.small hp hd r (by simp at hs ⊢; omega))
end
section
variable {K : PySem.W.Frag} {c : Wd} {o : Hd} {H H1 H' : Hp} {σ : Sta} {δ δ' : List Ent} {i j ci : Nat} {f g b : Bool} {a : Addr} {d e : PyData} {ta tb te tl : TE} {t : TT} {ts tu tw tz : TS} {D : Ends} {α β γ S R : Type} {em : α → PyData} {em2 : β → PyData} {emg : γ → PyData} {xs ys : List α} {m n : Int}
theorem en_new {ds : List PyData} (l : Live o H) (h : ∀ H1, Ex H H1 → ∀ Q : VK, (∀ v H2, Ex H1 H2 → Dn (new H1 H2) v (.list ds) → Q v H2) → te σ H1 Q) : EvN o te σ H ds := fun H1 x Q q =>
  h H1 x _ fun v H3 e3 hd => by
    cases hd with
    | lst hp r =>
      rename_i p xs
      obtain ⟨n1, n2⟩ := hid_of hp
      have np : H1 p = none := by
        cases z : H1 p with
        | none => rfl
        | some u => exact absurd (by rw [z]; simp) n1
      refine q p xs H3 np e3 n2 ?_
      have r2 := DnA.small hp r r (by simp)
      refine r2.mono fun b u z => ?_
      obtain ⟨z1, z2⟩ := hid_of (o := fun a => a = p) z
      obtain ⟨z3, z4⟩ := hid_of z2
      rw [hid_at]
      · exact z4
      · rintro (w | w)
        · exact z3 ((l.mono x) b w)
        · exact z1 w
/-- a call whose answer is a new list -/
theorem en_callF {R : List PyData → PyData → Prop} {E : XK} {tr : TA} {ds es : List PyData} (l : Live o H) (h : EvA o0 tr σ H es) (hr : R es (.list ds)) : EvN o (tCall (SpF R) [] E tr) σ H ds := fun H1 x Q q =>
  h H1 x _ fun vs H2 e2 hv => ⟨es, _, by rw [List.append_nil]; exact hv.up, hr, fun v H3 e3 hd => by
    cases hd with
    | lst hp r =>
      rename_i p xs
      obtain ⟨n1, n2⟩ := hid_of hp
      have np : H2 p = none := by
        cases z : H2 p with
        | none => rfl
        | some u => exact absurd (by rw [z]; simp) n1
      refine q p xs H3 (Evl.fresh_back e2 np) (e2.trans e3) n2 ?_
      have r2 := DnA.small hp r r (by simp)
      refine r2.mono fun b u z => ?_
      obtain ⟨z1, z2⟩ := hid_of (o := fun a => a = p) z
      obtain ⟨z3, z4⟩ := hid_of z2
      rw [hid_at]
      · exact z4
      · rintro (w | w)
        · exact z3 (((l.mono x).mono e2) b w)
        · exact z1 w⟩
/-- an item of a list or of a tuple, by the rule that takes either -/
theorem ev_ixAL {ds : List PyData} {m : Int} (ha : Ev o ta σ H (.list ds)) (hi : Ev o0 tb σ H (.int m)) (hg : atI ds m = some d) : Ev o (tOp (rIx K) ta tb) σ H d := fun H1 x Q q =>
  ha H1 x _ fun v H2 e2 hv => hi H2 (x.trans e2) _ fun w H3 e3 hw => by
    cases hw
    cases hv with
    | lst h r =>
      obtain ⟨y, y1, y2⟩ := (r.mono (hid_mono e3)).atI hg
      exact .inl ⟨_, _, m, y, rfl, rfl, .inl (.inl (e3 _ _ (hid_ex _ _ h))), y1, q _ H3 (e2.trans e3) y2⟩
theorem ev_ixAT {ds : List PyData} {m : Int} (ha : Ev o ta σ H (.tuple ds)) (hi : Ev o0 tb σ H (.int m)) (hg : atI ds m = some d) : Ev o (tOp (rIx K) ta tb) σ H d := fun H1 x Q q =>
  ha H1 x _ fun v H2 e2 hv => hi H2 (x.trans e2) _ fun w H3 e3 hw => by
    cases hw
    cases hv with
    | tup h r =>
      obtain ⟨y, y1, y2⟩ := (r.mono (hid_mono e3)).atI hg
      exact .inr (.inl ⟨_, _, m, y, rfl, rfl, .inl (.inl (e3 _ _ (hid_ex _ _ h))), y1, q _ H3 (e2.trans e3) y2⟩)
/-! ### defs that change the list they are passed -/
theorem bs_M {N : List Str} {vr : List V} {xs : List V} {ds rs : List PyData} {H : Hp} {o : Hd} {a : Addr} (l : Live o H) (oa : o a) (ha : H a = some (.lst xs)) (hx : DnA (hid o H) xs ds) (hr : DnA H vr rs) (hs : ∀ d ∈ rs, Sc d) (hN : vr.length + 1 ≤ N.length) :
    Bs ⟨hid (fun b => b = a) H, fun b => o b ∧ b ≠ a, o0⟩ H (L2.start N (.ref a :: vr)) (.ow true a ds :: args true (N.length - 1) rs) := by
  have hrl := hr.length
  have na : ∀ {k : Nat} {f : Bool} {b : Addr} {es : List PyData}, (args true (N.length - 1) rs)[k]? ≠ some (.ow f b es) := fun {k f b es} z => by
    have he := List.mem_of_getElem? z
    unfold args at he
    rcases List.mem_append.mp he with he | he
    · obtain ⟨d, _, q⟩ := List.mem_map.mp he; cases q
    · have := (List.mem_replicate.mp he).2; cases this
  have adr : ∀ b, Adr (.ow true a ds :: args true (N.length - 1) rs) b → b = a := fun b ⟨k, f, es, z⟩ => by
    cases k with
    | zero => simp at z; exact z.2.1.symm
    | succ k => exact absurd (by simpa using z) na
  have hdo : ∀ b, (⟨hid (fun b => b = a) H, fun b => o b ∧ b ≠ a, o0⟩ : Wd).hd true (.ow true a ds :: args true (N.length - 1) rs) b → o b := fun b z => by
    rcases z with z | z | z
    · exact z.2.1
    · exact z.elim
    · rw [adr b z]; exact oa
  refine ⟨hid_ex, fun b z => l b z.1, live0, fun b z => ?_, fun i j f1 g b d1 es h1 h2 => ?_, ?_, fun i e he => ?_⟩
  · rw [adr b z]; exact ⟨hid_in rfl, fun z => z.2 rfl, id⟩
  · cases i with
    | zero => cases j with
      | zero => rfl
      | succ j => exact absurd (by simpa using h2) na
    | succ i => exact absurd (by simpa using h1) na
  · rw [start_len (by simpa using hN)]; unfold args; simp; omega
  · cases i with
    | zero =>
      simp at he; subst he
      refine ⟨xs, ?_, ha, hx.mono (hid_sub hdo)⟩
      rw [start_get (by simp) (by simpa using hN)]; rfl
    | succ i =>
      simp only [List.getElem?_cons_succ] at he
      unfold args at he
      by_cases hi : i < rs.length
      · rw [List.getElem?_append_left (by simpa using hi), List.getElem?_map] at he
        obtain ⟨d, hd, q⟩ := Option.map_eq_some_iff.mp he
        subst q
        obtain ⟨v, hv, q⟩ := hr.get hd
        refine ⟨v, ?_, q.sc (hs d (List.mem_of_getElem? hd))⟩
        rw [start_get (by simp; omega) (by simpa using hN)]
        rw [List.getElem?_eq_some_iff] at hv
        simp [hv.2]
      · rw [List.getElem?_append_right (by simp; omega)] at he
        have := (List.mem_replicate.mp (List.mem_of_getElem? he)).2
        subst this
        trivial
/-- the way out of such a def -/
theorem q_retM {Q : VK} {o : Hd} {H0 : Hp} {ds' : List PyData} {i : Nat} (B : Bs ⟨hid (fun b => b = a) H0, fun b => o b ∧ b ≠ a, o0⟩ H σ δ) (hx : δ[i]? = some (.ow true a ds')) (h : Ev ((⟨hid (fun b => b = a) H0, fun b => o b ∧ b ≠ a, o0⟩ : Wd).hd true δ) te σ H d) (hD : D.rt = Q)
    (k : ∀ v xs' H', (∀ b u, b ≠ a → H0 b = some u → H' b = some u) → H' a = some (.lst xs') → DnA (hid o H') xs' ds' → Dn (hid o H') v d → Q v H') : tSeq (tRet te) tz D σ H := by
  refine h.go fun v H2 e2 hv => ?_
  have B2 := B.mono e2
  obtain ⟨vs, _, ha, hr⟩ := B2.ent i _ hx
  have sub : ∀ b, o b → (⟨hid (fun b => b = a) H0, fun b => o b ∧ b ≠ a, o0⟩ : Wd).hd true δ b := fun b z => by
    by_cases q : b = a
    · subst q; exact .inr (.inr ⟨i, true, ds', hx⟩)
    · exact .inl ⟨rfl, z, q⟩
  show D.rt v H2
  rw [hD]
  exact k v vs H2 (fun b u nb hb => B2.base b u (by show hid (fun b => b = a) H0 b = some u; rw [hid_at (o := fun b => b = a) nb]; exact hb)) ha (hr.mono (hid_sub sub)) (hv.mono (hid_sub sub))
theorem adr_ow {ds ds' : List PyData} (h : δ[i]? = some (.ow f a ds)) (b : Addr) : Adr (δ.set i (.ow f a ds')) b ↔ Adr δ b := by
  have hl : i < δ.length := by
    rw [List.getElem?_eq_some_iff] at h
    exact h.1
  constructor
  · intro z
    rcases adr_set z with z | ⟨_, _, z⟩
    · exact z
    · injection z with _ z _; subst z; exact ⟨i, f, ds, h⟩
  · rintro ⟨k, g, es, z⟩
    by_cases q : i = k
    · subst q
      rw [h] at z
      injection z with z; injection z with z1 z2 z3
      subst z1; subst z2
      exact ⟨i, f, ds', by rw [List.getElem?_set]; simp [hl]⟩
    · exact ⟨k, g, es, by rw [List.getElem?_set_ne q]; exact z⟩
theorem adr_no {e : Ent} (h : δ[i]? = some .no) (he : ∀ f a ds, e ≠ .ow f a ds) (b : Addr) : Adr (δ.set i e) b ↔ Adr δ b := by
  constructor
  · intro z
    rcases adr_set z with z | ⟨f, ds, z⟩
    · exact z
    · exact absurd z (he _ _ _)
  · rintro ⟨k, g, es, z⟩
    exact ⟨k, g, es, by rw [List.getElem?_set_ne (fun q => by subst q; rw [h] at z; cases z)]; exact z⟩
theorem hd_adr {δ1 δ2 : List Ent} (h : ∀ b, Adr δ1 b ↔ Adr δ2 b) (f : Bool) : c.hd f δ1 = c.hd f δ2 := by
  funext b; unfold Wd.hd; rw [h b]
/-- a slot of which nothing is known may hold anything -/
theorem Bs.slot {x : Option V} (B : Bs c H σ δ) (h : δ[j]? = some .no) : Bs c H (σ.set j x) δ := by
  refine ⟨B.base, B.liO, B.liN, B.own, B.one, by rw [List.length_set]; exact B.len, fun i e he => ?_⟩
  by_cases q : j = i
  · subst q; rw [h] at he; cases he; trivial
  · rw [List.getElem?_set_ne q]; exact B.ent i e he
/-- an object that no value may meet is rewritten -/
theorem Bs.updN {p : Addr} {u : HO} (B : Bs c H σ δ) (hp : c.N p) (hB : c.B p = none) : Bs c (upd H p u) σ δ := by
  have lv : ∀ {o : Hd}, Live o H → Live o (upd H p u) := fun {o} l b hb z => by
    by_cases q : b = p
    · subst q; rw [upd_same] at z; cases z
    · rw [upd_ne q] at z; exact l b hb z
  have hh : ∀ f, hid (c.hd f δ) (upd H p u) = hid (c.hd f δ) H := fun f => hid_upd_in (.inr (.inl hp))
  refine ⟨fun b v q => ?_, lv B.liO, lv B.liN, B.own, B.one, B.len, fun i e he => ?_⟩
  · rw [upd_ne (ne_of_none q hB)]; exact B.base _ _ q
  · have w := B.ent i e he
    cases e with
    | no => trivial
    | va f d => obtain ⟨v, e, w⟩ := w; exact ⟨v, e, by rw [hh]; exact w⟩
    | ow f b es =>
      obtain ⟨ws, e, w, r⟩ := w
      refine ⟨ws, e, ?_, by rw [hh]; exact r⟩
      rw [upd_ne (fun z => (B.own b ⟨i, f, es, he⟩).2.2 (by rw [z]; exact hp))]; exact w
    | rw v => exact w
/-- into a comprehension's block, with its new list at p -/
noncomputable def Wd.blk (c : Wd) (δ : List Ent) (H : Hp) (p : Addr) : Wd := { c with B := hid (fun a => Adr δ a ∨ a = p) H, N := fun a => c.N a ∨ a = p }
theorem Bs.blk {p : Addr} {u : HO} (B : Bs c H σ δ) (np : H p = none) : Bs (c.blk δ H p) (upd H p u) σ δ := by
  have ex : Ex H (upd H p u) := Evl.Ex.new np
  have pa : ¬ Adr δ p := fun ⟨k, f, ds, z⟩ => by
    obtain ⟨vs, _, q, _⟩ := B.ent k _ z
    rw [q] at np; cases np
  refine ⟨fun b v q => ?_, B.liO.mono ex, fun b z => ?_, fun b z => ⟨(show hid (fun a => Adr δ a ∨ a = p) H b = none from hid_in (Or.inl z)), (B.own b z).2.1, fun y => ?_⟩, B.one, B.len, fun i e he => ?_⟩
  · obtain ⟨q1, q2⟩ := hid_of (o := fun a => Adr δ a ∨ a = p) q
    exact ex _ _ q2
  · rcases z with z | z
    · exact (B.liN.mono ex) b z
    · subst z; rw [upd_same]; simp
  · rcases y with y | y
    · exact (B.own b z).2.2 y
    · subst y; exact pa z
  · have w := B.ent i e he
    have hh : ∀ f, Ex (hid (c.hd f δ) H) (hid ((c.blk δ H p).hd f δ) (upd H p u)) := fun f b v q => by
      obtain ⟨q1, q2⟩ := hid_of q
      have nb : b ≠ p := ne_of_none q2 np
      rw [hid_at, upd_ne nb]
      · exact q2
      · rintro (z | (z | z) | z)
        · exact q1 (.inl z)
        · exact q1 (.inr (.inl z))
        · exact nb z
        · exact q1 (.inr (.inr z))
    cases e with
    | no => trivial
    | va f d => obtain ⟨v, e, w⟩ := w; exact ⟨v, e, w.mono (hh f)⟩
    | ow f b es => obtain ⟨ws, e, w, r⟩ := w; exact ⟨ws, e, ex _ _ w, r.mono (hh f)⟩
    | rw v => exact w
theorem Bs.unblk {p : Addr} {H0 : Hp} {σ0 : Sta} (B0 : Bs c H0 σ0 δ') (np : H0 p = none) (B : Bs (c.blk δ' H0 p) H σ δ) : Bs c H σ δ := by
  have ex : Ex c.B (hid (fun a => Adr δ' a ∨ a = p) H0) := fun b u q => by
    rw [hid_at]
    · exact B0.base _ _ q
    · rintro (z | z)
      · rw [(B0.own b z).1] at q; cases q
      · subst z; rw [B0.base _ _ q] at np; cases np
  refine ⟨ex.trans B.base, B.liO, fun b z => B.liN b (.inl z), fun b z => ⟨?_, (B.own b z).2.1, fun y => (B.own b z).2.2 (.inl y)⟩, B.one, B.len, fun i e he => ?_⟩
  · cases q : c.B b with
    | none => rfl
    | some u =>
      have w : hid (fun a => Adr δ' a ∨ a = p) H0 b = none := (B.own b z).1
      rw [ex _ _ q] at w; cases w
  · have w := B.ent i e he
    have hh : ∀ f, Ex (hid ((c.blk δ' H0 p).hd f δ) H) (hid (c.hd f δ) H) := fun f => hid_sub fun b z => by
      rcases z with z | z | z
      · exact .inl z
      · exact .inr (.inl (.inl z))
      · exact .inr (.inr z)
    cases e with
    | no => trivial
    | va f d => obtain ⟨v, e, w⟩ := w; exact ⟨v, e, w.mono (hh f)⟩
    | ow f b es => obtain ⟨ws, e, w, r⟩ := w; exact ⟨ws, e, w, r.mono (hh f)⟩
    | rw v => exact w
/-- a comprehension over a range whose turns change one list of the body's own -/
def stepE (nx : List γ → Int → β × List γ) (p : List β × List γ) (k : Int) : List β × List γ := (p.1 ++ [(nx p.2 k).1], (nx p.2 k).2)
theorem en_lcE {lo hi : Int} {tr : TI} (nx : List γ → Int → β × List γ) (J : List γ → Prop) {gs : List γ} (B : Bs c H σ δ) (hj : δ[j]? = some .no) (hx : δ[ci]? = some (.ow true a (gs.map emg))) (j0 : J gs) (js : ∀ gs k, J gs → J (nx gs k).2)
    (h : ∀ H1, Ex H H1 → ∀ R : It → Hp → Prop, (∀ H2, Ex H1 H2 → R (Itr lo (hi - lo).toNat) H2) → tr σ H1 R) (hz : hi - lo ≤ 40000)
    (body : ∀ (c' : Wd) (gs : List γ) (x : Int) (σ1 : Sta) (H1 : Hp), x ∈ rng lo hi → J gs → Bs c' H1 σ1 ((δ.set ci (.ow true a (gs.map emg))).set j (.va true (eI x))) →
      EvM c' te σ1 H1 ((δ.set ci (.ow true a (gs.map emg))).set j (.va true (eI x))) (em2 (nx gs x).1) ((δ.set ci (.ow true a ((nx gs x).2.map emg))).set j (.va true (eI x)))) :
    ∀ Q : VK, (∀ p vs H2, H p = none → H2 p = some (.lst vs) → Bs c H2 σ (δ.set ci (.ow true a (((rng lo hi).foldl (stepE nx) ([], gs)).2.map emg))) →
      DnA (hid (fun b => c.hd true δ b ∨ b = p) H2) vs (((rng lo hi).foldl (stepE nx) ([], gs)).1.map em2) → Q (.ref p) H2) → tLc tr (gName j) tYes te [j] σ H Q := by
  intro Q q
  refine h H (Ex.refl H) _ fun H2 e2 => ?_
  have B2 := B.mono e2
  intro C nC
  have ncj : ci ≠ j := fun z => by subst z; rw [hj] at hx; cases hx
  let st := fun n : Nat => ((rng lo hi).take n).foldl (stepE nx) ([], gs)
  have hjn : ∀ gs' : List γ, (δ.set ci (.ow true a (gs'.map emg)))[j]? = some .no := fun gs' => by rw [List.getElem?_set_ne ncj]; exact hj
  have hci : ∀ gs' : List γ, (δ.set ci (.ow true a (gs'.map emg)))[ci]? = some (.ow true a (gs'.map emg)) := fun gs' => by
    have : ci < δ.length := by rw [List.getElem?_eq_some_iff] at hx; exact hx.1
    rw [List.getElem?_set]; simp [this]
  have ead : ∀ gs' : List γ, ∀ b, Adr (δ.set ci (.ow true a (gs'.map emg))) b ↔ Adr δ b := fun gs' b => adr_ow hx b
  have ead2 : ∀ (gs' : List γ) (x : Int) b, Adr ((δ.set ci (.ow true a (gs'.map emg))).set j (.va true (eI x))) b ↔ Adr δ b := fun gs' x b => (adr_no (hjn gs') (fun _ _ _ z => by cases z) b).trans (ead gs' b)
  have e0 : δ.set ci (.ow true a (gs.map emg)) = δ := by
    refine List.ext_getElem? fun k => ?_
    by_cases z : ci = k
    · subst z; rw [hci, hx]
    · rw [List.getElem?_set_ne z]
  have cC : (c.blk δ H2 C).N C := .inr rfl
  have bC : (c.blk δ H2 C).B C = none := hid_in (o := fun a => Adr δ a ∨ a = C) (.inr rfl)
  refine lc_range (lo := lo) (n := (hi - lo).toNat) (fun n H3 => ∃ acc, Bs (c.blk δ H2 C) H3 (wipe σ [j]) (δ.set ci (.ow true a ((st n).2.map emg))) ∧ H3 C = some (.lst acc) ∧ DnA (hid ((c.blk δ H2 C).hd true δ) H3) acc ((st n).1.map em2) ∧ J (st n).2) ?_ (fun n H3 hn hP => ?_) (fun H3 hP => ?_)
  · refine ⟨[], ?_, upd_same, .nil, j0⟩
    show Bs _ _ (σ.set j none) (δ.set ci (.ow true a (gs.map emg)))
    rw [e0]
    exact (B2.blk nC).slot hj
  · obtain ⟨acc, B3, hC, hacc, hJ⟩ := hP
    have hge := rng_get hn
    have tk : st (n + 1) = stepE nx (st n) (lo + n) := take_fold hge
    have B4 := set_va (i := j) (f := true) (d := eI (lo + n)) (v := .int (lo + n)) B3 (.int _)
    refine ⟨?_, ?_⟩
    · show ((((wipe σ []).set j none).set j (some (.int (lo + n)))).set j none) = _
      rw [List.set_set, List.set_set]; rfl
    unfold tYes
    dsimp only
    rw [if_pos rfl]
    refine body _ _ (lo + n) _ _ (List.mem_of_getElem? hge) hJ B4 _ fun v H5 B5 k5 hv => ?_
    have nad : ∀ b, ¬ Adr ((δ.set ci (.ow true a ((st n).2.map emg))).set j (.va true (eI (lo + n)))) b ↔ ¬ Adr δ b := fun b => not_congr (ead2 _ _ b)
    have hC5 : H5 C = some (.lst acc) := k5 C _ ((nad C).mpr fun z => (B3.own C ((ead _ C).mpr z)).2.2 cC) hC
    have hC0 : (c.blk δ H2 C).hd true δ C := .inr (.inl cC)
    have acc5 : DnA (hid ((c.blk δ H2 C).hd true δ) H5) acc ((st n).1.map em2) := hacc.mono fun b u q => by
      obtain ⟨q1, q2⟩ := hid_of q
      rw [hid_at q1]
      exact k5 b u ((nad b).mpr fun z => q1 (.inr (.inr z))) q2
    have v5 : Dn (hid ((c.blk δ H2 C).hd true δ) H5) v (em2 (nx (st n).2 (lo + n)).1) := by
      rw [hd_adr (ead2 _ _) true] at hv; exact hv
    refine ⟨acc, hC5, ?_, acc ++ [v], ?_, upd_same, ?_, ?_⟩
    · refine Evl.sz_lt ?_
      rw [hacc.length, List.length_map]
      have ln : ∀ k, (st k).1.length ≤ k := fun k => by
        show (((rng lo hi).take k).foldl (stepE nx) ([], gs)).1.length ≤ k
        have gen : ∀ (l : List Int) (p : List β × List γ), (l.foldl (stepE nx) p).1.length = p.1.length + l.length := fun l => by
          induction l with
          | nil => intro p; simp
          | cons y l ih => intro p; rw [List.foldl_cons, ih]; simp [stepE]; omega
        rw [gen]; simp; omega
      have := ln n
      omega
    · rw [tk]
      show Bs (c.blk δ H2 C) (upd H5 C (.lst (acc ++ [v]))) (wipe σ [j]) (δ.set ci (.ow true a ((nx (st n).2 (lo + n)).2.map emg)))
      have B6 : Bs (c.blk δ H2 C) H5 ((wipe σ [j]).set j (some (.int (lo + n)))) (δ.set ci (.ow true a ((nx (st n).2 (lo + n)).2.map emg))) := by
        refine B5.le ?_
        have gen : ∀ (l : List Ent) (k : Nat) (e : Ent), l[k]? = some .no → LeA (l.set k e) l := fun l => by
          induction l with
          | nil => intro k e h; simp at h
          | cons y l ih =>
            intro k e h
            cases k with
            | zero => simp at h; subst h; exact .cons (.no _) (LeA.refl l)
            | succ k => exact .cons (.refl y) (ih k e (by simpa using h))
        exact gen _ _ _ (hjn _)
      have B7 := (B6.slot (x := none) (hjn _)).updN (u := .lst (acc ++ [v])) cC bC
      have ew : ((wipe σ [j]).set j (some (V.int (lo + n)))).set j none = wipe σ [j] := by
        show ((((wipe σ []).set j none).set j (some (.int (lo + n)))).set j none) = _
        rw [List.set_set, List.set_set]; rfl
      rw [ew] at B7
      exact B7
    · rw [hid_upd_in hC0, tk]
      show DnA _ _ (((st n).1 ++ [(nx (st n).2 (lo + n)).1]).map em2)
      rw [List.map_append]
      exact acc5.append (.one v5)
    · rw [tk]; exact js _ _ hJ
  · obtain ⟨acc, B3, hC, hacc, hJ⟩ := hP
    have el : st (hi - lo).toNat = (rng lo hi).foldl (stepE nx) ([], gs) := by
      show ((rng lo hi).take _).foldl _ _ = _
      rw [← rng_len, List.take_length]
    rw [el] at B3 hacc
    refine q C acc H3 (Evl.fresh_back e2 nC) hC ?_ (hacc.mono (hid_sub fun b z => ?_))
    · have B4 := B2.unblk nC B3
      refine ⟨B4.base, B4.liO, B4.liN, B4.own, B4.one, by rw [← B4.len, wipe_length], fun i e he => ?_⟩
      have w := B4.ent i e he
      by_cases z : j = i
      · subst z; rw [hjn] at he; cases he; trivial
      · have : (wipe σ [j])[i]? = σ[i]? := by
          show ((wipe σ []).set j none)[i]? = _
          rw [List.getElem?_set_ne z]; rfl
        rw [this] at w; exact w
    · rcases z with (z | z | z) | z
      · exact .inl z
      · exact .inr (.inl (.inl z))
      · exact .inr (.inr z)
      · exact .inr (.inl (.inr z))
theorem em_callF1 {Rl : List PyData → PyData → Prop} {E : XK} (h : EvM c ta σ H δ d δ') (hr : Rl [d] e) : EvM c (tCall (SpF Rl) [] E (tCons ta tNil)) σ H δ e δ' := fun Q q =>
  h _ fun v H2 B2 k2 hv => ⟨[d], e, .cons hv.up .nil, hr, fun w H3 e3 hw => q w H3 (B2.mono e3) (fun a u na h => e3 _ _ (k2 a u na h)) (hw.mono (hid_sub (B2.live true)))⟩
theorem q_asgE {lo hi : Int} {tr : TI} (nx : List γ → Int → β × List γ) (J : List γ → Prop) {gs : List γ} (B : Bs c H σ δ) (hj : δ[j]? = some .no) (hx : δ[ci]? = some (.ow true a (gs.map emg))) (j0 : J gs) (js : ∀ gs k, J gs → J (nx gs k).2)
    (h : ∀ H1, Ex H H1 → ∀ R : It → Hp → Prop, (∀ H2, Ex H1 H2 → R (Itr lo (hi - lo).toNat) H2) → tr σ H1 R) (hz : hi - lo ≤ 40000)
    (body : ∀ (c' : Wd) (gs : List γ) (x : Int) (σ1 : Sta) (H1 : Hp), x ∈ rng lo hi → J gs → Bs c' H1 σ1 ((δ.set ci (.ow true a (gs.map emg))).set j (.va true (eI x))) →
      EvM c' te σ1 H1 ((δ.set ci (.ow true a (gs.map emg))).set j (.va true (eI x))) (em2 (nx gs x).1) ((δ.set ci (.ow true a ((nx gs x).2.map emg))).set j (.va true (eI x))))
    (k : ∀ ys gs' σ1 H1, (ys, gs') = (rng lo hi).foldl (stepE nx) ([], gs) → J gs' → Bs c H1 σ1 ((δ.set ci (.ow true a (gs'.map emg))).set i (.va true (eL em2 ys))) → tz D σ1 H1) :
    tSeq (tAsg (tLc tr (gName j) tYes te [j]) (gName i)) tz D σ H := by
  show tLc tr (gName j) tYes te [j] σ H (fun x H1 => tz D (σ.set i (some x)) H1)
  refine en_lcE nx J B hj hx j0 js h hz body _ fun p vs H2 np hp B2 hv => ?_
  have jj : J ((rng lo hi).foldl (stepE nx) ([], gs)).2 := by
    have gen : ∀ (l : List Int) (q : List β × List γ), J q.2 → J (l.foldl (stepE nx) q).2 := fun l => by
      induction l with
      | nil => intro q hq; exact hq
      | cons y l ih => intro q hq; rw [List.foldl_cons]; exact ih _ (js _ _ hq)
    exact gen _ _ j0
  refine k ((rng lo hi).foldl (stepE nx) ([], gs)).1 ((rng lo hi).foldl (stepE nx) ([], gs)).2 _ _ rfl jj (set_va B2 (.lst ?_ (hv.mono (hid_sub fun b z => ?_))))
  · rw [hid_at]
    · exact hp
    · rw [hd_adr (adr_ow hx) true]; exact (B.live true).fresh np
  · rw [hd_adr (adr_ow hx) true] at z; exact .inl z
theorem em_ixM [Inhabited α] (ha : Ev (c.hd true δ) ta σ H (eL em xs)) (stay : ∀ p, Adr δ p ↔ Adr δ' p) (h : ∀ H2, Ex H H2 → EvM c tb σ H2 δ (eI m) δ') (hb : inB xs m) : EvM c (tOp (rIxL K) ta tb) σ H δ (em (getI xs m)) δ' := em_ixL ha stay h (atI_getI hb em)
end
end HL
namespace HL
open PySem PySem.Spec PyProof.Rows L2
open PySem.Builtin PyProof
open Evl (Ex)
theorem extend_tup (l : Addr) (items : Array Value) (n : Nat) (b : Addr) (items2 : Array Value) (n2 : Nat) (o : Obj) (hc : o.cls = Value.type "tuple") (hd : o.data = Data.seq items2 n2)
    (hs0 : ¬(!items.isEmpty && Builtin.List.listTooLong (items.size + items2.size)) = true) (hs1 : items.size ≤ sizeLine) (hs2 : items.size + items2.size ≤ sizeLine + 1) :
    Meets (Builtin.«list.extend» { pos := [Value.ref l, Value.ref b] }) fun x R s =>
      s.heap.get? l = some { cls := Value.type "list", data := Data.seq items n } ∧ s.heap.get? b = some o ∧
        R (Except.ok (Flow.ret Value.none)) { heap := s.heap.update l (Obj.mapSeq fun x => x ++ items2), gens := s.gens, drawn := s.drawn, toks := s.toks, os := s.os } := by
  refine Meets.of_wp fun prog w A R s h => ?_
  obtain ⟨hp, g, d, tk, os⟩ := s
  obtain ⟨hl, hb, h⟩ := h
  have hz' : (items ++ items2).size ≤ sizeLine + 1 := by rw [Array.size_append]; exact hs2
  obtain ⟨cls, dict, data, slots⟩ := o
  dsimp only at hc hd
  subst hc; subst hd
  refine wpAny_bind (wpAny_bind (wpAny_ite_true rfl (wpAny_pure (wpAny_pure ?_))))
  refine wpAny_bind (wpAny_bind (AutoSeq1.wpAny_loadPart' hb (wpAny_pure (wpAny_ite_true (by simp) ?_))))
  refine wpAny_bind (wpAny_bind (wpAny_bind (wpAny_load' hb (wpAny_pure (wpAny_pure ?_)))))
  refine wpAny_bind (wpAny_bind (wpAny_bind (wpAny_load' hl (wpAny_pure (wpAny_pure ?_)))))
  refine wpAny_ite_false (by simpa using hs0) ?_
  exact wpAny_bind ((fun h => wpAny_updateSeq hl rfl h hs1 hz') (wpAny_pure ⟨Value.none, rfl, h⟩))
/-- list.extend with a tuple -/
abbrev rExtT : V → List V → Hp → VK → Prop := fun x vs H Q => ∃ l b xs zs, x = .ref l ∧ vs = [.ref b] ∧ H l = some (.lst xs) ∧ H b = some (.tup zs) ∧ xs.length + zs.length ≤ 100000 ∧ Q .non (upd H l (.lst (xs ++ zs)))
theorem mt_extT {X : Cx} : MtM X "list.extend" rExtT := by
  rintro pins s σ H x vs v us Q I rx rv ⟨l, b, xs, zs, rfl, rfl, hH, hB, hz, q⟩
  cases rx
  obtain ⟨u, rfl, ru⟩ := Vals.one rv
  cases ru
  have hs : sizeLine = 16777216 := rfl
  obtain ⟨z, its, n, r, hl, e⟩ := Inv.lstM I hH
  obtain ⟨its2, r2, ⟨o, e2, hc, n2, hd⟩, _⟩ := I.tuple (.inl (.inl hB))
  have hsz : its.toArray.size + its2.toArray.size ≤ sizeLine := by
    rw [List.size_toArray, List.size_toArray, ← r2.length, ← hl]; omega
  have hlong : ¬(!its.toArray.isEmpty && Builtin.List.listTooLong (its.toArray.size + its2.toArray.size)) = true := by
    rw [notLongL hsz, Bool.and_false]; exact Bool.false_ne_true
  exact call_meets F.slot_list_extend ⟨_, e, rfl⟩ F.entry_list_extend (F.args_list_extend_2 (Value.ref l) (Value.ref b))
    (extend_tup l its.toArray n b its2.toArray n2 o hc hd hlong (by rw [List.size_toArray, ← hl]; omega) (by omega))
    ⟨e, e2, V.non, upd H l (HO.lst (xs ++ zs)), Inv.lset I hH e (by simp) (r.append r2) (by rw [List.length_append]; omega), rfl, q⟩

/-- what enumerate gives -/
def enumI {α : Type} (xs : List α) : List (Int × α) := xs.zipIdx.map fun p => ((p.2 : Int), p.1)
theorem enumI_len {α : Type} (xs : List α) : (enumI xs).length = xs.length := by simp [enumI]
theorem enumI_get {α : Type} {xs : List α} {n : Nat} {x : α} (h : xs[n]? = some x) : (enumI xs)[n]? = some ((n : Int), x) := by
  simp [enumI, h]

/-! targets of any kind -/
section
variable {K : PySem.W.Frag} {c : Wd} {o : Hd} {H H1 H' : Hp} {σ : Sta} {δ δ' : List Ent} {i j : Nat} {f g b : Bool} {a : Addr} {d e : PyData} {ds es : List PyData} {ta tb te tl : TE} {t : TT} {ts tu tw tz : TS} {D : Ends} {α β γ S R : Type} {em : α → PyData} {em2 : β → PyData} {emg : γ → PyData} {xs ys : List α} {m n : Int}
def Tgt (g : TG) (f : Bool) (em : α → PyData) (u : α → List Ent → List Ent) : Prop := ∀ {c : Wd} {H : Hp} {σ : Sta} {δ : List Ent} {v : V} {x : α} {Q : Sta → Hp → Prop}, Bs c H σ δ → Dn (hid (c.hd f δ) H) v (em x) → (∀ σ1, Bs c H σ1 (u x δ) → Q σ1 H) → g v σ H Q
theorem tgt_name : Tgt (gName j) f em (fun x δ => δ.set j (.va f (em x))) := fun B h k => k _ (set_va B h)
theorem hd_va {d : PyData} : Ex (hid (c.hd f δ) H) (hid (c.hd f (δ.set i (.va g d))) H) := hid_sub (hd_sub fun b z => by
  rcases adr_set z with z | ⟨_, _, z⟩
  · exact z
  · cases z)
theorem tgt_tup2 {e1 : α → PyData} {e2 : β → PyData} : Tgt (gTup K 2 (gCons (gName i) (gCons (gName j) gNil))) f (eT2 e1 e2) (fun x δ => (δ.set i (.va f (e1 x.1))).set j (.va f (e2 x.2))) := fun B h k => by
  cases h with
  | @tup p vs _ hp hr =>
    cases hr with
    | cons h1 hr => cases hr with
      | cons h2 hr =>
        cases hr
        exact ⟨p, _, rfl, .inl (.inl (hid_ex _ _ hp)), rfl, _, _, rfl, _, _, rfl, rfl, k _ (set_va (set_va B h1) (h2.mono hd_va))⟩
theorem tgt_tup3 {k : Nat} {e1 : α → PyData} {e2 : β → PyData} {e3 : γ → PyData} : Tgt (gTup K 3 (gCons (gName i) (gCons (gName j) (gCons (gName k) gNil)))) f (eT3 e1 e2 e3) (fun x δ => ((δ.set i (.va f (e1 x.1))).set j (.va f (e2 x.2.1))).set k (.va f (e3 x.2.2))) := fun B h k => by
  cases h with
  | @tup p vs _ hp hr =>
    cases hr with
    | cons h1 hr => cases hr with
      | cons h2 hr => cases hr with
        | cons h3 hr =>
          cases hr
          exact ⟨p, _, rfl, .inl (.inl (hid_ex _ _ hp)), rfl, _, _, rfl, _, _, rfl, _, _, rfl, rfl, k _ (set_va (set_va (set_va B h1) (h2.mono hd_va)) ((h3.mono hd_va).mono hd_va))⟩
theorem q_asgG {u : α → List Ent → List Ent} {x : α} {tg : TG} (G : Tgt tg f em u) (S : Bs c H σ δ) (h : Ev (c.hd f δ) te σ H (em x)) (k : ∀ σ1 H1, Bs c H1 σ1 (u x δ) → tz D σ1 H1) : tSeq (tAsg te tg) tz D σ H :=
  h.go fun v H2 e2 hv => G (S.mono e2) hv fun σ1 B => k σ1 H2 B
theorem q_exitLG {u : α → List Ent → List Ent} {tg : TG} (G : Tgt tg f em u) (Δ : S → List Ent) (stp : S → α → S ⊕ R) (s0 : S) (J : Nat → S → Prop) (B : Bs c H σ δ) (h : Ev (c.hd f δ) tl σ H (eL em xs)) (w : LeA δ (Δ s0)) (j0 : J 0 s0)
    (body : ∀ (B0 : Hp), Ex c.B B0 → ∀ (n : Nat) (s : S) (x : α) (σ1 : Sta) (H1 : Hp), x ∈ xs → n < xs.length → (∀ r, stp s x = .inr r → loopE stp xs s0 = .inr r) → J n s → Bs { c with B := B0 } H1 σ1 (u x (Δ s)) →
      ts { D with nx := EX c B0 S R Δ J (n + 1) (stp s x), ct := EX c B0 S R Δ J (n + 1) (stp s x), bk := tz D } σ1 H1)
    (done : ∀ s σ1 H1, loopE stp xs s0 = .inl s → J xs.length s → Bs c H1 σ1 (Δ s) → tz D σ1 H1) : tSeq (tFor (iList K tl) tg ts) tz D σ H := by
  refine h.go fun v H2 e2 hv => ?_
  have B2 := B.mono e2
  cases hv with
  | @lst p vs _ hp hr =>
    have u := B2.under
    have W : ∀ {H3 σ3 s}, Bs { c with B := hid (fun a => Adr δ a) H2 } H3 σ3 (Δ s) → Ex (hid (c.hd f δ) H2) (hid (c.hd f (Δ s)) H3) := fun B3 => B3.pers fun a u q => at_has q
    have hl : vs.length = xs.length := by rw [hr.length, List.length_map]
    refine ⟨p, rfl, ⟨vs, .inl (.inl (hid_ex _ _ hp))⟩, it_flex (m := xs.length) (NX c _ S Δ (fun n s => loopE stp xs s0 = loopE stp (xs.drop n) s ∧ J n s)) ⟨s0, ⟨by simp, j0⟩, (B2.rebase).le w⟩ (fun n σ3 H3 hn ⟨s, _, B3⟩ => ?_) (fun σ3 H3 ⟨s, _, B3⟩ => ?_) (fun n σ3 H3 hn ⟨s, hi, B3⟩ => ?_) (fun σ3 H3 ⟨s, hi, B3⟩ => ?_)⟩
    · exact ⟨vs, vs[n]'(by omega), .inl (.inl (hid_ex _ _ (W B3 _ _ hp))), List.getElem?_eq_getElem (by omega)⟩
    · exact ⟨vs, .inl (.inl (hid_ex _ _ (W B3 _ _ hp))), by omega⟩
    · refine ⟨EX c _ S R Δ J (n + 1) (stp s xs[n]), fun σ' H' q => exit_core (List.getElem?_eq_getElem hn) hi.1 q, ?_⟩
      rintro x H' ⟨rfl, hx⟩
      have ex := hx _ (.inl (.inl (hid_ex _ _ (W B3 _ _ hp))))
      obtain ⟨d, hd, q⟩ := hr.get' ex
      rw [List.getElem?_map, List.getElem?_eq_getElem hn] at hd
      cases hd
      exact G B3 (q.mono (W B3)) fun σ4 B4 => body _ u n s xs[n] _ _ (List.getElem_mem hn) hn (fun r hr => by rw [hi.1, loopE_at (List.getElem?_eq_getElem hn), hr]) hi.2 B4
    · refine done s _ _ ?_ hi.2 (B3.debase u)
      rw [hi.1, List.drop_length]; rfl
theorem q_exitTG {u : α → List Ent → List Ent} {tg : TG} (G : Tgt tg f em u) (Δ : S → List Ent) (stp : S → α → S ⊕ R) (s0 : S) (J : Nat → S → Prop) (B : Bs c H σ δ) (h : Ev (c.hd f δ) tl σ H (eTu em xs)) (w : LeA δ (Δ s0)) (j0 : J 0 s0)
    (body : ∀ (B0 : Hp), Ex c.B B0 → ∀ (n : Nat) (s : S) (x : α) (σ1 : Sta) (H1 : Hp), x ∈ xs → n < xs.length → (∀ r, stp s x = .inr r → loopE stp xs s0 = .inr r) → J n s → Bs { c with B := B0 } H1 σ1 (u x (Δ s)) →
      ts { D with nx := EX c B0 S R Δ J (n + 1) (stp s x), ct := EX c B0 S R Δ J (n + 1) (stp s x), bk := tz D } σ1 H1)
    (done : ∀ s σ1 H1, loopE stp xs s0 = .inl s → J xs.length s → Bs c H1 σ1 (Δ s) → tz D σ1 H1) : tSeq (tFor (iTup K tl) tg ts) tz D σ H := by
  refine h.go fun v H2 e2 hv => ?_
  have B2 := B.mono e2
  cases hv with
  | @tup p vs _ hp hr =>
    have u := B2.under
    have W : ∀ {H3 σ3 s}, Bs { c with B := hid (fun a => Adr δ a) H2 } H3 σ3 (Δ s) → Ex (hid (c.hd f δ) H2) (hid (c.hd f (Δ s)) H3) := fun B3 => B3.pers fun a u q => at_has q
    have hl : vs.length = xs.length := by rw [hr.length, List.length_map]
    refine ⟨p, rfl, ⟨vs, .inl (.inl (hid_ex _ _ hp))⟩, it_flex (m := xs.length) (NX c _ S Δ (fun n s => loopE stp xs s0 = loopE stp (xs.drop n) s ∧ J n s)) ⟨s0, ⟨by simp, j0⟩, (B2.rebase).le w⟩ (fun n σ3 H3 hn ⟨s, _, B3⟩ => ?_) (fun σ3 H3 ⟨s, _, B3⟩ => ?_) (fun n σ3 H3 hn ⟨s, hi, B3⟩ => ?_) (fun σ3 H3 ⟨s, hi, B3⟩ => ?_)⟩
    · exact ⟨vs, vs[n]'(by omega), .inl (.inl (hid_ex _ _ (W B3 _ _ hp))), List.getElem?_eq_getElem (by omega)⟩
    · exact ⟨vs, .inl (.inl (hid_ex _ _ (W B3 _ _ hp))), by omega⟩
    · refine ⟨EX c _ S R Δ J (n + 1) (stp s xs[n]), fun σ' H' q => exit_core (List.getElem?_eq_getElem hn) hi.1 q, ?_⟩
      rintro x H' ⟨rfl, hx⟩
      have ex := hx _ (.inl (.inl (hid_ex _ _ (W B3 _ _ hp))))
      obtain ⟨d, hd, q⟩ := hr.get' ex
      rw [List.getElem?_map, List.getElem?_eq_getElem hn] at hd
      cases hd
      exact G B3 (q.mono (W B3)) fun σ4 B4 => body _ u n s xs[n] _ _ (List.getElem_mem hn) hn (fun r hr => by rw [hi.1, loopE_at (List.getElem?_eq_getElem hn), hr]) hi.2 B4
    · refine done s _ _ ?_ hi.2 (B3.debase u)
      rw [hi.1, List.drop_length]; rfl
/-- enumerate over a list, with a pair of names -/
theorem q_exitEN {α : Type} {em : α → PyData} {xs : List α} {k : Nat} (Δ : S → List Ent) (stp : S → Int × α → S ⊕ R) (s0 : S) (J : Nat → S → Prop) (B : Bs c H σ δ) (h : Ev (c.hd f δ) tl σ H (eL em xs)) (w : LeA δ (Δ s0)) (j0 : J 0 s0)
    (body : ∀ (B0 : Hp), Ex c.B B0 → ∀ (n : Nat) (s : S) (x : Int × α) (σ1 : Sta) (H1 : Hp), xs[n]? = some x.2 → x.1 = n → n < xs.length → (∀ r, stp s x = .inr r → loopE stp (enumI xs) s0 = .inr r) → J n s → Bs { c with B := B0 } H1 σ1 (((Δ s).set j (.va true (eI x.1))).set k (.va f (em x.2))) →
      ts { D with nx := EX c B0 S R Δ J (n + 1) (stp s x), ct := EX c B0 S R Δ J (n + 1) (stp s x), bk := tz D } σ1 H1)
    (done : ∀ s σ1 H1, loopE stp (enumI xs) s0 = .inl s → J xs.length s → Bs c H1 σ1 (Δ s) → tz D σ1 H1) : tSeq (tFor (iEnum K (tCons tl tNil)) (gTup K 2 (gCons (gName j) (gCons (gName k) gNil))) ts) tz D σ H := by
  refine h.go fun v H2 e2 hv => ?_
  have B2 := B.mono e2
  cases hv with
  | @lst p vs _ hp hr =>
    have u := B2.under
    have W : ∀ {H3 σ3 s}, Bs { c with B := hid (fun a => Adr δ a) H2 } H3 σ3 (Δ s) → Ex (hid (c.hd f δ) H2) (hid (c.hd f (Δ s)) H3) := fun B3 => B3.pers fun a u q => at_has q
    have hl : vs.length = xs.length := by rw [hr.length, List.length_map]
    refine ⟨p, _, rfl, .inl (.inl (hid_ex _ _ hp)), it_flex (m := xs.length) (NX c _ S Δ (fun n s => loopE stp (enumI xs) s0 = loopE stp ((enumI xs).drop n) s ∧ J n s)) ⟨s0, ⟨by simp, j0⟩, (B2.rebase).le w⟩ (fun n σ3 H3 hn ⟨s, _, B3⟩ => ?_) (fun σ3 H3 ⟨s, _, B3⟩ => ?_) (fun n σ3 H3 hn ⟨s, hi, B3⟩ => ?_) (fun σ3 H3 ⟨s, hi, B3⟩ => ?_)⟩
    · exact ⟨vs, vs[n]'(by omega), .inl (.inl (hid_ex _ _ (W B3 _ _ hp))), List.getElem?_eq_getElem (by omega)⟩
    · exact ⟨vs, .inl (.inl (hid_ex _ _ (W B3 _ _ hp))), by omega⟩
    · have hg : (enumI xs)[n]? = some ((n : Int), xs[n]) := enumI_get (List.getElem?_eq_getElem hn)
      refine ⟨EX c _ S R Δ J (n + 1) (stp s ((n : Int), xs[n])), fun σ' H' q => exit_core hg hi.1 q, ?_⟩
      rintro _ H' ⟨T, x, rfl, hT, rfl, hx⟩
      have ex := hx _ (.inl (.inl (hid_ex _ _ (W B3 _ _ hp))))
      obtain ⟨d, hd, q⟩ := hr.get' ex
      rw [List.getElem?_map, List.getElem?_eq_getElem hn] at hd
      cases hd
      have eT := Evl.Ex.new (o := HO.tup [V.int (n : Int), x]) hT
      refine ⟨T, _, rfl, .inl (.inl (upd_same ..)), rfl, _, _, rfl, _, _, rfl, rfl, ?_⟩
      exact body _ u n s ((n : Int), xs[n]) _ _ (List.getElem?_eq_getElem hn) rfl hn (fun r hr => by rw [hi.1, loopE_at hg, hr]) hi.2 (set_va (f := f) (set_va (f := true) (B3.mono eT) (.int _)) (((q.mono (W B3)).mono (hid_mono eT)).mono hd_va))
    · refine done s _ _ ?_ hi.2 (B3.debase u)
      rw [hi.1, List.drop_eq_nil_of_le (by rw [enumI_len]; exact Nat.le_refl _)]; rfl
theorem loopE_inl {stp : S → α → S} : ∀ (xs : List α) (s : S), loopE (R := R) (fun s x => .inl (stp s x)) xs s = .inl (xs.foldl stp s)
  | [], _ => rfl
  | x :: xs, s => by
    show loopE _ xs (stp s x) = _
    exact loopE_inl xs _
theorem FX_EX {B0 : Hp} {Δ : S → List Ent} {J : Nat → S → Prop} {n : Nat} {s : S} : FX c B0 S Δ J n s = EX c B0 S Unit Δ J n (.inl s) := by
  funext σ H
  apply propext
  constructor
  · rintro ⟨s', rfl, h⟩; exact ⟨_, rfl, h⟩
  · rintro ⟨s', h1, h⟩; cases h1; exact ⟨_, rfl, h⟩
theorem q_foldLG {u : α → List Ent → List Ent} {tg : TG} (G : Tgt tg f em u) (Δ : S → List Ent) (stp : S → α → S) (s0 : S) (J : Nat → S → Prop) (B : Bs c H σ δ) (h : Ev (c.hd f δ) tl σ H (eL em xs)) (w : LeA δ (Δ s0)) (j0 : J 0 s0)
    (body : ∀ (B0 : Hp), Ex c.B B0 → ∀ (n : Nat) (s : S) (x : α) (σ1 : Sta) (H1 : Hp), x ∈ xs → n < xs.length → J n s → Bs { c with B := B0 } H1 σ1 (u x (Δ s)) →
      ts { D with nx := FX c B0 S Δ J (n + 1) (stp s x), ct := FX c B0 S Δ J (n + 1) (stp s x), bk := tz D } σ1 H1)
    (done : ∀ s σ1 H1, s = xs.foldl stp s0 → J xs.length s → Bs c H1 σ1 (Δ s) → tz D σ1 H1) : tSeq (tFor (iList K tl) tg ts) tz D σ H :=
  q_exitLG (R := Unit) G Δ (fun s x => .inl (stp s x)) s0 J B h w j0 (fun B0 e0 n s x σ1 H1 hx hn _ hJ B => by
    have := body B0 e0 n s x σ1 H1 hx hn hJ B
    rw [FX_EX] at this
    exact this) (fun s σ1 H1 hs hJ B => done s σ1 H1 (by rw [loopE_inl] at hs; exact (Sum.inl.inj hs).symm) hJ B)
theorem q_foldTG {u : α → List Ent → List Ent} {tg : TG} (G : Tgt tg f em u) (Δ : S → List Ent) (stp : S → α → S) (s0 : S) (J : Nat → S → Prop) (B : Bs c H σ δ) (h : Ev (c.hd f δ) tl σ H (eTu em xs)) (w : LeA δ (Δ s0)) (j0 : J 0 s0)
    (body : ∀ (B0 : Hp), Ex c.B B0 → ∀ (n : Nat) (s : S) (x : α) (σ1 : Sta) (H1 : Hp), x ∈ xs → n < xs.length → J n s → Bs { c with B := B0 } H1 σ1 (u x (Δ s)) →
      ts { D with nx := FX c B0 S Δ J (n + 1) (stp s x), ct := FX c B0 S Δ J (n + 1) (stp s x), bk := tz D } σ1 H1)
    (done : ∀ s σ1 H1, s = xs.foldl stp s0 → J xs.length s → Bs c H1 σ1 (Δ s) → tz D σ1 H1) : tSeq (tFor (iTup K tl) tg ts) tz D σ H :=
  q_exitTG (R := Unit) G Δ (fun s x => .inl (stp s x)) s0 J B h w j0 (fun B0 e0 n s x σ1 H1 hx hn _ hJ B => by
    have := body B0 e0 n s x σ1 H1 hx hn hJ B
    rw [FX_EX] at this
    exact this) (fun s σ1 H1 hs hJ B => done s σ1 H1 (by rw [loopE_inl] at hs; exact (Sum.inl.inj hs).symm) hJ B)
theorem q_foldEN {α : Type} {em : α → PyData} {xs : List α} {k : Nat} (Δ : S → List Ent) (stp : S → Int × α → S) (s0 : S) (J : Nat → S → Prop) (B : Bs c H σ δ) (h : Ev (c.hd f δ) tl σ H (eL em xs)) (w : LeA δ (Δ s0)) (j0 : J 0 s0)
    (body : ∀ (B0 : Hp), Ex c.B B0 → ∀ (n : Nat) (s : S) (x : Int × α) (σ1 : Sta) (H1 : Hp), xs[n]? = some x.2 → x.1 = n → n < xs.length → J n s → Bs { c with B := B0 } H1 σ1 (((Δ s).set j (.va true (eI x.1))).set k (.va f (em x.2))) →
      ts { D with nx := FX c B0 S Δ J (n + 1) (stp s x), ct := FX c B0 S Δ J (n + 1) (stp s x), bk := tz D } σ1 H1)
    (done : ∀ s σ1 H1, s = (enumI xs).foldl stp s0 → J xs.length s → Bs c H1 σ1 (Δ s) → tz D σ1 H1) : tSeq (tFor (iEnum K (tCons tl tNil)) (gTup K 2 (gCons (gName j) (gCons (gName k) gNil))) ts) tz D σ H :=
  q_exitEN (R := Unit) Δ (fun s x => .inl (stp s x)) s0 J B h w j0 (fun B0 e0 n s x σ1 H1 hx h1 hn _ hJ B => by
    have := body B0 e0 n s x σ1 H1 hx h1 hn hJ B
    rw [FX_EX] at this
    exact this) (fun s σ1 H1 hs hJ B => done s σ1 H1 (by rw [loopE_inl] at hs; exact (Sum.inl.inj hs).symm) hJ B)
/-- a list's, a tuple's truth -/
theorem et_truthL (h : Ev o0 te σ H (eL em xs)) : EvT (fun σ H Q => te σ H fun x H' => ∃ k, TruV K x H' k ∧ Q k H') σ H (!xs.isEmpty) := fun H1 a Q q =>
  h H1 a _ fun v H2 e2 hv => by
    cases hv with
    | @lst p vs _ hp hr =>
      refine ⟨_, .inl ⟨vs, .inl (.inl (hid_ex _ _ hp)), rfl⟩, ?_⟩
      have : vs.isEmpty = xs.isEmpty := by
        have := hr.length
        cases vs <;> cases xs <;> simp_all
      rw [this]; exact q H2 e2
theorem et_truthTu (h : Ev o0 te σ H (eTu em xs)) : EvT (fun σ H Q => te σ H fun x H' => ∃ k, TruV K x H' k ∧ Q k H') σ H (!xs.isEmpty) := fun H1 a Q q =>
  h H1 a _ fun v H2 e2 hv => by
    cases hv with
    | @tup p vs _ hp hr =>
      refine ⟨_, .inr (.inl ⟨vs, .inl (.inl (hid_ex _ _ hp)), rfl⟩), ?_⟩
      have : vs.isEmpty = xs.isEmpty := by
        have := hr.length
        cases vs <;> cases xs <;> simp_all
      rw [this]; exact q H2 e2
theorem q_extT {xs ys : List α} (B : Bs c H σ δ) (hx : δ[i]? = some (.ow f a (xs.map em))) (h : Ev (c.hd f δ) te σ H (eTu em ys)) (hz : xs.length + ys.length ≤ 100000) (k : ∀ H1, Bs c H1 σ (δ.set i (.ow f a ((xs ++ ys).map em))) → tz D σ H1) :
    tSeq (tDrop (tBM K "list" rExtT (tVar i) (tCons te tNil))) tz D σ H := by
  obtain ⟨vs, e, ha, hv⟩ := B.ent i _ hx
  refine ⟨.ref a, e, .inl ⟨rfl, vs, .inl (.inl ha)⟩, h.go fun v H2 e2 hd => ?_⟩
  cases hd with
  | @tup p ws _ hp hr =>
    refine ⟨a, p, vs, ws, rfl, rfl, e2 _ _ ha, hid_ex _ _ hp, by rw [hv.length, hr.length, List.length_map, List.length_map]; exact hz, k _ ?_⟩
    rw [List.map_append]
    exact set_in (B.mono e2) hx ((hv.mono (hid_mono e2)).append hr)
theorem q_extL {xs ys : List α} (B : Bs c H σ δ) (hx : δ[i]? = some (.ow f a (xs.map em))) (h : Ev (c.hd f δ) te σ H (eL em ys)) (hz : xs.length + ys.length ≤ 100000) (k : ∀ H1, Bs c H1 σ (δ.set i (.ow f a ((xs ++ ys).map em))) → tz D σ H1) :
    tSeq (tDrop (tBM K "list" rExtend (tVar i) (tCons te tNil))) tz D σ H := by
  obtain ⟨vs, e, ha, hv⟩ := B.ent i _ hx
  refine ⟨.ref a, e, .inl ⟨rfl, vs, .inl (.inl ha)⟩, h.go fun v H2 e2 hd => ?_⟩
  cases hd with
  | @lst p ws _ hp hr =>
    refine ⟨a, p, vs, ws, rfl, rfl, e2 _ _ ha, hid_ex _ _ hp, by rw [hv.length, hr.length, List.length_map, List.length_map]; have : sizeLine = 16777216 := rfl; omega, k _ ?_⟩
    rw [List.map_append]
    exact set_in (B.mono e2) hx ((hv.mono (hid_mono e2)).append hr)
end
theorem DnA.scs {H H' : Hp} {α : Type} {em : α → PyData} (hs : ∀ x, Sc (em x)) : ∀ {vs : List V} {ys : List α}, DnA H vs (ys.map em) → DnA H' vs (ys.map em)
  | _, [], .nil => .nil
  | _, y :: ys, .cons h r => .cons (Dn.sc (hs y) h) (DnA.scs hs r)
section
variable {K : PySem.W.Frag} {c : Wd} {o : Hd} {H H1 H' : Hp} {σ : Sta} {δ δ' : List Ent} {i j : Nat} {f g b : Bool} {a : Addr} {te : TE} {tz : TS} {D : Ends} {α : Type} {em : α → PyData} {xs ys : List α}
theorem q_extT0 {xs ys : List α} (hs : ∀ x, Sc (em x)) (B : Bs c H σ δ) (hx : δ[i]? = some (.ow f a (xs.map em))) (h : Ev o0 te σ H (eTu em ys)) (hz : xs.length + ys.length ≤ 100000) (k : ∀ H1, Bs c H1 σ (δ.set i (.ow f a ((xs ++ ys).map em))) → tz D σ H1) :
    tSeq (tDrop (tBM K "list" rExtT (tVar i) (tCons te tNil))) tz D σ H := by
  obtain ⟨vs, e, ha, hv⟩ := B.ent i _ hx
  refine ⟨.ref a, e, .inl ⟨rfl, vs, .inl (.inl ha)⟩, h.go fun v H2 e2 hd => ?_⟩
  cases hd with
  | @tup p ws _ hp hr =>
    refine ⟨a, p, vs, ws, rfl, rfl, e2 _ _ ha, hid_ex _ _ hp, by rw [hv.length, hr.length, List.length_map, List.length_map]; exact hz, k _ ?_⟩
    rw [List.map_append]
    exact set_in (B.mono e2) hx ((hv.mono (hid_mono e2)).append (hr.scs hs))
theorem q_extL0 {xs ys : List α} (hs : ∀ x, Sc (em x)) (B : Bs c H σ δ) (hx : δ[i]? = some (.ow f a (xs.map em))) (h : Ev o0 te σ H (eL em ys)) (hz : xs.length + ys.length ≤ 100000) (k : ∀ H1, Bs c H1 σ (δ.set i (.ow f a ((xs ++ ys).map em))) → tz D σ H1) :
    tSeq (tDrop (tBM K "list" rExtend (tVar i) (tCons te tNil))) tz D σ H := by
  obtain ⟨vs, e, ha, hv⟩ := B.ent i _ hx
  refine ⟨.ref a, e, .inl ⟨rfl, vs, .inl (.inl ha)⟩, h.go fun v H2 e2 hd => ?_⟩
  cases hd with
  | @lst p ws _ hp hr =>
    refine ⟨a, p, vs, ws, rfl, rfl, e2 _ _ ha, hid_ex _ _ hp, by rw [hv.length, hr.length, List.length_map, List.length_map]; have : sizeLine = 16777216 := rfl; omega, k _ ?_⟩
    rw [List.map_append]
    exact set_in (B.mono e2) hx ((hv.mono (hid_mono e2)).append (hr.scs hs))
end
theorem whileF_congr {S : Type} {c c' : S → Bool} {f f' : S → S} {I : S → Prop} (hc : ∀ s, I s → c s = c' s) (hf : ∀ s, I s → c s = true → f s = f' s ∧ I (f s)) : ∀ (n : Nat) (s : S), I s → whileF c f n s = whileF c' f' n s
  | 0, s, _ => rfl
  | n + 1, s, h => by
    rw [whileF, whileF, ← hc s h]
    by_cases q : c s = true
    · obtain ⟨h1, h2⟩ := hf s h q
      rw [if_pos q, if_pos q, ← h1]
      exact whileF_congr hc hf n _ h2
    · rw [if_neg q, if_neg q]
theorem whileF_post {S : Type} {c : S → Bool} {f : S → S} {I : S → Prop} {M : S → Nat} (pres : ∀ s, I s → c s = true → I (f s) ∧ M (f s) < M s) : ∀ (n : Nat) (s : S), I s → M s ≤ n → I (whileF c f n s) ∧ c (whileF c f n s) = false
  | 0, s, h, hM => by
    refine ⟨h, ?_⟩
    cases q : c s with
    | false => exact q
    | true => have := (pres s h q).2; omega
  | n + 1, s, h, hM => by
    rw [whileF]
    by_cases q : c s = true
    · rw [if_pos q]
      obtain ⟨h1, h2⟩ := pres s h q
      exact whileF_post pres n _ h1 (by omega)
    · rw [if_neg q]
      exact ⟨h, by simpa using q⟩
end HL
namespace HL
open PySem PySem.Spec PyProof.Rows L2
open PySem.Builtin PyProof
open Evl (Ex)
@[reducible] def eP2 {α β : Type} (e1 : α → PyData) (e2 : β → PyData) (p : α × β) : PyData := .list [e1 p.1, e2 p.2]
@[reducible] def eP3 {α β γ : Type} (e1 : α → PyData) (e2 : β → PyData) (e3 : γ → PyData) (p : α × β × γ) : PyData := .list [e1 p.1, e2 p.2.1, e3 p.2.2]
section
variable {K : PySem.W.Frag} {c : Wd} {o : Hd} {H H1 H' : Hp} {σ : Sta} {δ δ' : List Ent} {i j : Nat} {f g b : Bool} {a p q pp : Addr} {d e : PyData} {ds es : List PyData} {ta tb te tl : TE} {t : TT} {ts tu tw tz : TS} {D : Ends} {α β γ S R : Type} {em : α → PyData} {em2 : β → PyData} {emg : γ → PyData} {xs ys : List α} {n : Nat} {m : Int} {vs ws rs : List V} {u : HO}
section
variable [DecidableEq α] [DecidableEq β] [DecidableEq γ] {gd : α → Prop} {gd2 : β → Prop} {gd3 : γ → Prop} {n1 n2 n3 : Nat}
theorem emP2 (h : Em em gd n1) (h2 : Em em2 gd2 n2) : Em (eP2 em em2) (fun p => gd p.1 ∧ gd2 p.2) (max n1 n2 + 1) := ⟨fun p => by simp [flatD, flatDs, h.flat, h2.flat], fun p g => by simp [PyData.canLay0, PyData.canLayAll0, h.lay _ g.1, h2.lay _ g.2], fun p => by
    have a := h.dep p.1
    have b := h2.dep p.2
    simp [PyData.depth, PyData.depthAll]; omega, fun p q => by
    obtain ⟨p1, p2⟩ := p
    obtain ⟨q1, q2⟩ := q
    simp only [PyData.eqv, PyData.eqvAll, h.eqv, h2.eqv]
    rw [Bool.eq_iff_iff]; simp⟩
theorem emT3 (h : Em em gd n1) (h2 : Em em2 gd2 n2) (h3 : Em emg gd3 n3) : Em (eT3 em em2 emg) (fun p => gd p.1 ∧ gd2 p.2.1 ∧ gd3 p.2.2) (max n1 (max n2 n3) + 1) := ⟨fun p => by simp [flatD, flatDs, h.flat, h2.flat, h3.flat], fun p g => by simp [PyData.canLay0, PyData.canLayAll0, h.lay _ g.1, h2.lay _ g.2.1, h3.lay _ g.2.2], fun p => by
    have a := h.dep p.1
    have b := h2.dep p.2.1
    have c := h3.dep p.2.2
    simp [PyData.depth, PyData.depthAll]; omega, fun p q => by
    obtain ⟨p1, p2, p3⟩ := p
    obtain ⟨q1, q2, q3⟩ := q
    simp only [PyData.eqv, PyData.eqvAll, h.eqv, h2.eqv, h3.eqv]
    rw [Bool.eq_iff_iff]; simp⟩
end
/-- a list of the body's own that no slot holds -/
def PK (c : Wd) (p : Addr) (vs : List V) (ds : List PyData) : Prop := c.N p ∧ c.B p = some (.lst vs) ∧ DnA (hid c.N c.B) vs ds
/-- the list that holds it -/
def PO (c : Wd) (p : Addr) (rs : List V) : Prop := c.N p ∧ c.B p = some (.lst rs)
noncomputable def Wd.put (c : Wd) (p : Addr) (u : HO) : Wd := { c with B := upd c.B p u }
theorem PK.put (hq : c.N q) (ne : p ≠ q) (h : PK c p vs ds) : PK (c.put q u) p vs ds := by
  refine ⟨h.1, by show upd c.B q u p = _; rw [upd_ne ne]; exact h.2.1, ?_⟩
  show DnA (hid c.N (upd c.B q u)) vs ds
  rw [hid_upd_in hq]; exact h.2.2
theorem PK.is (h : PK c p vs ds) (e : ds = es) : PK c p vs es := e ▸ h
theorem PO.put (ne : p ≠ q) (h : PO c p rs) : PO (c.put q u) p rs := ⟨h.1, by show upd c.B q u p = _; rw [upd_ne ne]; exact h.2⟩
theorem Ex.put (ne : c.B p ≠ none → H p = none) (h : Ex H c.B) (hp : H p = none) : Ex H (c.put p u).B := fun b v hb => by
  show upd c.B p u b = _
  rw [upd_ne (ne_of_none hb hp)]; exact h b v hb
theorem PK.dn (B : Bs c H σ δ) (h : PK c p vs ds) : Dn (hid o0 H) (.ref p) (.list ds) := by
  rw [show hid o0 H = H from hid_none]
  exact .lst (B.base _ _ h.2.1) ((h.2.2.mono hid_ex).mono B.base)
theorem ev_raIx (B : Bs c H σ δ) (hs : δ[i]? = some (.rw (.ref pp))) (hO : PO c pp rs) (hk : atI rs m = some (.ref p)) (h : PK c p vs ds) : Ev o0 (tOp (rIxL K) (tVar i) (tC (.int m))) σ H (.list ds) := fun H1 x Q k =>
  ⟨.ref pp, B.ent i _ hs, pp, rs, m, .ref p, rfl, rfl, .inl (.inl (x _ _ (B.base _ _ hO.2))), hk, k _ H1 (Ex.refl H1) (h.dn (B.mono x))⟩
theorem ev_ra2 (B : Bs c H σ δ) (hs : δ[i]? = some (.rw (.ref pp))) (hO : PO c pp [.ref p, .ref q]) (h1 : PK c p vs ds) (h2 : PK c q ws es) : Ev o0 (tVar i) σ H (.list [.list ds, .list es]) := fun H1 x Q k =>
  ⟨.ref pp, B.ent i _ hs, k _ H1 (Ex.refl H1) (by
    have B1 := B.mono x
    have d1 := h1.dn B1
    have d2 := h2.dn B1
    refine .lst (by rw [show hid o0 H1 = H1 from hid_none]; exact B1.base _ _ hO.2) (.cons d1 (.cons d2 .nil)))⟩
theorem Bs.addN {r : Addr} {w : HO} (B : Bs c H σ δ) (e : Ex H H1) (nr : H r = none) (hr : H1 r = some w) : Bs { c with N := fun b => c.N b ∨ b = r } H1 σ δ := by
  have lv : ∀ b, Adr δ b → H b ≠ none := fun b ⟨k, g, es, z⟩ q => by
    obtain ⟨_, _, w, _⟩ := B.ent k _ z
    rw [w] at q; cases q
  have big : ∀ f, Ex (hid (c.hd f δ) H) (hid (({ c with N := fun b => c.N b ∨ b = r } : Wd).hd f δ) H1) := fun f b u z => by
    obtain ⟨z1, z2⟩ := hid_of z
    rw [hid_at]
    · exact e _ _ z2
    · rintro (q | (q | q) | q)
      · exact z1 (.inl q)
      · exact z1 (.inr (.inl q))
      · subst q; rw [nr] at z2; cases z2
      · exact z1 (.inr (.inr q))
  refine ⟨B.base.trans e, B.liO.mono e, fun b z y => ?_, fun b z => ⟨(B.own b z).1, (B.own b z).2.1, fun y => ?_⟩, B.one, B.len, fun x d he => ?_⟩
  · rcases z with z | z
    · exact (B.liN.mono e) b z y
    · subst z; rw [hr] at y; cases y
  · rcases y with y | y
    · exact (B.own b z).2.2 y
    · subst y; exact lv _ z nr
  · have w := B.ent x d he
    cases d with
    | no => trivial
    | va f d => obtain ⟨v, y, w⟩ := w; exact ⟨v, y, w.mono (big f)⟩
    | ow f a ds => obtain ⟨vs, y, w, r⟩ := w; exact ⟨vs, y, e _ _ w, r.mono (big f)⟩
    | rw v => exact w
/-- passed = [list(x), list(y)] -/
theorem q_pass2 (B : Bs c H σ δ) (hj : δ[i]? = some .no) (ha : Ev (c.hd false δ) ta σ H (.list ds)) (hb : ∀ (c' : Wd) (H' : Hp), Bs c' H' σ δ → Ev (c'.hd false δ) tb σ H' (.list es))
    (k : ∀ (p0 p1 pp : Addr) (vs ws : List V) (c' : Wd) (σ1 : Sta) (H1 : Hp), Ex c.B c'.B → H p0 = none → H p1 = none → p0 ≠ p1 → pp ≠ p0 → pp ≠ p1 → PO c' pp [.ref p0, .ref p1] → PK c' p0 vs ds → PK c' p1 ws es → Bs c' H1 σ1 (δ.set i (.rw (.ref pp))) → tz D σ1 H1) :
    tSeq (tAsg (tLst (tCons (tCB (rListOfK K) (tCons ta tNil)) (tCons (tCB (rListOfK K) (tCons tb tNil)) tNil))) (gName i)) tz D σ H := by
  show tCB (rListOfK K) (tCons ta tNil) σ H (fun x H1 => tCB (rListOfK K) (tCons tb tNil) σ H1 fun y H2 => [x, y].length ≤ sizeLine ∧ ∀ p, H2 p = none → tz D (σ.set i (some (.ref p))) (upd H2 p (.lst [x, y])))
  refine (en_listL ha) H (Ex.refl H) _ fun p0 vs H1 n0 e1 hp0 d0 => (en_listL (hb _ H1 (B.addN e1 n0 hp0))) H1 (Ex.refl H1) _ fun p1 ws H2 n1 e2 hp1 d1 => ⟨by show 2 ≤ sizeLine; decide, fun pp npp => ?_⟩
  have e3 : Ex H2 (upd H2 pp (.lst [.ref p0, .ref p1])) := Evl.Ex.new npp
  have e02 := e1.trans e2
  have e03 := e02.trans e3
  have n1' : H p1 = none := Evl.fresh_back e1 n1
  have npp' : H pp = none := Evl.fresh_back e02 npp
  have e01 : p0 ≠ p1 := fun z => by rw [← z, hp0] at n1; cases n1
  have ep0 : pp ≠ p0 := fun z => by rw [z, e2 _ _ hp0] at npp; cases npp
  have ep1 : pp ≠ p1 := fun z => by rw [z, hp1] at npp; cases npp
  have sub : ∀ b, Adr (δ.set i (.rw (.ref pp))) b → Adr δ b := fun b z => by
    rcases adr_set z with z | ⟨_, _, z⟩
    · exact z
    · cases z
  have sub2 : ∀ b, Adr δ b → Adr (δ.set i (.rw (.ref pp))) b := fun b ⟨k, g, es, z⟩ => ⟨k, g, es, by
    rw [List.getElem?_set_ne (fun q => by subst q; rw [hj] at z; cases z)]; exact z⟩
  have lv : ∀ b, Adr δ b → H b ≠ none := fun b ⟨k, g, es, z⟩ q => by
    obtain ⟨_, _, w, _⟩ := B.ent k _ z
    rw [w] at q; cases q
  have big : ∀ f, Ex (hid (c.hd f δ) H) (hid ((⟨hid (fun b => Adr δ b) (upd H2 pp (.lst [.ref p0, .ref p1])), c.O, fun b => c.N b ∨ b = p0 ∨ b = p1 ∨ b = pp⟩ : Wd).hd f (δ.set i (.rw (.ref pp)))) (upd H2 pp (.lst [.ref p0, .ref p1]))) := fun f b u z => by
    obtain ⟨z1, z2⟩ := hid_of z
    rw [hid_at]
    · exact e03 _ _ z2
    · rintro (⟨q1, q2⟩ | q | q)
      · exact z1 (.inl ⟨q1, q2⟩)
      · rcases q with q | q | q | q
        · exact z1 (.inr (.inl q))
        · subst q; rw [n0] at z2; cases z2
        · subst q; rw [n1'] at z2; cases z2
        · subst q; rw [npp'] at z2; cases z2
      · exact z1 (.inr (.inr (sub b q)))
  have hB0 : hid (fun b => Adr δ b) (upd H2 pp (.lst [.ref p0, .ref p1])) p0 = some (.lst vs) := by
    rw [hid_at (fun z => lv _ z n0)]; exact e3 _ _ (e2 _ _ hp0)
  have hB1 : hid (fun b => Adr δ b) (upd H2 pp (.lst [.ref p0, .ref p1])) p1 = some (.lst ws) := by
    rw [hid_at (fun z => lv _ z n1')]; exact e3 _ _ hp1
  have hBp : hid (fun b => Adr δ b) (upd H2 pp (.lst [.ref p0, .ref p1])) pp = some (.lst [.ref p0, .ref p1]) := by
    rw [hid_at (fun z => lv _ z npp')]; exact upd_same
  have el : ∀ {us : List V} {dd : List PyData} {oo : Hd} {Hx : Hp}, Ex Hx (upd H2 pp (.lst [.ref p0, .ref p1])) → (∀ b u, ¬ oo b → Hx b = some u → ¬ c.N b ∧ ¬ Adr δ b ∧ b ≠ p0 ∧ b ≠ p1 ∧ b ≠ pp) → DnA (hid oo Hx) us dd → DnA (hid (fun b => c.N b ∨ b = p0 ∨ b = p1 ∨ b = pp) (hid (fun b => Adr δ b) (upd H2 pp (.lst [.ref p0, .ref p1])))) us dd := fun {us dd oo Hx} ex av h => h.mono fun b u z => by
    obtain ⟨z1, z2⟩ := hid_of z
    obtain ⟨a4, a5, a1, a2, a3⟩ := av b u z1 z2
    rw [hid_at, hid_at]
    · exact ex _ _ z2
    · exact a5
    · rintro (y | y | y | y)
      · exact a4 y
      · exact a1 y
      · exact a2 y
      · exact a3 y
  refine k p0 p1 pp vs ws ⟨hid (fun b => Adr δ b) (upd H2 pp (.lst [.ref p0, .ref p1])), c.O, fun b => c.N b ∨ b = p0 ∨ b = p1 ∨ b = pp⟩ _ _ (fun b u z => ?_) n0 n1' e01 ep0 ep1 ⟨.inr (.inr (.inr rfl)), hBp⟩ ⟨.inr (.inl rfl), hB0, el (e2.trans e3) (fun b u z1 z2 => ⟨fun y => z1 (.inl (.inr (.inl y))), fun y => z1 (.inl (.inr (.inr y))), fun y => z1 (.inr y), fun y => ?_, fun y => ?_⟩) d0⟩ ⟨.inr (.inr (.inl rfl)), hB1, el e3 (fun b u z1 z2 => ⟨fun y => z1 (.inl (.inr (.inl (.inl y)))), fun y => z1 (.inl (.inr (.inr y))), fun y => z1 (.inl (.inr (.inl (.inr y)))), fun y => z1 (.inr y), fun y => ?_⟩) d1⟩ ?_
  · show hid (fun b => Adr δ b) (upd H2 pp (.lst [.ref p0, .ref p1])) b = some u
    rw [hid_at (fun y => by rw [(B.own b y).1] at z; cases z)]
    exact e03 _ _ (B.base _ _ z)
  · subst y; rw [n1] at z2; cases z2
  · subst y; rw [e2 _ _ z2] at npp; cases npp
  · subst y; rw [npp] at z2; cases z2
  · refine ⟨hid_ex, B.liO.mono e03, fun b z y => ?_, fun b z => ⟨hid_in (sub b z), (B.own b (sub b z)).2.1, fun y => ?_⟩, fun x y f1 f2 a ds es q1 q2 => ?_, by rw [List.length_set, List.length_set]; exact B.len, fun x e he => ?_⟩
    · rcases z with z | z | z | z
      · exact (B.liN.mono e03) b z y
      · subst z; rw [e3 _ _ (e2 _ _ hp0)] at y; cases y
      · subst z; rw [e3 _ _ hp1] at y; cases y
      · subst z; rw [upd_same] at y; cases y
    · rcases y with y | y | y | y
      · exact (B.own b (sub b z)).2.2 y
      · subst y; exact lv _ (sub _ z) n0
      · subst y; exact lv _ (sub _ z) n1'
      · subst y; exact lv _ (sub _ z) npp'
    · have w : ∀ {k : Nat} {f' : Bool} {ds : List PyData}, (δ.set i (.rw (.ref pp)))[k]? = some (.ow f' a ds) → δ[k]? = some (.ow f' a ds) := fun {k f' ds} h => by
        by_cases z : i = k
        · subst z
          rw [List.getElem?_set] at h
          simp at h
        · rwa [List.getElem?_set_ne z] at h
      exact B.one _ _ _ _ _ _ _ (w q1) (w q2)
    · by_cases z : i = x
      · subst z
        have hl : i < δ.length := by
          rw [List.getElem?_eq_some_iff] at hj
          exact hj.1
        rw [List.getElem?_set] at he
        simp [hl] at he
        subst he
        show _ = _
        rw [List.getElem?_set]; simp [B.len, hl]
      · rw [List.getElem?_set_ne z] at he
        rw [List.getElem?_set_ne z]
        have w := B.ent x e he
        cases e with
        | no => trivial
        | va f d => obtain ⟨v, y, w⟩ := w; exact ⟨v, y, w.mono (big f)⟩
        | ow f a ds => obtain ⟨vs, y, w, r⟩ := w; exact ⟨vs, y, e03 _ _ w, r.mono (big f)⟩
        | rw v => exact w
theorem Bs.put (B : Bs c H σ δ) (hN : c.N p) : Bs (c.put p u) (upd H p u) σ δ := by
  have lv : ∀ {o : Hd}, Live o H → Live o (upd H p u) := fun {o} l b hb z => by
    by_cases q : b = p
    · subst q; rw [upd_same] at z; cases z
    · rw [upd_ne q] at z; exact l b hb z
  have hh : ∀ f, hid (c.hd f δ) (upd H p u) = hid (c.hd f δ) H := fun f => hid_upd_in (.inr (.inl hN))
  refine ⟨fun b v q => ?_, lv B.liO, lv B.liN, fun b z => ⟨?_, (B.own b z).2⟩, B.one, B.len, fun i e he => ?_⟩
  · have q : upd c.B p u b = some v := q
    by_cases z : b = p
    · subst z; rw [upd_same] at q ⊢; exact q
    · rw [upd_ne z] at q ⊢; exact B.base _ _ q
  · show upd c.B p u b = none
    rw [upd_ne (fun y => (B.own b z).2.2 (by rw [y]; exact hN))]
    exact (B.own b z).1
  · have w := B.ent i e he
    cases e with
    | no => trivial
    | va f d => obtain ⟨v, e, w⟩ := w; exact ⟨v, e, by show Dn (hid (c.hd f δ) (upd H p u)) v d; rw [hh]; exact w⟩
    | ow f b es =>
      obtain ⟨ws, e, w, r⟩ := w
      refine ⟨ws, e, ?_, by show DnA (hid (c.hd f δ) (upd H p u)) ws es; rw [hh]; exact r⟩
      rw [upd_ne (fun z => (B.own b ⟨i, f, es, he⟩).2.2 (by rw [z]; exact hN))]; exact w
    | rw v => exact w
theorem q_raApp (B : Bs c H σ δ) (hs : δ[i]? = some (.rw (.ref pp))) (hO : PO c pp rs) (hk : atI rs m = some (.ref p)) (h : PK c p vs ds) (hx : Ev c.N te σ H d) (hz : ds.length < 100000)
    (k : ∀ v H1, PK (c.put p (.lst (vs ++ [v]))) p (vs ++ [v]) (ds ++ [d]) → Bs (c.put p (.lst (vs ++ [v]))) H1 σ δ → tz D σ H1) (hc : Sc d) :
    tSeq (tDrop (tBM K "list" rAppend (tOp (rIxL K) (tVar i) (tC (.int m))) (tCons te tNil))) tz D σ H := by
  refine ⟨.ref pp, B.ent i _ hs, pp, rs, m, .ref p, rfl, rfl, .inl (.inl (B.base _ _ hO.2)), hk, .inl ⟨rfl, _, .inl (.inl (B.base _ _ h.2.1))⟩, hx.go fun v H2 e2 hd => ⟨p, vs, v, rfl, rfl, e2 _ _ (B.base _ _ h.2.1), Evl.sz_lt (by rw [h.2.2.length]; exact hz), k v _ ⟨h.1, upd_same, ?_⟩ ((B.mono e2).put h.1)⟩⟩
  show DnA (hid c.N (upd c.B p _)) _ _
  rw [hid_upd_in h.1]
  exact h.2.2.append (.one (Dn.sc hc hd))
theorem q_raClr (B : Bs c H σ δ) (hs : δ[i]? = some (.rw (.ref pp))) (hO : PO c pp rs) (hk : atI rs m = some (.ref p)) (h : PK c p vs ds)
    (k : ∀ H1, PK (c.put p (.lst [])) p [] [] → Bs (c.put p (.lst [])) H1 σ δ → tz D σ H1) :
    tSeq (tDrop (tBM0 K "list" rClear (tOp (rIxL K) (tVar i) (tC (.int m))))) tz D σ H := by
  refine ⟨.ref pp, B.ent i _ hs, pp, rs, m, .ref p, rfl, rfl, .inl (.inl (B.base _ _ hO.2)), hk, .inl ⟨rfl, _, .inl (.inl (B.base _ _ h.2.1))⟩, p, vs, rfl, rfl, B.base _ _ h.2.1, k _ ⟨h.1, upd_same, .nil⟩ (B.put h.1)⟩
theorem q_clr (B : Bs c H σ δ) (hx : δ[i]? = some (.ow f a ds)) (k : ∀ H1, Bs c H1 σ (δ.set i (.ow f a [])) → tz D σ H1) :
    tSeq (tDrop (tBM0 K "list" rClear (tVar i))) tz D σ H := by
  obtain ⟨vs, e, ha, hv⟩ := B.ent i _ hx
  exact ⟨.ref a, e, .inl ⟨rfl, vs, .inl (.inl ha)⟩, a, vs, rfl, rfl, ha, k _ (set_in B hx .nil)⟩
/-- data that holds no lists -/
def isLst (H : Hp) : Hd := fun b => ∃ xs, H b = some (.lst xs)
mutual
def noL : PyData → Bool
  | .list _ => false
  | .dict _ => false
  | .tuple ds => noLs ds
  | _ => true
def noLs : List PyData → Bool
  | [] => true
  | d :: ds => noL d && noLs ds
end
mutual
theorem Dn.noL {H : Hp} : ∀ {v : V} {d : PyData}, Dn H v d → HL.noL d = true → Dn (hid (isLst H) H) v d
  | _, _, .non, _ => .non
  | _, _, .bl b, _ => .bl b
  | _, _, .int i, _ => .int i
  | _, _, .str x, _ => .str x
  | _, _, .tup h r, e => .tup (by rw [hid_at (fun ⟨xs, z⟩ => by rw [h] at z; cases z)]; exact h) (DnA.noL r (by simpa [HL.noL] using e))
theorem DnA.noL {H : Hp} : ∀ {vs : List V} {ds : List PyData}, DnA H vs ds → noLs ds = true → DnA (hid (isLst H) H) vs ds
  | _, _, .nil, _ => .nil
  | _, _, .cons h r, e => .cons (Dn.noL h (by simp [noLs] at e; exact e.1)) (DnA.noL r (by simp [noLs] at e; exact e.2))
end
theorem hid_hid {o1 o2 : Hd} : hid o1 (hid o2 H) = hid (fun b => o1 b ∨ o2 b) H := by
  funext b
  by_cases q1 : o1 b
  · rw [hid_in q1, hid_in (Or.inl q1)]
  · rw [hid_at q1]
    by_cases q2 : o2 b
    · rw [hid_in q2, hid_in (Or.inr q2)]
    · rw [hid_at q2, hid_at (fun z => z.elim q1 q2)]
theorem q_asgMN {Rl : List PyData → List PyData → PyData → List PyData → Prop} {E : XK} {ds' : List PyData} (B : Bs c H σ δ) (hx : δ[j]? = some (.ow f a ds)) (hne : i ≠ j) (hR : Rl ds [] (.list es) ds') (hn : noLs ds = true) (hn' : noLs ds' = true) (hn2 : noLs es = true)
    (k : ∀ p σ1 H1, Bs c H1 σ1 ((δ.set i (.ow f p es)).set j (.ow f a ds')) → tz D σ1 H1) :
    tSeq (tAsg (tCall (SpM Rl) [] E (tCons (tVar j) tNil)) (gName i)) tz D σ H := by
  obtain ⟨vs, e1, ha, hv⟩ := B.ent j _ hx
  have lo : Live (fun b => c.hd f δ b ∨ isLst H b) H := fun b z y => by
    rcases z with z | ⟨xs, z⟩
    · exact B.live f b z y
    · rw [z] at y; cases y
  have hv' : DnA (hid (fun b => c.hd f δ b ∨ isLst H b) H) vs ds := by
    have q := hv.noL hn
    rw [hid_hid] at q
    refine q.mono (hid_sub fun b z => ?_)
    rcases z with z | ⟨xs, z⟩
    · exact .inr z
    · by_cases y : c.hd f δ b
      · exact .inr y
      · exact .inl ⟨xs, by rw [hid_at y]; exact z⟩
  refine ⟨.ref a, e1, a, vs, [], _, ds, [], _, ds', rfl, lo, .inr ⟨_, ha⟩, ha, hv', .nil, hR, fun v xs' H' hk hp hxs hvd => ?_⟩
  cases hvd with
  | @lst p ws _ hpp hr =>
  obtain ⟨np0, hp'⟩ := hid_of hpp
  have pa : p ≠ a := fun z => np0 (.inr ⟨vs, by rw [z]; exact ha⟩)
  have np : H p = none := by
    cases q : H p with
    | none => rfl
    | some u =>
      have := hk p u pa q
      rw [hp'] at this
      cases this
      exact absurd (.inr ⟨_, q⟩) np0
  have ex : Ex H (upd H' a (.lst vs)) := fun b u q => by
    by_cases z : b = a
    · subst z; rw [upd_same]; rw [ha] at q; exact q
    · rw [upd_ne z]; exact hk b u z q
  have keep : ∀ {us : List V} {dd : List PyData}, noLs dd = true → DnA (hid (fun b => c.hd f δ b ∨ isLst H b) H') us dd → DnA (hid (fun b => c.hd f δ b ∨ b = p) (upd H' a (.lst vs))) us dd := fun {us dd} n h => by
    have q := h.noL n
    rw [hid_hid] at q
    refine q.mono fun b u z => ?_
    obtain ⟨z1, z2⟩ := hid_of z
    have ba : b ≠ a := fun y => z1 (.inr (.inr ⟨vs, by rw [y]; exact ha⟩))
    rw [hid_at, upd_ne ba]
    · exact z2
    · rintro (y | y)
      · exact z1 (.inr (.inl y))
      · exact z1 (.inl ⟨ws, by rw [y]; exact hpp⟩)
  have B1 := set_ow (i := i) (f := f) B ex np (by rw [upd_ne pa]; exact hp') (keep hn2 hr)
  have B2 := set_in (i := j) (f := f) (a := a) (ds := ds) (ds' := ds') (vs' := xs') B1 (by rw [List.getElem?_set_ne hne]; exact hx) ((keep hn' hxs).mono (hid_sub fun b z => by
    rcases z with z | z | z
    · exact .inl (.inl z)
    · exact .inl (.inr (.inl z))
    · rcases adr_set z with z | ⟨_, _, z⟩
      · exact .inl (.inr (.inr z))
      · injection z with z1 z2 z3; exact .inr z2.symm))
  have eH : upd (upd H' a (.lst vs)) a (.lst xs') = H' := by
    funext b
    by_cases z : b = a
    · subst z; rw [upd_same, hp]
    · rw [upd_ne z, upd_ne z]
  rw [eH] at B2
  exact k p _ _ B2
theorem ev_callMN {Rl : List PyData → List PyData → PyData → List PyData → Prop} {E : XK} {ds' : List PyData} (h : EvN o0 te σ H ds) (hR : Rl ds [] d ds') : Ev o0 (tCall (SpM Rl) [] E (tCons te tNil)) σ H d := fun H1 x Q k =>
  h H1 x _ fun p vs H2 np e2 hp hv => ⟨p, vs, [], fun b => b = p, ds, [], d, ds', rfl, (by intro b z y; cases z; rw [hp] at y; cases y), rfl, hp, hv.mono (hid_sub fun b z => .inr z), .nil, hR, fun v xs' H' hk _ _ hd => k v H' (fun b u z => hk b u (ne_of_none z np) (e2 _ _ z)) (hd.mono (hid_sub fun _ z => z.elim))⟩
class NL {α : Type} (em : α → PyData) : Prop where
  nl : ∀ x, HL.noL (em x) = true
theorem noLs_map [h : NL em] : ∀ xs : List α, noLs (xs.map em) = true
  | [] => rfl
  | x :: xs => by rw [List.map_cons, noLs, h.nl, noLs_map xs]; rfl
instance : NL eI := ⟨fun _ => rfl⟩
instance : NL eS := ⟨fun _ => rfl⟩
instance : NL eB := ⟨fun _ => rfl⟩
instance [NL em] : NL (eTu em) := ⟨fun xs => noLs_map xs⟩
instance [h : NL em] [h2 : NL em2] : NL (eT2 em em2) := ⟨fun x => by simp [HL.noL, noLs, h.nl, h2.nl]⟩
instance [h : NL em] [h2 : NL em2] [h3 : NL emg] : NL (eT3 em em2 emg) := ⟨fun x => by simp [HL.noL, noLs, h.nl, h2.nl, h3.nl]⟩
theorem exPut {He : Hp} (h : Ex He c.B) (hp : He p = none) : Ex He (c.put p u).B := fun b v hb => by
  show upd c.B p u b = _
  rw [upd_ne (ne_of_none hb hp)]; exact h b v hb
theorem none_back {He : Hp} (h : Ex He c.B) (B : Bs c H σ δ) (hp : H p = none) : He p = none := by
  cases q : He p with
  | none => rfl
  | some w => rw [B.base _ _ (h _ _ q)] at hp; cases hp
theorem q_exitOG {u : α → List Ent → List Ent} {tg : TG} (G : Tgt tg f em u) (Δ : S → List Ent) (stp : S → α → S ⊕ R) (s0 : S) (J : Nat → S → Prop) (B : Bs c H σ δ) (hk : ∀ s, (Δ s)[i]? = some (.ow f a (xs.map em))) (w : LeA δ (Δ s0)) (j0 : J 0 s0)
    (body : ∀ (B0 : Hp), Ex c.B B0 → ∀ (n : Nat) (s : S) (x : α) (σ1 : Sta) (H1 : Hp), x ∈ xs → n < xs.length → (∀ r, stp s x = .inr r → loopE stp xs s0 = .inr r) → J n s → Bs { c with B := B0 } H1 σ1 (u x (Δ s)) →
      ts { D with nx := EX c B0 S R Δ J (n + 1) (stp s x), ct := EX c B0 S R Δ J (n + 1) (stp s x), bk := tz D } σ1 H1)
    (done : ∀ s σ1 H1, loopE stp xs s0 = .inl s → J xs.length s → Bs c H1 σ1 (Δ s) → tz D σ1 H1) : tSeq (tFor (iList K (tVar i)) tg ts) tz D σ H := by
  obtain ⟨vs, e, hp, hr⟩ := (B.le w).ent i _ (hk s0)
  have u := B.under
  refine ⟨.ref a, e, a, rfl, ⟨vs, .inl (.inl hp)⟩, it_flex (m := xs.length) (NX c (hid (fun a => Adr δ a) H) S Δ (fun n s => loopE stp xs s0 = loopE stp (xs.drop n) s ∧ J n s)) ⟨s0, ⟨by simp, j0⟩, B.rebase.le w⟩ (fun n σ3 H3 hn ⟨s, _, B3⟩ => ?_) (fun σ3 H3 ⟨s, _, B3⟩ => ?_) (fun n σ3 H3 hn ⟨s, hi, B3⟩ => ?_) (fun σ3 H3 ⟨s, hi, B3⟩ => ?_)⟩
  · obtain ⟨vs3, e3, hp3, hr3⟩ := B3.ent i _ (hk s)
    have hl : vs3.length = xs.length := by rw [hr3.length, List.length_map]
    exact ⟨vs3, vs3[n]'(by omega), .inl (.inl hp3), List.getElem?_eq_getElem (by omega)⟩
  · obtain ⟨vs3, e3, hp3, hr3⟩ := B3.ent i _ (hk s)
    have hl : vs3.length = xs.length := by rw [hr3.length, List.length_map]
    exact ⟨vs3, .inl (.inl hp3), by omega⟩
  · obtain ⟨vs3, e3, hp3, hr3⟩ := B3.ent i _ (hk s)
    refine ⟨EX c _ S R Δ J (n + 1) (stp s xs[n]), fun σ' H' q => exit_core (List.getElem?_eq_getElem hn) hi.1 q, ?_⟩
    rintro x H' ⟨rfl, hx⟩
    have ex := hx _ (.inl (.inl hp3))
    obtain ⟨d, hd, q⟩ := hr3.get' ex
    rw [List.getElem?_map, List.getElem?_eq_getElem hn] at hd
    cases hd
    exact G B3 q fun σ4 B4 => body _ u n s xs[n] _ _ (List.getElem_mem hn) hn (fun r hr => by rw [hi.1, loopE_at (List.getElem?_eq_getElem hn), hr]) hi.2 B4
  · refine done s _ _ ?_ hi.2 (B3.debase u)
    rw [hi.1, List.drop_length]; rfl
theorem q_foldOG {u : α → List Ent → List Ent} {tg : TG} (G : Tgt tg f em u) (Δ : S → List Ent) (stp : S → α → S) (s0 : S) (J : Nat → S → Prop) (B : Bs c H σ δ) (hk : ∀ s, (Δ s)[i]? = some (.ow f a (xs.map em))) (w : LeA δ (Δ s0)) (j0 : J 0 s0)
    (body : ∀ (B0 : Hp), Ex c.B B0 → ∀ (n : Nat) (s : S) (x : α) (σ1 : Sta) (H1 : Hp), x ∈ xs → n < xs.length → J n s → Bs { c with B := B0 } H1 σ1 (u x (Δ s)) →
      ts { D with nx := FX c B0 S Δ J (n + 1) (stp s x), ct := FX c B0 S Δ J (n + 1) (stp s x), bk := tz D } σ1 H1)
    (done : ∀ s σ1 H1, s = xs.foldl stp s0 → J xs.length s → Bs c H1 σ1 (Δ s) → tz D σ1 H1) : tSeq (tFor (iList K (tVar i)) tg ts) tz D σ H :=
  q_exitOG (R := Unit) G Δ (fun s x => .inl (stp s x)) s0 J B hk w j0 (fun B0 e0 n s x σ1 H1 hx hn _ hJ B => by
    have := body B0 e0 n s x σ1 H1 hx hn hJ B
    rw [FX_EX] at this
    exact this) (fun s σ1 H1 hs hJ B => done s σ1 H1 (by rw [loopE_inl] at hs; exact (Sum.inl.inj hs).symm) hJ B)
end
end HL
namespace HL
open PySem PySem.Spec PyProof.Rows L2
open Evl (Ex)
section
variable {K : PySem.W.Frag} {c : Wd} {o : Hd} {H H1 H' : Hp} {σ : Sta} {δ δ' δ'' : List Ent} {i j : Nat} {f g : Bool} {a : Addr} {d e : PyData} {ds ds' es : List PyData} {ta tb te tl : TE} {tlo thi : TO} {t : TT} {ts tz : TS} {D : Ends} {α : Type} {em : α → PyData} {xs ys : List α}
/-! tuples: sums and slices -/
theorem ev_catT (l : Live o H) (ha : Ev o ta σ H (.tuple ds)) (hb : Ev o tb σ H (.tuple es)) (hz : ds.length + es.length ≤ 100000) : Ev o (tOp (rCatA K) ta tb) σ H (.tuple (ds ++ es)) := fun H1 x Q q =>
  ha H1 x _ fun v H2 e2 hv => hb H2 (x.trans e2) _ fun w H3 e3 hw => by
    cases hv with
    | tup h r =>
      cases hw with
      | tup h' r' =>
        have r3 := r.mono (hid_mono e3)
        have h3 := hid_mono (o := o) e3 _ _ h
        refine ⟨_, _, _, _, rfl, rfl, .inl (.inl (hid_ex _ _ h3)), .inl (.inl (hid_ex _ _ h')), Evl.sz_of (by rw [r.length, r'.length]; exact hz), fun z => ?_, fun _ z => ?_, fun _ _ p np => ?_⟩
        · subst z
          cases r3
          exact q _ H3 (e2.trans e3) (.tup h' r')
        · subst z
          cases r'
          rw [List.append_nil] at q
          exact q _ H3 (e2.trans e3) (.tup h3 r3)
        · exact q _ _ ((e2.trans e3).trans (Evl.Ex.new np)) (.tup (at_new (((l.mono x).mono e2).mono e3) np) ((r3.append r').mono (hid_upd_new np)))
theorem ev_slT {lo hi : Option Int} (l : Live o H) (h : Ev o te σ H (.tuple ds)) (h1 : EvO tlo σ H lo) (h2 : EvO thi σ H hi) : Ev o (tSl (rSlA K) te tlo thi) σ H (.tuple (cutG ds lo hi)) := fun H1 x Q q =>
  h H1 x _ fun v H2 e2 hv => h1 H2 (x.trans e2) _ fun H3 e3 => h2 H3 ((x.trans e2).trans e3) _ fun H4 e4 => by
    cases hv with
    | tup h r =>
      have e34 := e3.trans e4
      have r4 := r.mono (hid_mono e34)
      have h4 := hid_mono (o := o) e34 _ _ h
      refine ⟨_, _, rfl, .inl (.inl (hid_ex _ _ h4)), fun z => ?_, fun _ p np => ?_⟩
      · have e : cutG ds lo hi = ds := by
          unfold cutG
          rw [← r.length, z.1, z.2]
          simp [r.length]
        rw [e] at q
        exact q _ H4 (e2.trans e34) (.tup h4 r4)
      · exact q _ _ ((e2.trans e34).trans (Evl.Ex.new np)) (.tup (at_new (((l.mono x).mono e2).mono e34) np) ((r4.cut lo hi).mono (hid_upd_new np)))
theorem ev_catTu (l : Live o H) (ha : Ev o ta σ H (eTu em xs)) (hb : Ev o tb σ H (eTu em ys)) (hz : xs.length + ys.length ≤ 100000) : Ev o (tOp (rCatA K) ta tb) σ H (eTu em (xs ++ ys)) :=
  (ev_catT l ha hb (by rw [List.length_map, List.length_map]; exact hz)).is (by rw [← List.map_append])
theorem ev_slTu {lo hi : Option Int} (l : Live o H) (h : Ev o te σ H (eTu em xs)) (h1 : EvO tlo σ H lo) (h2 : EvO thi σ H hi) : Ev o (tSl (rSlA K) te tlo thi) σ H (eTu em (cutG xs lo hi)) :=
  (ev_slT l h h1 h2).is (by rw [cutG_map])
/-! readings that change lists: on the right of a sign, in a range -/
theorem em_I0r {p : Int → Int → Int} {x y : Int} (ha : Ev o0 ta σ H (.int x)) (h : ∀ H2, Ex H H2 → EvM c tb σ H2 δ (.int y) δ') : EvM c (tOp (rI0 fun i j => .int (p i j)) ta tb) σ H δ (.int (p x y)) δ' := fun Q q =>
  ha.go fun v H2 e2 hv => h H2 e2 _ fun w H3 B3 k3 hw => by cases hv; cases hw; exact ⟨x, y, rfl, rfl, q _ H3 B3 (fun a u na hh => k3 a u na (e2 _ _ hh)) (.int _)⟩
theorem em_ICr {C : Int → Int → Prop} {p : Int → Int → Int} {x y : Int} (ha : Ev o0 ta σ H (.int x)) (h : ∀ H2, Ex H H2 → EvM c tb σ H2 δ (.int y) δ') (hc : C x y) : EvM c (tOp (rI C fun i j => .int (p i j)) ta tb) σ H δ (.int (p x y)) δ' := fun Q q =>
  ha.go fun v H2 e2 hv => h H2 e2 _ fun w H3 B3 k3 hw => by cases hv; cases hw; exact ⟨x, y, rfl, rfl, hc, q _ H3 B3 (fun a u na hh => k3 a u na (e2 _ _ hh)) (.int _)⟩
theorem q_rng1M {m : Int} {tg : TG} (h : EvM c te σ H δ (.int m) δ') (k : ∀ H1, Bs c H1 σ δ' → tSeq (tFor (iRng1 (tCons (tC (.int m)) tNil)) tg ts) tz D σ H1) : tSeq (tFor (iRng1 (tCons te tNil)) tg ts) tz D σ H :=
  h _ fun v H2 B2 _ hv => by cases hv; exact k H2 B2
theorem oSome {α : Type} {em : α → PyData} {x : Option α} {d : α} (h : (!Option.isNone x) = true) : eO em x = em (x.getD d) := by
  cases x with
  | none => simp at h
  | some y => rfl
theorem oSome2 {α : Type} {em : α → PyData} {x : Option α} {d : α} (h : Option.isNone x = false) : eO em x = em (x.getD d) := by
  cases x with
  | none => simp at h
  | some y => rfl
end
end HL
namespace HL
open PySem PySem.Spec PyProof.Rows L2
open Evl (Ex)
/-! defs that change the list that they are passed first, beside lists that they read -/
def SpM2 (R : List PyData → List PyData → PyData → List PyData → Prop) : Sp := fun vs H Q _ => ∃ (a : Addr) (xs vr : List V) (o : Hd) (ds rs : List PyData) (d : PyData) (ds' : List PyData), vs = .ref a :: vr ∧ Live o H ∧ o a ∧ H a = some (.lst xs) ∧ DnA (hid o H) xs ds ∧ DnA (hid o H) vr rs ∧ R ds rs d ds' ∧
  ∀ v xs' H', (∀ b u, b ≠ a → H b = some u → H' b = some u) → H' a = some (.lst xs') → DnA (hid o H') xs' ds' → Dn (hid o H') v d → Q v H'
section
variable {K : PySem.W.Frag} {c : Wd} {o : Hd} {H H1 H' : Hp} {σ : Sta} {δ δ' δ'' : List Ent} {i j : Nat} {f g : Bool} {a : Addr} {d e : PyData} {ds ds' es : List PyData} {ta tb te tl : TE} {t : TT} {ts : TS} {D : Ends}
theorem em_call2 {R : List PyData → List PyData → PyData → List PyData → Prop} {E : XK} {tr : TA} (B : Bs c H σ δ) (hx : δ[i]? = some (.ow true a ds)) (h : EvA (c.hd true δ) tr σ H es) (hr : R ds es d ds') :
    EvM c (tCall (SpM2 R) [] E (tCons (tVar i) tr)) σ H δ d (δ.set i (.ow true a ds')) := fun Q q => by
  obtain ⟨vs, e1, ha, hv⟩ := B.ent i _ hx
  refine ⟨.ref a, e1, h H (Ex.refl H) _ fun ws H2 e2 hw => ?_⟩
  have B2 := B.mono e2
  refine ⟨a, vs, ws, c.hd true δ, ds, es, d, ds', by rw [List.append_nil], B2.live true, .inr (.inr ⟨i, true, ds, hx⟩), e2 _ _ ha, hv.mono (hid_mono e2), hw, hr, fun v xs' H' hk hp hxs hvd => ?_⟩
  have ex : Ex H2 (upd H' a (.lst vs)) := fun b u qq => by
    by_cases z : b = a
    · subst z; rw [upd_same]; rw [e2 _ _ ha] at qq; exact qq
    · rw [upd_ne z]; exact hk b u z qq
  have ia : ∀ g, c.hd g δ a := fun g => .inr (.inr ⟨i, true, ds, hx⟩)
  have B3 := B2.mono ex
  have B4 := set_in (vs' := xs') (ds' := ds') B3 hx (by rw [hid_upd_in (ia true)]; exact hxs)
  have eH : upd (upd H' a (.lst vs)) a (.lst xs') = H' := by
    funext b
    by_cases z : b = a
    · subst z; rw [upd_same, hp]
    · rw [upd_ne z, upd_ne z]
  rw [eH] at B4
  have hl : i < δ.length := by rw [List.getElem?_eq_some_iff] at hx; exact hx.1
  refine q v H' B4 (fun b u nb hb => hk b u (fun z => nb ⟨i, true, ds, by rw [z] ; exact hx⟩) (e2 _ _ hb)) (hvd.mono (hid_sub (hd_sub fun b z => ?_)))
  rcases adr_set z with z | ⟨_, _, z⟩
  · exact z
  · injection z with _ z _; subst z; exact ⟨i, true, ds, hx⟩
theorem bs_M2 {N : List Str} {vr : List V} {xs : List V} {ds rs : List PyData} {H : Hp} {o : Hd} {a : Addr} (l : Live o H) (oa : o a) (ha : H a = some (.lst xs)) (hx : DnA (hid o H) xs ds) (hr : DnA (hid o H) vr rs) (hN : vr.length + 1 ≤ N.length) :
    Bs ⟨hid (fun b => b = a) H, fun b => o b ∧ b ≠ a, o0⟩ H (L2.start N (.ref a :: vr)) (.ow true a ds :: args true (N.length - 1) rs) := by
  have hrl := hr.length
  have na : ∀ {k : Nat} {f : Bool} {b : Addr} {es : List PyData}, (args true (N.length - 1) rs)[k]? ≠ some (.ow f b es) := fun {k f b es} z => by
    have he := List.mem_of_getElem? z
    unfold args at he
    rcases List.mem_append.mp he with he | he
    · obtain ⟨d, _, q⟩ := List.mem_map.mp he; cases q
    · have := (List.mem_replicate.mp he).2; cases this
  have adr : ∀ b, Adr (.ow true a ds :: args true (N.length - 1) rs) b → b = a := fun b ⟨k, f, es, z⟩ => by
    cases k with
    | zero => simp at z; exact z.2.1.symm
    | succ k => exact absurd (by simpa using z) na
  have hdo : ∀ b, (⟨hid (fun b => b = a) H, fun b => o b ∧ b ≠ a, o0⟩ : Wd).hd true (.ow true a ds :: args true (N.length - 1) rs) b → o b := fun b z => by
    rcases z with z | z | z
    · exact z.2.1
    · exact z.elim
    · rw [adr b z]; exact oa
  refine ⟨hid_ex, fun b z => l b z.1, live0, fun b z => ?_, fun i j f1 g b d1 es h1 h2 => ?_, ?_, fun i e he => ?_⟩
  · rw [adr b z]; exact ⟨hid_in rfl, fun z => z.2 rfl, id⟩
  · cases i with
    | zero => cases j with
      | zero => rfl
      | succ j => exact absurd (by simpa using h2) na
    | succ i => exact absurd (by simpa using h1) na
  · rw [start_len (by simpa using hN)]; unfold args; simp; omega
  · cases i with
    | zero =>
      simp at he; subst he
      refine ⟨xs, ?_, ha, hx.mono (hid_sub hdo)⟩
      rw [start_get (by simp) (by simpa using hN)]; rfl
    | succ i =>
      simp only [List.getElem?_cons_succ] at he
      unfold args at he
      by_cases hi : i < rs.length
      · rw [List.getElem?_append_left (by simpa using hi), List.getElem?_map] at he
        obtain ⟨d, hd, q⟩ := Option.map_eq_some_iff.mp he
        subst q
        obtain ⟨v, hv, q⟩ := hr.get hd
        refine ⟨v, ?_, q.mono (hid_sub hdo)⟩
        rw [start_get (by simp; omega) (by simpa using hN)]
        rw [List.getElem?_eq_some_iff] at hv
        simp [hv.2]
      · rw [List.getElem?_append_right (by simp; omega)] at he
        have := (List.mem_replicate.mp (List.mem_of_getElem? he)).2
        subst this
        trivial
theorem ev_powC {i j n : Int} (ha : Ev o0 ta σ H (.int i)) (hb : Ev o0 tb σ H (.int j)) (hc : CPow i j) (e : i ^ j.toNat = n) : Ev o (tOp (rI CPow fun i j => .int (i ^ j.toNat)) ta tb) σ H (.int n) := (ev_IC (g := fun i j => i ^ j.toNat) ha hb hc).is (by rw [e])
end
end HL
namespace HL
open PySem PySem.Spec PyProof.Rows L2
open Evl (Ex)
/-! errors that know that nothing was handled when they were raised; defs that are called where an error is handled -/
theorem takes0N {X : Cx} : L2N.Takes X (fun _ _ _ _ => False) := fun _ _ x => by
  obtain ⟨_, _, _, _, _, _, _, _, _, _, _, _, _, _, _, _, z⟩ := x
  exact z.elim
section
variable {P : Program} {w : World} {K : PySem.W.Frag} {mg : Str → Option Value} {base : Heap}
theorem FunokN {x qual : Str} {st : Stmt} {f : Addr} {fd : FuncData} {N ps : List Str} {k : Nat} {sp : Sp} (F : Fun K x qual st f fd) (S : FnScope N ps (defScope st)) (len : ∀ vs H Q E, sp vs H Q E → vs.length = ps.length)
    (body : ∀ (cdv : Value) (A : Around) (outer : List Env) (s : Shared) (H : Hp) (vs : List V) (Q : VK) (E : XK), Room k (A.deeper (envOfC qual (defScope st) s.heap.objs.size f cdv)) → sp vs H Q E →
      ∃ t, PSs (cxOf (L2N.CX P w) P w K mg base N qual (defScope st) f cdv A outer s H E) (defBody st) t ∧ t { nx := fun _ H' => Q .non H', rt := Q } (start N vs) H) : FnOk P w K mg base (L2N.CX P w) (k + 1) f fd ps sp := by
  obtain ⟨oc, od, kV, doc, pm, an, cdv, ct, osl, rfl, l, c⟩ := F.ex
  exact fn_of l c S len fun A outer s H vs Q E r q => body cdv A outer s H vs Q E r q
theorem FunokH {x qual : Str} {st : Stmt} {f : Addr} {fd : FuncData} {N ps : List Str} {k : Nat} {sp : Sp} (F : Fun K x qual st f fd) (S : FnScope N ps (defScope st)) (len : ∀ vs H Q E, sp vs H Q E → vs.length = ps.length)
    (body : ∀ (cdv : Value) (A : Around) (outer : List Env) (s : Shared) (H : Hp) (vs : List V) (Q : VK) (E : XK) (p : Addr × Obj), L2H.Hot1 A p → L2H.RoomH k (A.deeper (envOfC qual (defScope st) s.heap.objs.size f cdv)) → sp vs H Q E →
      ∃ t, PSs (L2H.cxH CX0 P w K mg base N qual (defScope st) f cdv A outer s H E p) (defBody st) t ∧ t { nx := fun _ H' => Q .non H', rt := Q } (start N vs) H) : L2H.FnH P w K mg base CX0 (k + 1) f fd ps sp := by
  obtain ⟨oc, od, kV, doc, pm, an, cdv, ct, osl, rfl, l, c⟩ := F.ex
  exact L2H.fn_ofH l c S len fun A outer s H vs Q E p z r q => body cdv A outer s H vs Q E p z r q
theorem rmH {k : Nat} {A : Around} {h : Option Value} (r : Room k A) : L2H.RoomH k (A.mark h) := ⟨r.dp, r.un⟩
theorem hotS {X : Cx} {a : Addr} {oe : Obj} {pn : List (Addr × Obj)} {cls : Value} {d : Option Addr} (hz : L2N.Zn cls d oe) (hf : ∃ vs, oe.data = .fields vs) : L2H.HotC (X.suite a ((a, oe) :: pn)) := by
  obtain ⟨vs, e⟩ := hf
  exact ⟨(a, oe), ⟨rfl, vs, e, hz.2.2 vs e⟩, List.mem_cons_self⟩
theorem passA0 {X : Cx} (σ : Sta) : PassesAt CX0 X σ E0 := fun _ _ _ _ _ _ h => h.elim
theorem ev_callFS {o : Hd} {σ : Sta} {H : Hp} {ds : List PyData} {d : PyData} {R : List PyData → PyData → Prop} {E : L2.St → XK} {tr : TA} (l : Live o H) (h : EvA o0 tr σ H ds) (hr : R ds d) : Ev o (L2.tCallS (SpF R) E tr) σ H d := fun H1 x Q q =>
  h H1 x _ fun vs H2 e2 hv => ⟨ds, d, hv.up, hr, fun v H3 e3 hd => q v H3 (e2.trans e3) (hd.mono (hid_sub ((l.mono x).mono e2)))⟩
end
end HL
namespace HL
open PySem PySem.Spec PyProof.Rows L2
open Evl (Ex)
/-! comprehensions with several targets -/
theorem wipe_get {σ : Sta} {i : Nat} : ∀ {js : List Nat}, i ∉ js → (wipe σ js)[i]? = σ[i]?
  | [], _ => rfl
  | j :: js, h => by
    unfold wipe
    rw [List.getElem?_set_ne (fun z => h (by rw [z]; simp)), wipe_get (fun z => h (List.mem_cons_of_mem _ z))]
theorem wipe_set {σ : Sta} {i : Nat} {x : Option V} : ∀ {js : List Nat}, i ∈ js → wipe (σ.set i x) js = wipe σ js
  | [], h => by simp at h
  | j :: js, h => by
    unfold wipe
    by_cases q : i ∈ js
    · rw [wipe_set q]
    · have e : i = j := by
        rcases List.mem_cons.mp h with h | h
        · exact h
        · exact absurd h q
      subst e
      have c : ∀ {σ : Sta} (ks : List Nat), i ∉ ks → wipe (σ.set i x) ks = (wipe σ ks).set i x := by
        intro σ ks
        induction ks with
        | nil => intro _; rfl
        | cons k ks ih =>
          intro hk
          unfold wipe
          rw [ih (fun z => hk (List.mem_cons_of_mem _ z)), List.set_comm _ _ (fun z => hk (by rw [z]; simp))]
      rw [c js q, List.set_set]
theorem wipe_wipe {σ : Sta} (js : List Nat) : wipe (wipe σ js) js = wipe σ js := by
  have all : ∀ (ks : List Nat), (∀ k ∈ ks, k ∈ js) → wipe (wipe σ ks) js = wipe σ js := by
    intro ks
    induction ks with
    | nil => intro _; rfl
    | cons k ks ih =>
      intro h
      show wipe ((wipe σ ks).set k none) js = _
      rw [wipe_set (h k (by simp)), ih (fun x hx => h x (List.mem_cons_of_mem _ hx))]
  exact all js (fun _ h => h)
section
variable {K : PySem.W.Frag} {c : Wd} {o : Hd} {H H1 H' : Hp} {σ : Sta} {δ δ' : List Ent} {i j : Nat} {f g : Bool} {a : Addr} {d e : PyData} {ds es : List PyData} {ta tb te tl : TE} {t : TT} {ts : TS} {D : Ends} {S : Type}
def TgtW {α : Type} (js : List Nat) (g : TG) (f : Bool) (em : α → PyData) (u : α → List Ent → List Ent) : Prop := ∀ {c : Wd} {H : Hp} {σ : Sta} {δ : List Ent} {v : V} {x : α} {Q : Sta → Hp → Prop}, Bs c H σ δ → Dn (hid (c.hd f δ) H) v (em x) → (∀ σ1, wipe σ1 js = wipe σ js → Bs c H σ1 (u x δ) → Q σ1 H) → g v σ H Q
theorem tgw_name {α : Type} {em : α → PyData} {js : List Nat} (hj : j ∈ js) : TgtW js (gName j) f em (fun x δ => δ.set j (.va f (em x))) := fun B h k => k _ (wipe_set hj) (set_va B h)
theorem tgw_tup2 {α β : Type} {e1 : α → PyData} {e2 : β → PyData} {js : List Nat} (hi : i ∈ js) (hj : j ∈ js) : TgtW js (gTup K 2 (gCons (gName i) (gCons (gName j) gNil))) f (eT2 e1 e2) (fun x δ => (δ.set i (.va f (e1 x.1))).set j (.va f (e2 x.2))) := fun B h k => by
  cases h with
  | @tup p vs _ hp hr =>
    cases hr with
    | cons h1 hr => cases hr with
      | cons h2 hr =>
        cases hr
        exact ⟨p, _, rfl, .inl (.inl (hid_ex _ _ hp)), rfl, _, _, rfl, _, _, rfl, rfl, k _ (by rw [wipe_set hj, wipe_set hi]) (set_va (set_va B h1) (h2.mono hd_va))⟩
theorem tgw_tup3 {α β γ : Type} {k' : Nat} {e1 : α → PyData} {e2 : β → PyData} {e3 : γ → PyData} {js : List Nat} (hi : i ∈ js) (hj : j ∈ js) (hk : k' ∈ js) : TgtW js (gTup K 3 (gCons (gName i) (gCons (gName j) (gCons (gName k') gNil)))) f (eT3 e1 e2 e3) (fun x δ => ((δ.set i (.va f (e1 x.1))).set j (.va f (e2 x.2.1))).set k' (.va f (e3 x.2.2))) := fun B h k => by
  cases h with
  | @tup p vs _ hp hr =>
    cases hr with
    | cons h1 hr => cases hr with
      | cons h2 hr => cases hr with
        | cons h3 hr =>
          cases hr
          exact ⟨p, _, rfl, .inl (.inl (hid_ex _ _ hp)), rfl, _, _, rfl, _, _, rfl, _, _, rfl, rfl, k _ (by rw [wipe_set hk, wipe_set hj, wipe_set hi]) (set_va (set_va (set_va B h1) (h2.mono hd_va)) ((h3.mono hd_va).mono hd_va))⟩
theorem adr_put {e : Ent} (hj : δ[j]? = some .no) : ∀ b, Adr δ b → Adr (δ.set j e) b := fun b ⟨k, f', ds', z⟩ => ⟨k, f', ds', by rw [List.getElem?_set_ne (fun y => by subst y; rw [hj] at z; cases z)]; exact z⟩
theorem en_lcG {α : Type} {js : List Nat} {tg : TG} {u : α → List Ent → List Ent} (xs : List α) (em : α → PyData) (cs : α → Bool) (e : α → PyData) (G : TgtW js tg f em u) (B : Bs c H σ δ) (h : Ev (c.hd f δ) tl σ H (.list (xs.map em))) (hz : xs.length ≤ 40000)
    (body : ∀ (c' : Wd) (x : α) (σ1 : Sta) (H1 : Hp), x ∈ xs → Bs c' H1 σ1 (u x δ) → EvT t σ1 H1 (cs x) ∧ (cs x = true → Ev (c'.hd g (u x δ)) te σ1 H1 (e x)))
    (hj : ∀ j ∈ js, δ[j]? = some .no) (hu : ∀ y b, Adr δ b → Adr (u y δ) b) : EvN (c.hd g δ) (tLc (iList K tl) tg t te js) σ H ((xs.filter cs).map e) := fun H1 x1 Q q => by
  refine h H1 x1 _ fun v H2 e2 hv => ?_
  have B2 : Bs c H2 σ δ := B.mono (x1.trans e2)
  cases hv with
  | @lst p vs _ hp hr =>
    refine ⟨p, rfl, ⟨vs, .inl (.inl (hid_ex _ _ hp))⟩, fun C nC => ?_⟩
    -- the block's world: the new list may not be met
    let c' : Wd := { c with B := hid (fun a => Adr δ a ∨ a = C) H2, N := fun a => c.N a ∨ a = C }
    have eC : ∀ {u}, Ex H2 (upd H2 C u) := fun {u} => Evl.Ex.new nC
    have hdn : ∀ f' a, c'.hd f' δ a ↔ c.hd f' δ a ∨ a = C := fun f' a => by
      constructor
      · rintro (z | (z | z) | z)
        · exact .inl (.inl z)
        · exact .inl (.inr (.inl z))
        · exact .inr z
        · exact .inl (.inr (.inr z))
      · rintro ((z | z | z) | z)
        · exact .inl z
        · exact .inr (.inl (.inl z))
        · exact .inr (.inr z)
        · exact .inr (.inl (.inr z))
    have lift : ∀ {H3 : Hp} (f' : Bool), Ex (hid (fun a => Adr δ a ∨ a = C) H2) H3 → Ex (hid (c.hd f' δ) H2) (hid (c'.hd f' δ) H3) := fun {H3} f' e3 a u q => by
      obtain ⟨q1, q2⟩ := hid_of q
      have ha : ¬ a = C := ne_of_none q2 nC
      rw [hid_at (fun z => ((hdn f' a).mp z).elim q1 ha)]
      exact e3 a u (by rw [hid_at (fun z => z.elim (fun z => q1 (.inr (.inr z))) ha)]; exact q2)
    have mk : ∀ {H3 : Hp} {acc : List V}, Ex (hid (fun a => Adr δ a ∨ a = C) H2) H3 → (∀ a u, Adr δ a → H2 a = some u → H3 a = some u) → H3 C = some (.lst acc) → Live c.O H3 → Live c.N H3 → Bs c' H3 (wipe σ js) δ := fun {H3 acc} e3 eo hC lO lN => by
      refine ⟨e3, lO, fun a ha => ?_, fun a ha => ⟨(show hid (fun a => Adr δ a ∨ a = C) H2 a = none from hid_in (Or.inl ha)), (B2.own a ha).2.1, fun z => ?_⟩, B2.one, by rw [wipe_length]; exact B2.len, fun i e he => ?_⟩
      · rcases ha with ha | ha
        · exact lN a ha
        · subst ha; rw [hC]; simp
      · rcases z with z | z
        · exact (B2.own a ha).2.2 z
        · subst z
          obtain ⟨k, f, ds, ha⟩ := ha
          obtain ⟨vs, _, q, _⟩ := B2.ent k _ ha
          rw [q] at nC; cases nC
      · have w := B2.ent i e he
        have nj : ∀ f d, e = .va f d → i ∉ js := fun f d z y => by subst z; rw [hj i y] at he; cases he
        have nj2 : ∀ f a d, e = .ow f a d → i ∉ js := fun f a d z y => by subst z; rw [hj i y] at he; cases he
        have nj3 : ∀ v, e = .rw v → i ∉ js := fun v z y => by subst z; rw [hj i y] at he; cases he
        cases e with
        | no => trivial
        | va f' d =>
          obtain ⟨v, e, w⟩ := w
          refine ⟨v, ?_, w.mono (lift f' e3)⟩
          rw [wipe_get (nj _ _ rfl)]; exact e
        | ow f' b es =>
          obtain ⟨ws, e, w, r⟩ := w
          refine ⟨ws, ?_, eo _ _ ⟨i, f', es, he⟩ w, r.mono (lift f' e3)⟩
          rw [wipe_get (nj2 _ _ _ rfl)]; exact e
        | rw v =>
          rw [wipe_get (nj3 _ rfl)]; exact w
    refine lc_list (xs := vs) (fun n H3 => ∃ acc, Ex (hid (fun a => Adr δ a ∨ a = C) H2) H3 ∧ (∀ a u, a ≠ C → H2 a = some u → H3 a = some u) ∧ H3 C = some (.lst acc) ∧ DnA (hid (c'.hd g δ) H3) acc (((xs.take n).filter cs).map e) ∧ Live c.O H3 ∧ Live c.N H3) ?_ (fun n H3 _ ⟨acc, e3, en, _, _, _, _⟩ => ?_) (fun n x H3 hx hP => ?_) (fun H3 hP => ?_)
    · refine ⟨[], fun a u h => ?_, fun a u na h => ?_, upd_same, ?_, (B2.liO).mono eC, (B2.liN).mono eC⟩
      · obtain ⟨h1, h2⟩ := hid_of h
        rw [upd_ne (fun z => h1 (.inr z))]; exact h2
      · rw [upd_ne na]; exact h
      · simp; exact .nil
    · refine .inl (.inl (en _ _ ?_ (hid_ex _ _ hp)))
      intro z; subst z; rw [hid_ex _ _ hp] at nC; cases nC
    · obtain ⟨acc, e3, en, hC, hacc, lO, lN⟩ := hP
      obtain ⟨dd, hdd, hdv⟩ := hr.get' hx
      rw [List.getElem?_map] at hdd
      obtain ⟨y, hy, ey⟩ := Option.map_eq_some_iff.mp hdd
      subst ey
      have B3 : Bs c' H3 (wipe σ js) δ := mk e3 (fun a u ha h => en a u (fun z => by
        subst z
        obtain ⟨k, f, ds, ha⟩ := ha
        obtain ⟨vs, _, q, _⟩ := B2.ent k _ ha
        rw [q] at nC; cases nC) h) hC lO lN
      have hyx : y ∈ xs := List.mem_of_getElem? hy
      refine G B3 (hdv.mono (lift f e3)) fun σ1 hwp B4 => ?_
      obtain ⟨t1, t2⟩ := body c' y _ _ hyx B4
      have hn : n < xs.length := by rw [List.getElem?_eq_some_iff] at hy; exact hy.1
      have tk : xs.take (n + 1) = xs.take n ++ [y] := by rw [List.take_add_one, hy]; rfl
      have keepAdr : ∀ {H4 : Hp}, Ex H3 H4 → Ex (hid (fun a => Adr δ a ∨ a = C) H2) H4 ∧ (∀ a u, a ≠ C → H2 a = some u → H4 a = some u) := fun e4 => ⟨e3.trans e4, fun a u na h => e4 _ _ (en a u na h)⟩
      refine ⟨?_, t1 H3 (Ex.refl H3) _ fun H4 e4 => ?_⟩
      · rw [hwp, wipe_wipe]
      · cases hb : cs y with
        | false =>
          rw [if_neg Bool.false_ne_true]
          refine ⟨acc, (keepAdr e4).1, (keepAdr e4).2, e4 _ _ hC, ?_, lO.mono e4, lN.mono e4⟩
          rw [tk, List.filter_append]
          simp only [List.filter_cons, hb, List.filter_nil, Bool.false_eq_true, if_false, List.append_nil]
          exact hacc.mono (hid_mono e4)
        | true =>
          rw [if_pos rfl]
          refine t2 hb H4 e4 _ fun v5 H5 e5 h5 => ?_
          have e45 := e4.trans e5
          refine ⟨acc, e45 _ _ hC, ?_, acc ++ [v5], ?_, ?_, upd_same, ?_, ?_, ?_⟩
          · refine Evl.sz_lt ?_
            rw [hacc.length, List.length_map]
            have h1 : ((xs.take n).filter cs).length ≤ (xs.take n).length := List.length_filter_le _ _
            have h2 : (xs.take n).length ≤ n := List.length_take_le _ _
            omega
          · intro a u h
            obtain ⟨h1, h2⟩ := hid_of h
            rw [upd_ne (fun z => h1 (.inr z))]
            exact (keepAdr e45).1 a u h
          · intro a u na h
            rw [upd_ne na]
            exact (keepAdr e45).2 a u na h
          · rw [hid_upd_in ((hdn g C).mpr (.inr rfl)), tk, List.filter_append, List.map_append]
            simp only [List.filter_cons, hb, List.filter_nil, if_true, List.map_cons, List.map_nil]
            refine (hacc.mono (hid_mono e45)).append (.one (h5.mono (hid_sub (hd_sub fun b z => ?_))))
            exact hu y b z
          · intro b hb z
            by_cases q : b = C
            · subst q; rw [upd_same] at z; cases z
            · rw [upd_ne q] at z; exact (lO.mono e45) b hb z
          · intro b hb z
            by_cases q : b = C
            · subst q; rw [upd_same] at z; cases z
            · rw [upd_ne q] at z; exact (lN.mono e45) b hb z
    · obtain ⟨acc, e3, en, hC, hacc, lO, lN⟩ := hP
      have el : vs.length = xs.length := by rw [hr.length, List.length_map]
      rw [el, List.take_length] at hacc
      refine q C acc H3 (Evl.fresh_back e2 nC) (e2.trans fun a u h => ?_) hC (hacc.mono (hid_sub fun a z => (hdn g a).mpr z))
      exact en a u (ne_of_none h nC) h

section
variable {α β : Type} {em : α → PyData} {em2 : β → PyData} {xs : List α} {js : List Nat} {tg : TG} {u : α → List Ent → List Ent}
theorem en_lcGM (cs : α → Bool) (ex : α → β) (G : TgtW js tg f em u) (B : Bs c H σ δ) (hj : ∀ j ∈ js, δ[j]? = some .no) (hu : ∀ y b, Adr δ b → Adr (u y δ) b) (h : Ev (c.hd f δ) tl σ H (eL em xs)) (hz : xs.length ≤ 40000)
    (body : ∀ (c' : Wd) (x : α) (σ1 : Sta) (H1 : Hp), x ∈ xs → Bs c' H1 σ1 (u x δ) → EvT t σ1 H1 (cs x) ∧ (cs x = true → Ev (c'.hd g (u x δ)) te σ1 H1 (em2 (ex x)))) :
    EvN (c.hd g δ) (tLc (iList K tl) tg t te js) σ H (((xs.filter cs).map ex).map em2) := (en_lcG xs em cs (fun x => em2 (ex x)) G B h hz body hj hu).is (by rw [List.map_map]; rfl)
theorem en_lcGM1 (ex : α → β) (G : TgtW js tg f em u) (B : Bs c H σ δ) (hj : ∀ j ∈ js, δ[j]? = some .no) (hu : ∀ y b, Adr δ b → Adr (u y δ) b) (h : Ev (c.hd f δ) tl σ H (eL em xs)) (hz : xs.length ≤ 40000)
    (body : ∀ (c' : Wd) (x : α) (σ1 : Sta) (H1 : Hp), x ∈ xs → Bs c' H1 σ1 (u x δ) → Ev (c'.hd g (u x δ)) te σ1 H1 (em2 (ex x))) :
    EvN (c.hd g δ) (tLc (iList K tl) tg tYes te js) σ H ((xs.map ex).map em2) :=
  (en_lcGM (fun _ => true) ex G B hj hu h hz fun c' x σ1 H1 hx B => ⟨fun H1 _ Q q => q H1 (Ex.refl H1), fun _ => body c' x σ1 H1 hx B⟩).is (by rw [List.filter_eq_self.mpr (fun _ _ => rfl)])
end
end
end HL
namespace HL
open PySem PySem.Spec PyProof.Rows L2
open Evl (Ex)
section
variable {K : PySem.W.Frag} {c : Wd} {o : Hd} {H H1 H' : Hp} {σ : Sta} {δ δ' : List Ent} {i j : Nat} {f g b : Bool} {a : Addr} {te : TE} {tz : TS} {D : Ends} {α : Type} {em : α → PyData} {xs ys : List α}
theorem q_exitRG {u : α → List Ent → List Ent} {tg : TG} (G : Tgt tg f em u) (Δ : S → List Ent) (stp : S → α → S ⊕ R) (s0 : S) (J : Nat → S → Prop) (B : Bs c H σ δ) (h : Ev (c.hd f δ) tl σ H (eL em xs)) (w : LeA δ (Δ s0)) (j0 : J 0 s0)
    (body : ∀ (B0 : Hp), Ex c.B B0 → ∀ (n : Nat) (s : S) (x : α) (σ1 : Sta) (H1 : Hp), x ∈ xs → n < xs.length → (∀ r, stp s x = .inr r → loopE stp xs.reverse s0 = .inr r) → J n s → Bs { c with B := B0 } H1 σ1 (u x (Δ s)) →
      ts { D with nx := EX c B0 S R Δ J (n + 1) (stp s x), ct := EX c B0 S R Δ J (n + 1) (stp s x), bk := tz D } σ1 H1)
    (done : ∀ s σ1 H1, loopE stp xs.reverse s0 = .inl s → J xs.length s → Bs c H1 σ1 (Δ s) → tz D σ1 H1) : tSeq (tFor (iRev K (tCons tl tNil)) tg ts) tz D σ H := by
  refine h.go fun v H2 e2 hv => ?_
  have B2 := B.mono e2
  cases hv with
  | @lst p vs _ hp hr =>
    have u := B2.under
    have W : ∀ {H3 σ3 s}, Bs { c with B := hid (fun a => Adr δ a) H2 } H3 σ3 (Δ s) → Ex (hid (c.hd f δ) H2) (hid (c.hd f (Δ s)) H3) := fun B3 => B3.pers fun a u q => at_has q
    have hl : vs.length = xs.length := by rw [hr.length, List.length_map]
    refine ⟨p, vs, rfl, .inl (.inl (hid_ex _ _ hp)), it_flex (m := xs.length) (NX c _ S Δ (fun n s => loopE stp xs.reverse s0 = loopE stp (xs.reverse.drop n) s ∧ J n s)) ⟨s0, ⟨by simp, j0⟩, (B2.rebase).le w⟩ (fun n σ3 H3 hn ⟨s, _, B3⟩ => ?_) (fun σ3 H3 ⟨s, _, B3⟩ => ?_) (fun n σ3 H3 hn ⟨s, hi, B3⟩ => ?_) (fun σ3 H3 ⟨s, hi, B3⟩ => ?_)⟩
    · exact ⟨by omega, vs, vs[vs.length - 1 - n]'(by omega), .inl (.inl (hid_ex _ _ (W B3 _ _ hp))), List.getElem?_eq_getElem (by omega)⟩
    · exact Nat.le_of_eq hl
    · have hr' : n < xs.reverse.length := by rw [List.length_reverse]; exact hn
      have hg : xs.reverse[n]? = some (xs[xs.length - 1 - n]'(by omega)) := by rw [List.getElem?_reverse hn, List.getElem?_eq_getElem (by omega)]
      refine ⟨EX c _ S R Δ J (n + 1) (stp s (xs[xs.length - 1 - n]'(by omega))), fun σ' H' q => exit_core hg hi.1 q, ?_⟩
      rintro x H' ⟨rfl, hx⟩
      have ex := hx _ (.inl (.inl (hid_ex _ _ (W B3 _ _ hp))))
      obtain ⟨d, hd, q⟩ := hr.get' ex
      rw [List.getElem?_map, hl, List.getElem?_eq_getElem (by omega)] at hd
      cases hd
      exact G B3 (q.mono (W B3)) fun σ4 B4 => body _ u n s _ _ _ (List.getElem_mem _) hn (fun r hr => by rw [hi.1, loopE_at hg, hr]) hi.2 B4
    · refine done s _ _ ?_ hi.2 (B3.debase u)
      rw [hi.1, List.drop_eq_nil_of_le (by rw [List.length_reverse]; exact Nat.le_refl _)]; rfl
theorem q_foldRG {u : α → List Ent → List Ent} {tg : TG} (G : Tgt tg f em u) (Δ : S → List Ent) (stp : S → α → S) (s0 : S) (J : Nat → S → Prop) (B : Bs c H σ δ) (h : Ev (c.hd f δ) tl σ H (eL em xs)) (w : LeA δ (Δ s0)) (j0 : J 0 s0)
    (body : ∀ (B0 : Hp), Ex c.B B0 → ∀ (n : Nat) (s : S) (x : α) (σ1 : Sta) (H1 : Hp), x ∈ xs → n < xs.length → J n s → Bs { c with B := B0 } H1 σ1 (u x (Δ s)) →
      ts { D with nx := FX c B0 S Δ J (n + 1) (stp s x), ct := FX c B0 S Δ J (n + 1) (stp s x), bk := tz D } σ1 H1)
    (done : ∀ s σ1 H1, s = xs.reverse.foldl stp s0 → J xs.length s → Bs c H1 σ1 (Δ s) → tz D σ1 H1) : tSeq (tFor (iRev K (tCons tl tNil)) tg ts) tz D σ H :=
  q_exitRG (R := Unit) G Δ (fun s x => .inl (stp s x)) s0 J B h w j0 (fun B0 e0 n s x σ1 H1 hx hn _ hJ B => by
    have := body B0 e0 n s x σ1 H1 hx hn hJ B
    rw [FX_EX] at this
    exact this) (fun s σ1 H1 hs hJ B => done s σ1 H1 (by rw [loopE_inl] at hs; exact (Sum.inl.inj hs).symm) hJ B)
theorem erase_map {α β : Type} (f : α → β) : ∀ (xs : List α) (n : Nat), (xs.map f).eraseIdx n = (xs.eraseIdx n).map f
  | [], n => by simp
  | x :: xs, 0 => rfl
  | x :: xs, n + 1 => by simp [List.eraseIdx, erase_map f xs n]
theorem q_popK {n : Nat} (B : Bs c H σ δ) (hx : δ[i]? = some (.ow f a (xs.map em))) (hi : Ev o0 te σ H (eI (n : Int))) (hn : n ≤ 1000000) (hb : n < xs.length) (k : ∀ H1, Bs c H1 σ (δ.set i (.ow f a ((xs.eraseIdx n).map em))) → tz D σ H1) :
    tSeq (tDrop (tBM K "list" rPopAt (tVar i) (tCons te tNil))) tz D σ H := by
  have e : (xs.map em).eraseIdx n = (xs.eraseIdx n).map em := erase_map em xs n
  exact q_pop0 (n := n) B hx hi (by omega) (by unfold ixN; simp; omega) (by rw [List.getElem?_map, List.getElem?_eq_getElem hb]; rfl) (fun H1 B => k H1 (by rw [← e]; exact B))
theorem isNO {α : Type} {em : α → PyData} (h : ∀ y, isNoneD (em y) = false) (x : Option α) : isNoneD (eO em x) = x.isNone := by
  cases x with
  | none => rfl
  | some y => exact h y
theorem scO {x : Option Str} : Sc (eO eS x) := by
  cases x with
  | none => exact .non
  | some y => exact .str y
end
end HL
namespace HL
open PySem PySem.Spec PyProof.Rows L2
/-! zip over three tuples -/
def ItzT3 (K : PySem.W.Frag) (a b c : Addr) : It :=
  ⟨fun i H => ∃ (xs ys us : List V) (x y u : V), (SqT K H a xs ∧ SqT K H b ys ∧ SqT K H c us) ∧ xs[i]? = some x ∧ ys[i]? = some y ∧ us[i]? = some u,
    fun i H v H' => ∃ T x y u, v = .ref T ∧ H T = none ∧ H' = upd H T (.tup [x, y, u]) ∧ (∀ xs, SqT K H a xs → xs[i]? = some x) ∧ (∀ ys, SqT K H b ys → ys[i]? = some y) ∧ ∀ us, SqT K H c us → us[i]? = some u,
    fun i H => ∃ xs ys us : List V, (SqT K H a xs ∧ SqT K H b ys ∧ SqT K H c us) ∧ (i ≤ xs.length ∧ i ≤ ys.length ∧ i ≤ us.length) ∧ (i = xs.length ∨ i = ys.length ∨ i = us.length)⟩
theorem turn_zipT3 {P : Program} {w : World} {K : PySem.W.Frag} {elts : List Expr} {kk : Nat} {tpos : Pos} {a b c z TI TO i1 i2 i3 : Addr} (D : ZipSep3 z TI TO i1 i2 i3 [i1, a] [i2, b] [i3, c]) (n1 : a ≠ i1) (n2 : b ≠ i2) (n3 : c ≠ i3) (za : i1 ≠ z ∧ i2 ≠ z ∧ i3 ≠ z) :
    Turn P w K (.Tuple elts kk tpos) (ItzT3 K a b c) [z, TI, TO, i1, i2, i3] z (fun i h => IsZip h z TI TO .none ∧ IsTupOf3 h TI (.ref i1) (.ref i2) (.ref i3) ∧ (∃ x y u, IsTupOf3 h TO x y u) ∧ h.IsTupleIter i1 a i ∧ h.IsTupleIter i2 b i ∧ h.IsTupleIter i3 c i) where
  mem := by simp
  obj := fun i h st c' hc => by
    obtain ⟨hz, hTI, ⟨x, y, u, hTO⟩, ⟨o1, e1, _, d1⟩, ⟨o2, e2, _, d2⟩, ⟨o3, e3, _, d3⟩⟩ := st
    have e' : c' = z ∨ c' = TI ∨ c' = TO ∨ c' = i1 ∨ c' = i2 ∨ c' = i3 := by simpa using hc
    rcases e' with q | q | q | q | q | q <;> rw [q]
    · exact ⟨_, hz, fun v q => nomatch q⟩
    · exact ⟨_, hTI, fun v q => nomatch q⟩
    · exact ⟨_, hTO, fun v q => nomatch q⟩
    · exact ⟨o1, e1, fun v q => by rw [d1] at q; cases q⟩
    · exact ⟨o2, e2, fun v q => by rw [d2] at q; cases q⟩
    · exact ⟨o3, e3, fun v q => by rw [d3] at q; cases q⟩
  keep := fun i h h' st k => by
    obtain ⟨hz, hTI, ⟨x, y, u, hTO⟩, h1, h2, h3⟩ := st
    exact ⟨k z (by simp) _ hz, k TI (by simp) _ hTI, ⟨x, y, u, k TO (by simp) _ hTO⟩, h1.at fun o q => k i1 (by simp) o q, h2.at fun o q => k i2 (by simp) o q, h3.at fun o q => k i3 (by simp) o q⟩
  item := by
    intro X hP hw hK hc i pins s σ H E I hf st hg
    subst hP hw hK
    obtain ⟨hz, hTI, ⟨x0, y0, u0, hTO⟩, h1, h2, h3⟩ := st
    obtain ⟨xs, ys, us, x, y, u, ⟨hqx, hqy, hqu⟩, hx, hy, hu⟩ := hg
    obtain ⟨its, rv, p, _⟩ := I.tuple hqx
    obtain ⟨its2, rv2, p2, _⟩ := I.tuple hqy
    obtain ⟨its3, rv3, p3, _⟩ := I.tuple hqu
    obtain ⟨vx, vhx, rx⟩ := rv.get hx
    obtain ⟨vy, vhy, ry⟩ := rv2.get hy
    obtain ⟨vu, vhu, ru⟩ := rv3.get hu
    have hzl : z < s.heap.objs.size := Heap.lt_size hz
    have hh : X.A.in1.handled = none := I.ok.hd hc
    have lt1 : i < its.toArray.size := by have := (List.getElem?_eq_some_iff.mp vhx).1; simpa using this
    have lt2 : i < its2.toArray.size := by have := (List.getElem?_eq_some_iff.mp vhy).1; simpa using this
    have lt3 : i < its3.toArray.size := by have := (List.getElem?_eq_some_iff.mp vhu).1; simpa using this
    refine wpAny_pyNext_zipD3_item D (Draws.tuple hh i1 a n1 its.toArray) (Draws.tuple hh i2 b n2 its2.toArray) (Draws.tuple hh i3 c n3 its3.toArray) hz hTI hTO ⟨h1, p⟩ ⟨h2, p2⟩ ⟨h3, p3⟩ lt1 lt2 lt3 fun x1 x2 x3 h' tk q1 q2 q3 z' TO' s1' s2' s3' hT hsz hk => ?_
    have e1 : x1 = vx := by
      have : its[i]? = some x1 := by simpa using q1
      rw [vhx] at this; exact (Option.some.inj this).symm
    have e2 : x2 = vy := by
      have : its2[i]? = some x2 := by simpa using q2
      rw [vhy] at this; exact (Option.some.inj this).symm
    have e3 : x3 = vu := by
      have : its3[i]? = some x3 := by simpa using q3
      rw [vhu] at this; exact (Option.some.inj this).symm
    subst e1 e2 e3
    refine ⟨_, rfl, wpAny_letOwnedTupleGo_zip (s := { s with heap := h', toks := tk }) z' fun h'' z'' sb => ?_⟩
    have hT2 : h''.get? s.heap.objs.size = some { cls := .type "tuple", data := .seq #[x1, x2, x3] } := (sb.2 _ (Nat.ne_of_gt hzl)).trans hT
    have new : ObjOk X.prog X.w (upd H s.heap.objs.size (.tup [x, y, u])) h'' s.heap.objs.size (.tup [x, y, u]) :=
      ⟨by show 3 ≤ sizeLine; decide, [x1, x2, x3], .cons rx (.cons ry (.cons ru .nil)), ⟨_, hT2, rfl, _, rfl⟩⟩
    have hall : ∀ c' o, c' ∉ [z, TI, TO, i1, i2, i3] → s.heap.get? c' = some o → h''.get? c' = some o := fun c' o hb q =>
      (sb.2 c' (fun q' => hb (by simp [q']))).trans (hk c' o (fun q' => hb (by simp [q'])) (fun q' => hb (by simp [q'])) (fun q' => hb (by simp [q'])) (fun q' => hb (by simp [q'])) (fun q' => hb (by simp [q'])) q)
    have I1 : Inv X pins σ (upd H s.heap.objs.size (.tup [x, y, u])) { s with heap := h'', toks := tk } :=
      I.turnedNew (t' := tk) (ch := [z, TI, TO, i1, i2, i3]) (fun c' o hb q => hall c' o hb q) hf (Nat.le_refl _) new
    refine ⟨.ref s.heap.objs.size, _, I1, rfl, ⟨_, x, y, u, rfl, I.hok.fresh (Nat.le_refl _), rfl, fun l hl => by rw [I.tuple_inj hl hqx]; exact hx, fun l hl => by rw [I.tuple_inj hl hqy]; exact hy, fun l hl => by rw [I.tuple_inj hl hqu]; exact hu⟩, ⟨z'', ?_, ⟨x1, x2, x3, ?_⟩, ?_, ?_, ?_⟩, fun c' hcm => ?_⟩
    · exact (sb.2 _ D.TIz).trans (hk _ _ D.TIz D.TITO D.TIi1 D.TIi2 D.TIi3 hTI)
    · exact (sb.2 _ D.TOz).trans TO'
    · exact s1'.1.at fun o q => (sb.2 _ za.1).trans q
    · exact s2'.1.at fun o q => (sb.2 _ za.2.1).trans q
    · exact s3'.1.at fun o q => (sb.2 _ za.2.2).trans q
    · have hlt : c' < s.heap.objs.size := by
        have e' : c' = z ∨ c' = TI ∨ c' = TO ∨ c' = i1 ∨ c' = i2 ∨ c' = i3 := by simpa using hcm
        rcases e' with q | q | q | q | q | q <;> rw [q]
        · exact hzl
        · exact Heap.lt_size hTI
        · exact Heap.lt_size hTO
        · obtain ⟨_, e1, _⟩ := h1; exact Heap.lt_size e1
        · obtain ⟨_, e2, _⟩ := h2; exact Heap.lt_size e2
        · obtain ⟨_, e3, _⟩ := h3; exact Heap.lt_size e3
      rw [upd_ne (Nat.ne_of_lt hlt)]
      exact (hf c' hcm).1
  done := by
    intro X hP hw hK hc i pins s σ H E I hf st hg
    subst hP hw hK
    obtain ⟨hz, hTI, ⟨x0, y0, u0, hTO⟩, h1, h2, h3⟩ := st
    obtain ⟨xs, ys, us, ⟨hqx, hqy, hqu⟩, ⟨a1, a2, a3⟩, hend⟩ := hg
    obtain ⟨its, rv, p, _⟩ := I.tuple hqx
    obtain ⟨its2, rv2, p2, _⟩ := I.tuple hqy
    obtain ⟨its3, rv3, p3, _⟩ := I.tuple hqu
    have l1 := rv.length
    have l2 := rv2.length
    have l3 := rv3.length
    have hh : X.A.in1.handled = none := I.ok.hd hc
    exact wpAny_pyNext_zipD3_end D (Draws.tuple hh i1 a n1 its.toArray) (Draws.tuple hh i2 b n2 its2.toArray) (Draws.tuple hh i3 c n3 its3.toArray) hz hTI hTO ⟨h1, p⟩ ⟨h2, p2⟩ ⟨h3, p3⟩ (by simp; omega) (by simp; omega) (by simp; omega) (by simp; omega) fun h' tk hk => ⟨rfl, I.turnedL (t' := tk) (ch := [z, TI, TO, i1, i2, i3]) (fun c' o hb q =>
      hk c' o (fun q' => hb (by simp [q'])) (fun q' => hb (by simp [q'])) (fun q' => hb (by simp [q'])) (fun q' => hb (by simp [q'])) (fun q' => hb (by simp [q'])) q) hf⟩
  self := fun A i s Q E st h => wpAny_pyIter_zip st.1 h
def iZipT3 (K : PySem.W.Frag) (ta : TA) : TI := fun σ H R => ta σ H fun vs H1 => ∃ a b c xs ys us, vs = [.ref a, .ref b, .ref c] ∧ (SqT K H1 a xs ∧ SqT K H1 b ys ∧ SqT K H1 c us) ∧ R (ItzT3 K a b c) H1
theorem pi_zipT3 {X : Cx} {e e2 e3 : Expr} {ta : TA} {p pos tpos : Pos} {elts : List Expr} {kk : Nat} (hg : Gl X "zip") (hm : X.mg "zip" = none) (ha : PA X [e, e2, e3] ta)
    (hs : starEach [e, e2, e3] X.env = (false, eval e X.env) :: starEach [e2, e3] X.env := by rfl) (hpl : (backTo pos (starEach [e2, e3] X.env)).any (·.1) = false := by rfl) :
    PI X (.Tuple elts kk tpos) (.Call (.Name "zip" p) [e, e2, e3] [] pos) (iZipT3 X.K ta) := by
  refine ⟨fun pins s σ H R I h => ?_⟩
  refine Call_ (ld_blt I hg hm PyProof.Rows.boot_zip (PyProof.Rows.callWith_type1 (thn (ha.run pos pins s σ H _ I h) fun us s1 ⟨vs, H1, I1, r1, q1⟩ => ?_) hs hpl))
  obtain ⟨a, b, c, xs, ys, us', ex, ⟨hqx, hqy, hqu⟩, q⟩ := q1
  subst ex
  cases r1 with
  | cons r rr =>
  cases rr with
  | cons r' rr =>
  cases rr with
  | cons r'' rr =>
  cases rr
  cases r
  cases r'
  cases r''
  obtain ⟨its, rv, p1, _⟩ := I1.tuple hqx
  obtain ⟨its2, rv2, p2, _⟩ := I1.tuple hqy
  obtain ⟨its3, rv3, p3, _⟩ := I1.tuple hqu
  obtain ⟨o1, ho1, _⟩ := id p1
  obtain ⟨o2, ho2, _⟩ := id p2
  obtain ⟨o3, ho3, _⟩ := id p3
  have la : a < s1.heap.objs.size := Heap.lt_size ho1
  have lb : b < s1.heap.objs.size := Heap.lt_size ho2
  have lc : c < s1.heap.objs.size := Heap.lt_size ho3
  refine zip_begins3 (begins_tuple a its.toArray) (begins_tuple b its2.toArray) (begins_tuple c its3.toArray) p1 p2 p3 fun h' hz hTI hTO g1 g2 g3 hsz hk => wpAny_pyIter_zip hz ?_
  have I2 : Inv X pins σ H1 { s1 with heap := h' } := I1.kept (t' := s1.toks) hk
  have S : ZipSep3 (s1.heap.objs.size + 5) (s1.heap.objs.size + 3) (s1.heap.objs.size + 4) s1.heap.objs.size (s1.heap.objs.size + 1) (s1.heap.objs.size + 2) [s1.heap.objs.size, a] [s1.heap.objs.size + 1, b] [s1.heap.objs.size + 2, c] :=
    zip_sep3 (N := s1.heap.objs.size) (fp1 := [a]) (fp2 := [b]) (fp3 := [c]) (fun x hx => by rw [List.mem_singleton.mp hx]; exact la) (fun x hx => by rw [List.mem_singleton.mp hx]; exact lb) (fun x hx => by rw [List.mem_singleton.mp hx]; exact lc)
  refine ⟨s1.heap.objs.size + 5, [s1.heap.objs.size + 5, s1.heap.objs.size + 3, s1.heap.objs.size + 4, s1.heap.objs.size, s1.heap.objs.size + 1, s1.heap.objs.size + 2], _, _, H1, rfl, I2,
    turn_zipT3 S (Nat.ne_of_lt la) (Nat.ne_of_lt (Nat.lt_succ_of_lt lb)) (Nat.ne_of_lt (Nat.lt_succ_of_lt (Nat.lt_succ_of_lt lc))) ⟨by simp, by simp, by simp⟩, ⟨hz, hTI, ⟨_, _, _, hTO⟩, ⟨_, g1, rfl, rfl⟩, ⟨_, g2, rfl, rfl⟩, ⟨_, g3, rfl, rfl⟩⟩, fun c' hcm => ?_, q⟩
  have hle : s1.heap.objs.size ≤ c' := by
    have e' : c' = s1.heap.objs.size + 5 ∨ c' = s1.heap.objs.size + 3 ∨ c' = s1.heap.objs.size + 4 ∨ c' = s1.heap.objs.size ∨ c' = s1.heap.objs.size + 1 ∨ c' = s1.heap.objs.size + 2 := by simpa using hcm
    rcases e' with z | z | z | z | z | z <;> rw [z] <;> first | exact Nat.le_add_right _ _ | exact Nat.le_refl _
  exact I1.fpOk hle (I1.hok.fresh hle)
end HL
namespace HL
open PySem PySem.Spec PyProof.Rows L2
open Evl (Ex)
theorem lc_zip3 {K : PySem.W.Frag} {a b c : Addr} {xs ys us : List V} {g : TG} {tt : TT} {te : TE} {vs : List Nat} {σ : L2.St} {H1 : Hp} {D : Addr} {Qd : Hp → Prop} (l1 : xs.length = ys.length) (l2 : xs.length = us.length) (Pv : Nat → Hp → Prop) (h0 : Pv 0 (upd H1 D (.lst []))) (hl : ∀ i H, i ≤ xs.length → Pv i H → SqT K H a xs ∧ SqT K H b ys ∧ SqT K H c us)
    (hs : ∀ i x y u T H, xs[i]? = some x → ys[i]? = some y → us[i]? = some u → H T = none → Pv i H → g (.ref T) (wipe σ vs) (upd H T (.tup [x, y, u])) fun σ2 H2 => wipe σ2 vs = wipe σ vs ∧ tt σ2 H2 fun b H3 =>
      if b = true then te σ2 H3 fun y H4 => ∃ acc, H4 D = some (.lst acc) ∧ acc.length < sizeLine ∧ Pv (i + 1) (upd H4 D (.lst (acc ++ [y]))) else Pv (i + 1) H3) (hd : ∀ H, Pv xs.length H → Qd H) :
    ∃ W : Nat → Nat → Hp → Prop, (∃ m, W 0 m (upd H1 D (.lst []))) ∧ ∀ i m H, W i m H →
      ((ItzT3 K a b c).stop i H ∧ Qd H) ∨ ((ItzT3 K a b c).go i H ∧ ∃ Nx : Hp → Prop, (∀ H', Nx H' → ∃ m', m' < m ∧ W (i + 1) m' H') ∧ ∀ x H', (ItzT3 K a b c).yld i H x H' → g x (wipe σ vs) H' fun σ2 H2 => wipe σ2 vs = wipe σ vs ∧ tt σ2 H2 fun b H3 =>
        if b = true then te σ2 H3 fun y H4 => ∃ acc, H4 D = some (.lst acc) ∧ acc.length < sizeLine ∧ Nx (upd H4 D (.lst (acc ++ [y]))) else Nx H3) := by
  refine ⟨fun i m H => m = xs.length - i ∧ i ≤ xs.length ∧ Pv i H, ⟨xs.length, by simp, Nat.zero_le _, h0⟩, ?_⟩
  rintro i m H ⟨rfl, hi, p⟩
  obtain ⟨q1, q2, q3⟩ := hl i H hi p
  by_cases hlt : i < xs.length
  · refine .inr ⟨⟨xs, ys, us, xs[i], ys[i]'(by omega), us[i]'(by omega), ⟨q1, q2, q3⟩, by simp [hlt], List.getElem?_eq_getElem (by omega), List.getElem?_eq_getElem (by omega)⟩, Pv (i + 1), fun H' p' => ⟨xs.length - (i + 1), by omega, rfl, hlt, p'⟩, fun x H' y => ?_⟩
    obtain ⟨T, x, y, u, rfl, hT, rfl, f1, f2, f3⟩ := y
    exact hs i x y u T H (f1 xs q1) (f2 ys q2) (f3 us q3) hT p
  · have e : i = xs.length := by omega
    subst e
    exact .inl ⟨⟨xs, ys, us, ⟨q1, q2, q3⟩, ⟨Nat.le_refl _, by omega, by omega⟩, .inl rfl⟩, hd H p⟩
section
variable {K : PySem.W.Frag} {c : Wd} {o : Hd} {H H1 H' : Hp} {σ : Sta} {δ δ' : List Ent} {i j : Nat} {f g : Bool} {a : Addr} {d e : PyData} {ds es : List PyData} {ta tb te tl : TE} {t : TT} {ts : TS} {D : Ends} {S : Type}
theorem en_lcZ3 {α1 α2 α3 : Type} {js : List Nat} {tg : TG} {tl : TA} {u : α1 × α2 × α3 → List Ent → List Ent} (xs : List (α1 × α2 × α3)) (m1 : α1 → PyData) (m2 : α2 → PyData) (m3 : α3 → PyData) (cs : α1 × α2 × α3 → Bool) (e : α1 × α2 × α3 → PyData) (G : TgtW js tg f (eT3 m1 m2 m3) u) (B : Bs c H σ δ) (h : EvA (c.hd f δ) tl σ H [.tuple (xs.map fun z => m1 z.1), .tuple (xs.map fun z => m2 z.2.1), .tuple (xs.map fun z => m3 z.2.2)]) (hz : xs.length ≤ 40000)
    (body : ∀ (c' : Wd) (x : α1 × α2 × α3) (σ1 : Sta) (H1 : Hp), x ∈ xs → Bs c' H1 σ1 (u x δ) → EvT t σ1 H1 (cs x) ∧ (cs x = true → Ev (c'.hd g (u x δ)) te σ1 H1 (e x)))
    (hj : ∀ j ∈ js, δ[j]? = some .no) (hu : ∀ y b, Adr δ b → Adr (u y δ) b) : EvN (c.hd g δ) (tLc (iZipT3 K tl) tg t te js) σ H ((xs.filter cs).map e) := fun H1 x1 Q q => by
  refine h H1 x1 _ fun vv H2 e2 hv => ?_
  have B2 : Bs c H2 σ δ := B.mono (x1.trans e2)
  cases hv with
  | cons hv1 hv =>
  cases hv with
  | cons hv2 hv =>
  cases hv with
  | cons hv3 hv =>
  cases hv
  cases hv1 with
  | @tup p vs _ hp hr =>
  cases hv2 with
  | @tup p2 vs2 _ hp2 hr2 =>
  cases hv3 with
  | @tup p3 vs3 _ hp3 hr3 =>
    refine ⟨p, p2, p3, _, _, _, rfl, ⟨.inl (.inl (hid_ex _ _ hp)), .inl (.inl (hid_ex _ _ hp2)), .inl (.inl (hid_ex _ _ hp3))⟩, fun C nC => ?_⟩
    -- the block's world: the new list may not be met
    let c' : Wd := { c with B := hid (fun a => Adr δ a ∨ a = C) H2, N := fun a => c.N a ∨ a = C }
    have eC : ∀ {u}, Ex H2 (upd H2 C u) := fun {u} => Evl.Ex.new nC
    have hdn : ∀ f' a, c'.hd f' δ a ↔ c.hd f' δ a ∨ a = C := fun f' a => by
      constructor
      · rintro (z | (z | z) | z)
        · exact .inl (.inl z)
        · exact .inl (.inr (.inl z))
        · exact .inr z
        · exact .inl (.inr (.inr z))
      · rintro ((z | z | z) | z)
        · exact .inl z
        · exact .inr (.inl (.inl z))
        · exact .inr (.inr z)
        · exact .inr (.inl (.inr z))
    have lift : ∀ {H3 : Hp} (f' : Bool), Ex (hid (fun a => Adr δ a ∨ a = C) H2) H3 → Ex (hid (c.hd f' δ) H2) (hid (c'.hd f' δ) H3) := fun {H3} f' e3 a u q => by
      obtain ⟨q1, q2⟩ := hid_of q
      have ha : ¬ a = C := ne_of_none q2 nC
      rw [hid_at (fun z => ((hdn f' a).mp z).elim q1 ha)]
      exact e3 a u (by rw [hid_at (fun z => z.elim (fun z => q1 (.inr (.inr z))) ha)]; exact q2)
    have mk : ∀ {H3 : Hp} {acc : List V}, Ex (hid (fun a => Adr δ a ∨ a = C) H2) H3 → (∀ a u, Adr δ a → H2 a = some u → H3 a = some u) → H3 C = some (.lst acc) → Live c.O H3 → Live c.N H3 → Bs c' H3 (wipe σ js) δ := fun {H3 acc} e3 eo hC lO lN => by
      refine ⟨e3, lO, fun a ha => ?_, fun a ha => ⟨(show hid (fun a => Adr δ a ∨ a = C) H2 a = none from hid_in (Or.inl ha)), (B2.own a ha).2.1, fun z => ?_⟩, B2.one, by rw [wipe_length]; exact B2.len, fun i e he => ?_⟩
      · rcases ha with ha | ha
        · exact lN a ha
        · subst ha; rw [hC]; simp
      · rcases z with z | z
        · exact (B2.own a ha).2.2 z
        · subst z
          obtain ⟨k, f, ds, ha⟩ := ha
          obtain ⟨vs, _, q, _⟩ := B2.ent k _ ha
          rw [q] at nC; cases nC
      · have w := B2.ent i e he
        have nj : ∀ f d, e = .va f d → i ∉ js := fun f d z y => by subst z; rw [hj i y] at he; cases he
        have nj2 : ∀ f a d, e = .ow f a d → i ∉ js := fun f a d z y => by subst z; rw [hj i y] at he; cases he
        have nj3 : ∀ v, e = .rw v → i ∉ js := fun v z y => by subst z; rw [hj i y] at he; cases he
        cases e with
        | no => trivial
        | va f' d =>
          obtain ⟨v, e, w⟩ := w
          refine ⟨v, ?_, w.mono (lift f' e3)⟩
          rw [wipe_get (nj _ _ rfl)]; exact e
        | ow f' b es =>
          obtain ⟨ws, e, w, r⟩ := w
          refine ⟨ws, ?_, eo _ _ ⟨i, f', es, he⟩ w, r.mono (lift f' e3)⟩
          rw [wipe_get (nj2 _ _ _ rfl)]; exact e
        | rw v =>
          rw [wipe_get (nj3 _ rfl)]; exact w
    refine lc_zip3 (xs := vs) (ys := vs2) (us := vs3) (by rw [hr.length, hr2.length, List.length_map, List.length_map]) (by rw [hr.length, hr3.length, List.length_map, List.length_map]) (fun n H3 => ∃ acc, Ex (hid (fun a => Adr δ a ∨ a = C) H2) H3 ∧ (∀ a u, a ≠ C → H2 a = some u → H3 a = some u) ∧ H3 C = some (.lst acc) ∧ DnA (hid (c'.hd g δ) H3) acc (((xs.take n).filter cs).map e) ∧ Live c.O H3 ∧ Live c.N H3) ?_ (fun n H3 _ ⟨acc, e3, en, _, _, _, _⟩ => ?_) (fun n x y0 u0 T H3 hx hy0 hu0 hT hP => ?_) (fun H3 hP => ?_)
    · refine ⟨[], fun a u h => ?_, fun a u na h => ?_, upd_same, ?_, (B2.liO).mono eC, (B2.liN).mono eC⟩
      · obtain ⟨h1, h2⟩ := hid_of h
        rw [upd_ne (fun z => h1 (.inr z))]; exact h2
      · rw [upd_ne na]; exact h
      · simp; exact .nil
    · refine ⟨.inl (.inl (en _ _ ?_ (hid_ex _ _ hp))), .inl (.inl (en _ _ ?_ (hid_ex _ _ hp2))), .inl (.inl (en _ _ ?_ (hid_ex _ _ hp3)))⟩
      · intro z; subst z; rw [hid_ex _ _ hp] at nC; cases nC
      · intro z; subst z; rw [hid_ex _ _ hp2] at nC; cases nC
      · intro z; subst z; rw [hid_ex _ _ hp3] at nC; cases nC
    · obtain ⟨acc, e3₀, en₀, hC₀, hacc₀, lO₀, lN₀⟩ := hP
      have hn : n < xs.length := by
        have := (List.getElem?_eq_some_iff.mp hx).1
        rw [hr.length, List.length_map] at this; exact this
      have hy : xs[n]? = some xs[n] := List.getElem?_eq_getElem hn
      obtain ⟨d1, hd1, hdv1⟩ := hr.get' hx
      obtain ⟨d2, hd2, hdv2⟩ := hr2.get' hy0
      obtain ⟨d3, hd3, hdv3⟩ := hr3.get' hu0
      rw [List.getElem?_map, hy] at hd1 hd2 hd3
      cases hd1; cases hd2; cases hd3
      have eT : Ex H3 (upd H3 T (HO.tup [x, y0, u0])) := Evl.Ex.new hT
      have hTn : (upd H3 T (HO.tup [x, y0, u0])) T = some (HO.tup [x, y0, u0]) := upd_same
      have nTC : T ≠ C := fun z => by rw [z, hC₀] at hT; cases hT
      have nTA : ¬ Adr δ T := fun ha => by
        obtain ⟨k, f', ds, z⟩ := ha
        obtain ⟨ws, _, q, _⟩ := B2.ent k _ z
        rw [en₀ _ _ (fun w => by subst w; rw [q] at nC; cases nC) q] at hT; cases hT
      have nTO : ¬ c.O T := fun z => (lO₀ T z) hT
      have nTN : ¬ c.N T := fun z => (lN₀ T z) hT
      have e3 := e3₀.trans eT
      have en : ∀ a u, a ≠ C → H2 a = some u → (upd H3 T (HO.tup [x, y0, u0])) a = some u := fun a u na h => eT _ _ (en₀ a u na h)
      have hC := eT _ _ hC₀
      have hacc := hacc₀.mono (hid_mono eT)
      have lO := lO₀.mono eT
      have lN := lN₀.mono eT
      generalize upd H3 T (HO.tup [x, y0, u0]) = H3' at eT hTn e3 en hC hacc lO lN ⊢
      have hdv : Dn (hid (c'.hd f δ) H3') (.ref T) (eT3 m1 m2 m3 xs[n]) := .tup (by
        rw [hid_at]
        · exact hTn
        · intro z
          rcases (hdn f T).mp z with z | z
          · rcases z with z | z | z
            · exact nTO z.2
            · exact nTN z
            · exact nTA z
          · exact nTC z) (.cons (hdv1.mono (lift f e3)) (.cons (hdv2.mono (lift f e3)) (.cons (hdv3.mono (lift f e3)) .nil)))
      have B3 : Bs c' H3' (wipe σ js) δ := mk e3 (fun a u ha h => en a u (fun z => by
        subst z
        obtain ⟨k, f, ds, ha⟩ := ha
        obtain ⟨vs, _, q, _⟩ := B2.ent k _ ha
        rw [q] at nC; cases nC) h) hC lO lN
      have hyx : xs[n] ∈ xs := List.getElem_mem hn
      refine G B3 hdv fun σ1 hwp B4 => ?_
      obtain ⟨t1, t2⟩ := body c' xs[n] _ _ hyx B4
      have tk : xs.take (n + 1) = xs.take n ++ [xs[n]] := by rw [List.take_add_one, hy]; rfl
      have keepAdr : ∀ {H4 : Hp}, Ex H3' H4 → Ex (hid (fun a => Adr δ a ∨ a = C) H2) H4 ∧ (∀ a u, a ≠ C → H2 a = some u → H4 a = some u) := fun e4 => ⟨e3.trans e4, fun a u na h => e4 _ _ (en a u na h)⟩
      refine ⟨?_, t1 H3' (Ex.refl H3') _ fun H4 e4 => ?_⟩
      · rw [hwp, wipe_wipe]
      · cases hb : cs xs[n] with
        | false =>
          rw [if_neg Bool.false_ne_true]
          refine ⟨acc, (keepAdr e4).1, (keepAdr e4).2, e4 _ _ hC, ?_, lO.mono e4, lN.mono e4⟩
          rw [tk, List.filter_append]
          simp only [List.filter_cons, hb, List.filter_nil, Bool.false_eq_true, if_false, List.append_nil]
          exact hacc.mono (hid_mono e4)
        | true =>
          rw [if_pos rfl]
          refine t2 hb H4 e4 _ fun v5 H5 e5 h5 => ?_
          have e45 := e4.trans e5
          refine ⟨acc, e45 _ _ hC, ?_, acc ++ [v5], ?_, ?_, upd_same, ?_, ?_, ?_⟩
          · refine Evl.sz_lt ?_
            rw [hacc.length, List.length_map]
            have h1 : ((xs.take n).filter cs).length ≤ (xs.take n).length := List.length_filter_le _ _
            have h2 : (xs.take n).length ≤ n := List.length_take_le _ _
            omega
          · intro a u h
            obtain ⟨h1, h2⟩ := hid_of h
            rw [upd_ne (fun z => h1 (.inr z))]
            exact (keepAdr e45).1 a u h
          · intro a u na h
            rw [upd_ne na]
            exact (keepAdr e45).2 a u na h
          · rw [hid_upd_in ((hdn g C).mpr (.inr rfl)), tk, List.filter_append, List.map_append]
            simp only [List.filter_cons, hb, List.filter_nil, if_true, List.map_cons, List.map_nil]
            refine (hacc.mono (hid_mono e45)).append (.one (h5.mono (hid_sub (hd_sub fun b z => ?_))))
            exact hu _ b z
          · intro b hb z
            by_cases q : b = C
            · subst q; rw [upd_same] at z; cases z
            · rw [upd_ne q] at z; exact (lO.mono e45) b hb z
          · intro b hb z
            by_cases q : b = C
            · subst q; rw [upd_same] at z; cases z
            · rw [upd_ne q] at z; exact (lN.mono e45) b hb z
    · obtain ⟨acc, e3, en, hC, hacc, lO, lN⟩ := hP
      have el : vs.length = xs.length := by rw [hr.length, List.length_map]
      rw [el, List.take_length] at hacc
      refine q C acc H3 (Evl.fresh_back e2 nC) (e2.trans fun a u h => ?_) hC (hacc.mono (hid_sub fun a z => (hdn g a).mpr z))
      exact en a u (ne_of_none h nC) h

end
/-! any(..) over data -/
def rAnyD (K : PySem.W.Frag) : List V → Hp → VK → Prop := fun vs H Q => ∃ (a : Addr) (ds : List PyData), vs = [.ref a] ∧ Dp K H (.ref a) (.list ds) ∧ PyData.plainAll ds = true ∧ (∀ x ∈ ds, x.fits63) ∧ Q (.bl (ds.any PyData.truthy)) H
theorem cr_anyD {X : Cx} (hc : X.calm = true) : CallR X (.builtin "any") (rAnyD X.K) := by
  intro pins s σ H vs us Q I r h
  obtain ⟨a, ds, rfl, hd, hp, hf, q⟩ := h
  rw [Vals.ref1 r]
  obtain ⟨as, rd⟩ := Dp.reads I (.list ds) (.ref a) (.ref a) hd rfl
  cases rd with
  | list h1 h2 h3 h4 => exact PySem.W.any_list_data (I.ok.hd hc) ⟨_, h1, h2, _, h3⟩ h4 hp hf fun h' tk hk => ⟨.bl _, H, I.kept hk, rfl, q⟩
section
variable {K : PySem.W.Frag} {c : Wd} {o : Hd} {H : Hp} {σ : Sta} {ta : TE}
theorem plain_strs : ∀ xs : List Str, PyData.plainAll (xs.map eS) = true
  | [] => rfl
  | x :: xs => by simp [PyData.plainAll, plain_strs xs, PyData.plain]
theorem ev_anyTu {xs : List (List Str)} (h : Ev o0 ta σ H (eL (eTu eS) xs)) (hz : ∀ x ∈ xs, x.length ≤ 100000) : Ev o (tCB (rAnyD K) (tCons ta tNil)) σ H (eB (xs.any fun x => !x.isEmpty)) := fun H1 x Q q =>
  h H1 x _ fun v H2 e2 hv => by
    have dp := hv.up.dp (K := K) ((emL (emTu emS)).flat xs)
    cases hv with
    | @lst p vs _ hp hr =>
      refine ⟨p, xs.map (eTu eS), rfl, dp, ?_, fun d hd => ?_, ?_⟩
      · have : ∀ ys : List (List Str), PyData.plainAll (ys.map (eTu eS)) = true := by
          intro ys
          induction ys with
          | nil => rfl
          | cons y ys ih => rw [List.map_cons]; simp only [PyData.plainAll, ih, Bool.and_true, PyData.plain]; exact plain_strs y
        exact this xs
      · obtain ⟨y, hy, rfl⟩ := List.mem_map.mp hd
        have := hz y hy
        show ((y.map eS).length : Int) < 2 ^ 63
        rw [List.length_map]
        omega
      · have e : (xs.map (eTu eS)).any PyData.truthy = xs.any fun x => !x.isEmpty := by
          rw [List.any_map]
          congr 1
          funext y
          show (!(y.map eS).isEmpty) = !y.isEmpty
          cases y <;> rfl
        rw [e]
        exact q _ H2 e2 (.bl _)
end
end HL
namespace HL
open PySem PySem.Spec PyProof.Rows L2
open Evl (Ex)
/-! comprehensions over tuples, stars, dicts as data -/
section
variable {K : PySem.W.Frag} {c : Wd} {o : Hd} {H H1 H' : Hp} {σ : Sta} {δ δ' : List Ent} {i j : Nat} {f g : Bool} {a : Addr} {d e : PyData} {ds es : List PyData} {ta tb te tl : TE} {t : TT} {ts : TS} {D : Ends} {S : Type}
theorem en_lcTL {α : Type} (xs : List α) (em : α → PyData) (cs : α → Bool) (e : α → PyData) (B : Bs c H σ δ) (h : Ev (c.hd f δ) tl σ H (.tuple (xs.map em))) (hz : xs.length ≤ 40000)
    (body : ∀ (c' : Wd) (x : α) (σ1 : Sta) (H1 : Hp), x ∈ xs → Bs c' H1 σ1 (δ.set j (.va f (em x))) → EvT t σ1 H1 (cs x) ∧ (cs x = true → Ev (c'.hd g (δ.set j (.va f (em x)))) te σ1 H1 (e x)))
    (hj : δ[j]? = some .no) : EvN (c.hd g δ) (tLc (iTup K tl) (gName j) t te [j]) σ H ((xs.filter cs).map e) := fun H1 x1 Q q => by
  refine h H1 x1 _ fun v H2 e2 hv => ?_
  have B2 : Bs c H2 σ δ := B.mono (x1.trans e2)
  cases hv with
  | @tup p vs _ hp hr =>
    refine ⟨p, rfl, ⟨vs, .inl (.inl (hid_ex _ _ hp))⟩, fun C nC => ?_⟩
    -- the block's world: the new list may not be met
    let c' : Wd := { c with B := hid (fun a => Adr δ a ∨ a = C) H2, N := fun a => c.N a ∨ a = C }
    have eC : ∀ {u}, Ex H2 (upd H2 C u) := fun {u} => Evl.Ex.new nC
    have hdn : ∀ f' a, c'.hd f' δ a ↔ c.hd f' δ a ∨ a = C := fun f' a => by
      constructor
      · rintro (z | (z | z) | z)
        · exact .inl (.inl z)
        · exact .inl (.inr (.inl z))
        · exact .inr z
        · exact .inl (.inr (.inr z))
      · rintro ((z | z | z) | z)
        · exact .inl z
        · exact .inr (.inl (.inl z))
        · exact .inr (.inr z)
        · exact .inr (.inl (.inr z))
    have lift : ∀ {H3 : Hp} (f' : Bool), Ex (hid (fun a => Adr δ a ∨ a = C) H2) H3 → Ex (hid (c.hd f' δ) H2) (hid (c'.hd f' δ) H3) := fun {H3} f' e3 a u q => by
      obtain ⟨q1, q2⟩ := hid_of q
      have ha : ¬ a = C := ne_of_none q2 nC
      rw [hid_at (fun z => ((hdn f' a).mp z).elim q1 ha)]
      exact e3 a u (by rw [hid_at (fun z => z.elim (fun z => q1 (.inr (.inr z))) ha)]; exact q2)
    have mk : ∀ {H3 : Hp} {acc : List V}, Ex (hid (fun a => Adr δ a ∨ a = C) H2) H3 → (∀ a u, Adr δ a → H2 a = some u → H3 a = some u) → H3 C = some (.lst acc) → Live c.O H3 → Live c.N H3 → Bs c' H3 (wipe σ [j]) δ := fun {H3 acc} e3 eo hC lO lN => by
      refine ⟨e3, lO, fun a ha => ?_, fun a ha => ⟨(show hid (fun a => Adr δ a ∨ a = C) H2 a = none from hid_in (Or.inl ha)), (B2.own a ha).2.1, fun z => ?_⟩, B2.one, by rw [wipe_length]; exact B2.len, fun i e he => ?_⟩
      · rcases ha with ha | ha
        · exact lN a ha
        · subst ha; rw [hC]; simp
      · rcases z with z | z
        · exact (B2.own a ha).2.2 z
        · subst z
          obtain ⟨k, f, ds, ha⟩ := ha
          obtain ⟨vs, _, q, _⟩ := B2.ent k _ ha
          rw [q] at nC; cases nC
      · have w := B2.ent i e he
        have nj : ∀ f d, e = .va f d → i ≠ j := fun f d z y => by subst y; subst z; rw [hj] at he; cases he
        have nj2 : ∀ f a d, e = .ow f a d → i ≠ j := fun f a d z y => by subst y; subst z; rw [hj] at he; cases he
        have nj3 : ∀ v, e = .rw v → i ≠ j := fun v z y => by subst y; subst z; rw [hj] at he; cases he
        cases e with
        | no => trivial
        | va f' d =>
          obtain ⟨v, e, w⟩ := w
          refine ⟨v, ?_, w.mono (lift f' e3)⟩
          show ((wipe σ []).set j none)[i]? = _
          rw [List.getElem?_set_ne (fun z => nj _ _ rfl z.symm)]; exact e
        | ow f' b es =>
          obtain ⟨ws, e, w, r⟩ := w
          refine ⟨ws, ?_, eo _ _ ⟨i, f', es, he⟩ w, r.mono (lift f' e3)⟩
          show ((wipe σ []).set j none)[i]? = _
          rw [List.getElem?_set_ne (fun z => nj2 _ _ _ rfl z.symm)]; exact e
        | rw v =>
          show ((wipe σ []).set j none)[i]? = _
          rw [List.getElem?_set_ne (fun z => nj3 _ rfl z.symm)]; exact w
    refine lc_tup (xs := vs) (fun n H3 => ∃ acc, Ex (hid (fun a => Adr δ a ∨ a = C) H2) H3 ∧ (∀ a u, a ≠ C → H2 a = some u → H3 a = some u) ∧ H3 C = some (.lst acc) ∧ DnA (hid (c'.hd g δ) H3) acc (((xs.take n).filter cs).map e) ∧ Live c.O H3 ∧ Live c.N H3) ?_ (fun n H3 _ ⟨acc, e3, en, _, _, _, _⟩ => ?_) (fun n x H3 hx hP => ?_) (fun H3 hP => ?_)
    · refine ⟨[], fun a u h => ?_, fun a u na h => ?_, upd_same, ?_, (B2.liO).mono eC, (B2.liN).mono eC⟩
      · obtain ⟨h1, h2⟩ := hid_of h
        rw [upd_ne (fun z => h1 (.inr z))]; exact h2
      · rw [upd_ne na]; exact h
      · simp; exact .nil
    · refine .inl (.inl (en _ _ ?_ (hid_ex _ _ hp)))
      intro z; subst z; rw [hid_ex _ _ hp] at nC; cases nC
    · obtain ⟨acc, e3, en, hC, hacc, lO, lN⟩ := hP
      obtain ⟨dd, hdd, hdv⟩ := hr.get' hx
      rw [List.getElem?_map] at hdd
      obtain ⟨y, hy, ey⟩ := Option.map_eq_some_iff.mp hdd
      subst ey
      have B3 : Bs c' H3 (wipe σ [j]) δ := mk e3 (fun a u ha h => en a u (fun z => by
        subst z
        obtain ⟨k, f, ds, ha⟩ := ha
        obtain ⟨vs, _, q, _⟩ := B2.ent k _ ha
        rw [q] at nC; cases nC) h) hC lO lN
      have B4 := set_va (i := j) B3 (hdv.mono (lift f e3))
      have hyx : y ∈ xs := List.mem_of_getElem? hy
      obtain ⟨t1, t2⟩ := body c' y _ _ hyx B4
      have hn : n < xs.length := by rw [List.getElem?_eq_some_iff] at hy; exact hy.1
      have tk : xs.take (n + 1) = xs.take n ++ [y] := by rw [List.take_add_one, hy]; rfl
      have keepAdr : ∀ {H4 : Hp}, Ex H3 H4 → Ex (hid (fun a => Adr δ a ∨ a = C) H2) H4 ∧ (∀ a u, a ≠ C → H2 a = some u → H4 a = some u) := fun e4 => ⟨e3.trans e4, fun a u na h => e4 _ _ (en a u na h)⟩
      refine ⟨?_, t1 H3 (Ex.refl H3) _ fun H4 e4 => ?_⟩
      · show ((((wipe σ []).set j none).set j (some x)).set j none) = _
        rw [List.set_set, List.set_set]; rfl
      · cases hb : cs y with
        | false =>
          rw [if_neg Bool.false_ne_true]
          refine ⟨acc, (keepAdr e4).1, (keepAdr e4).2, e4 _ _ hC, ?_, lO.mono e4, lN.mono e4⟩
          rw [tk, List.filter_append]
          simp only [List.filter_cons, hb, List.filter_nil, Bool.false_eq_true, if_false, List.append_nil]
          exact hacc.mono (hid_mono e4)
        | true =>
          rw [if_pos rfl]
          refine t2 hb H4 e4 _ fun v5 H5 e5 h5 => ?_
          have e45 := e4.trans e5
          refine ⟨acc, e45 _ _ hC, ?_, acc ++ [v5], ?_, ?_, upd_same, ?_, ?_, ?_⟩
          · refine Evl.sz_lt ?_
            rw [hacc.length, List.length_map]
            have h1 : ((xs.take n).filter cs).length ≤ (xs.take n).length := List.length_filter_le _ _
            have h2 : (xs.take n).length ≤ n := List.length_take_le _ _
            omega
          · intro a u h
            obtain ⟨h1, h2⟩ := hid_of h
            rw [upd_ne (fun z => h1 (.inr z))]
            exact (keepAdr e45).1 a u h
          · intro a u na h
            rw [upd_ne na]
            exact (keepAdr e45).2 a u na h
          · rw [hid_upd_in ((hdn g C).mpr (.inr rfl)), tk, List.filter_append, List.map_append]
            simp only [List.filter_cons, hb, List.filter_nil, if_true, List.map_cons, List.map_nil]
            refine (hacc.mono (hid_mono e45)).append (.one (h5.mono (hid_sub (hd_sub fun b z => ?_))))
            obtain ⟨k, f', ds', z⟩ := z
            exact ⟨k, f', ds', by rw [List.getElem?_set_ne (fun y => by subst y; rw [hj] at z; cases z)]; exact z⟩
          · intro b hb z
            by_cases q : b = C
            · subst q; rw [upd_same] at z; cases z
            · rw [upd_ne q] at z; exact (lO.mono e45) b hb z
          · intro b hb z
            by_cases q : b = C
            · subst q; rw [upd_same] at z; cases z
            · rw [upd_ne q] at z; exact (lN.mono e45) b hb z
    · obtain ⟨acc, e3, en, hC, hacc, lO, lN⟩ := hP
      have el : vs.length = xs.length := by rw [hr.length, List.length_map]
      rw [el, List.take_length] at hacc
      refine q C acc H3 (Evl.fresh_back e2 nC) (e2.trans fun a u h => ?_) hC (hacc.mono (hid_sub fun a z => (hdn g a).mpr z))
      exact en a u (ne_of_none h nC) h

section
variable {α β : Type} {em : α → PyData} {em2 : β → PyData} {xs : List α}
theorem en_lcTM (cs : α → Bool) (ex : α → β) (B : Bs c H σ δ) (hj : δ[j]? = some .no) (h : Ev (c.hd f δ) tl σ H (eTu em xs)) (hz : xs.length ≤ 40000)
    (body : ∀ (c' : Wd) (x : α) (σ1 : Sta) (H1 : Hp), x ∈ xs → Bs c' H1 σ1 (δ.set j (.va f (em x))) → EvT t σ1 H1 (cs x) ∧ (cs x = true → Ev (c'.hd g (δ.set j (.va f (em x)))) te σ1 H1 (em2 (ex x)))) :
    EvN (c.hd g δ) (tLc (iTup K tl) (gName j) t te [j]) σ H (((xs.filter cs).map ex).map em2) := (en_lcTL xs em cs (fun x => em2 (ex x)) B h hz body hj).is (by rw [List.map_map]; rfl)
theorem en_lcTM1 (ex : α → β) (B : Bs c H σ δ) (hj : δ[j]? = some .no) (h : Ev (c.hd f δ) tl σ H (eTu em xs)) (hz : xs.length ≤ 40000)
    (body : ∀ (c' : Wd) (x : α) (σ1 : Sta) (H1 : Hp), x ∈ xs → Bs c' H1 σ1 (δ.set j (.va f (em x))) → Ev (c'.hd g (δ.set j (.va f (em x)))) te σ1 H1 (em2 (ex x))) :
    EvN (c.hd g δ) (tLc (iTup K tl) (gName j) tYes te [j]) σ H ((xs.map ex).map em2) :=
  (en_lcTM (fun _ => true) ex B hj h hz fun c' x σ1 H1 hx B => ⟨fun H1 _ Q q => q H1 (Ex.refl H1), fun _ => body c' x σ1 H1 hx B⟩).is (by rw [List.filter_eq_self.mpr (fun _ _ => rfl)])
theorem ea_star {tr : TA} (h : Ev o te σ H (eL em xs)) (hr : EvA o tr σ H es) : EvA o (StX.tStar K te tr) σ H (xs.map em ++ es) := fun H1 x Q q =>
  h H1 x _ fun v H2 e2 hv => by
    cases hv with
    | @lst p vs _ hp hd => exact ⟨p, vs, rfl, .inr (.inl (.inl (hid_ex _ _ hp))), hr H2 (x.trans e2) _ fun ws H3 e3 hw => q _ H3 (e2.trans e3) ((hd.mono (hid_mono e3)).append hw)⟩
theorem ea_starT {tr : TA} (h : Ev o te σ H (eTu em xs)) (hr : EvA o tr σ H es) : EvA o (StX.tStar K te tr) σ H (xs.map em ++ es) := fun H1 x Q q =>
  h H1 x _ fun v H2 e2 hv => by
    cases hv with
    | @tup p vs _ hp hd => exact ⟨p, vs, rfl, .inl (.inl (.inl (hid_ex _ _ hp))), hr H2 (x.trans e2) _ fun ws H3 e3 hw => q _ H3 (e2.trans e3) ((hd.mono (hid_mono e3)).append hw)⟩
end
/-! dicts whose keys are whole numbers or strings, as data -/
section
variable {κ α β : Type} [DecidableEq κ] {kk : κ → Key} {em : α → PyData}
@[reducible] def eK (kk : κ → Key) (em : α → PyData) (m : List (κ × α)) : PyData := .dict (m.map fun x => (keyD (kk x.1), em x.2))
def lookM (m : List (κ × α)) (k : κ) : Option α := (m.find? fun x => decide (x.1 = k)).map (·.2)
def getM [Inhabited α] (m : List (κ × α)) (k : κ) : α := (lookM m k).getD default
def putM (m : List (κ × α)) (k : κ) (v : α) : List (κ × α) := if (m.any fun x => decide (x.1 = k)) = true then m.map (fun x => if x.1 = k then (x.1, v) else x) else m ++ [(k, v)]
def dictM (xs : List (κ × α)) : List (κ × α) := xs.foldl (fun m x => putM m x.1 x.2) []
theorem dnk_look (hk : Function.Injective kk) (k : κ) : ∀ {m : List (κ × α)} {vs : List (Key × V)}, DnK H vs (m.map fun x => (keyD (kk x.1), em x.2)) → (∀ y, lookM m k = some y → ∃ v, valV vs (kk k) = some v ∧ Dn H v (em y)) ∧ (lookM m k = none → valV vs (kk k) = none)
  | [], vs, h => by
    cases h
    exact ⟨fun y q => (by simp [lookM] at q), fun _ => rfl⟩
  | (k1, y1) :: m, vs, h => by
    rw [List.map_cons] at h
    generalize hq : keyD (kk k1) = kd at h
    cases h with
    | @cons k2 v _ vs _ h r =>
    have e2 : k2 = kk k1 := by
      cases k2 <;> cases hz : kk k1 <;> rw [hz] at hq <;> cases hq <;> rfl
    subst e2
    obtain ⟨i1, i2⟩ := dnk_look hk k r
    by_cases q : k1 = k
    · subst q
      refine ⟨fun y hy => ?_, fun hy => by simp [lookM] at hy⟩
      have : y1 = y := by simpa [lookM] using hy
      subst this
      exact ⟨v, valV_pos rfl, h⟩
    · have e1 : lookM ((k1, y1) :: m) k = lookM m k := by simp [lookM, List.find?_cons, q]
      have e3 : valV ((kk k1, v) :: vs) (kk k) = valV vs (kk k) := valV_neg (fun z => q (hk z))
      rw [e1, e3]
      exact ⟨i1, i2⟩
theorem dnk_put (hk : Function.Injective kk) {k : κ} {v : V} {y : α} {m : List (κ × α)} {vs : List (Key × V)} (h : DnK H vs (m.map fun x => (keyD (kk x.1), em x.2))) (hv : Dn H v (em y)) : DnK H (putK vs (kk k) v) ((putM m k y).map fun x => (keyD (kk x.1), em x.2)) := by
  have ha : ∀ {m : List (κ × α)} {vs : List (Key × V)}, DnK H vs (m.map fun x => (keyD (kk x.1), em x.2)) → ((vs.any fun kv => decide (kv.1 = kk k)) = (m.any fun x => decide (x.1 = k))) ∧ DnK H (vs.map (fun kv => if kv.1 = kk k then (kv.1, v) else kv)) ((m.map (fun x => if x.1 = k then (x.1, y) else x)).map fun x => (keyD (kk x.1), em x.2)) ∧ DnK H (vs ++ [(kk k, v)]) ((m ++ [(k, y)]).map fun x => (keyD (kk x.1), em x.2)) := by
    intro m
    induction m with
    | nil => intro vs h; cases h; exact ⟨rfl, .nil, .cons hv .nil⟩
    | cons x m ih =>
      intro vs h
      obtain ⟨k1, y1⟩ := x
      rw [List.map_cons] at h
      generalize hq : keyD (kk k1) = kd at h
      cases h with
      | @cons k2 v1 _ vs _ h r =>
      have e2 : k2 = kk k1 := by
        cases k2 <;> cases hz : kk k1 <;> rw [hz] at hq <;> cases hq <;> rfl
      subst e2
      obtain ⟨i1, i2, i3⟩ := ih r
      refine ⟨?_, ?_, .cons h i3⟩
      · rw [List.any_cons, List.any_cons, i1]
        congr 1
        exact decide_eq_decide.mpr ⟨fun z => hk z, fun z => congrArg kk z⟩
      · rw [List.map_cons, List.map_cons, List.map_cons]
        by_cases q : k1 = k
        · subst q
          rw [if_pos rfl, if_pos rfl]
          exact .cons hv i2
        · rw [if_neg q, if_neg (fun z => q (hk z))]
          exact .cons h i2
  obtain ⟨h1, h2, h3⟩ := ha h
  unfold putK putM
  rw [h1]
  split
  · exact h2
  · exact h3
theorem dnk_merge (hk : Function.Injective kk) : ∀ {xs : List (κ × α)} {kvs : List (Key × V)} {m : List (κ × α)} {vs : List (Key × V)}, DnK H kvs (xs.map fun x => (keyD (kk x.1), em x.2)) → DnK H vs (m.map fun x => (keyD (kk x.1), em x.2)) → DnK H (mergeK vs kvs) ((xs.foldl (fun m x => putM m x.1 x.2) m).map fun x => (keyD (kk x.1), em x.2))
  | [], kvs, m, vs, h, h2 => by cases h; exact h2
  | (k1, y1) :: xs, kvs, m, vs, h, h2 => by
    rw [List.map_cons] at h
    generalize hq : keyD (kk k1) = kd at h
    cases h with
    | @cons k2 v1 _ kvs _ h r =>
    have e2 : k2 = kk k1 := by
      cases k2 <;> cases hz : kk k1 <;> rw [hz] at hq <;> cases hq <;> rfl
    subst e2
    have := dnk_merge hk r (dnk_put hk (k := k1) h2 h)
    exact this
def rDictPK (K : PySem.W.Frag) : List V → Hp → VK → Prop := fun xs H Q => ∃ (a : Addr) (ps : List Addr) (kvs : List (Key × V)), xs = [.ref a] ∧ SqL K H a (ps.map V.ref) ∧ Paired (fun p kv => SqT K H p [kV kv.1, kv.2]) ps kvs ∧ ∀ p, H p = none → Q (.ref p) (upd H p (.dK (mergeK [] kvs)))
theorem call_dictPK {X : Cx} (hcalm : X.calm = true) : CallR X (.type "dict") (rDictPK X.K) := call_dictP hcalm
theorem pairs_dn (K : PySem.W.Frag) {e1 : κ → PyData} (he : ∀ k, e1 k = keyD (kk k)) : ∀ {xs : List (κ × α)} {vs : List V}, DnA (hid o H) vs (xs.map (eT2 e1 em)) → ∃ (ps : List Addr) (kvs : List (Key × V)), vs = ps.map V.ref ∧ Paired (fun p kv => SqT K H p [kV kv.1, kv.2]) ps kvs ∧ DnK (hid o H) kvs (xs.map fun x => (keyD (kk x.1), em x.2))
  | [], vs, h => by cases h; exact ⟨[], [], rfl, .nil, .nil⟩
  | x :: xs, vs, h => by
    rw [List.map_cons] at h
    cases h with
    | cons h r =>
    obtain ⟨ps, kvs, rfl, p2, p3⟩ := pairs_dn K he r
    cases h with
    | @tup p us _ hp hr =>
    cases hr with
    | @cons v1 _ _ _ g1 hr =>
    cases hr with
    | @cons v2 _ _ _ g2 hr =>
    cases hr
    rw [he] at g1
    have e3 : v1 = kV (kk x.1) := by
      cases hz : kk x.1 <;> rw [hz] at g1 <;> cases g1 <;> rfl
    subst e3
    exact ⟨p :: ps, (kk x.1, v2) :: kvs, rfl, .cons (.inl (.inl (hid_ex _ _ hp))) p2, .cons g2 p3⟩
theorem ev_dictP {e1 : κ → PyData} {xs : List (κ × α)} (he : ∀ k, e1 k = keyD (kk k)) (hk : Function.Injective kk) (l : Live o H) (ha : Ev o ta σ H (eL (eT2 e1 em) xs)) : Ev o (tCB (rDictPK K) (tCons ta tNil)) σ H (eK kk em (dictM xs)) := fun H1 x Q q =>
  ha H1 x _ fun v H2 e2 hv => by
    cases hv with
    | @lst p vs _ hp hr =>
      obtain ⟨ps, kvs, rfl, p2, p3⟩ := pairs_dn K he hr
      refine ⟨p, ps, kvs, rfl, .inl (.inl (hid_ex _ _ hp)), p2, fun C nC => ?_⟩
      refine q _ _ (e2.trans (Evl.Ex.new nC)) (.dct (at_new ((l.mono x).mono e2) nC) ?_)
      exact (dnk_merge hk p3 .nil).mono (hid_upd_new nC)
theorem ev_din {m : List (κ × α)} {k : κ} {e1 : κ → PyData} (he : ∀ k, e1 k = keyD (kk k)) (hk : Function.Injective kk) (h1 : Ev o0 ta σ H (e1 k)) (h2 : Ev o0 tb σ H (eK kk em m)) : Ev o (tDIn ta tb) σ H (eB (lookM m k).isSome) := fun H1 x Q q =>
  h1 H1 x _ fun v H2 e2 hv => h2 H2 (x.trans e2) _ fun u H3 e3 hu => by
    rw [he] at hv
    have e4 : v = kV (kk k) := by
      cases hz : kk k <;> rw [hz] at hv <;> cases hv <;> rfl
    subst e4
    generalize hq : (m.map fun x => (keyD (kk x.1), em x.2)) = dd at hu
    cases hu with
    | @dct a xs _ hp hd =>
    subst hq
    obtain ⟨i1, i2⟩ := dnk_look hk k hd
    have := hid_ex _ _ hp
    refine ⟨a, _, rfl, DGet.k this, ?_⟩
    have e5 : (valV xs (kk k)).isSome = (lookM m k).isSome := by
      cases hz : lookM m k with
      | none => rw [i2 hz]; rfl
      | some y => obtain ⟨v, hv, _⟩ := i1 y hz; rw [hv]; rfl
    rw [e5]
    exact q _ H3 (e2.trans e3) (.bl _)
theorem ev_dget [Inhabited α] {m : List (κ × α)} {k : κ} {e1 : κ → PyData} (he : ∀ k, e1 k = keyD (kk k)) (hk : Function.Injective kk) (h2 : Ev o tb σ H (eK kk em m)) (h1 : Ev o0 ta σ H (e1 k)) (hs : (lookM m k).isSome = true) : Ev o (tDGet tb ta) σ H (em (getM m k)) := fun H1 x Q q =>
  h2 H1 x _ fun u H2 e2 hu => h1 H2 (x.trans e2) _ fun v H3 e3 hv => by
    rw [he] at hv
    have e4 : v = kV (kk k) := by
      cases hz : kk k <;> rw [hz] at hv <;> cases hv <;> rfl
    subst e4
    generalize hq : (m.map fun x => (keyD (kk x.1), em x.2)) = dd at hu
    cases hu with
    | @dct a xs _ hp hd =>
    subst hq
    obtain ⟨y, hy⟩ := Option.isSome_iff_exists.mp hs
    obtain ⟨w, hw, hdw⟩ := (dnk_look hk k hd).1 y hy
    refine ⟨a, w, rfl, ?_, ?_⟩
    · have := hid_ex _ _ hp
      rw [← hw]; exact DGet.k (e3 _ _ this)
    · have : getM m k = y := by unfold getM; rw [hy]; rfl
      exact q _ H3 (e2.trans e3) (by rw [this]; exact hdw.mono (hid_mono e3))
end
section
variable {α1 α2 α3 β : Type} {em2 : β → PyData} {js : List Nat} {tg : TG} {tl : TA} {u : α1 × α2 × α3 → List Ent → List Ent}
theorem en_lcZM1 (xs : List (α1 × α2 × α3)) (m1 : α1 → PyData) (m2 : α2 → PyData) (m3 : α3 → PyData) (ex : α1 × α2 × α3 → β) (G : TgtW js tg f (eT3 m1 m2 m3) u) (B : Bs c H σ δ) (hj : ∀ j ∈ js, δ[j]? = some .no) (hu : ∀ y b, Adr δ b → Adr (u y δ) b) (h : EvA (c.hd f δ) tl σ H [.tuple (xs.map fun z => m1 z.1), .tuple (xs.map fun z => m2 z.2.1), .tuple (xs.map fun z => m3 z.2.2)]) (hz : xs.length ≤ 40000)
    (body : ∀ (c' : Wd) (x : α1 × α2 × α3) (σ1 : Sta) (H1 : Hp), x ∈ xs → Bs c' H1 σ1 (u x δ) → Ev (c'.hd g (u x δ)) te σ1 H1 (em2 (ex x))) :
    EvN (c.hd g δ) (tLc (iZipT3 K tl) tg tYes te js) σ H ((xs.map ex).map em2) :=
  (en_lcZ3 xs m1 m2 m3 (fun _ => true) (fun x => em2 (ex x)) G B h hz (fun c' x σ1 H1 hx B => ⟨fun H1 _ Q q => q H1 (Ex.refl H1), fun _ => body c' x σ1 H1 hx B⟩) hj hu).is (by rw [List.filter_eq_self.mpr (fun _ _ => rfl), List.map_map]; rfl)
end
end
theorem ite_em {α : Type} (f : α → PyData) {b : Bool} {x y : α} : (if b = true then f x else f y) = f (if b = true then x else y) := by
  cases b <;> rfl
theorem un1 {n : Nat} (h : n + 64 < PySem.cLine) : n + 1 < PySem.cLine := by omega
end HL
namespace HL
open PySem PySem.Spec PyProof.Rows L2
open PySem.Builtin PyProof
open Evl (Ex)
/-! three lists that are held in a list -/
section
variable {K : PySem.W.Frag} {c : Wd} {o : Hd} {H H1 H' : Hp} {σ : Sta} {δ δ' : List Ent} {i j : Nat} {f g b : Bool} {a p q r pp : Addr} {d e : PyData} {ds es : List PyData} {ta tb tc te tl : TE} {t : TT} {ts tu tw tz : TS} {D : Ends} {α β γ S R : Type} {em : α → PyData} {em2 : β → PyData} {emg : γ → PyData} {xs ys : List α} {n : Nat} {m : Int} {vs ws us rs : List V} {u : HO} {fs : List PyData}
theorem set_rw (S : Bs c H σ δ) {v : V} : Bs c H (σ.set i (some v)) (δ.set i (.rw v)) := by
  have sub : ∀ b, Adr (δ.set i (.rw v)) b → Adr δ b := fun b z => by
    rcases adr_set z with z | ⟨_, _, z⟩
    · exact z
    · cases z
  have hs : ∀ f', Ex (hid (c.hd f' δ) H) (hid (c.hd f' (δ.set i (.rw v))) H) := fun f' => hid_sub (hd_sub sub)
  refine ⟨S.base, S.liO, S.liN, fun a h => S.own a (sub a h), fun x y f1 f2 a ds es h1 h2 => ?_, by simp [S.len], fun k e h => ?_⟩
  · have q : ∀ {k : Nat} {f' : Bool} {ds : List PyData}, (δ.set i (.rw v))[k]? = some (.ow f' a ds) → δ[k]? = some (.ow f' a ds) := fun {k f' ds} h => by
      by_cases z : i = k
      · subst z
        rw [List.getElem?_set] at h
        simp at h
      · rwa [List.getElem?_set_ne z] at h
    exact S.one _ _ _ _ _ _ _ (q h1) (q h2)
  · by_cases z : i = k
    · subst z
      rw [List.getElem?_set] at h
      simp at h
      obtain ⟨hl, h⟩ := h
      subst h
      show _ = _
      rw [List.getElem?_set]; simp [S.len, hl]
    · rw [List.getElem?_set_ne z] at h
      rw [List.getElem?_set_ne z]
      have q := S.ent k e h
      cases e with
      | no => trivial
      | va f d => obtain ⟨v, e, q⟩ := q; exact ⟨v, e, q.mono (hs _)⟩
      | ow f a ds => obtain ⟨vs, e, q, r⟩ := q; exact ⟨vs, e, q, r.mono (hs _)⟩
      | rw v => exact q

section
variable [DecidableEq α] [DecidableEq β] [DecidableEq γ] {gd : α → Prop} {gd2 : β → Prop} {gd3 : γ → Prop} {n1 n2 n3 : Nat}
theorem emP3 (h : Em em gd n1) (h2 : Em em2 gd2 n2) (h3 : Em emg gd3 n3) : Em (eP3 em em2 emg) (fun p => gd p.1 ∧ gd2 p.2.1 ∧ gd3 p.2.2) (max n1 (max n2 n3) + 1) := ⟨fun p => by simp [flatD, flatDs, h.flat, h2.flat, h3.flat], fun p g => by simp [PyData.canLay0, PyData.canLayAll0, h.lay _ g.1, h2.lay _ g.2.1, h3.lay _ g.2.2], fun p => by
    have a := h.dep p.1
    have b := h2.dep p.2.1
    have c := h3.dep p.2.2
    simp [PyData.depth, PyData.depthAll]; omega, fun p q => by
    obtain ⟨p1, p2, p3⟩ := p
    obtain ⟨q1, q2, q3⟩ := q
    simp only [PyData.eqv, PyData.eqvAll, h.eqv, h2.eqv, h3.eqv]
    rw [Bool.eq_iff_iff]; simp⟩
end
theorem ev_ra3 (B : Bs c H σ δ) (hs : δ[i]? = some (.rw (.ref pp))) (hO : PO c pp [.ref p, .ref q, .ref r]) (h1 : PK c p vs ds) (h2 : PK c q ws es) (h3 : PK c r us fs) : Ev o0 (tVar i) σ H (.list [.list ds, .list es, .list fs]) := fun H1 x Q k =>
  ⟨.ref pp, B.ent i _ hs, k _ H1 (Ex.refl H1) (by
    have B1 := B.mono x
    refine .lst (by rw [show hid o0 H1 = H1 from hid_none]; exact B1.base _ _ hO.2) (.cons (h1.dn B1) (.cons (h2.dn B1) (.cons (h3.dn B1) .nil))))⟩
theorem adr_live (B : Bs c H σ δ) {x : Addr} (hx : H x = none) : ¬ Adr δ x := fun ⟨k, g, es, z⟩ => by
  obtain ⟨_, _, w, _⟩ := B.ent k _ z
  rw [w] at hx; cases hx
/-- passed = [list(x), list(y), list(z)] -/
theorem q_pass3 (B : Bs c H σ δ) (hj : δ[i]? = some .no) (ha : Ev (c.hd false δ) ta σ H (.list ds)) (hb : ∀ (c' : Wd) (H' : Hp), Bs c' H' σ δ → Ev (c'.hd false δ) tb σ H' (.list es)) (hc : ∀ (c' : Wd) (H' : Hp), Bs c' H' σ δ → Ev (c'.hd false δ) tc σ H' (.list fs))
    (k : ∀ (p0 p1 p2 pp : Addr) (vs ws us : List V) (c' : Wd) (σ1 : Sta) (H1 : Hp), Ex c.B c'.B → H p0 = none → H p1 = none → H p2 = none → p0 ≠ p1 → p0 ≠ p2 → p1 ≠ p2 → pp ≠ p0 → pp ≠ p1 → pp ≠ p2 → PO c' pp [.ref p0, .ref p1, .ref p2] → PK c' p0 vs ds → PK c' p1 ws es → PK c' p2 us fs → Bs c' H1 σ1 (δ.set i (.rw (.ref pp))) → tz D σ1 H1) :
    tSeq (tAsg (tLst (tCons (tCB (rListOfK K) (tCons ta tNil)) (tCons (tCB (rListOfK K) (tCons tb tNil)) (tCons (tCB (rListOfK K) (tCons tc tNil)) tNil)))) (gName i)) tz D σ H := by
  show tCB (rListOfK K) (tCons ta tNil) σ H (fun x H1 => tCB (rListOfK K) (tCons tb tNil) σ H1 fun y H2 => tCB (rListOfK K) (tCons tc tNil) σ H2 fun z H3 => [x, y, z].length ≤ sizeLine ∧ ∀ p, H3 p = none → tz D (σ.set i (some (.ref p))) (upd H3 p (.lst [x, y, z])))
  refine (en_listL ha) H (Ex.refl H) _ fun p0 vs H1 n0 e1 hp0 d0 => ?_
  have B1 := B.addN e1 n0 hp0
  refine (en_listL (hb _ H1 B1)) H1 (Ex.refl H1) _ fun p1 ws H2 n1 e2 hp1 d1 => ?_
  have B2 := B1.addN e2 n1 hp1
  refine (en_listL (hc _ H2 B2)) H2 (Ex.refl H2) _ fun p2 us H3 n2 e3 hp2 d2 => ⟨by show 3 ≤ sizeLine; decide, fun pp npp => ?_⟩
  have B3 := B2.addN e3 n2 hp2
  have e4 : Ex H3 (upd H3 pp (.lst [.ref p0, .ref p1, .ref p2])) := Evl.Ex.new npp
  have hpp : (upd H3 pp (.lst [.ref p0, .ref p1, .ref p2])) pp = some (.lst [.ref p0, .ref p1, .ref p2]) := upd_same
  have B4 := (B3.addN e4 npp hpp).rebase
  have n1' : H p1 = none := Evl.fresh_back e1 n1
  have n2' : H1 p2 = none := Evl.fresh_back e2 n2
  have n2'' : H p2 = none := Evl.fresh_back e1 n2'
  have npp2 : H2 pp = none := Evl.fresh_back e3 npp
  have npp1 : H1 pp = none := Evl.fresh_back e2 npp2
  have e01 : p0 ≠ p1 := fun z => by rw [← z, hp0] at n1; cases n1
  have e02 : p0 ≠ p2 := fun z => by rw [← z, hp0] at n2'; cases n2'
  have e12 : p1 ≠ p2 := fun z => by rw [← z, hp1] at n2; cases n2
  have ep0 : pp ≠ p0 := fun z => by rw [z, hp0] at npp1; cases npp1
  have ep1 : pp ≠ p1 := fun z => by rw [z, hp1] at npp2; cases npp2
  have ep2 : pp ≠ p2 := fun z => by rw [z, hp2] at npp; cases npp
  have a0 := adr_live B n0
  have a1 := adr_live B n1'
  have a2 := adr_live B n2''
  have ap : ¬ Adr δ pp := adr_live B1 npp1
  have el : ∀ {us : List V} {dd : List PyData} {oo : Hd} {Hx : Hp}, Ex Hx (upd H3 pp (.lst [.ref p0, .ref p1, .ref p2])) → (∀ b u, ¬ oo b → Hx b = some u → ¬ c.N b ∧ ¬ Adr δ b ∧ b ≠ p0 ∧ b ≠ p1 ∧ b ≠ p2 ∧ b ≠ pp) → DnA (hid oo Hx) us dd → DnA (hid (fun b => (((c.N b ∨ b = p0) ∨ b = p1) ∨ b = p2) ∨ b = pp) (hid (fun b => Adr δ b) (upd H3 pp (.lst [.ref p0, .ref p1, .ref p2])))) us dd := fun {us dd oo Hx} ex av h => h.mono fun b u z => by
    obtain ⟨z1, z2⟩ := hid_of z
    obtain ⟨a4, a5, a1, a2, a3, a6⟩ := av b u z1 z2
    rw [hid_at, hid_at]
    · exact ex _ _ z2
    · exact a5
    · rintro ((((y | y) | y) | y) | y)
      · exact a4 y
      · exact a1 y
      · exact a2 y
      · exact a3 y
      · exact a6 y
  refine k p0 p1 p2 pp vs ws us ⟨hid (fun b => Adr δ b) (upd H3 pp (.lst [.ref p0, .ref p1, .ref p2])), c.O, fun b => (((c.N b ∨ b = p0) ∨ b = p1) ∨ b = p2) ∨ b = pp⟩ _ _ (fun b u z => ?_) n0 n1' n2'' e01 e02 e12 ep0 ep1 ep2 ⟨.inr rfl, (hid_at ap).trans hpp⟩ ⟨.inl (.inl (.inl (.inr rfl))), (hid_at a0).trans (e4 _ _ (e3 _ _ (e2 _ _ hp0))), el ((e2.trans e3).trans e4) (fun b u z1 z2 => ?_) d0⟩ ⟨.inl (.inl (.inr rfl)), (hid_at a1).trans (e4 _ _ (e3 _ _ hp1)), el (e3.trans e4) (fun b u z1 z2 => ?_) d1⟩ ⟨.inl (.inr rfl), (hid_at a2).trans (e4 _ _ hp2), el e4 (fun b u z1 z2 => ?_) d2⟩ (set_rw B4)
  · show hid (fun b => Adr δ b) (upd H3 pp (.lst [.ref p0, .ref p1, .ref p2])) b = some u
    rw [hid_at (fun y => by rw [(B.own b y).1] at z; cases z)]
    exact e4 _ _ (e3 _ _ (e2 _ _ (e1 _ _ (B.base _ _ z))))
  · exact ⟨fun y => z1 (.inl (.inr (.inl y))), fun y => z1 (.inl (.inr (.inr y))), fun y => z1 (.inr y), fun y => (by subst y; rw [n1] at z2; cases z2), fun y => (by subst y; rw [n2'] at z2; cases z2), fun y => (by subst y; rw [npp1] at z2; cases z2)⟩
  · exact ⟨fun y => z1 (.inl (.inr (.inl (.inl y)))), fun y => z1 (.inl (.inr (.inr y))), fun y => z1 (.inl (.inr (.inl (.inr y)))), fun y => z1 (.inr y), fun y => (by subst y; rw [n2] at z2; cases z2), fun y => (by subst y; rw [npp2] at z2; cases z2)⟩
  · exact ⟨fun y => z1 (.inl (.inr (.inl (.inl (.inl y))))), fun y => z1 (.inl (.inr (.inr y))), fun y => z1 (.inl (.inr (.inl (.inl (.inr y))))), fun y => z1 (.inl (.inr (.inl (.inr y)))), fun y => z1 (.inr y), fun y => (by subst y; rw [npp] at z2; cases z2)⟩
abbrev rInsK : V → List V → Hp → VK → Prop := fun x vs H Q => ∃ (l : Addr) (xs : List V) (i : Int) (y : V), x = .ref l ∧ vs = [.int i, y] ∧ H l = some (.lst xs) ∧ xs.length < sizeLine ∧ 0 ≤ i ∧ i < 2 ^ 63 ∧ Q .non (upd H l (.lst (xs.take i.toNat ++ [y] ++ xs.drop i.toNat)))
theorem q_raIns {z : Int} (B : Bs c H σ δ) (hs : δ[i]? = some (.rw (.ref pp))) (hO : PO c pp rs) (hk : atI rs m = some (.ref p)) (h : PK c p vs ds) (hi : Ev o0 ta σ H (.int z)) (hx : Ev c.N te σ H d) (hz : ds.length < 100000) (h0 : 0 ≤ z ∧ z ≤ 1000000)
    (k : ∀ v H1, PK (c.put p (.lst (vs.take z.toNat ++ [v] ++ vs.drop z.toNat))) p (vs.take z.toNat ++ [v] ++ vs.drop z.toNat) (ds.take z.toNat ++ [d] ++ ds.drop z.toNat) → Bs (c.put p (.lst (vs.take z.toNat ++ [v] ++ vs.drop z.toNat))) H1 σ δ → tz D σ H1) (hc : Sc d) :
    tSeq (tDrop (tBM K "list" rInsK (tOp (rIxL K) (tVar i) (tC (.int m))) (tCons ta (tCons te tNil)))) tz D σ H := by
  refine ⟨.ref pp, B.ent i _ hs, pp, rs, m, .ref p, rfl, rfl, .inl (.inl (B.base _ _ hO.2)), hk, .inl ⟨rfl, _, .inl (.inl (B.base _ _ h.2.1))⟩, hi.go fun w H2 e2 hw => (hx.mono e2).go fun v H3 e3 hd => ?_⟩
  cases hw
  refine ⟨p, vs, z, v, rfl, rfl, e3 _ _ (e2 _ _ (B.base _ _ h.2.1)), Evl.sz_lt (by rw [h.2.2.length]; exact hz), h0.1, by omega, k v _ ⟨h.1, upd_same, ?_⟩ (((B.mono e2).mono e3).put h.1)⟩
  show DnA (hid c.N (upd c.B p _)) _ _
  rw [hid_upd_in h.1]
  exact ((h.2.2.take _).append (.one (Dn.sc hc hd))).append (h.2.2.drop _)
end
end HL
namespace HL
open PySem PySem.Spec PyProof.Rows L2
open Evl (Ex)
section
variable {K : PySem.W.Frag} {c : Wd} {o : Hd} {H H1 H' : Hp} {σ : Sta} {δ δ' : List Ent} {i j ci : Nat} {f g b : Bool} {a : Addr} {d e : PyData} {ta tb te tl : TE} {t : TT} {ts tu tw tz : TS} {D : Ends} {α β γ S R : Type} {em : α → PyData} {em2 : β → PyData} {emg : γ → PyData} {xs ys : List α} {m n : Int}
theorem en_lcEL {xs : List Int} {tl : TE} (nx : List γ → Int → β × List γ) (J : List γ → Prop) {gs : List γ} (B : Bs c H σ δ) (hj : δ[j]? = some .no) (hx : δ[ci]? = some (.ow true a (gs.map emg))) (j0 : J gs) (js : ∀ gs k, J gs → J (nx gs k).2)
    (h : Ev (c.hd false δ) tl σ H (eL eI xs)) (hz : xs.length ≤ 40000)
    (body : ∀ (c' : Wd) (gs : List γ) (x : Int) (σ1 : Sta) (H1 : Hp), x ∈ xs → J gs → Bs c' H1 σ1 ((δ.set ci (.ow true a (gs.map emg))).set j (.va true (eI x))) →
      EvM c' te σ1 H1 ((δ.set ci (.ow true a (gs.map emg))).set j (.va true (eI x))) (em2 (nx gs x).1) ((δ.set ci (.ow true a ((nx gs x).2.map emg))).set j (.va true (eI x)))) :
    ∀ Q : VK, (∀ p vs H2, H p = none → H2 p = some (.lst vs) → Bs c H2 σ (δ.set ci (.ow true a ((xs.foldl (stepE nx) ([], gs)).2.map emg))) →
      DnA (hid (fun b => c.hd true δ b ∨ b = p) H2) vs ((xs.foldl (stepE nx) ([], gs)).1.map em2) → Q (.ref p) H2) → tLc (iList K tl) (gName j) tYes te [j] σ H Q := by
  intro Q q
  refine h H (Ex.refl H) _ fun pv H2 e2 hpv => ?_
  have B2 := B.mono e2
  cases hpv with
  | @lst p0 vs0 _ hp0 hr0 =>
  refine ⟨p0, rfl, ⟨vs0, .inl (.inl (hid_ex _ _ hp0))⟩, fun C nC => ?_⟩
  obtain ⟨hq1, hq2⟩ := hid_of hp0
  have hsq : ∀ {H3 : Hp} {σ3 : Sta} {δ3 : List Ent}, Bs (c.blk δ H2 C) H3 σ3 δ3 → SqL K H3 p0 vs0 := fun B3 => .inl (.inl (B3.base _ _ (by
    show hid (fun a => Adr δ a ∨ a = C) H2 p0 = _
    rw [hid_at]
    · exact hq2
    · rintro (z | z)
      · exact hq1 (.inr (.inr z))
      · rw [z, nC] at hq2; cases hq2)))
  have hlen : vs0.length = xs.length := by rw [hr0.length, List.length_map]
  have hel : ∀ (n : Nat) (x : V), vs0[n]? = some x → ∃ y, xs[n]? = some y ∧ x = .int y := fun n x hx => by
    obtain ⟨dd, hdd, hdv⟩ := hr0.get' hx
    rw [List.getElem?_map] at hdd
    obtain ⟨y, hy, ey⟩ := Option.map_eq_some_iff.mp hdd
    subst ey
    cases hdv
    exact ⟨y, hy, rfl⟩
  have ncj : ci ≠ j := fun z => by subst z; rw [hj] at hx; cases hx
  let st := fun n : Nat => (xs.take n).foldl (stepE nx) ([], gs)
  have hjn : ∀ gs' : List γ, (δ.set ci (.ow true a (gs'.map emg)))[j]? = some .no := fun gs' => by rw [List.getElem?_set_ne ncj]; exact hj
  have hci : ∀ gs' : List γ, (δ.set ci (.ow true a (gs'.map emg)))[ci]? = some (.ow true a (gs'.map emg)) := fun gs' => by
    have : ci < δ.length := by rw [List.getElem?_eq_some_iff] at hx; exact hx.1
    rw [List.getElem?_set]; simp [this]
  have ead : ∀ gs' : List γ, ∀ b, Adr (δ.set ci (.ow true a (gs'.map emg))) b ↔ Adr δ b := fun gs' b => adr_ow hx b
  have ead2 : ∀ (gs' : List γ) (x : Int) b, Adr ((δ.set ci (.ow true a (gs'.map emg))).set j (.va true (eI x))) b ↔ Adr δ b := fun gs' x b => (adr_no (hjn gs') (fun _ _ _ z => by cases z) b).trans (ead gs' b)
  have e0 : δ.set ci (.ow true a (gs.map emg)) = δ := by
    refine List.ext_getElem? fun k => ?_
    by_cases z : ci = k
    · subst z; rw [hci, hx]
    · rw [List.getElem?_set_ne z]
  have cC : (c.blk δ H2 C).N C := .inr rfl
  have bC : (c.blk δ H2 C).B C = none := hid_in (o := fun a => Adr δ a ∨ a = C) (.inr rfl)
  refine lc_list (xs := vs0) (fun n H3 => ∃ acc, Bs (c.blk δ H2 C) H3 (wipe σ [j]) (δ.set ci (.ow true a ((st n).2.map emg))) ∧ H3 C = some (.lst acc) ∧ DnA (hid ((c.blk δ H2 C).hd true δ) H3) acc ((st n).1.map em2) ∧ J (st n).2) ?_ (fun n H3 _ hP => (by obtain ⟨acc, B3, _⟩ := hP; exact hsq B3)) (fun n xv H3 hxv hP => ?_) (fun H3 hP => ?_)
  · refine ⟨[], ?_, upd_same, .nil, j0⟩
    show Bs _ _ (σ.set j none) (δ.set ci (.ow true a (gs.map emg)))
    rw [e0]
    exact (B2.blk nC).slot hj
  · obtain ⟨acc, B3, hC, hacc, hJ⟩ := hP
    obtain ⟨y, hge, ey⟩ := hel n xv hxv
    subst ey
    have hn : n < xs.length := (List.getElem?_eq_some_iff.mp hge).1
    have tk : st (n + 1) = stepE nx (st n) y := take_fold hge
    have B4 := set_va (i := j) (f := true) (d := eI y) (v := .int y) B3 (.int _)
    refine ⟨?_, ?_⟩
    · show ((((wipe σ []).set j none).set j (some (.int y))).set j none) = _
      rw [List.set_set, List.set_set]; rfl
    unfold tYes
    dsimp only
    rw [if_pos rfl]
    refine body _ _ y _ _ (List.mem_of_getElem? hge) hJ B4 _ fun v H5 B5 k5 hv => ?_
    have nad : ∀ b, ¬ Adr ((δ.set ci (.ow true a ((st n).2.map emg))).set j (.va true (eI y))) b ↔ ¬ Adr δ b := fun b => not_congr (ead2 _ _ b)
    have hC5 : H5 C = some (.lst acc) := k5 C _ ((nad C).mpr fun z => (B3.own C ((ead _ C).mpr z)).2.2 cC) hC
    have hC0 : (c.blk δ H2 C).hd true δ C := .inr (.inl cC)
    have acc5 : DnA (hid ((c.blk δ H2 C).hd true δ) H5) acc ((st n).1.map em2) := hacc.mono fun b u q => by
      obtain ⟨q1, q2⟩ := hid_of q
      rw [hid_at q1]
      exact k5 b u ((nad b).mpr fun z => q1 (.inr (.inr z))) q2
    have v5 : Dn (hid ((c.blk δ H2 C).hd true δ) H5) v (em2 (nx (st n).2 y).1) := by
      rw [hd_adr (ead2 _ _) true] at hv; exact hv
    refine ⟨acc, hC5, ?_, acc ++ [v], ?_, upd_same, ?_, ?_⟩
    · refine Evl.sz_lt ?_
      rw [hacc.length, List.length_map]
      have ln : ∀ k, (st k).1.length ≤ k := fun k => by
        show ((xs.take k).foldl (stepE nx) ([], gs)).1.length ≤ k
        have gen : ∀ (l : List Int) (p : List β × List γ), (l.foldl (stepE nx) p).1.length = p.1.length + l.length := fun l => by
          induction l with
          | nil => intro p; simp
          | cons y l ih => intro p; rw [List.foldl_cons, ih]; simp [stepE]; omega
        rw [gen]; simp; omega
      have := ln n
      omega
    · rw [tk]
      show Bs (c.blk δ H2 C) (upd H5 C (.lst (acc ++ [v]))) (wipe σ [j]) (δ.set ci (.ow true a ((nx (st n).2 y).2.map emg)))
      have B6 : Bs (c.blk δ H2 C) H5 ((wipe σ [j]).set j (some (.int y))) (δ.set ci (.ow true a ((nx (st n).2 y).2.map emg))) := by
        refine B5.le ?_
        have gen : ∀ (l : List Ent) (k : Nat) (e : Ent), l[k]? = some .no → LeA (l.set k e) l := fun l => by
          induction l with
          | nil => intro k e h; simp at h
          | cons y l ih =>
            intro k e h
            cases k with
            | zero => simp at h; subst h; exact .cons (.no _) (LeA.refl l)
            | succ k => exact .cons (.refl y) (ih k e (by simpa using h))
        exact gen _ _ _ (hjn _)
      have B7 := (B6.slot (x := none) (hjn _)).updN (u := .lst (acc ++ [v])) cC bC
      have ew : ((wipe σ [j]).set j (some (V.int y))).set j none = wipe σ [j] := by
        show ((((wipe σ []).set j none).set j (some (.int y))).set j none) = _
        rw [List.set_set, List.set_set]; rfl
      rw [ew] at B7
      exact B7
    · rw [hid_upd_in hC0, tk]
      show DnA _ _ (((st n).1 ++ [(nx (st n).2 y).1]).map em2)
      rw [List.map_append]
      exact acc5.append (.one v5)
    · rw [tk]; exact js _ _ hJ
  · obtain ⟨acc, B3, hC, hacc, hJ⟩ := hP
    have el : st vs0.length = xs.foldl (stepE nx) ([], gs) := by
      show (xs.take _).foldl _ _ = _
      rw [hlen, List.take_length]
    rw [el] at B3 hacc
    refine q C acc H3 (Evl.fresh_back e2 nC) hC ?_ (hacc.mono (hid_sub fun b z => ?_))
    · have B4 := B2.unblk nC B3
      refine ⟨B4.base, B4.liO, B4.liN, B4.own, B4.one, by rw [← B4.len, wipe_length], fun i e he => ?_⟩
      have w := B4.ent i e he
      by_cases z : j = i
      · subst z; rw [hjn] at he; cases he; trivial
      · have : (wipe σ [j])[i]? = σ[i]? := by
          show ((wipe σ []).set j none)[i]? = _
          rw [List.getElem?_set_ne z]; rfl
        rw [this] at w; exact w
    · rcases z with (z | z | z) | z
      · exact .inl z
      · exact .inr (.inl (.inl z))
      · exact .inr (.inr z)
      · exact .inr (.inl (.inr z))
theorem q_asgEL {xs : List Int} {tl : TE} (nx : List γ → Int → β × List γ) (J : List γ → Prop) {gs : List γ} (B : Bs c H σ δ) (hj : δ[j]? = some .no) (hx : δ[ci]? = some (.ow true a (gs.map emg))) (j0 : J gs) (js : ∀ gs k, J gs → J (nx gs k).2)
    (h : Ev (c.hd false δ) tl σ H (eL eI xs)) (hz : xs.length ≤ 40000)
    (body : ∀ (c' : Wd) (gs : List γ) (x : Int) (σ1 : Sta) (H1 : Hp), x ∈ xs → J gs → Bs c' H1 σ1 ((δ.set ci (.ow true a (gs.map emg))).set j (.va true (eI x))) →
      EvM c' te σ1 H1 ((δ.set ci (.ow true a (gs.map emg))).set j (.va true (eI x))) (em2 (nx gs x).1) ((δ.set ci (.ow true a ((nx gs x).2.map emg))).set j (.va true (eI x))))
    (k : ∀ ys gs' σ1 H1, (ys, gs') = xs.foldl (stepE nx) ([], gs) → J gs' → Bs c H1 σ1 ((δ.set ci (.ow true a (gs'.map emg))).set i (.va true (eL em2 ys))) → tz D σ1 H1) :
    tSeq (tAsg (tLc (iList K tl) (gName j) tYes te [j]) (gName i)) tz D σ H := by
  show tLc (iList K tl) (gName j) tYes te [j] σ H (fun x H1 => tz D (σ.set i (some x)) H1)
  refine en_lcEL nx J B hj hx j0 js h hz body _ fun p vs H2 np hp B2 hv => ?_
  have jj : J (xs.foldl (stepE nx) ([], gs)).2 := by
    have gen : ∀ (l : List Int) (q : List β × List γ), J q.2 → J (l.foldl (stepE nx) q).2 := fun l => by
      induction l with
      | nil => intro q hq; exact hq
      | cons y l ih => intro q hq; rw [List.foldl_cons]; exact ih _ (js _ _ hq)
    exact gen _ _ j0
  refine k (xs.foldl (stepE nx) ([], gs)).1 (xs.foldl (stepE nx) ([], gs)).2 _ _ rfl jj (set_va B2 (.lst ?_ (hv.mono (hid_sub fun b z => ?_))))
  · rw [hid_at]
    · exact hp
    · rw [hd_adr (adr_ow hx) true]; exact (B.live true).fresh np
  · rw [hd_adr (adr_ow hx) true] at z; exact .inl z
theorem ev_tupS {o : Hd} {α : Type} {em : α → PyData} {xs : List α} {ta : TE} (l : Live o H) (hs : ∀ x, Sc (em x)) (ha : Ev o0 ta σ H (eL em xs)) : Ev o (tCB (rTupOfK K) (tCons ta tNil)) σ H (eTu em xs) := fun H1 x _ q =>
  ha H1 x _ fun v H2 e2 hv => by
    cases hv with
    | lst h r => exact ⟨_, _, rfl, .inl ⟨.inl (.inl (hid_ex _ _ h)), fun p np => q _ _ (e2.trans (Evl.Ex.new np)) (.tup (at_new ((l.mono x).mono e2) np) (DnA.scs hs r))⟩⟩
end
end HL
namespace HL
open PySem PySem.Spec PyProof.Rows L2
open PySem.Builtin PyProof
open Evl (Ex)
/-! a list inside a returned tuple that is changed later; new lists made by a comprehension over three lists -/
theorem tgt_tup4 {K : PySem.W.Frag} {i j k l : Nat} {f : Bool} {α β γ ε : Type} {e1 : α → PyData} {e2 : β → PyData} {e3 : γ → PyData} {e4 : ε → PyData} : Tgt (gTup K 4 (gCons (gName i) (gCons (gName j) (gCons (gName k) (gCons (gName l) gNil))))) f (eT4 e1 e2 e3 e4) (fun x δ => (((δ.set i (.va f (e1 x.1))).set j (.va f (e2 x.2.1))).set k (.va f (e3 x.2.2.1))).set l (.va f (e4 x.2.2.2))) := fun B h k => by
  cases h with
  | @tup p vs _ hp hr =>
    cases hr with
    | cons h1 hr => cases hr with
      | cons h2 hr => cases hr with
        | cons h3 hr => cases hr with
          | cons h4 hr =>
            cases hr
            exact ⟨p, _, rfl, .inl (.inl (hid_ex _ _ hp)), rfl, _, _, rfl, _, _, rfl, _, _, rfl, _, _, rfl, rfl, k _ (set_va (set_va (set_va (set_va B h1) (h2.mono hd_va)) ((h3.mono hd_va).mono hd_va)) (((h4.mono hd_va).mono hd_va).mono hd_va))⟩
section
variable {K : PySem.W.Frag} {c : Wd} {o : Hd} {H H1 H' : Hp} {σ : Sta} {δ δ' : List Ent} {i j : Nat} {f g b : Bool} {a p q r pp : Addr} {d e : PyData} {ds es : List PyData} {ta tb tc te tl : TE} {t : TT} {ts tu tw tz : TS} {D : Ends} {α β γ S R : Type} {em : α → PyData} {xs ys : List α} {n : Nat} {m : Int} {vs ws us rs : List V} {u : HO} {fs : List PyData}
theorem ea_consM {x : α} {tr : TA} (h : Ev o te σ H (em x)) (hr : EvA o tr σ H (ys.map em)) : EvA o (tCons te tr) σ H ((x :: ys).map em) := ea_cons h hr
theorem ea_starTM {tr : TA} (h : Ev o te σ H (eTu em xs)) (hr : EvA o tr σ H (ys.map em)) : EvA o (StX.tStar K te tr) σ H ((xs ++ ys).map em) := by
  rw [List.map_append]; exact ea_starT h hr
theorem dna_sc {H H' : Hp} : ∀ {vs : List V} {ds : List PyData}, DnA H vs ds → (∀ d ∈ ds, Sc d) → DnA H' vs ds
  | _, _, .nil, _ => .nil
  | _, _, .cons h r, q => .cons (Dn.sc (q _ List.mem_cons_self) h) (dna_sc r fun d hd => q d (List.mem_cons_of_mem _ hd))
theorem Bs.addP {P : Addr → Prop} (B : Bs c H σ δ) (e : Ex H H1) (h1 : ∀ b, P b → H b = none) (h2 : ∀ b, P b → H1 b ≠ none) : Bs { c with N := fun b => c.N b ∨ P b } H1 σ δ := by
  have lv : ∀ b, Adr δ b → H b ≠ none := fun b ⟨k, g, es, z⟩ q => by
    obtain ⟨_, _, w, _⟩ := B.ent k _ z
    rw [w] at q; cases q
  have big : ∀ f, Ex (hid (c.hd f δ) H) (hid (({ c with N := fun b => c.N b ∨ P b } : Wd).hd f δ) H1) := fun f b u z => by
    obtain ⟨z1, z2⟩ := hid_of z
    rw [hid_at]
    · exact e _ _ z2
    · rintro (q | (q | q) | q)
      · exact z1 (.inl q)
      · exact z1 (.inr (.inl q))
      · rw [h1 _ q] at z2; cases z2
      · exact z1 (.inr (.inr q))
  refine ⟨B.base.trans e, B.liO.mono e, fun b z y => ?_, fun b z => ⟨(B.own b z).1, (B.own b z).2.1, fun y => ?_⟩, B.one, B.len, fun x d he => ?_⟩
  · rcases z with z | z
    · exact (B.liN.mono e) b z y
    · exact h2 b z y
  · rcases y with y | y
    · exact (B.own b z).2.2 y
    · exact lv _ z (h1 _ y)
  · have w := B.ent x d he
    cases d with
    | no => trivial
    | va f d => obtain ⟨v, y, w⟩ := w; exact ⟨v, y, w.mono (big f)⟩
    | ow f a ds => obtain ⟨vs, y, w, r⟩ := w; exact ⟨vs, y, e _ _ w, r.mono (big f)⟩
    | rw v => exact w
/-- the tuple that holds it -/
def POt (c : Wd) (p : Addr) (rs : List V) : Prop := c.N p ∧ c.B p = some (.tup rs)
theorem POt.put (ne : p ≠ q) (h : POt c p rs) : POt (c.put q u) p rs := ⟨h.1, by show upd c.B q u p = _; rw [upd_ne ne]; exact h.2⟩
/-- told = f(..), a new tuple of a list of scalars and a scalar -/
theorem q_told2 {Rl : List PyData → PyData → Prop} {E : XK} {tr : TA} {d2 : PyData} (B : Bs c H σ δ) (h : EvA o0 tr σ H ds) (hr : Rl ds (.tuple [.list es, d2])) (h2 : Sc d2) (hs : ∀ e ∈ es, Sc e)
    (k : ∀ (p0 pp : Addr) (vs : List V) (w : V) (c' : Wd) (σ1 : Sta) (H1 : Hp), Ex c.B c'.B → (∀ b, c.N b → c'.N b) → H p0 = none → H pp = none → pp ≠ p0 → POt c' pp [.ref p0, w] → (∀ Hx, Dn Hx w d2) → PK c' p0 vs es → Bs c' H1 σ1 (δ.set i (.rw (.ref pp))) → tz D σ1 H1) :
    tSeq (tAsg (tCall (SpF Rl) [] E tr) (gName i)) tz D σ H := by
  show tCall (SpF Rl) [] E tr σ H (fun x H1 => tz D (σ.set i (some x)) H1)
  refine h H (Ex.refl H) _ fun vs0 H2 e2 hv => ⟨ds, _, by rw [List.append_nil]; exact hv.up, hr, fun v H3 e3 hd => ?_⟩
  cases hd with
  | @tup pp xs _ hp hd =>
  cases hd with
  | @cons v1 _ _ _ g1 hd =>
  cases hd with
  | @cons w _ _ _ g2 hd =>
  cases hd
  cases g1 with
  | @lst p0 vs _ hp0 hd0 =>
  obtain ⟨n1, z1⟩ := hid_of hp
  obtain ⟨n0, z0⟩ := hid_of hp0
  have n1' : H2 pp = none := by
    cases q : H2 pp with
    | none => rfl
    | some u => exact absurd (fun z => by rw [q] at z; cases z) n1
  have n0' : H2 p0 = none := by
    cases q : H2 p0 with
    | none => rfl
    | some u => exact absurd (fun z => by rw [q] at z; cases z) n0
  have ne : pp ≠ p0 := fun z => by rw [z, z0] at z1; cases z1
  have B2 := (B.mono e2).addP (P := fun b => b = pp ∨ b = p0) e3 (fun b z => by rcases z with rfl | rfl <;> assumption) (fun b z => by rcases z with rfl | rfl <;> simp [z1, z0])
  have a1 : ¬ Adr δ pp := adr_live (B.mono e2) n1'
  have a0 : ¬ Adr δ p0 := adr_live (B.mono e2) n0'
  refine k p0 pp vs w ⟨hid (fun b => Adr δ b) H3, c.O, fun b => c.N b ∨ (b = pp ∨ b = p0)⟩ _ H3 (fun b u z => ?_) (fun b z => .inl z) (Evl.fresh_back e2 n0') (Evl.fresh_back e2 n1') ne ⟨.inr (.inl rfl), (hid_at a1).trans z1⟩ (fun Hx => Dn.sc h2 g2) ⟨.inr (.inr rfl), (hid_at a0).trans z0, dna_sc hd0 hs⟩ (set_rw B2.rebase)
  show hid (fun b => Adr δ b) H3 b = some u
  rw [hid_at (fun y => by rw [(B.own b y).1] at z; cases z)]
  exact e3 _ _ (e2 _ _ (B.base _ _ z))
theorem ev_raT {w : V} {d2 : PyData} (B : Bs c H σ δ) (hs : δ[i]? = some (.rw (.ref pp))) (hO : POt c pp [.ref p, w]) (hw : ∀ Hx, Dn Hx w d2) (h : PK c p vs ds) : Ev o0 (tVar i) σ H (.tuple [.list ds, d2]) := fun H1 x Q k =>
  ⟨.ref pp, B.ent i _ hs, k _ H1 (Ex.refl H1) (by
    have B1 := B.mono x
    refine .tup (by rw [show hid o0 H1 = H1 from hid_none]; exact B1.base _ _ hO.2) (.cons (h.dn B1) (.cons (hw _) .nil)))⟩
theorem q_raAppT (B : Bs c H σ δ) (hs : δ[i]? = some (.rw (.ref pp))) (hO : POt c pp rs) (hk : atI rs m = some (.ref p)) (h : PK c p vs ds) (hx : Ev c.N te σ H d) (hz : ds.length < 100000)
    (k : ∀ v H1, PK (c.put p (.lst (vs ++ [v]))) p (vs ++ [v]) (ds ++ [d]) → Bs (c.put p (.lst (vs ++ [v]))) H1 σ δ → tz D σ H1) (hc : Sc d) :
    tSeq (tDrop (tBM K "list" rAppend (tOp (rIxT K) (tVar i) (tC (.int m))) (tCons te tNil))) tz D σ H := by
  refine ⟨.ref pp, B.ent i _ hs, pp, rs, m, .ref p, rfl, rfl, .inl (.inl (B.base _ _ hO.2)), hk, .inl ⟨rfl, _, .inl (.inl (B.base _ _ h.2.1))⟩, hx.go fun v H2 e2 hd => ⟨p, vs, v, rfl, rfl, e2 _ _ (B.base _ _ h.2.1), Evl.sz_lt (by rw [h.2.2.length]; exact hz), k v _ ⟨h.1, upd_same, ?_⟩ ((B.mono e2).put h.1)⟩⟩
  show DnA (hid c.N (upd c.B p _)) _ _
  rw [hid_upd_in h.1]
  exact h.2.2.append (.one (Dn.sc hc hd))
theorem PK.grow {c' : Wd} (h : PK c p vs ds) (hN : ∀ b, c.N b → c'.N b) (e : Ex c.B c'.B) (hs : ∀ d ∈ ds, Sc d) : PK c' p vs ds := ⟨hN _ h.1, e _ _ h.2.1, dna_sc h.2.2 hs⟩
theorem PO.grow {c' : Wd} (h : PO c p rs) (hN : ∀ b, c.N b → c'.N b) (e : Ex c.B c'.B) : PO c' p rs := ⟨hN _ h.1, e _ _ h.2⟩
theorem PK.ne (B : Bs c H σ δ) (h : PK c p vs ds) (hq : H q = none) : q ≠ p := fun z => by
  have := B.base _ _ h.2.1
  rw [← z, hq] at this; cases this
theorem PO.ne (B : Bs c H σ δ) (h : PO c p rs) (hq : H q = none) : q ≠ p := fun z => by
  have := B.base _ _ h.2
  rw [← z, hq] at this; cases this
theorem sc_map {α : Type} {em : α → PyData} (h : ∀ x, Sc (em x)) (xs : List α) : ∀ d ∈ xs.map em, Sc d := fun d hd => by
  obtain ⟨x, _, rfl⟩ := List.mem_map.mp hd
  exact h x
/-- passed = [list(text) for text in texts], texts a list of three lists of scalars -/
theorem q_passC3 (B : Bs c H σ δ) (hi : δ[i]? = some .no) (h : Ev (c.hd false δ) tl σ H (.list [.list ds, .list es, .list fs])) (s1 : ∀ d ∈ ds, Sc d) (s2 : ∀ d ∈ es, Sc d) (s3 : ∀ d ∈ fs, Sc d) (hj : j < σ.length)
    (k : ∀ (p0 p1 p2 pp : Addr) (vs ws us : List V) (c' : Wd) (σ1 : Sta) (H1 : Hp), Ex c.B c'.B → H p0 = none → H p1 = none → H p2 = none → p0 ≠ p1 → p0 ≠ p2 → p1 ≠ p2 → pp ≠ p0 → pp ≠ p1 → pp ≠ p2 → PO c' pp [.ref p0, .ref p1, .ref p2] → PK c' p0 vs ds → PK c' p1 ws es → PK c' p2 us fs → Bs c' H1 σ1 (δ.set i (.rw (.ref pp))) → tz D σ1 H1) :
    tSeq (tAsg (tLc (iList K tl) (gName j) tYes (tCB (rListOfK K) (tCons (tVar j) tNil)) [j]) (gName i)) tz D σ H := by
  show tLc (iList K tl) (gName j) tYes (tCB (rListOfK K) (tCons (tVar j) tNil)) [j] σ H (fun x H1 => tz D (σ.set i (some x)) H1)
  refine h H (Ex.refl H) _ fun v H2 e2 hv => ?_
  have B2 := B.mono e2
  cases hv with
  | @lst p vs _ hp hr =>
  have hp2 := hid_ex _ _ hp
  refine ⟨p, rfl, ⟨vs, .inl (.inl hp2)⟩, fun C nC => ?_⟩
  have hpC : p ≠ C := fun z => by rw [z, nC] at hp2; cases hp2
  have hl : vs.length = 3 := hr.length
  have el : ∀ (n : Nat) (x : V), vs[n]? = some x → ∃ (q : Addr) (us : List V) (dd : List PyData), x = .ref q ∧ H2 q = some (.lst us) ∧ [ds, es, fs][n]? = some dd ∧ (∀ Hx, DnA Hx us dd) := fun n x hx => by
    obtain ⟨d, hd, hdv⟩ := hr.get' hx
    have hn : n = 0 ∨ n = 1 ∨ n = 2 := by
      have := (List.getElem?_eq_some_iff.mp hx).1
      omega
    rcases hn with rfl | rfl | rfl
    · cases hd
      cases hdv with
      | lst a b => exact ⟨_, _, ds, rfl, hid_ex _ _ a, rfl, fun Hx => dna_sc b s1⟩
    · cases hd
      cases hdv with
      | lst a b => exact ⟨_, _, es, rfl, hid_ex _ _ a, rfl, fun Hx => dna_sc b s2⟩
    · cases hd
      cases hdv with
      | lst a b => exact ⟨_, _, fs, rfl, hid_ex _ _ a, rfl, fun Hx => dna_sc b s3⟩
  refine lc_list (xs := vs) (fun n H3 => ∃ ps : List Addr, ps.length = n ∧ (∀ a u, a ≠ C → H2 a = some u → H3 a = some u) ∧ H3 C = some (.lst (ps.map .ref)) ∧ ps.Nodup ∧ (∀ a ∈ ps, H2 a = none ∧ a ≠ C) ∧ ∀ (k : Nat) (a : Addr), ps[k]? = some a → ∃ us dd, H3 a = some (.lst us) ∧ [ds, es, fs][k]? = some dd ∧ ∀ Hx, DnA Hx us dd) ?_ (fun n H3 _ ⟨ps, _, en, _⟩ => .inl (.inl (en _ _ hpC hp2))) (fun n xv H3 hx hP => ?_) (fun H3 hP => ?_)
  · exact ⟨[], rfl, fun a u na h => by rw [upd_ne na]; exact h, upd_same, List.nodup_nil, fun a h => by simp at h, fun k a h => by simp at h⟩
  · obtain ⟨ps, hn, en, hC, nd, hf, hk⟩ := hP
    obtain ⟨q, us, dd, rfl, hq, hdd, hd⟩ := el n xv hx
    have hqC : q ≠ C := fun z => by rw [z, nC] at hq; cases hq
    refine ⟨?_, ?_⟩
    · show ((((wipe σ []).set j none).set j (some (.ref q))).set j none) = _
      rw [List.set_set, List.set_set]; rfl
    unfold tYes
    dsimp only
    rw [if_pos rfl]
    refine ⟨.ref q, ?_, q, us, rfl, .inl (.inl (.inl (en _ _ hqC hq))), fun l nl => ?_⟩
    · show (((wipe σ []).set j none).set j (some (.ref q)))[j]? = _
      rw [List.getElem?_set]
      have : j < ((wipe σ []).set j none).length := by rw [List.length_set]; exact hj
      simp [this]
      exact hj
    · have hlC : l ≠ C := fun z => by rw [z, hC] at nl; cases nl
      have hl2 : H2 l = none := by
        cases z : H2 l with
        | none => rfl
        | some u => rw [en _ _ hlC z] at nl; cases nl
      have hlp : l ∉ ps := fun z => by
        obtain ⟨kk, hkk, ek⟩ := List.getElem_of_mem z
        obtain ⟨us', dd', w, _⟩ := hk kk l (by rw [List.getElem?_eq_getElem hkk, ek])
        rw [w] at nl; cases nl
      refine ⟨ps.map .ref, by rw [upd_ne (Ne.symm hlC)]; exact hC, ?_, ps ++ [l], by simp [hn], fun a u na h => ?_, ?_, ?_, fun a ha => ?_, fun kk a ha => ?_⟩
      · refine Evl.sz_lt ?_
        have := (List.getElem?_eq_some_iff.mp hx).1
        rw [List.length_map]; omega
      · rw [upd_ne na, upd_ne (fun z => by rw [z, hl2] at h; cases h)]
        exact en _ _ na h
      · rw [List.map_append]; exact upd_same
      · rw [List.nodup_append]
        exact ⟨nd, by simp, fun a ha b hb z => hlp (by rw [← List.mem_singleton.mp hb, ← z]; exact ha)⟩
      · rcases List.mem_append.mp ha with z | z
        · exact hf a z
        · rw [List.mem_singleton.mp z]; exact ⟨hl2, hlC⟩
      · by_cases z : kk < ps.length
        · rw [List.getElem?_append_left z] at ha
          obtain ⟨us', dd', w1, w2, w3⟩ := hk kk a ha
          have hm := List.mem_of_getElem? ha
          exact ⟨us', dd', by rw [upd_ne (hf a hm).2, upd_ne (fun y => hlp (by rw [← y]; exact hm))]; exact w1, w2, w3⟩
        · rw [List.getElem?_append_right (by omega)] at ha
          have hkk : kk - ps.length = 0 := by
            have := (List.getElem?_eq_some_iff.mp ha).1
            simp at this; omega
          rw [hkk] at ha
          simp at ha
          subst ha
          have : kk = n := by omega
          subst this
          exact ⟨us, dd, by rw [upd_ne hlC]; exact upd_same, hdd, hd⟩
  · obtain ⟨ps, hn, en, hC, nd, hf, hk⟩ := hP
    rw [hl] at hn
    match ps, hn with
    | [p0, p1, p2], _ =>
    have eE : Ex H2 H3 := fun a u h => en a u (ne_of_none h nC) h
    obtain ⟨us0, dd0, z0, y0, x0⟩ := hk 0 p0 rfl
    obtain ⟨us1, dd1, z1, y1, x1⟩ := hk 1 p1 rfl
    obtain ⟨us2, dd2, z2, y2, x2⟩ := hk 2 p2 rfl
    cases y0; cases y1; cases y2
    obtain ⟨f0, c0⟩ := hf p0 (by simp)
    obtain ⟨f1, c1⟩ := hf p1 (by simp)
    obtain ⟨f2, c2⟩ := hf p2 (by simp)
    have nd' : p0 ≠ p1 ∧ p0 ≠ p2 ∧ p1 ≠ p2 := by
      simp at nd
      exact ⟨nd.1.1, nd.1.2, nd.2⟩
    have B3 := B2.addP (P := fun b => b = C ∨ b = p0 ∨ b = p1 ∨ b = p2) eE (fun b z => by rcases z with rfl | rfl | rfl | rfl <;> assumption) (fun b z => by rcases z with rfl | rfl | rfl | rfl <;> simp [hC, z0, z1, z2])
    have aC : ¬ Adr δ C := adr_live B2 nC
    have a0 : ¬ Adr δ p0 := adr_live B2 f0
    have a1 : ¬ Adr δ p1 := adr_live B2 f1
    have a2 : ¬ Adr δ p2 := adr_live B2 f2
    refine k p0 p1 p2 C us0 us1 us2 ⟨hid (fun b => Adr δ b) H3, c.O, fun b => c.N b ∨ (b = C ∨ b = p0 ∨ b = p1 ∨ b = p2)⟩ _ H3 (fun b u z => ?_) (Evl.fresh_back e2 f0) (Evl.fresh_back e2 f1) (Evl.fresh_back e2 f2) nd'.1 nd'.2.1 nd'.2.2 (Ne.symm c0) (Ne.symm c1) (Ne.symm c2) ⟨.inr (.inl rfl), (hid_at aC).trans hC⟩ ⟨.inr (.inr (.inl rfl)), (hid_at a0).trans z0, x0 _⟩ ⟨.inr (.inr (.inr (.inl rfl))), (hid_at a1).trans z1, x1 _⟩ ⟨.inr (.inr (.inr (.inr rfl))), (hid_at a2).trans z2, x2 _⟩ (set_rw B3.rebase)
    show hid (fun b => Adr δ b) H3 b = some u
    rw [hid_at (fun y => by rw [(B.own b y).1] at z; cases z)]
    exact eE _ _ (e2 _ _ (B.base _ _ z))
end
end HL
namespace HL
open PySem PySem.Spec PyProof.Rows L2
open Evl (Ex)
/-! loops in which a slot comes to hold a new list: the addresses go along beside the state -/
section
variable {K : PySem.W.Frag} {c : Wd} {o : Hd} {H H1 H' : Hp} {σ : Sta} {δ δ' : List Ent} {i j : Nat} {f g : Bool} {a : Addr} {d e : PyData} {ds es : List PyData} {ta tb te tl : TE} {t : TT} {ts tz : TS} {D : Ends} {α : Type} {em : α → PyData} {xs : List α}
def FXg (c : Wd) (B0 : Hp) (S γ : Type) (Δ : S → γ → List Ent) (J : Nat → S → Prop) (n : Nat) (s1 : S) : Sta → Hp → Prop := fun σ H => ∃ s' g', s' = s1 ∧ J n s' ∧ Bs { c with B := B0 } H σ (Δ s' g')
theorem fxg_nx {S γ : Type} {Δ : S → γ → List Ent} {stp : S → α → S} {s0 : S} {J : Nat → S → Prop} {n : Nat} {s : S} {x : α} (hx : xs[n]? = some x) (hI : s = (xs.take n).foldl stp s0) {B0 : Hp} :
    FXg c B0 S γ Δ J (n + 1) (stp s x) = NX c B0 (S × γ) (fun p => Δ p.1 p.2) (fun n p => p.1 = (xs.take n).foldl stp s0 ∧ J n p.1) (n + 1) := by
  funext σ H
  unfold FXg NX
  dsimp only
  rw [take_fold hx, ← hI]
  apply propext
  constructor
  · rintro ⟨s', g', h1, h2, h3⟩
    exact ⟨(s', g'), ⟨h1, h2⟩, h3⟩
  · rintro ⟨⟨s', g'⟩, ⟨h1, h2⟩, h3⟩
    exact ⟨s', g', h1, h2, h3⟩
theorem q_foldR1g {S γ : Type} {hi : Int} (Δ : S → γ → List Ent) (stp : S → Int → S) (s0 : S) (g0 : γ) (J : Nat → S → Prop) (B : Bs c H σ δ) (h : Ev o0 te σ H (eI hi)) (hm : -1000000 ≤ hi ∧ hi ≤ 1000000) (w : LeA δ (Δ s0 g0)) (j0 : J 0 s0)
    (body : ∀ (B0 : Hp), Ex c.B B0 → ∀ (n : Nat) (s : S) (gg : γ) (x : Int) (σ1 : Sta) (H1 : Hp), x ∈ rng 0 hi → n < (rng 0 hi).length → J n s → Bs { c with B := B0 } H1 σ1 ((Δ s gg).set j (.va true (eI x))) →
      ts { D with nx := FXg c B0 S γ Δ J (n + 1) (stp s x), ct := FXg c B0 S γ Δ J (n + 1) (stp s x), bk := tz D } σ1 H1)
    (done : ∀ s gg σ1 H1, s = (rng 0 hi).foldl stp s0 → J (rng 0 hi).length s → Bs c H1 σ1 (Δ s gg) → tz D σ1 H1) : tSeq (tFor (iRng1 (tCons te tNil)) (gName j) ts) tz D σ H := by
  have hl : (rng 0 hi).length = hi.toNat := by rw [rng_len]; omega
  refine q_forR1 (S × γ) (fun n p => p.1 = ((rng 0 hi).take n).foldl stp s0 ∧ J n p.1) (fun p => Δ p.1 p.2) (s0, g0) B h hm w ⟨by simp, j0⟩ (fun B0 e0 n s σ1 H1 hn hI B => ?_) (fun s σ1 H1 hI B => ?_)
  · have q := body B0 e0 n s.1 s.2 (0 + n) σ1 H1 (rng_mem.mpr (by omega)) (by omega) hI.2 B
    rw [fxg_nx (xs := rng 0 hi) (rng_get (lo := 0) (hi := hi) (n := n) (by omega)) hI.1] at q
    exact q
  · rw [← hl] at hI
    refine done s.1 s.2 σ1 H1 ?_ hI.2 B
    rw [hI.1, List.take_length]
theorem q_foldLg {S γ : Type} (Δ : S → γ → List Ent) (stp : S → α → S) (s0 : S) (g0 : γ) (J : Nat → S → Prop) (B : Bs c H σ δ) (h : Ev (c.hd f δ) tl σ H (eL em xs)) (w : LeA δ (Δ s0 g0)) (j0 : J 0 s0)
    (body : ∀ (B0 : Hp), Ex c.B B0 → ∀ (n : Nat) (s : S) (gg : γ) (x : α) (σ1 : Sta) (H1 : Hp), x ∈ xs → n < xs.length → J n s → Bs { c with B := B0 } H1 σ1 ((Δ s gg).set j (.va f (em x))) →
      ts { D with nx := FXg c B0 S γ Δ J (n + 1) (stp s x), ct := FXg c B0 S γ Δ J (n + 1) (stp s x), bk := tz D } σ1 H1)
    (done : ∀ s gg σ1 H1, s = xs.foldl stp s0 → J xs.length s → Bs c H1 σ1 (Δ s gg) → tz D σ1 H1) : tSeq (tFor (iList K tl) (gName j) ts) tz D σ H := by
  refine q_forL (S × γ) (fun n p => p.1 = (xs.take n).foldl stp s0 ∧ J n p.1) (fun p => Δ p.1 p.2) (s0, g0) B h w ⟨by simp, j0⟩ (fun B0 e0 n s d σ1 H1 hd hI B => ?_) (fun s σ1 H1 hI B => ?_)
  · rw [List.getElem?_map] at hd
    obtain ⟨x, hx, ex⟩ := Option.map_eq_some_iff.mp hd
    subst ex
    have q := body B0 e0 n s.1 s.2 x σ1 H1 (List.mem_of_getElem? hx) (by rw [List.getElem?_eq_some_iff] at hx; exact hx.1) hI.2 B
    rw [fxg_nx hx hI.1] at q
    exact q
  · rw [List.length_map] at hI
    refine done s.1 s.2 σ1 H1 ?_ hI.2 B
    rw [hI.1, List.take_length]
end
end HL
namespace HL
open PySem PySem.Spec PyProof.Rows L2
open Evl (Ex)
/-! in, not in of numbers and texts, over lists and tuples of such -/
section
variable {K : PySem.W.Frag} {o : Hd} {H : Hp} {σ : Sta} {ta tb : TE}
theorem inV_ints (i : Int) : ∀ xs : List Int, inV (.int i) (xs.map .int) = decide (i ∈ xs) ∧ (xs.map V.int).all flatV = true
  | [] => ⟨rfl, rfl⟩
  | x :: xs => by
    obtain ⟨h1, h2⟩ := inV_ints i xs
    refine ⟨?_, by simp [flatV, h2]⟩
    have e : inV (.int i) ((x :: xs).map .int) = (eqV (.int x) (.int i) || inV (.int i) (xs.map .int)) := rfl
    rw [e, h1]
    by_cases q : x = i
    · subst q; simp [eqV]
    · have q' : ¬ i = x := fun z => q z.symm
      simp [eqV, q, q']
theorem inV_strs (i : Str) : ∀ xs : List Str, inV (.str i) (xs.map .str) = decide (i ∈ xs) ∧ (xs.map V.str).all flatV = true
  | [] => ⟨rfl, rfl⟩
  | x :: xs => by
    obtain ⟨h1, h2⟩ := inV_strs i xs
    refine ⟨?_, by simp [flatV, h2]⟩
    have e : inV (.str i) ((x :: xs).map .str) = (eqV (.str x) (.str i) || inV (.str i) (xs.map .str)) := rfl
    rw [e, h1]
    by_cases q : x = i
    · subst q; simp [eqV]
    · have q' : ¬ i = x := fun z => q z.symm
      simp [eqV, q, q']
def neg1 (n b : Bool) : Bool := if n = true then !b else b
theorem ev_inTI {i : Int} {xs : List Int} (n : Bool) (ha : Ev o0 ta σ H (eI i)) (hb : Ev o0 tb σ H (eTu eI xs)) : Ev o (tOp (rIn K n) ta tb) σ H (eB (neg1 n (decide (i ∈ xs)))) := fun H1 x Q q =>
  ha H1 x _ fun v H2 e2 hv => hb H2 (x.trans e2) _ fun w H3 e3 hw => by
    cases hv
    cases hw with
    | tup hp hx =>
      have := DnA.ints hx
      subst this
      obtain ⟨h1, h2⟩ := inV_ints i xs
      refine ⟨_, _, rfl, .inr (.inl (.inl (hid_of hp).2)), rfl, h2, ?_⟩
      rw [h1]
      exact q _ H3 (e2.trans e3) (.bl _)
theorem ev_inLI {i : Int} {xs : List Int} (n : Bool) (ha : Ev o0 ta σ H (eI i)) (hb : Ev o0 tb σ H (eL eI xs)) : Ev o (tOp (rIn K n) ta tb) σ H (eB (neg1 n (decide (i ∈ xs)))) := fun H1 x Q q =>
  ha H1 x _ fun v H2 e2 hv => hb H2 (x.trans e2) _ fun w H3 e3 hw => by
    cases hv
    cases hw with
    | lst hp hx =>
      have := DnA.ints hx
      subst this
      obtain ⟨h1, h2⟩ := inV_ints i xs
      refine ⟨_, _, rfl, .inl (.inl (.inl (hid_of hp).2)), rfl, h2, ?_⟩
      rw [h1]
      exact q _ H3 (e2.trans e3) (.bl _)
theorem ev_inTS {i : Str} {xs : List Str} (n : Bool) (ha : Ev o0 ta σ H (eS i)) (hb : Ev o0 tb σ H (eTu eS xs)) : Ev o (tOp (rIn K n) ta tb) σ H (eB (neg1 n (decide (i ∈ xs)))) := fun H1 x Q q =>
  ha H1 x _ fun v H2 e2 hv => hb H2 (x.trans e2) _ fun w H3 e3 hw => by
    cases hv
    cases hw with
    | tup hp hx =>
      have := DnA.strs hx
      subst this
      obtain ⟨h1, h2⟩ := inV_strs i xs
      refine ⟨_, _, rfl, .inr (.inl (.inl (hid_of hp).2)), rfl, h2, ?_⟩
      rw [h1]
      exact q _ H3 (e2.trans e3) (.bl _)
theorem ev_inLS {i : Str} {xs : List Str} (n : Bool) (ha : Ev o0 ta σ H (eS i)) (hb : Ev o0 tb σ H (eL eS xs)) : Ev o (tOp (rIn K n) ta tb) σ H (eB (neg1 n (decide (i ∈ xs)))) := fun H1 x Q q =>
  ha H1 x _ fun v H2 e2 hv => hb H2 (x.trans e2) _ fun w H3 e3 hw => by
    cases hv
    cases hw with
    | lst hp hx =>
      have := DnA.strs hx
      subst this
      obtain ⟨h1, h2⟩ := inV_strs i xs
      refine ⟨_, _, rfl, .inl (.inl (.inl (hid_of hp).2)), rfl, h2, ?_⟩
      rw [h1]
      exact q _ H3 (e2.trans e3) (.bl _)
end
end HL
namespace K3
open PySem PySem.Spec PyProof.Rows L2 HL
def topS (i : Nat) : Stmt := PySem.Challenge.pw_partclones_k04_merge_unlike_lines.main.body.getD i (.Pass ⟨0, 0, 0, 0⟩)
end K3
namespace K3
open PySem PySem.Spec PyProof.Rows L2 HL
open Evl (Ex)
abbrev s__common_lengths : Stmt := topS 2
/-! a table of numbers -/
def at2 (M : List (List Int)) (i j : Nat) : Int := (M.getD i []).getD j 0
def put2 (M : List (List Int)) (i j : Nat) (v : Int) : List (List Int) := M.set i ((M.getD i []).set j v)
def cell2 (old new : List Str) (M : List (List Int)) (i j : Nat) : Int :=
  if old.getD i default = new.getD j default then at2 M (i + 1) (j + 1) + 1 else if at2 M i (j + 1) > at2 M (i + 1) j then at2 M i (j + 1) else at2 M (i + 1) j
def rowJ (old new : List Str) (i : Nat) (M : List (List Int)) (j : Nat) : List (List Int) := put2 M i j (cell2 old new M i j)
def rowI (old new : List Str) (M : List (List Int)) (i : Nat) : List (List Int) := (List.range new.length).reverse.foldl (rowJ old new i) M
def m__common_lengths (old new : List Str) : List (List Int) := (List.range old.length).reverse.foldl (rowI old new) (List.replicate (old.length + 1) (List.replicate (new.length + 1) 0))
def Dim (m n : Nat) (M : List (List Int)) : Prop := M.length = m ∧ ∀ r ∈ M, r.length = n
theorem Dim.getD {m n : Nat} {M : List (List Int)} (h : Dim m n M) {i : Nat} (hi : i < m) : (M.getD i []).length = n := by
  have : i < M.length := by rw [h.1]; exact hi
  simp only [List.getD, List.getElem?_eq_getElem this, Option.getD_some]
  exact h.2 _ (List.getElem_mem _)
theorem Dim.put {m n : Nat} {M : List (List Int)} (h : Dim m n M) {i : Nat} (hi : i < m) (j : Nat) (v : Int) : Dim m n (put2 M i j v) := by
  refine ⟨by unfold put2; rw [List.length_set]; exact h.1, fun r hr => ?_⟩
  unfold put2 at hr
  rcases List.mem_or_eq_of_mem_set hr with hr | hr
  · exact h.2 r hr
  · rw [hr, List.length_set]; exact h.getD hi
theorem Dim.rowJ {m n : Nat} {old new : List Str} {i : Nat} (hi : i < m) : ∀ (js : List Nat) {M : List (List Int)}, Dim m n M → Dim m n (js.foldl (K3.rowJ old new i) M)
  | [], _, h => h
  | j :: js, _, h => Dim.rowJ hi js (h.put hi j _)
theorem Dim.rowI {m n : Nat} {old new : List Str} : ∀ (is : List Nat) {M : List (List Int)}, (∀ i ∈ is, i < m) → Dim m n M → Dim m n (is.foldl (K3.rowI old new) M)
  | [], _, _, h => h
  | i :: is, _, hi, h => Dim.rowI is (fun k hk => hi k (by simp [hk])) (Dim.rowJ (hi i (by simp)) _ h)
theorem dim0 (m n : Nat) : Dim m n (List.replicate m (List.replicate n 0)) := ⟨by simp, fun r hr => by rw [(List.mem_replicate.mp hr).2]; simp⟩
theorem dim_common (old new : List Str) : Dim (old.length + 1) (new.length + 1) (m__common_lengths old new) := Dim.rowI _ (fun i hi => by simp at hi; omega) (dim0 _ _)
theorem nd_inj' : ∀ {as : List Addr}, as.Nodup → ∀ {i k : Nat} {a : Addr}, as[i]? = some a → as[k]? = some a → i = k
  | [], _, i, k, a, h, _ => by simp at h
  | b :: as, nd, 0, 0, _, _, _ => rfl
  | b :: as, nd, 0, k + 1, a, h1, h2 => by
    simp at h1; subst h1
    exact absurd (List.mem_of_getElem? (by simpa using h2)) (List.nodup_cons.mp nd).1
  | b :: as, nd, i + 1, 0, a, h1, h2 => by
    simp at h2; subst h2
    exact absurd (List.mem_of_getElem? (by simpa using h1)) (List.nodup_cons.mp nd).1
  | b :: as, nd, i + 1, k + 1, a, h1, h2 => by
    have := nd_inj' (List.nodup_cons.mp nd).2 (i := i) (k := k) (a := a) (by simpa using h1) (by simpa using h2)
    omega
/-- the table as it lies in memory -/
structure MX (H : Hp) (C : Addr) (as : List Addr) (M : List (List Int)) : Prop where
  top : H C = some (.lst (as.map .ref))
  len : as.length = M.length
  nd : as.Nodup
  out : C ∉ as
  row : ∀ (k : Nat) (r : List Int), M[k]? = some r → ∃ a, as[k]? = some a ∧ H a = some (.lst (r.map .int))
theorem MX.put {H : Hp} {C : Addr} {as : List Addr} {M : List (List Int)} (h : MX H C as M) {i : Nat} {a : Addr} (ha : as[i]? = some a) (r' : List Int) : MX (upd H a (.lst (r'.map .int))) C as (M.set i r') := by
  refine ⟨?_, by rw [List.length_set]; exact h.len, h.nd, h.out, fun k r hr => ?_⟩
  · rw [upd_ne (fun z => h.out (by rw [z]; exact List.mem_of_getElem? ha))]; exact h.top
  · by_cases hk : i = k
    · subst hk
      rw [List.getElem?_set] at hr
      simp at hr
      obtain ⟨_, hr⟩ := hr
      subst hr
      exact ⟨a, ha, upd_same⟩
    · rw [List.getElem?_set_ne hk] at hr
      obtain ⟨b, hb, q⟩ := h.row k r hr
      refine ⟨b, hb, ?_⟩
      rw [upd_ne]
      · exact q
      · intro z; subst z
        exact hk (nd_inj' h.nd ha hb)
theorem rev_get {L n : Nat} (h : n < L) : (List.range L).reverse[n]? = some (L - 1 - n) := by
  rw [List.getElem?_reverse (by simpa using h), List.length_range, List.getElem?_range (by omega)]
section
variable {P : Program} {w : World} {K : PySem.W.Frag} {mg : Str → Option Value} {base : Heap}
abbrev N__common_lengths : List Str := ["old", "new", "rows", "i", "j", "_"]
theorem sc__common_lengths : FnScope N__common_lengths ["old", "new"] (defScope s__common_lengths) := ⟨rfl, rfl, rfl, by decide +kernel, rfl, by decide +kernel, by decide +kernel⟩
def r__common_lengths : List PyData → PyData → Prop := fun ds d => ∃ (old_ : (List Str)) (new_ : (List Str)), ds = [(eL eS) old_, (eL eS) new_] ∧ old_.length ≤ 1000 ∧ new_.length ≤ 1000 ∧ d = (eL (eL eI)) (m__common_lengths old_ new_)
theorem MX.at {H : Hp} {C : Addr} {as : List Addr} {M : List (List Int)} {m n : Nat} (h : MX H C as M) (D : Dim m n M) {i j : Nat} (hi : i < m) (hj : j < n) :
    ∃ a r, as[i]? = some a ∧ M[i]? = some r ∧ r = M.getD i [] ∧ H a = some (.lst (r.map .int)) ∧ r[j]? = some (at2 M i j) ∧ r.length = n := by
  have hi' : i < M.length := by rw [D.1]; exact hi
  have e := List.getElem?_eq_getElem hi'
  obtain ⟨a, h1, h2⟩ := h.row i _ e
  have er : M[i] = M.getD i [] := by simp [List.getD, hi']
  refine ⟨a, M[i], h1, e, er, h2, ?_, by rw [er]; exact D.getD hi⟩
  have hl : j < M[i].length := by rw [er, D.getD hi]; exact hj
  rw [List.getElem?_eq_getElem hl]
  unfold at2
  rw [← er]
  simp [List.getD, hl]
theorem atI_of {xs : List V} {n : Nat} {m : Int} {v : V} (hm : m = n) (h : xs[n]? = some v) : atI xs m = some v := by subst hm; exact atI_nat h
theorem ok__common_lengths {f : Addr} {fd : FuncData} {k : Nat} (F : Fun K "_common_lengths" "_common_lengths" s__common_lengths f fd) (m_len : mg "len" = none) (m_range : mg "range" = none) (m_reversed : mg "reversed" = none) (m_max : mg "max" = none) : FnOk P w K mg base CX0 (k + 1) f fd ["old", "new"] (SpF r__common_lengths) := by
  refine F.ok sc__common_lengths (fun vs H Q E h => ?_) (fun cdv A outer s H vs Q E hr h => ?_)
  · obtain ⟨ds, d, hd, ⟨old, new, rfl, h1, h2, rfl⟩, _⟩ := h
    exact hd.length
  · obtain ⟨ds, d, hd, ⟨old, new, rfl, h1, h2, rfl⟩, q⟩ := h
    refine ⟨_, pss_cons (ps_setLc (i := 2) (own := [("_", 5)]) (g := gName 5) (tt := tYes) rfl sc__common_lengths.nd rfl rfl (sw_true rfl rfl rfl (by decide +kernel)) (pi_range1 rfl m_range (pa_cons (pe_op op_add (pe_callB call_len_seq (by rfl) m_len PySem.boot_len (pa_cons (pv 0) pa_nil)) pe_int) pa_nil)) (blkOk_by (own := [("_", 5)]) (N := N__common_lengths) (sc := defScope s__common_lengths) (by decide +kernel)) (fun _ _ _ _ _ => pg_name (i := 5) sc__common_lengths.nd rfl (Or.inl rfl)) (fun _ _ _ _ _ => pts_nil) (fun _ _ _ _ _ => pe_op op_rep (pe_lst (pa_cons pe_int pa_nil)) (pe_op op_add (pe_callB (r := rLenK K) call_len_seq (by rfl) m_len PySem.boot_len (pa_cons (pv 1) pa_nil)) pe_int)))
      (pss_cons (ps_for PassesOwn.never rfl (pi_revR rfl m_reversed (prg_1 rfl m_range (pe_callB call_len_seq (by rfl) m_len PySem.boot_len (pa_cons (pv 0) pa_nil)))) (pg_name (i := 3) sc__common_lengths.nd rfl (Or.inl rfl))
        (pss_one (ps_for PassesOwn.never rfl (pi_revR rfl m_reversed (prg_1 rfl m_range (pe_callB call_len_seq (by rfl) m_len PySem.boot_len (pa_cons (pv 1) pa_nil)))) (pg_name (i := 4) sc__common_lengths.nd rfl (Or.inl rfl))
          (pss_one (ps_if (pt_cmpR op_eq (pe_ix ix_list (pv 0) (pv 3) (fun _ _ => rfl)) (pe_ix ix_list (pv 1) (pv 4) (fun _ _ => rfl)) (nomark _))
            (pss_one (ps_asg (pe_op op_add (pe_ix ix_list (pe_ix ix_list (pv 2) (pe_op op_add (pv 3) pe_int) (fun _ _ => rfl)) (pe_op op_add (pv 4) pe_int) (fun _ _ => rfl)) pe_int) (pg_sub (pe_ix ix_list (pv 2) (pv 3) (fun _ _ => rfl)) (pv 4) set_list)))
            (pss_one (ps_asg (pe_callB (call_max2 rfl) (by rfl) m_max (by decide +kernel) (pa_cons (pe_ix ix_list (pe_ix ix_list (pv 2) (pe_op op_add (pv 3) pe_int) (fun _ _ => rfl)) (pv 4) (fun _ _ => rfl)) (pa_cons (pe_ix ix_list (pe_ix ix_list (pv 2) (pv 3) (fun _ _ => rfl)) (pe_op op_add (pv 4) pe_int) (fun _ _ => rfl)) pa_nil))) (pg_sub (pe_ix ix_list (pv 2) (pv 3) (fun _ _ => rfl)) (pv 4) set_list))))))))
      (pss_one (ps_ret (pv 2)))), ?_⟩
    cases hd with
    | @cons v1 _ vr _ hv1 hd =>
    cases hd with
    | @cons v2 _ vr2 _ hv2 hd =>
    cases hd
    cases hv1 with
    | @lst ao vo _ ho ro =>
    cases hv2 with
    | @lst an vn _ hn rn =>
    have eo := ro.strs; subst eo
    have en := rn.strs; subst en
    have lo : (old.map V.str).length = old.length := List.length_map _
    have ln : (new.map V.str).length = new.length := List.length_map _
    -- rows = [[0] * (len(new) + 1) for _ in range(len(old) + 1)]
    refine ⟨.ref ao, rfl, ⟨ao, _, rfl, .inl (.inl (.inl ho)), ⟨_, 1, rfl, rfl, ⟨_, rfl, ?_, ?_, fun C nC => ?_⟩⟩⟩⟩
    · rw [lo]; omega
    · rw [lo]; omega
    rw [lo]
    have et : (((old.length : Int) + 1).toNat) = old.length + 1 := by omega
    rw [et]
    refine lc_range (lo := 0) (n := old.length + 1) (fun n H3 => ∃ as, Ex H H3 ∧ H C = none ∧ (∀ a ∈ as, H a = none) ∧ MX H3 C as (List.replicate n (List.replicate (new.length + 1) 0))) ⟨[], Evl.Ex.new nC, nC, fun a h => by simp at h, upd_same, rfl, List.nodup_nil, by simp, fun k r h => by simp at h⟩ (fun n H3 hnn1 hP => ?_) (fun H3 hP => ?_)
    · obtain ⟨as, e3, nC', na, mx⟩ := hP
      refine ⟨rfl, ?_⟩
      unfold tYes
      dsimp only
      rw [if_pos rfl]
      refine ⟨by show 1 ≤ sizeLine; decide, fun p np => ⟨.ref an, rfl, ⟨an, _, rfl, .inl (.inl (.inl (by rw [upd_ne (ne_of_none (e3 _ _ hn) np)]; exact e3 _ _ hn))), ⟨_, 1, rfl, rfl, ⟨p, _, [.int 0], rfl, rfl, upd_same, ?_, ?_, ?_, fun p2 np2 => ?_⟩⟩⟩⟩⟩
      · rw [ln]; omega
      · rw [ln]; omega
      · rw [ln]; have : ((new.length : Int) + 1).toNat = new.length + 1 := by omega
        rw [this]; exact Evl.sz_of (by simp; omega)
      · have hp2 : p2 ≠ p := fun z => by rw [z, upd_same] at np2; cases np2
        have np3 : H3 p2 = none := by rw [upd_ne hp2] at np2; exact np2
        have cp : C ≠ p := ne_of_none mx.top np
        have cp2 : C ≠ p2 := ne_of_none mx.top np3
        refine ⟨as.map .ref, ?_, ?_, as ++ [p2], fun a u h => ?_, nC', fun a h => ?_, ?_, ?_, ?_, ?_, fun k r hk => ?_⟩
        · rw [upd_ne cp2, upd_ne cp]; exact mx.top
        · rw [List.length_map, mx.len, List.length_replicate]; exact Evl.sz_lt (by omega)
        · have a1 : a ≠ C := ne_of_none h nC'
          have h3 := e3 _ _ h
          rw [upd_ne a1, upd_ne (ne_of_none h3 np3), upd_ne (ne_of_none h3 np)]
          exact h3
        · rcases List.mem_append.mp h with h | h
          · exact na a h
          · simp at h; subst h; exact Evl.fresh_back e3 np3
        · rw [upd_same, List.map_append]; rfl
        · rw [List.length_append, mx.len, List.length_replicate, List.length_replicate]; rfl
        · refine List.nodup_append.mpr ⟨mx.nd, by simp, fun a ha b hb => ?_⟩
          simp at hb; subst hb
          intro z; subst z
          obtain ⟨kk, hk, ek⟩ := List.getElem_of_mem ha
          have hk2 : kk < (List.replicate n (List.replicate (new.length + 1) (0 : Int))).length := by rw [← mx.len]; exact hk
          obtain ⟨b, hb1, hb2⟩ := mx.row kk _ (List.getElem?_eq_getElem hk2)
          rw [List.getElem?_eq_getElem hk, ek] at hb1
          cases hb1
          rw [hb2] at np3; cases np3
        · intro h
          rcases List.mem_append.mp h with h | h
          · exact mx.out h
          · simp at h; exact cp2 h
        · have hz : r = List.replicate (new.length + 1) 0 := by
            have := List.mem_of_getElem? hk
            exact (List.mem_replicate.mp this).2
          have hkn : k < n + 1 := by
            rw [List.getElem?_eq_some_iff] at hk
            obtain ⟨h, _⟩ := hk
            simpa using h
          subst hz
          by_cases hkk : k < n
          · obtain ⟨b, hb1, hb2⟩ := mx.row k (List.replicate (new.length + 1) 0) (by simp [hkk])
            refine ⟨b, by rw [List.getElem?_append_left (by rw [mx.len]; simpa using hkk)]; exact hb1, ?_⟩
            have hbC : b ≠ C := fun z => mx.out (by rw [← z]; exact List.mem_of_getElem? hb1)
            rw [upd_ne hbC, upd_ne (ne_of_none hb2 np3), upd_ne (ne_of_none hb2 np)]
            exact hb2
          · have ek : k = n := by omega
            subst ek
            refine ⟨p2, by rw [List.getElem?_append_right (by rw [mx.len]; simp)]; rw [mx.len]; simp, ?_⟩
            rw [upd_ne cp2.symm, upd_same, ln]
            have : ((new.length : Int) + 1).toNat = new.length + 1 := by omega
            rw [this]
            congr 2
            have fl : ∀ m : Nat, (List.replicate m [V.int 0]).flatten = (List.replicate m (0 : Int)).map V.int := fun m => by
              induction m with
              | zero => rfl
              | succ m ih => rw [List.replicate_succ, List.replicate_succ, List.flatten_cons, ih]; rfl
            exact fl _
    · obtain ⟨as, e3, nC', na, mx⟩ := hP
      -- the loops
      have ho3 := e3 _ _ ho
      refine ⟨.ref ao, rfl, ⟨ao, _, rfl, .inl (.inl (.inl ho3)), ⟨_, rfl, by omega, by omega, by rw [lo]; omega, by rw [lo]; omega, ?_⟩⟩⟩
      rw [lo]
      have em : ((old.length : Int) - 0).toNat = old.length := by omega
      rw [em]
      refine for_rangeC (n := old.length) (fun n σ H4 => ∃ x y, σ = [some (.ref ao), some (.ref an), some (.ref C), x, y, none] ∧ Ex H H4 ∧ MX H4 C as (((List.range old.length).reverse.take n).foldl (rowI old new) (List.replicate (old.length + 1) (List.replicate (new.length + 1) 0)))) ⟨none, none, rfl, e3, mx⟩ (fun n σ H4 hnn hP => ?_) (fun σ H4 hP => ?_)
      · obtain ⟨x, y, rfl, e4, mx4⟩ := hP
        have ei : (0 + ((old.length : Nat) : Int) - 1 + (n : Nat) * -1) = ((old.length - 1 - n : Nat) : Int) := by omega
        rw [ei]
        have hi : old.length - 1 - n < old.length := by omega
        generalize hii : old.length - 1 - n = i at hi
        have hM : Dim (old.length + 1) (new.length + 1) (((List.range old.length).reverse.take n).foldl (rowI old new) (List.replicate (old.length + 1) (List.replicate (new.length + 1) 0))) := Dim.rowI _ (fun i hi => by have := List.mem_of_mem_take hi; simp at this; omega) (dim0 _ _)
        have tk : (List.range old.length).reverse.take (n + 1) = (List.range old.length).reverse.take n ++ [i] := by rw [List.take_add_one, rev_get hnn, hii]; rfl
        generalize hM0 : ((List.range old.length).reverse.take n).foldl (rowI old new) (List.replicate (old.length + 1) (List.replicate (new.length + 1) 0)) = M0 at hM mx4
        refine ⟨.ref an, rfl, ⟨an, _, rfl, .inl (.inl (.inl (e4 _ _ hn))), ⟨_, rfl, by omega, by omega, by rw [ln]; omega, by rw [ln]; omega, ?_⟩⟩⟩
        rw [ln]
        have em2 : ((new.length : Int) - 0).toNat = new.length := by omega
        rw [em2]
        refine for_rangeC (n := new.length) (fun n2 σ H5 => ∃ y, σ = [some (.ref ao), some (.ref an), some (.ref C), some (.int i), y, none] ∧ Ex H H5 ∧ MX H5 C as (((List.range new.length).reverse.take n2).foldl (rowJ old new i) M0)) ⟨y, rfl, e4, mx4⟩ (fun n2 σ H5 hn2 hP => ?_) (fun σ H5 hP => ?_)
        · obtain ⟨y, rfl, e5, mx5⟩ := hP
          have ej : (0 + ((new.length : Nat) : Int) - 1 + (n2 : Nat) * -1) = ((new.length - 1 - n2 : Nat) : Int) := by omega
          rw [ej]
          have hj : new.length - 1 - n2 < new.length := by omega
          generalize hjj : new.length - 1 - n2 = j at hj
          have hD : Dim (old.length + 1) (new.length + 1) (((List.range new.length).reverse.take n2).foldl (rowJ old new i) M0) := Dim.rowJ (by omega) _ hM
          have tk2 : (List.range new.length).reverse.take (n2 + 1) = (List.range new.length).reverse.take n2 ++ [j] := by rw [List.take_add_one, rev_get hn2, hjj]; rfl
          generalize hM1 : ((List.range new.length).reverse.take n2).foldl (rowJ old new i) M0 = M at hD mx5
          obtain ⟨a0, r0, g1, g2, g3, g4, g5, g6⟩ := mx5.at hD (i := i) (j := j) (by omega) (by omega)
          obtain ⟨a1, r1, k1, k2, k3, k4, k5, k6⟩ := mx5.at hD (i := i + 1) (j := j + 1) (by omega) (by omega)
          obtain ⟨a2, r2, l1, l2, l3, l4, l5, l6⟩ := mx5.at hD (i := i + 1) (j := j) (by omega) (by omega)
          obtain ⟨a3, r3, n1, n2', n3, n4, n5, n6⟩ := mx5.at hD (i := i) (j := j + 1) (by omega) (by omega)
          have qo : (old.map V.str)[i]? = some (.str (old.getD i default)) := by rw [List.getElem?_map, List.getElem?_eq_getElem hi]; simp [List.getD, hi]
          have qn : (new.map V.str)[j]? = some (.str (new.getD j default)) := by rw [List.getElem?_map, List.getElem?_eq_getElem hj]; simp [List.getD, hj]
          have asr : ∀ {k : Nat} {a : Addr}, as[k]? = some a → (as.map V.ref)[k]? = some (V.ref a) := fun h => by rw [List.getElem?_map, h]; rfl
          have rin : ∀ {r : List Int} {k : Nat} {x : Int}, r[k]? = some x → (r.map V.int)[k]? = some (V.int x) := fun h => by rw [List.getElem?_map, h]; rfl
          have tp : SqL K H5 C (as.map .ref) := .inl (.inl mx5.top)
          have fin : ∀ v : Int, v = cell2 old new M i j → ∃ y, ([some (V.ref ao), some (V.ref an), some (V.ref C), some (V.int i), some (V.int j), none] : List (Option V)) = [some (V.ref ao), some (V.ref an), some (V.ref C), some (V.int i), y, none] ∧ Ex H (upd H5 a0 (.lst ((r0.map V.int).set j (.int v)))) ∧ MX (upd H5 a0 (.lst ((r0.map V.int).set j (.int v)))) C as (((List.range new.length).reverse.take (n2 + 1)).foldl (rowJ old new i) M0) := fun v hv => by
            refine ⟨_, rfl, Evl.Ex.mut e5 (na a0 (List.mem_of_getElem? g1)), ?_⟩
            rw [tk2, List.foldl_append, hM1]
            show MX _ C as (put2 M i j (cell2 old new M i j))
            rw [← hv]
            unfold put2
            rw [← g3]
            have := mx5.put g1 (r0.set j v)
            rw [List.map_set] at this
            exact this
          -- if old[i] == new[j]
          refine ⟨.ref ao, rfl, _, rfl, ⟨ao, _, _, _, rfl, rfl, .inl (.inl (e5 _ _ ho)), atI_nat qo, ⟨.ref an, rfl, _, rfl, ⟨an, _, _, _, rfl, rfl, .inl (.inl (e5 _ _ hn)), atI_nat qn, ⟨rfl, _, rfl, ?_⟩⟩⟩⟩⟩
          refine ite2 (fun hc => ?_) (fun hc => ?_)
          · have hc' : old.getD i default = new.getD j default := by simpa using hc
            refine ⟨.ref C, rfl, _, rfl, ⟨_, 1, rfl, rfl, ⟨C, _, _, _, rfl, rfl, tp, atI_of (n := i + 1) (by simp) (asr k1), ⟨_, rfl, ⟨_, 1, rfl, rfl, ⟨a1, _, _, _, rfl, rfl, .inl (.inl k4), atI_of (n := j + 1) (by simp) (rin k5), ⟨_, 1, rfl, rfl, ?_⟩⟩⟩⟩⟩⟩⟩
            refine ⟨.ref C, rfl, _, rfl, ⟨C, _, _, _, rfl, rfl, tp, atI_nat (asr g1), ⟨_, rfl, ⟨a0, _, _, j, rfl, rfl, g4, ?_, ?_⟩⟩⟩⟩
            · rw [List.length_map, g6]; exact Evl.ixN_nat (by omega)
            · exact fin _ (by unfold cell2; rw [if_pos hc'])
          · have hc' : ¬ old.getD i default = new.getD j default := by simpa using hc
            refine ⟨.ref C, rfl, _, rfl, ⟨_, 1, rfl, rfl, ⟨C, _, _, _, rfl, rfl, tp, atI_of (n := i + 1) (by simp) (asr l1), ⟨_, rfl, ⟨a2, _, _, _, rfl, rfl, .inl (.inl l4), atI_nat (rin l5), ⟨.ref C, rfl, _, rfl, ⟨C, _, _, _, rfl, rfl, tp, atI_nat (asr n1), ⟨_, rfl, ⟨_, 1, rfl, rfl, ⟨a3, _, _, _, rfl, rfl, .inl (.inl n4), atI_of (n := j + 1) (by simp) (rin n5), ⟨_, _, rfl, ?_⟩⟩⟩⟩⟩⟩⟩⟩⟩⟩⟩
            refine ⟨.ref C, rfl, _, rfl, ⟨C, _, _, _, rfl, rfl, tp, atI_nat (asr g1), ⟨_, rfl, ⟨a0, _, _, j, rfl, rfl, g4, ?_, ?_⟩⟩⟩⟩
            · rw [List.length_map, g6]; exact Evl.ixN_nat (by omega)
            · exact fin _ (by unfold cell2; rw [if_neg hc'])
        · obtain ⟨y, rfl, e5, mx5⟩ := hP
          refine ⟨_, _, rfl, e5, ?_⟩
          have : (List.range new.length).reverse.take new.length = (List.range new.length).reverse := List.take_of_length_le (by simp)
          rw [this] at mx5
          rw [tk, List.foldl_append, hM0]
          exact mx5
      · obtain ⟨x, y, rfl, e4, mx4⟩ := hP
        refine ⟨.ref C, rfl, q _ _ e4 ?_⟩
        have : (List.range old.length).reverse.take old.length = (List.range old.length).reverse := List.take_of_length_le (by simp)
        rw [this] at mx4
        have hn0 : ∀ a, H a = none → HL.new H H4 a = H4 a := fun a h => hid_at (fun z => z h)
        refine .lst (xs := as.map .ref) (by rw [hn0 _ nC']; exact mx4.top) ?_
        have all : ∀ (bs : List Addr) (Ms : List (List Int)), bs.length = Ms.length → (∀ (k : Nat) (r : List Int), Ms[k]? = some r → ∃ a, bs[k]? = some a ∧ H4 a = some (.lst (r.map .int))) → (∀ a ∈ bs, H a = none) → DnA (HL.new H H4) (bs.map .ref) (Ms.map (eL eI)) := by
          intro bs
          induction bs with
          | nil => intro Ms hl _ _; cases Ms with
            | nil => exact .nil
            | cons _ _ => simp at hl
          | cons b bs ih => intro Ms hl hrow hnone; cases Ms with
            | nil => simp at hl
            | cons r Ms =>
              obtain ⟨a, ha1, ha2⟩ := hrow 0 r rfl
              simp at ha1; subst ha1
              exact .cons (.lst (by rw [hn0 _ (hnone _ (by simp))]; exact ha2) (.of_ints r)) (ih Ms (by simpa using hl) (fun k r hk => by simpa using hrow (k + 1) r (by simpa using hk)) (fun a ha => hnone a (by simp [ha])))
        exact all as _ mx4.len mx4.row na
end
end K3
namespace K3
open PySem PySem.Spec PyProof.Rows L2 HL
open Evl (Ex)
abbrev I3 := Int × Int × Int
abbrev e3 : I3 → PyData := eT3 eI eI eI
def l__runs_1 (s : List (List I3)) (p : I3) : List (List I3) :=
  if (!s.isEmpty && decide (getI (getI s (-1)) (-1) = (p.1 - 1, p.2.1 - 1, p.2.2 - 1))) = true then s.set (s.length - 1) (s.getD (s.length - 1) [] ++ [p]) else s ++ [[p]]
def m__runs (places : List I3) : List (List I3) := List.foldl l__runs_1 [] places
/-- an own list of own lists as it lies in memory -/
structure RX (o : Hd) (H : Hp) (C : Addr) (as : List Addr) (M : List (List PyData)) : Prop where
  top : H C = some (.lst (as.map .ref))
  len : as.length = M.length
  nd : as.Nodup
  out : C ∉ as
  row : ∀ (k : Nat) (r : List PyData), M[k]? = some r → ∃ a vs, as[k]? = some a ∧ H a = some (.lst vs) ∧ DnA (hid (fun b => b = C ∨ b ∈ as ∨ o b) H) vs r
theorem RX.mono {o : Hd} {H H' : Hp} {C : Addr} {as : List Addr} {M : List (List PyData)} (h : RX o H C as M) (e : Ex H H') : RX o H' C as M :=
  ⟨e _ _ h.top, h.len, h.nd, h.out, fun k r hk => by
    obtain ⟨a, vs, a1, a2, a3⟩ := h.row k r hk
    exact ⟨a, vs, a1, e _ _ a2, a3.mono (hid_mono e)⟩⟩
theorem nd_injR : ∀ {as : List Addr}, as.Nodup → ∀ {i k : Nat} {a : Addr}, as[i]? = some a → as[k]? = some a → i = k
  | [], _, i, k, a, h, _ => by simp at h
  | b :: as, nd, 0, 0, _, _, _ => rfl
  | b :: as, nd, 0, k + 1, a, h1, h2 => by
    simp at h1; subst h1
    exact absurd (List.mem_of_getElem? (by simpa using h2)) (List.nodup_cons.mp nd).1
  | b :: as, nd, i + 1, 0, a, h1, h2 => by
    simp at h2; subst h2
    exact absurd (List.mem_of_getElem? (by simpa using h1)) (List.nodup_cons.mp nd).1
  | b :: as, nd, i + 1, k + 1, a, h1, h2 => by
    have := nd_injR (List.nodup_cons.mp nd).2 (i := i) (k := k) (a := a) (by simpa using h1) (by simpa using h2)
    omega
theorem RX.put {o : Hd} {H : Hp} {C : Addr} {as : List Addr} {M : List (List PyData)} (h : RX o H C as M) {i : Nat} {a : Addr} (ha : as[i]? = some a) {vs : List V} {r : List PyData} (hv : DnA (hid (fun b => b = C ∨ b ∈ as ∨ o b) H) vs r) : RX o (upd H a (.lst vs)) C as (M.set i r) := by
  have hm : a ∈ as := List.mem_of_getElem? ha
  have he : hid (fun b => b = C ∨ b ∈ as ∨ o b) (upd H a (.lst vs)) = hid (fun b => b = C ∨ b ∈ as ∨ o b) H := hid_upd_in (o := fun b => b = C ∨ b ∈ as ∨ o b) (Or.inr (Or.inl hm))
  refine ⟨?_, by rw [List.length_set]; exact h.len, h.nd, h.out, fun k r' hr => ?_⟩
  · rw [upd_ne (fun z => h.out (by rw [z]; exact hm))]; exact h.top
  · rw [he]
    by_cases hk : i = k
    · subst hk
      rw [List.getElem?_set] at hr
      simp at hr
      obtain ⟨_, hr⟩ := hr
      subst hr
      exact ⟨a, vs, ha, upd_same, hv⟩
    · rw [List.getElem?_set_ne hk] at hr
      obtain ⟨b, us, hb, q, d⟩ := h.row k r' hr
      refine ⟨b, us, hb, ?_, d⟩
      rw [upd_ne]
      · exact q
      · intro z; subst z
        exact hk (nd_injR h.nd ha hb)
theorem RX.snoc {o : Hd} {H H3 : Hp} {C p : Addr} {as : List Addr} {M : List (List PyData)} (h : RX o H C as M) (np : H p = none) (e : Ex H H3) {vs : List V} {r : List PyData} (hp : H3 p = some (.lst vs)) (hv : DnA (hid (fun b => (b = C ∨ b ∈ as ∨ o b) ∨ b = p) H3) vs r) : RX o (upd H3 C (.lst (as.map .ref ++ [.ref p]))) C (as ++ [p]) (M ++ [r]) := by
  have cp : C ≠ p := ne_of_none h.top np
  have pn : p ∉ as := fun z => by
    obtain ⟨k, hk, ek⟩ := List.getElem_of_mem z
    have hk2 : k < M.length := by rw [← h.len]; exact hk
    obtain ⟨b, us, b1, b2, _⟩ := h.row k _ (List.getElem?_eq_getElem hk2)
    rw [List.getElem?_eq_getElem hk, ek] at b1
    cases b1
    rw [b2] at np; cases np
  have sub : Ex (hid (fun b => b = C ∨ b ∈ as ∨ o b) H) (hid (fun b => b = C ∨ b ∈ as ++ [p] ∨ o b) (upd H3 C (.lst (as.map .ref ++ [.ref p])))) := fun b u q => by
    obtain ⟨q1, q2⟩ := hid_of q
    have n1 : b ≠ C := fun z => q1 (.inl z)
    have n2 : b ≠ p := ne_of_none q2 np
    rw [hid_at (fun z => by
      rcases z with z | z | z
      · exact n1 z
      · rcases List.mem_append.mp z with z | z
        · exact q1 (.inr (.inl z))
        · exact n2 (by simpa using z)
      · exact q1 (.inr (.inr z))), upd_ne n1]
    exact e _ _ q2
  have sub2 : Ex (hid (fun b => (b = C ∨ b ∈ as ∨ o b) ∨ b = p) H3) (hid (fun b => b = C ∨ b ∈ as ++ [p] ∨ o b) (upd H3 C (.lst (as.map .ref ++ [.ref p])))) := fun b u q => by
    obtain ⟨q1, q2⟩ := hid_of q
    rw [hid_at (fun z => by
      rcases z with z | z | z
      · exact q1 (.inl (.inl z))
      · rcases List.mem_append.mp z with z | z
        · exact q1 (.inl (.inr (.inl z)))
        · exact q1 (.inr (by simpa using z))
      · exact q1 (.inl (.inr (.inr z)))), upd_ne (fun z => q1 (.inl (.inl z)))]
    exact q2
  refine ⟨by rw [upd_same, List.map_append]; rfl, by simp [h.len], ?_, ?_, fun k r' hr => ?_⟩
  · exact List.nodup_append.mpr ⟨h.nd, by simp, fun a ha b hb => by simp at hb; subst hb; intro z; subst z; exact pn ha⟩
  · intro z
    rcases List.mem_append.mp z with z | z
    · exact h.out z
    · simp at z; exact cp z
  · by_cases hk : k < M.length
    · rw [List.getElem?_append_left hk] at hr
      obtain ⟨b, us, hb, q, d⟩ := h.row k r' hr
      have hbm := List.mem_of_getElem? hb
      refine ⟨b, us, by rw [List.getElem?_append_left (by rw [h.len]; exact hk)]; exact hb, ?_, d.mono sub⟩
      rw [upd_ne (fun z => h.out (by rw [← z]; exact hbm))]
      exact e _ _ q
    · have ek : k = M.length := by
        have := (List.getElem?_eq_some_iff.mp hr).1
        simp at this; omega
      subst ek
      simp at hr
      subst hr
      refine ⟨p, vs, by rw [List.getElem?_append_right (by rw [h.len]; exact Nat.le_refl _)]; simp [h.len], ?_, hv.mono sub2⟩
      rw [upd_ne (Ne.symm cp)]
      exact hp
theorem RX.dn {H H0 : Hp} {C : Addr} {as : List Addr} {M : List (List PyData)} (h : RX (fun b => H0 b ≠ none) H C as M) (nC : H0 C = none) (nA : ∀ a ∈ as, H0 a = none) : Dn (HL.new H0 H) (.ref C) (.list (M.map .list)) := by
  have vis : ∀ vs r, DnA (hid (fun b => b = C ∨ b ∈ as ∨ H0 b ≠ none) H) vs r → DnA (HL.new H0 H) vs r := fun vs r d => d.mono (hid_sub fun b z => .inr (.inr z))
  have hn0 : ∀ a, H0 a = none → HL.new H0 H a = H a := fun a q => hid_at (fun z => z q)
  refine .lst (xs := as.map .ref) (by rw [hn0 _ nC]; exact h.top) ?_
  have all : ∀ (bs : List Addr) (Ms : List (List PyData)), bs.length = Ms.length → (∀ (k : Nat) (r : List PyData), Ms[k]? = some r → ∃ a vs, bs[k]? = some a ∧ H a = some (.lst vs) ∧ DnA (hid (fun b => b = C ∨ b ∈ as ∨ H0 b ≠ none) H) vs r) → (∀ a ∈ bs, H0 a = none) → DnA (HL.new H0 H) (bs.map .ref) (Ms.map .list) := by
    intro bs
    induction bs with
    | nil => intro Ms hl _ _; cases Ms with
      | nil => exact .nil
      | cons _ _ => simp at hl
    | cons b bs ih => intro Ms hl hrow hnone; cases Ms with
      | nil => simp at hl
      | cons r Ms =>
        obtain ⟨a, vs, ha1, ha2, ha3⟩ := hrow 0 r rfl
        simp at ha1; subst ha1
        exact .cons (.lst (by rw [hn0 _ (hnone _ (by simp))]; exact ha2) (vis _ _ ha3)) (ih Ms (by simpa using hl) (fun k r hk => by simpa using hrow (k + 1) r (by simpa using hk)) (fun a ha => hnone a (by simp [ha])))
  exact all as _ h.len h.row nA
end K3
namespace K3
open PySem PySem.Spec PyProof.Rows L2 HL
open Evl (Ex)
theorem atI_last {α : Type} {xs : List α} (h : 0 < xs.length) : atI xs (-1) = xs[xs.length - 1]? := by
  unfold atI
  have : ixN xs.length (-1) = some (xs.length - 1) := by
    unfold ixN
    simp
    omega
  rw [this]; rfl
def Full (M : List (List I3)) : Prop := ∀ r ∈ M, r ≠ []
theorem full_step {M : List (List I3)} (h : Full M) (p : I3) : Full (l__runs_1 M p) := by
  unfold l__runs_1
  split
  · intro r hr
    rcases List.mem_or_eq_of_mem_set hr with z | z
    · exact h r z
    · rw [z]; simp
  · intro r hr
    rcases List.mem_append.mp hr with z | z
    · exact h r z
    · simp at z; rw [z]; simp
theorem len_step (M : List (List I3)) (p : I3) : (l__runs_1 M p).length ≤ M.length + 1 := by
  unfold l__runs_1
  split
  · rw [List.length_set]; omega
  · simp
def big (M : List (List I3)) (n : Nat) : Prop := M.length ≤ n ∧ ∀ r ∈ M, r.length ≤ n
theorem big_step {M : List (List I3)} {n : Nat} (h : big M n) (p : I3) : big (l__runs_1 M p) (n + 1) := by
  refine ⟨Nat.le_trans (len_step M p) (by have := h.1; omega), ?_⟩
  unfold l__runs_1
  split
  · intro r hr
    rcases List.mem_or_eq_of_mem_set hr with z | z
    · have := h.2 r z; omega
    · rw [z, List.length_append]
      by_cases q : M.length - 1 < M.length
      · have := h.2 (M.getD (M.length - 1) []) (by simp [List.getD, q])
        simp only [List.length_cons, List.length_nil]
        omega
      · simp [List.getD, List.getElem?_eq_none (by omega : M.length ≤ M.length - 1)]
  · intro r hr
    rcases List.mem_append.mp hr with z | z
    · have := h.2 r z; omega
    · simp at z; rw [z]; simp
section
variable {P : Program} {w : World} {K : PySem.W.Frag} {mg : Str → Option Value} {base : Heap}
abbrev s__runs : Stmt := topS 6
abbrev N__runs : List Str := ["places", "runs", "i", "j", "k"]
theorem sc__runs : FnScope N__runs ["places"] (defScope s__runs) := ⟨rfl, rfl, rfl, by decide +kernel, rfl, by decide +kernel, by decide +kernel⟩
def r__runs : List PyData → PyData → Prop := fun ds d => ∃ (places_ : List I3), ds = [eL e3 places_] ∧ (places_.length ≤ 1000) ∧ d = eL (eL e3) (m__runs places_)
abbrev NEG1 : TE := tUn (rU fun i => .int (-i)) (tC (.int 1))
abbrev TUP3 : TE := tTup (tCons (tVar 2) (tCons (tVar 3) (tCons (tVar 4) tNil)))
theorem ok__runs {f : Addr} {fd : FuncData} {k : Nat} (F : Fun K "_runs" "_runs" s__runs f fd) : FnOk P w K mg base CX0 (k + 1) f fd ["places"] (SpF r__runs) := by
  refine F.ok sc__runs (fun vs H Q E h => ?_) (fun cdv A outer s H vs Q E hr h => ?_)
  · obtain ⟨ds, d, hd, ⟨places, rfl, h1, rfl⟩, _⟩ := h
    exact hd.length
  · obtain ⟨ds, d, hd, ⟨places, rfl, h1, rfl⟩, q⟩ := h
    refine ⟨_, pss_cons (ps_set (i := 1) sc__runs.nd rfl (Or.inl rfl) (pe_lst pa_nil))
      (pss_cons (ps_for PassesOwn.never rfl (pi_list (pv 0)) (pg_tup rfl (pgs_cons (pg_name (i := 2) sc__runs.nd rfl (Or.inl rfl)) (pgs_cons (pg_name (i := 3) sc__runs.nd rfl (Or.inl rfl)) (pgs_cons (pg_name (i := 4) sc__runs.nd rfl (Or.inl rfl)) pgs_nil))))
        (pss_cons (ps_if (PW.pt (pw_and (pt_truth (pv 1) (by intro _; rfl)) (pw_and1 (pt_cmpR (r := rEqD K) (op_eqD hr.units) (pe_ix (r := rIxL K) ix_list (pe_ix (r := rIxL K) ix_list (pv 1) (pe_un un_neg pe_int) (fun _ _ => rfl)) (pe_un un_neg pe_int) (fun _ _ => rfl)) (pe_tup (pa_cons (pe_op op_sub (pv 2) pe_int) (pa_cons (pe_op op_sub (pv 3) pe_int) (pa_cons (pe_op op_sub (pv 4) pe_int) pa_nil)))) (nomark _)))))
          (pss_cons (ps_expr (pe_bm PySem.F.plainAttrs_list PySem.F.slot_list_append PySem.F.type_list_append mt_append (pe_ix (r := rIxL K) ix_list (pv 1) (pe_un un_neg pe_int) (fun _ _ => rfl)) (pa_cons (pe_tup (pa_cons (pv 2) (pa_cons (pv 3) (pa_cons (pv 4) pa_nil)))) pa_nil))) pss_nil)
          (pss_cons (ps_expr (pe_bm PySem.F.plainAttrs_list PySem.F.slot_list_append PySem.F.type_list_append mt_append (pv 1) (pa_cons (pe_lst (pa_cons (pe_tup (pa_cons (pv 2) (pa_cons (pv 3) (pa_cons (pv 4) pa_nil)))) pa_nil)) pa_nil))) pss_nil)) pss_nil))
      (pss_cons (ps_ret (pv 1)) pss_nil)), ?_⟩
    cases hd with
    | @cons v1 _ vr _ hv1 hd =>
    cases hd
    cases hv1 with
    | @lst ap vp _ hp rp =>
    -- runs = []
    refine ⟨Evl.sz_of (by simp), fun C nC => ?_⟩
    have e0 : Ex H (upd H C (.lst [])) := Evl.Ex.new nC
    have evp : Evl.Ev (tVar 0) ((start N__runs [V.ref ap]).set 1 (some (V.ref C))) (upd H C (.lst [])) (.ref ap) := fun H1 x Q q => ⟨.ref ap, rfl, q H1 (Ex.refl H1)⟩
    refine Evl.q_forL evp (xs := vp) (.inl (.inl (e0 _ _ hp))) (fun n σ' H' => ∃ (as : List Addr) (x y z : Option V), σ' = [some (.ref ap), some (.ref C), x, y, z] ∧ Ex H H' ∧ (∀ a ∈ as, H a = none) ∧ RX (fun b => H b ≠ none) H' C as ((List.foldl l__runs_1 [] (places.take n)).map fun r => r.map e3)) (fun H1 e1 => ?_) (fun n σ' H' hn hP => ?_) (fun n xv σ' H' hx hP => ?_) (fun σ' H' hP => ?_)
    · refine ⟨[], none, none, none, rfl, e0.trans e1, fun a h => by simp at h, ⟨e1 _ _ upd_same, rfl, by simp, by simp, fun k r hk => by simp at hk⟩⟩
    · obtain ⟨as, x, y, z, rfl, ex, _⟩ := hP
      exact .inl (.inl (ex _ _ hp))
    · obtain ⟨as, x, y, z, rfl, ex, na, rx⟩ := hP
      have hlp := rp.length
      have hn : n < places.length := by
        have := (List.getElem?_eq_some_iff.mp hx).1
        rw [hlp, List.length_map] at this; exact this
      have dx : Dn H xv (e3 places[n]) := by
        obtain ⟨v, e, q⟩ := rp.get (i := n) (d := e3 places[n]) (by rw [List.getElem?_map, List.getElem?_eq_getElem hn]; rfl)
        rw [hx] at e; cases e; exact q
      obtain ⟨i, j, k, hp3⟩ : ∃ i j k, places[n] = (i, j, k) := ⟨_, _, _, rfl⟩
      rw [hp3] at dx
      have tk : places.take (n + 1) = places.take n ++ [(i, j, k)] := by rw [List.take_add_one, List.getElem?_eq_getElem hn, hp3]; rfl
      have bigM : ∀ m, m ≤ places.length → Full (List.foldl l__runs_1 [] (places.take m)) ∧ big (List.foldl l__runs_1 [] (places.take m)) m := by
        intro m
        induction m with
        | zero => exact fun _ => ⟨fun r h => by simp at h, by simp, fun r h => by simp at h⟩
        | succ m ih =>
          intro hm
          have e : places.take (m + 1) = places.take m ++ [places[m]'(by omega)] := by rw [List.take_add_one, List.getElem?_eq_getElem (by omega)]; rfl
          rw [e, List.foldl_append]
          obtain ⟨a, b⟩ := ih (by omega)
          exact ⟨full_step a _, big_step b _⟩
      obtain ⟨full, bg⟩ := bigM n (by omega)
      rw [tk, List.foldl_append]
      generalize List.foldl l__runs_1 [] (places.take n) = M at rx full bg
      show ∃ a xs, xv = .ref a ∧ SqT K H' a xs ∧ xs.length = 3 ∧ _
      cases dx with
      | @tup at_ xt _ ht rt =>
      cases rt with
      | @cons w1 _ _ _ g1 rt =>
      cases rt with
      | @cons w2 _ _ _ g2 rt =>
      cases rt with
      | @cons w3 _ _ _ g3 rt =>
      cases rt
      cases g1; cases g2; cases g3
      refine ⟨at_, _, rfl, .inl (.inl (ex _ _ ht)), rfl, _, _, rfl, _, _, rfl, _, _, rfl, rfl, ?_⟩
      -- the turn
      let σ1 : Sta := [some (.ref ap), some (.ref C), some (.int i), some (.int j), some (.int k)]
      let own : Hd := fun b => b = C ∨ b ∈ as ∨ H b ≠ none
      have lv : Live own H' := fun b z y => by
        rcases z with z | z | z
        · rw [z, rx.top] at y; cases y
        · obtain ⟨kk, hk, ek⟩ := List.getElem_of_mem z
          have hk2 : kk < (M.map fun r => r.map e3).length := by rw [← rx.len]; exact hk
          obtain ⟨b2, us, b3, b4, _⟩ := rx.row kk _ (List.getElem?_eq_getElem hk2)
          rw [List.getElem?_eq_getElem hk, ek] at b3
          cases b3
          rw [b4] at y; cases y
        · cases hq : H b with
          | none => exact z hq
          | some u => rw [ex _ _ hq] at y; cases y
      have v2 : ∀ {o : Hd} {H2 : Hp}, Ev o (tVar 2) σ1 H2 (.int i) := fun {o H2} H1 x Q q => ⟨.int i, rfl, q _ H1 (Ex.refl H1) (.int i)⟩
      have v3 : ∀ {o : Hd} {H2 : Hp}, Ev o (tVar 3) σ1 H2 (.int j) := fun {o H2} H1 x Q q => ⟨.int j, rfl, q _ H1 (Ex.refl H1) (.int j)⟩
      have v4 : ∀ {o : Hd} {H2 : Hp}, Ev o (tVar 4) σ1 H2 (.int k) := fun {o H2} H1 x Q q => ⟨.int k, rfl, q _ H1 (Ex.refl H1) (.int k)⟩
      have tup : ∀ {o : Hd} {H2 : Hp}, Live o H2 → Ev o TUP3 σ1 H2 (e3 (i, j, k)) := fun l => ev_tup l (ea_cons v2 (ea_cons v3 (ea_cons v4 ea_nil))) (by simp)
      have hlen : as.length = M.length := by rw [rx.len, List.length_map]
      have last : M ≠ [] → ∃ a vs, as[M.length - 1]? = some a ∧ atI (as.map V.ref) (-1) = some (.ref a) ∧ H' a = some (.lst vs) ∧ DnA (hid own H') vs ((M.getD (M.length - 1) []).map e3) ∧ M.getD (M.length - 1) [] ≠ [] ∧ M.getD (M.length - 1) [] = getI M (-1) ∧ (M.getD (M.length - 1) []) ∈ M := fun ne => by
        have h0 : 0 < M.length := List.length_pos_iff.mpr ne
        have hl : M.length - 1 < M.length := by omega
        have er : M.getD (M.length - 1) [] = M[M.length - 1] := by simp [List.getD, hl]
        obtain ⟨a, vs, a1, a2, a3⟩ := rx.row (M.length - 1) (M[M.length - 1].map e3) (by rw [List.getElem?_map, List.getElem?_eq_getElem hl]; rfl)
        refine ⟨a, vs, a1, ?_, a2, by rw [er]; exact a3, by rw [er]; exact full _ (List.getElem_mem hl), ?_, by rw [er]; exact List.getElem_mem hl⟩
        · rw [atI_last (by rw [List.length_map, hlen]; exact h0), List.length_map, hlen, List.getElem?_map, a1]; rfl
        · rw [er]; unfold getI; rw [atI_last h0, List.getElem?_eq_getElem hl]; rfl
      have tr : EvT (fun σ H Q => tVar 1 σ H fun x H' => ∃ k, TruV K x H' k ∧ Q k H') σ1 H' (!M.isEmpty) := fun H1 x Q q => by
        refine ⟨.ref C, rfl, _, .inl ⟨as.map .ref, .inl (.inl (x _ _ rx.top)), rfl⟩, ?_⟩
        have : (as.map V.ref).isEmpty = M.isEmpty := by cases as <;> cases M <;> simp_all
        rw [this]; exact q H1 (Ex.refl H1)
      have ix : (!M.isEmpty) = true → Ev o0 (tOp (rIxL K) (tOp (rIxL K) (tVar 1) NEG1) NEG1) σ1 H' (e3 (getI (getI M (-1)) (-1))) := fun hne H1 x Q q => by
        have ne : M ≠ [] := by simpa using hne
        obtain ⟨a, vs, a1, a2, a3, a4, a5, a6, _⟩ := last ne
        have g : atI ((M.getD (M.length - 1) []).map e3) (-1) = some (e3 (getI (M.getD (M.length - 1) []) (-1))) := atI_getI (by unfold inB; have := List.length_pos_iff.mpr a5; omega) e3
        obtain ⟨y, y1, y2⟩ := (a4.mono (hid_sub (o' := o0) fun b z => z.elim)).atI g
        rw [a6] at y2
        refine ⟨.ref C, rfl, 1, rfl, C, as.map .ref, -1, .ref a, rfl, rfl, .inl (.inl (x _ _ rx.top)), a2, 1, rfl, a, vs, -1, y, rfl, rfl, .inl (.inl (x _ _ a3)), y1, q y H1 (Ex.refl H1) (y2.mono (hid_mono x))⟩
      have cond : EvT _ σ1 H' (!M.isEmpty && decide (getI (getI M (-1)) (-1) = (i - 1, j - 1, k - 1))) :=
        et_and tr fun hc => et_test (ev_eqM (K := K) (em := e3) (a := getI (getI M (-1)) (-1)) (b := (i - 1, j - 1, k - 1)) (emT3 emI emI emI) (ix hc) (ev_tup (ds := [.int (i - 1), .int (j - 1), .int (k - 1)]) live0 (ea_cons (ev_I0 v2 ev_int) (ea_cons (ev_I0 v3 ev_int) (ea_cons (ev_I0 v4 ev_int) ea_nil))) (by simp)) ⟨trivial, trivial, trivial⟩ ⟨trivial, trivial, trivial⟩)
      refine cond H' (Ex.refl H') _ fun H2 e2 => ?_
      have rx2 := rx.mono e2
      have ex2 := ex.trans e2
      cases hb : (!M.isEmpty && decide (getI (getI M (-1)) (-1) = (i - 1, j - 1, k - 1))) with
      | true =>
        rw [if_pos rfl]
        have hne : M ≠ [] := by
          rw [Bool.and_eq_true] at hb
          simpa using hb.1
        obtain ⟨a, vs, a1, a2, a3, a4, a5, a6, a7⟩ := last hne
        have lv2 : Live own H2 := lv.mono e2
        refine ⟨.ref C, rfl, 1, rfl, C, as.map .ref, -1, .ref a, rfl, rfl, .inl (.inl rx2.top), a2, .inl ⟨rfl, vs, .inl (.inl (e2 _ _ a3))⟩, (tup lv2).go fun v H3 e3' hv => ⟨a, vs, v, rfl, rfl, e3' _ _ (e2 _ _ a3), Evl.sz_lt ?_, ?_⟩⟩
        · rw [a4.length, List.length_map]
          have := bg.2 _ a7
          omega
        · have hA := na a (List.mem_of_getElem? a1)
          refine ⟨as, _, _, _, rfl, fun b u z => ?_, na, ?_⟩
          · rw [upd_ne (fun q => by rw [q, hA] at z; cases z)]
            exact e3' _ _ (ex2 _ _ z)
          · have := (rx2.mono e3').put (i := M.length - 1) a1 (vs := vs ++ [v]) (r := (M.getD (M.length - 1) []).map e3 ++ [e3 (i, j, k)]) ((a4.mono (hid_mono (e2.trans e3'))).append (.one hv))
            have em : ((List.foldl l__runs_1 M [(i, j, k)]).map fun r => r.map e3) = (M.map fun r => r.map e3).set (M.length - 1) ((M.getD (M.length - 1) []).map e3 ++ [e3 (i, j, k)]) := by
              simp only [List.foldl_cons, List.foldl_nil, l__runs_1]
              rw [if_pos hb, List.map_set, List.map_append]; rfl
            rw [em]
            exact this
      | false =>
        rw [if_neg Bool.false_ne_true]
        have lv2 : Live own H2 := lv.mono e2
        have one : EvN own (tLst (tCons TUP3 tNil)) σ1 H2 [e3 (i, j, k)] := en_lst (ea_cons (tup lv2) ea_nil) (by simp)
        refine ⟨.ref C, rfl, .inl ⟨rfl, as.map .ref, .inl (.inl rx2.top)⟩, one H2 (Ex.refl H2) _ fun p vs H3 np e3' hp3 hv => ⟨C, as.map .ref, .ref p, rfl, rfl, e3' _ _ rx2.top, Evl.sz_lt ?_, ?_⟩⟩
        · rw [List.length_map, hlen]
          have := bg.1
          omega
        · have hC : p ≠ C := fun z => by rw [z, rx2.top] at np; cases np
          have hHp : H p = none := Evl.fresh_back ex2 np
          refine ⟨as ++ [p], _, _, _, rfl, fun b u z => ?_, fun a ha => ?_, ?_⟩
          · rw [upd_ne (fun q => by rw [q, nC] at z; cases z)]
            exact e3' _ _ (ex2 _ _ z)
          · rcases List.mem_append.mp ha with ha | ha
            · exact na a ha
            · simp at ha; rw [ha]; exact hHp
          · have := rx2.snoc np e3' hp3 hv
            have em : ((List.foldl l__runs_1 M [(i, j, k)]).map fun r => r.map e3) = (M.map fun r => r.map e3) ++ [[e3 (i, j, k)]] := by
              simp only [List.foldl_cons, List.foldl_nil, l__runs_1]
              rw [if_neg (by rw [hb]; exact Bool.false_ne_true), List.map_append]; rfl
            rw [em]
            exact this
    · obtain ⟨as, x, y, z, rfl, ex, na, rx⟩ := hP
      refine ⟨.ref C, rfl, q _ _ ex ?_⟩
      have e : places.take vp.length = places := List.take_of_length_le (by rw [rp.length, List.length_map]; exact Nat.le_refl _)
      rw [e] at rx
      have := rx.dn nC na
      rw [List.map_map] at this
      exact this
end
end K3
namespace K3
open PySem PySem.Spec PyProof.Rows L2 HL
open Evl (Ex)
section
variable {P : Program} {w : World} {K : PySem.W.Frag} {mg : Str → Option Value} {base : Heap}

def m__law_next (cells_ : (List (List Int))) (many_ : Int) : (Int × (List (List Int))) :=
  (if (decide (cells_ = ([]))) = true then ((0 : Int), cells_) else (if ((decide ((getI (getI (setI cells_ (0 : Int) ([(Int.fdiv (getI (getI cells_ (0 : Int)) (0 : Int)) many_), ((getI (getI cells_ (0 : Int)) (1 : Int)) + (1 : Int))])) (0 : Int)) (0 : Int)) = (0 : Int))) || (decide ((getI (getI (setI cells_ (0 : Int) ([(Int.fdiv (getI (getI cells_ (0 : Int)) (0 : Int)) many_), ((getI (getI cells_ (0 : Int)) (1 : Int)) + (1 : Int))])) (0 : Int)) (1 : Int)) = (60 : Int)))) = true then ((Int.fmod (getI (getI cells_ (0 : Int)) (0 : Int)) many_), (setI cells_ (0 : Int) ([(Int.fdiv (getI (getI cells_ (0 : Int)) (0 : Int)) many_), ((getI (getI cells_ (0 : Int)) (1 : Int)) + (1 : Int))])).tail) else ((Int.fmod (getI (getI cells_ (0 : Int)) (0 : Int)) many_), (setI cells_ (0 : Int) ([(Int.fdiv (getI (getI cells_ (0 : Int)) (0 : Int)) many_), ((getI (getI cells_ (0 : Int)) (1 : Int)) + (1 : Int))])))))

abbrev s__law_next : Stmt := topS 16

abbrev N__law_next : List Str := ["cells", "many", "number"]

theorem sc__law_next : FnScope N__law_next ["cells", "many"] (defScope s__law_next) := ⟨rfl, rfl, rfl, by decide +kernel, rfl, by decide +kernel, by decide +kernel⟩

def r__law_next : List PyData → List PyData → PyData → List PyData → Prop := fun ds rs d ds' => ∃ (cells_ : (List (List Int))) (many_ : Int), ds = cells_.map (eL eI) ∧ rs = [eI many_] ∧ (∀ r ∈ cells_, r.length = 2) ∧ (0 < many_) ∧ (many_ < 1000) ∧ d = eI (m__law_next cells_ many_).1 ∧ ds' = (m__law_next cells_ many_).2.map (eL eI)

set_option maxHeartbeats 8000000 in
theorem ok__law_next {f : Addr} {fd : FuncData} {k : Nat} (F : Fun K "_law_next" "_law_next" s__law_next f fd) (m_int : mg "int" = none) : FnOk P w K mg base CX0 (k + 1) f fd ["cells", "many"] (SpM r__law_next) := by
  refine F.ok sc__law_next (fun vs H Q E h => ?_) (fun cdv A outer s H vs Q E hr h => ?_)
  · obtain ⟨oa, xs, vr, o, ds, rs, d, ds', rfl, lo, ho, ha, hxs, hvr, ⟨cells_, many_, rfl, rfl, h1, h2, h3, rfl, rfl⟩, _⟩ := h
    have := hvr.length
    simp at this
    simp [this]
  · obtain ⟨oa, xs, vr, o, ds, rs, d, ds', rfl, lo, ho, ha, hxs, hvr, ⟨cells_, many_, rfl, rfl, h1, h2, h3, rfl, rfl⟩, q⟩ := h
    refine ⟨_, (pss_cons (ps_if (pt_cmpR (r := rEqD K) (op_eqD hr.units) (pv 0) (pe_lst pa_nil) (nomark _)) (pss_cons (ps_ret pe_int) pss_nil) pss_nil) (pss_cons (ps_set (i := 2) sc__law_next.nd rfl (Or.inl rfl) (pe_op op_modN (pe_callTy call_int1 (by rfl) m_int (by decide +kernel) (pa_cons (pe_ix (r := rIxL K) ix_list (pe_ix (r := rIxL K) ix_list (pv 0) pe_int (fun _ _ => rfl)) pe_int (fun _ _ => rfl)) pa_nil)) (pv 1))) (pss_cons (ps_asg (pe_lst (pa_cons (pe_op op_fdivN (pe_ix (r := rIxL K) ix_list (pe_ix (r := rIxL K) ix_list (pv 0) pe_int (fun _ _ => rfl)) pe_int (fun _ _ => rfl)) (pv 1)) (pa_cons (pe_op op_add (pe_ix (r := rIxL K) ix_list (pe_ix (r := rIxL K) ix_list (pv 0) pe_int (fun _ _ => rfl)) pe_int (fun _ _ => rfl)) pe_int) pa_nil))) (pg_sub (pv 0) pe_int set_list)) (pss_cons (ps_if (PW.pt (pw_or (pt_cmpR (op_eq) (pe_ix (r := rIxL K) ix_list (pe_ix (r := rIxL K) ix_list (pv 0) pe_int (fun _ _ => rfl)) pe_int (fun _ _ => rfl)) pe_int (nomark _)) (pw_or1 (pt_cmpR (op_eq) (pe_ix (r := rIxL K) ix_list (pe_ix (r := rIxL K) ix_list (pv 0) pe_int (fun _ _ => rfl)) pe_int (fun _ _ => rfl)) pe_int (nomark _))))) (pss_cons (ps_expr (pe_bm PySem.F.plainAttrs_list PySem.F.slot_list_pop PySem.F.type_list_pop mt_popAt (pv 0) (pa_cons pe_int pa_nil))) pss_nil) pss_nil) (pss_cons (ps_ret (pv 2)) pss_nil))))), ?_⟩
    have B := bs_M (N := N__law_next) lo ho ha hxs hvr (by intro d hd; simp at hd <;> first | (subst hd; constructor) | (rcases hd with hd | hd <;> subst hd <;> constructor)) (by rw [hvr.length]; exact Nat.le_of_ble_eq_true rfl)
    have B : Bs _ _ _ [.ow true oa (cells_.map (eL eI)), .va true (eI many_), .no] := B
    have e0 : Ex (hid (fun b => b = oa) H) (hid (fun b => b = oa) H) := Ex.refl _
    have hk : m__law_next cells_ many_ = (if (decide (cells_ = ([]))) = true then ((0 : Int), cells_) else (if ((decide ((getI (getI (setI cells_ (0 : Int) ([(Int.fdiv (getI (getI cells_ (0 : Int)) (0 : Int)) many_), ((getI (getI cells_ (0 : Int)) (1 : Int)) + (1 : Int))])) (0 : Int)) (0 : Int)) = (0 : Int))) || (decide ((getI (getI (setI cells_ (0 : Int) ([(Int.fdiv (getI (getI cells_ (0 : Int)) (0 : Int)) many_), ((getI (getI cells_ (0 : Int)) (1 : Int)) + (1 : Int))])) (0 : Int)) (1 : Int)) = (60 : Int)))) = true then ((Int.fmod (getI (getI cells_ (0 : Int)) (0 : Int)) many_), (setI cells_ (0 : Int) ([(Int.fdiv (getI (getI cells_ (0 : Int)) (0 : Int)) many_), ((getI (getI cells_ (0 : Int)) (1 : Int)) + (1 : Int))])).tail) else ((Int.fmod (getI (getI cells_ (0 : Int)) (0 : Int)) many_), (setI cells_ (0 : Int) ([(Int.fdiv (getI (getI cells_ (0 : Int)) (0 : Int)) many_), ((getI (getI cells_ (0 : Int)) (1 : Int)) + (1 : Int))]))))) := rfl
    refine q_if B (et_test (ev_eqM (a := cells_) (b := []) (emL (emL emI)) (ev_owM B rfl) ((en_lstM (em := (eL eI)) (xs := []) ea_nil (by simp)).ev live0) (by first | assumption | exact gd_nil | (intros; trivial) | simp_all) (by first | assumption | exact gd_nil | (intros; trivial) | simp_all))) (fun hc1 H1 B => ?_) (fun hc1 H1 B => ?_)
    · rw [if_pos hc1] at hk
      have hc1_f := hc1
      try simp only [Bool.and_eq_true, Bool.or_eq_true, Bool.not_eq_true', Bool.and_eq_false_imp, Bool.or_eq_false_iff, Bool.not_eq_false', decide_eq_true_eq, decide_eq_false_iff_not] at hc1_f
      refine q_retM (i := 0) B rfl ev_int rfl fun v xs' H' hb hp hxs hv => q v xs' H' hb hp ?_ ?_
      · rw [hk]; exact hxs
      · rw [hk]; exact hv
    · rw [if_neg (show ¬ (decide (cells_ = ([]))) = true from by rw [hc1]; exact Bool.false_ne_true)] at hk
      have hc1_f := hc1
      try simp only [Bool.and_eq_true, Bool.or_eq_true, Bool.not_eq_true', Bool.and_eq_false_imp, Bool.or_eq_false_iff, Bool.not_eq_false', decide_eq_true_eq, decide_eq_false_iff_not] at hc1_f
      dsimp only [tNext]
      have hne : cells_ ≠ [] := by simpa using hc1_f
      have h0 : inB cells_ 0 := by unfold inB; have := List.length_pos_iff.mpr hne; omega
      have h00 := h1 _ (getI_mem h0)
      refine q_asg (f := true) B (ev_IC (ev_intI ((ev_ixM (em := eI) (xs := (getI cells_ (0 : Int))) ((ev_ixOM B rfl ev_int (show inB cells_ (0 : Int) from by first | assumption | (unfold inB; first | omega | (simp; omega) | (simp at *; omega)))).w0) ev_int (show inB (getI cells_ (0 : Int)) (0 : Int) from by first | assumption | (unfold inB; first | omega | (simp; omega) | (simp at *; omega)))).sc (.int _))) (ev_sc B rfl (.int _)) (by omega)) fun σ1 H1 B => ?_
      have B : Bs _ _ _ [.ow true oa (cells_.map (eL eI)), .va true (eI many_), .va true (eI (Int.fmod (getI (getI cells_ (0 : Int)) (0 : Int)) many_))] := B
      refine q_setM (f := true) B rfl ((en_lstM (em := eI) (xs := [(Int.fdiv (getI (getI cells_ (0 : Int)) (0 : Int)) many_), ((getI (getI cells_ (0 : Int)) (1 : Int)) + (1 : Int))]) (ea_cons (ev_IC ((ev_ixM (em := eI) (xs := (getI cells_ (0 : Int))) ((ev_ixOM B rfl ev_int (show inB cells_ (0 : Int) from by first | assumption | (unfold inB; first | omega | (simp; omega) | (simp at *; omega)))).w0) ev_int (show inB (getI cells_ (0 : Int)) (0 : Int) from by first | assumption | (unfold inB; first | omega | (simp; omega) | (simp at *; omega)))).sc (.int _)) (ev_sc B rfl (.int _)) ⟨by omega, by omega⟩) (ea_cons (ev_I0 ((ev_ixM (em := eI) (xs := (getI cells_ (0 : Int))) ((ev_ixOM B rfl ev_int (show inB cells_ (0 : Int) from by first | assumption | (unfold inB; first | omega | (simp; omega) | (simp at *; omega)))).w0) ev_int (show inB (getI cells_ (0 : Int)) (1 : Int) from by first | assumption | (unfold inB; first | omega | (simp; omega) | (simp at *; omega)))).sc (.int _)) ev_int) ea_nil)) (by simp)).ev (B.live true)) ev_int (show inB cells_ (0 : Int) from by first | assumption | (unfold inB; first | omega | (simp; omega) | (simp at *; omega))) fun H1 B => ?_
      have B : Bs _ _ _ [.ow true oa ((setI cells_ (0 : Int) ([(Int.fdiv (getI (getI cells_ (0 : Int)) (0 : Int)) many_), ((getI (getI cells_ (0 : Int)) (1 : Int)) + (1 : Int))])).map (eL eI)), .va true (eI many_), .va true (eI (Int.fmod (getI (getI cells_ (0 : Int)) (0 : Int)) many_))] := B
      have hs0 : inB (setI cells_ 0 [(getI (getI cells_ 0) 0).fdiv many_, getI (getI cells_ 0) 1 + 1]) 0 := by unfold inB; rw [setI_len]; exact h0
      have hs1 : (getI (setI cells_ 0 [(getI (getI cells_ 0) 0).fdiv many_, getI (getI cells_ 0) 1 + 1]) 0).length = 2 := by rw [getI_setI h0]; rfl
      have hs2 := hs0.2
      refine q_if B (et_or (et_test (ev_eqI ((ev_ixM (em := eI) (xs := (getI (setI cells_ (0 : Int) ([(Int.fdiv (getI (getI cells_ (0 : Int)) (0 : Int)) many_), ((getI (getI cells_ (0 : Int)) (1 : Int)) + (1 : Int))])) (0 : Int))) ((ev_ixOM B rfl ev_int (show inB (setI cells_ (0 : Int) ([(Int.fdiv (getI (getI cells_ (0 : Int)) (0 : Int)) many_), ((getI (getI cells_ (0 : Int)) (1 : Int)) + (1 : Int))])) (0 : Int) from by first | assumption | (unfold inB; first | omega | (simp; omega) | (simp at *; omega)))).w0) ev_int (show inB (getI (setI cells_ (0 : Int) ([(Int.fdiv (getI (getI cells_ (0 : Int)) (0 : Int)) many_), ((getI (getI cells_ (0 : Int)) (1 : Int)) + (1 : Int))])) (0 : Int)) (0 : Int) from by first | assumption | (unfold inB; first | omega | (simp; omega) | (simp at *; omega)))).sc (.int _)) ev_int)) fun hc => (et_test (ev_eqI ((ev_ixM (em := eI) (xs := (getI (setI cells_ (0 : Int) ([(Int.fdiv (getI (getI cells_ (0 : Int)) (0 : Int)) many_), ((getI (getI cells_ (0 : Int)) (1 : Int)) + (1 : Int))])) (0 : Int))) ((ev_ixOM B rfl ev_int (show inB (setI cells_ (0 : Int) ([(Int.fdiv (getI (getI cells_ (0 : Int)) (0 : Int)) many_), ((getI (getI cells_ (0 : Int)) (1 : Int)) + (1 : Int))])) (0 : Int) from by first | assumption | (unfold inB; first | omega | (simp; omega) | (simp at *; omega)))).w0) ev_int (show inB (getI (setI cells_ (0 : Int) ([(Int.fdiv (getI (getI cells_ (0 : Int)) (0 : Int)) many_), ((getI (getI cells_ (0 : Int)) (1 : Int)) + (1 : Int))])) (0 : Int)) (1 : Int) from by first | assumption | (unfold inB; first | omega | (simp; omega) | (simp at *; omega)))).sc (.int _)) ev_int))) (fun hc2 H1 B => ?_) (fun hc2 H1 B => ?_)
      · rw [if_pos hc2] at hk
        have hc2_f := hc2
        try simp only [Bool.and_eq_true, Bool.or_eq_true, Bool.not_eq_true', Bool.and_eq_false_imp, Bool.or_eq_false_iff, Bool.not_eq_false', decide_eq_true_eq, decide_eq_false_iff_not] at hc2_f
        refine q_popH B rfl ev_int (by omega) fun H1 B => ?_
        have B : Bs _ _ _ [.ow true oa (((setI cells_ (0 : Int) ([(Int.fdiv (getI (getI cells_ (0 : Int)) (0 : Int)) many_), ((getI (getI cells_ (0 : Int)) (1 : Int)) + (1 : Int))])).tail).map (eL eI)), .va true (eI many_), .va true (eI (Int.fmod (getI (getI cells_ (0 : Int)) (0 : Int)) many_))] := B
        dsimp only [tNext]
        refine q_retM (i := 0) B rfl (ev_sc B rfl (.int _)) rfl fun v xs' H' hb hp hxs hv => q v xs' H' hb hp ?_ ?_
        · rw [hk]; exact hxs
        · rw [hk]; exact hv
      · rw [if_neg (show ¬ ((decide ((getI (getI (setI cells_ (0 : Int) ([(Int.fdiv (getI (getI cells_ (0 : Int)) (0 : Int)) many_), ((getI (getI cells_ (0 : Int)) (1 : Int)) + (1 : Int))])) (0 : Int)) (0 : Int)) = (0 : Int))) || (decide ((getI (getI (setI cells_ (0 : Int) ([(Int.fdiv (getI (getI cells_ (0 : Int)) (0 : Int)) many_), ((getI (getI cells_ (0 : Int)) (1 : Int)) + (1 : Int))])) (0 : Int)) (1 : Int)) = (60 : Int)))) = true from by rw [hc2]; exact Bool.false_ne_true)] at hk
        have hc2_f := hc2
        try simp only [Bool.and_eq_true, Bool.or_eq_true, Bool.not_eq_true', Bool.and_eq_false_imp, Bool.or_eq_false_iff, Bool.not_eq_false', decide_eq_true_eq, decide_eq_false_iff_not] at hc2_f
        dsimp only [tNext]
        refine q_retM (i := 0) B rfl (ev_sc B rfl (.int _)) rfl fun v xs' H' hb hp hxs hv => q v xs' H' hb hp ?_ ?_
        · rw [hk]; exact hxs
        · rw [hk]; exact hv

def l_matched_1_c (old_ : (List Str)) (new_ : (List Str)) (s : (List (Int × Int)) × Int × Int) : Bool :=
  match s with
  | (pairs_1, i_1, j_1) => ((decide (i_1 < (List.length old_ : Int))) && (decide (j_1 < (List.length new_ : Int))))

def l_matched_1 (old_ : (List Str)) (new_ : (List Str)) (s : (List (Int × Int)) × Int × Int) : (List (Int × Int)) × Int × Int :=
  match s with
  | (pairs_1, i_1, j_1) => (if (decide ((getI old_ i_1) = (getI new_ j_1))) = true then ((pairs_1 ++ [(i_1, j_1)]), (i_1 + (1 : Int)), (j_1 + (1 : Int))) else (if (decide ((getI (getI (m__common_lengths (old_) (new_)) i_1) (j_1 + (1 : Int))) ≤ (getI (getI (m__common_lengths (old_) (new_)) (i_1 + (1 : Int))) j_1))) = true then (pairs_1, (i_1 + (1 : Int)), j_1) else (pairs_1, i_1, (j_1 + (1 : Int)))))

def l_matched_1_m (old_ : (List Str)) (new_ : (List Str)) (s : (List (Int × Int)) × Int × Int) : Nat :=
  match s with
  | (pairs_1, i_1, j_1) => (old_.length + new_.length - i_1 - j_1).toNat

def m_matched (old_ : (List Str)) (new_ : (List Str)) : (List (Int × Int)) :=
  (match (whileF (l_matched_1_c old_ new_) (l_matched_1 old_ new_) (l_matched_1_m old_ new_ (([] : (List (Int × Int))), (0 : Int), (0 : Int))) (([] : (List (Int × Int))), (0 : Int), (0 : Int))) with | (pairs_r1, i_r1, j_r1) => pairs_r1)

abbrev s_matched : Stmt := topS 1

abbrev N_matched : List Str := ["old", "new", "lengths", "pairs", "i", "j"]

theorem sc_matched : FnScope N_matched ["old", "new"] (defScope s_matched) := ⟨rfl, rfl, rfl, by decide +kernel, rfl, by decide +kernel, by decide +kernel⟩

def r_matched : List PyData → PyData → Prop := fun ds d => ∃ (old_ : (List Str)) (new_ : (List Str)), ds = [(eL eS) old_, (eL eS) new_] ∧ (old_.length ≤ 1000) ∧ (new_.length ≤ 1000) ∧ d = (eL (eT2 eI eI)) (m_matched old_ new_)

set_option maxHeartbeats 8000000 in
theorem ok_matched {f : Addr} {fd : FuncData} {k : Nat} (F : Fun K "matched" "matched" s_matched f fd) {f__common_lengths : Addr} {fd__common_lengths : FuncData} {k__common_lengths : Nat} (F__common_lengths : Fun K "_common_lengths" "_common_lengths" s__common_lengths f__common_lengths fd__common_lengths) (b__common_lengths : Binds K fd__common_lengths ["old", "new"] []) (g__common_lengths : mg "_common_lengths" = some (.ref f__common_lengths)) (G__common_lengths : FnOk P w K mg base CX0 k__common_lengths f__common_lengths fd__common_lengths ["old", "new"] (SpF r__common_lengths)) (k__common_lengths_ : k__common_lengths ≤ k) (m_len : mg "len" = none) : FnOk P w K mg base CX0 (k + 1) f fd ["old", "new"] (SpF r_matched) := by
  refine F.ok sc_matched (fun vs H Q E h => ?_) (fun cdv A outer s H vs Q E hr h => ?_)
  · obtain ⟨ds, d, hd, ⟨old_, new_, rfl, h1, h2, rfl⟩, _⟩ := h
    exact hd.length
  · obtain ⟨ds, d, hd, ⟨old_, new_, rfl, h1, h2, rfl⟩, q⟩ := h
    refine ⟨_, (pss_cons (ps_set (i := 2) sc_matched.nd rfl (Or.inl rfl) (pe_call G__common_lengths (hr.mono k__common_lengths_) (by rfl) g__common_lengths F__common_lengths.kp b__common_lengths .nil pass0 (pa_cons (pv 0) (pa_cons (pv 1) pa_nil)))) (pss_cons (ps_set (i := 3) sc_matched.nd rfl (Or.inl rfl) (pe_lst pa_nil)) (pss_cons (ps_asg2 pe_int (pg_name (i := 4) sc_matched.nd rfl (Or.inl rfl)) (pg_name (i := 5) sc_matched.nd rfl (Or.inl rfl))) (pss_cons (ps_while PassesOwn.never (PW.pt (pw_and (pt_cmpR (op_lt) (pv 4) (pe_callB (r := rLenK K) call_len_seq (by rfl) m_len PySem.boot_len (pa_cons (pv 0) pa_nil)) (nomark _)) (pw_and1 (pt_cmpR (op_lt) (pv 5) (pe_callB (r := rLenK K) call_len_seq (by rfl) m_len PySem.boot_len (pa_cons (pv 1) pa_nil)) (nomark _))))) (pss_cons (ps_if (pt_cmpR (op_eq) (pe_ix (r := rIxL K) ix_list (pv 0) (pv 4) (fun _ _ => rfl)) (pe_ix (r := rIxL K) ix_list (pv 1) (pv 5) (fun _ _ => rfl)) (nomark _)) (pss_cons (ps_expr (pe_bm PySem.F.plainAttrs_list PySem.F.slot_list_append PySem.F.type_list_append mt_append (pv 3) (pa_cons (pe_tup (pa_cons (pv 4) (pa_cons (pv 5) pa_nil))) pa_nil))) (pss_cons (ps_aug (i := 4) sc_matched.nd rfl (Or.inl rfl) pe_int ip_add) (pss_cons (ps_aug (i := 5) sc_matched.nd rfl (Or.inl rfl) pe_int ip_add) pss_nil))) (pss_cons (ps_if (pt_cmpR (op_ge) (pe_ix (r := rIxL K) ix_list (pe_ix (r := rIxL K) ix_list (pv 2) (pe_op op_add (pv 4) pe_int) (fun _ _ => rfl)) (pv 5) (fun _ _ => rfl)) (pe_ix (r := rIxL K) ix_list (pe_ix (r := rIxL K) ix_list (pv 2) (pv 4) (fun _ _ => rfl)) (pe_op op_add (pv 5) pe_int) (fun _ _ => rfl)) (nomark _)) (pss_cons (ps_aug (i := 4) sc_matched.nd rfl (Or.inl rfl) pe_int ip_add) pss_nil) (pss_cons (ps_aug (i := 5) sc_matched.nd rfl (Or.inl rfl) pe_int ip_add) pss_nil)) pss_nil)) pss_nil)) (pss_cons (ps_ret (pv 3)) pss_nil))))), ?_⟩
    have e0 : Ex H H := Ex.refl H
    have B := bs_F hd (N := N_matched) (by rw [hd.length]; exact Nat.le_of_ble_eq_true rfl)
    have B : Bs _ _ _ [.va false ((eL eS) old_), .va false ((eL eS) new_), .no, .no, .no, .no] := B
    have hk : m_matched old_ new_ = (match (whileF (l_matched_1_c old_ new_) (l_matched_1 old_ new_) (l_matched_1_m old_ new_ (([] : (List (Int × Int))), (0 : Int), (0 : Int))) (([] : (List (Int × Int))), (0 : Int), (0 : Int))) with | (pairs_r1, i_r1, j_r1) => pairs_r1) := rfl
    have d1 := dim_common old_ new_
    have t1 : ∀ i : Int, 0 ≤ i → i ≤ old_.length → (getI (m__common_lengths old_ new_) i).length = new_.length + 1 := fun i h0 h1 => d1.2 _ (getI_mem (by unfold inB; rw [d1.1]; omega))
    have t0 := d1.1
    refine q_asg (f := true) B (ev_callF (B.live true) (ea_cons ((ev_va B rfl).w0) (ea_cons ((ev_va B rfl).w0) ea_nil)) ⟨old_, new_, rfl, by first | assumption | omega | (simp at *; omega), by first | assumption | omega | (simp at *; omega), rfl⟩) fun σ1 H1 B => ?_
    have B : Bs _ _ _ [.va false ((eL eS) old_), .va false ((eL eS) new_), .va true ((eL (eL eI)) (m__common_lengths (old_) (new_))), .no, .no, .no] := B
    refine q_asgN (f := true) B (en_lstM (em := (eT2 eI eI)) (xs := []) ea_nil (by simp)) fun a3 σ1 H1 B => ?_
    have B : Bs _ _ _ [.va false ((eL eS) old_), .va false ((eL eS) new_), .va true ((eL (eL eI)) (m__common_lengths (old_) (new_))), .ow true a3 (([] : (List (Int × Int))).map (eT2 eI eI)), .no, .no] := B
    refine q_asg2 (f := true) B ev_int fun σ1 H1 B => ?_
    have B : Bs _ _ _ [.va false ((eL eS) old_), .va false ((eL eS) new_), .va true ((eL (eL eI)) (m__common_lengths (old_) (new_))), .ow true a3 (([] : (List (Int × Int))).map (eT2 eI eI)), .va true (eI (0 : Int)), .va true (eI (0 : Int))] := B
    refine q_whileM (fun (s : (List (Int × Int)) × Int × Int) => [.va false ((eL eS) old_), .va false ((eL eS) new_), .va true ((eL (eL eI)) (m__common_lengths (old_) (new_))), .ow true a3 (s.1.map (eT2 eI eI)), .va true (eI s.2.1), .va true (eI s.2.2)]) (l_matched_1_c old_ new_) (l_matched_1 old_ new_) (l_matched_1_m old_ new_) (([] : (List (Int × Int))), (0 : Int), (0 : Int)) (fun s => 0 ≤ s.2.1 ∧ s.2.1 ≤ old_.length ∧ 0 ≤ s.2.2 ∧ s.2.2 ≤ new_.length ∧ (s.1.length : Int) ≤ s.2.1) B (.cons (.refl _) (.cons (.refl _) (.cons (.refl _) (.cons (.refl _) (.cons (.refl _) (.cons (.refl _) .nil)))))) (by simp) (fun B0 e1 s σ1 H1 hJ B => ?_) (fun s hJ hc => ?_) (fun B0 e1 s σ1 H1 hJ hc B => ?_) (fun s σ1 H1 hs hc hJ B => ?_)
    · obtain ⟨pairs_1, i_1, j_1⟩ := s
      have B : Bs _ _ _ [.va false ((eL eS) old_), .va false ((eL eS) new_), .va true ((eL (eL eI)) (m__common_lengths (old_) (new_))), .ow true a3 (pairs_1.map (eT2 eI eI)), .va true (eI i_1), .va true (eI j_1)] := B
      simp only at hJ
      obtain ⟨j1, j2, j3, j4, j5⟩ := hJ
      exact (et_and (et_test (ev_B0 (ev_sc B rfl (.int _)) (ev_lenM ((ev_va B rfl).w0)))) fun hc => (et_test (ev_B0 (ev_sc B rfl (.int _)) (ev_lenM ((ev_va B rfl).w0)))))
    · obtain ⟨pairs_1, i_1, j_1⟩ := s
      have hw : ((decide (i_1 < (List.length old_ : Int))) && (decide (j_1 < (List.length new_ : Int)))) = true := hc
      have hw_f := hw
      try simp only [Bool.and_eq_true, Bool.or_eq_true, Bool.not_eq_true', Bool.and_eq_false_imp, Bool.or_eq_false_iff, Bool.not_eq_false', decide_eq_true_eq, decide_eq_false_iff_not] at hw_f
      simp only at hJ
      obtain ⟨j1, j2, j3, j4, j5⟩ := hJ
      simp only [l_matched_1, l_matched_1_m]
      split
      · simp only; omega
      · split <;> simp only <;> omega
    · obtain ⟨pairs_1, i_1, j_1⟩ := s
      have B : Bs _ _ _ [.va false ((eL eS) old_), .va false ((eL eS) new_), .va true ((eL (eL eI)) (m__common_lengths (old_) (new_))), .ow true a3 (pairs_1.map (eT2 eI eI)), .va true (eI i_1), .va true (eI j_1)] := B
      have hw : ((decide (i_1 < (List.length old_ : Int))) && (decide (j_1 < (List.length new_ : Int)))) = true := hc
      have hw_f := hw
      try simp only [Bool.and_eq_true, Bool.or_eq_true, Bool.not_eq_true', Bool.and_eq_false_imp, Bool.or_eq_false_iff, Bool.not_eq_false', decide_eq_true_eq, decide_eq_false_iff_not] at hw_f
      have e0 := e0.trans e1
      have hk1 : l_matched_1 old_ new_ (pairs_1, i_1, j_1) = (if (decide ((getI old_ i_1) = (getI new_ j_1))) = true then ((pairs_1 ++ [(i_1, j_1)]), (i_1 + (1 : Int)), (j_1 + (1 : Int))) else (if (decide ((getI (getI (m__common_lengths (old_) (new_)) i_1) (j_1 + (1 : Int))) ≤ (getI (getI (m__common_lengths (old_) (new_)) (i_1 + (1 : Int))) j_1))) = true then (pairs_1, (i_1 + (1 : Int)), j_1) else (pairs_1, i_1, (j_1 + (1 : Int))))) := rfl
      simp only at hJ
      obtain ⟨j1, j2, j3, j4, j5⟩ := hJ
      refine q_if B (et_test (ev_eqS ((ev_ixM (em := eS) (xs := old_) ((ev_va B rfl).w0) (ev_sc B rfl (.int _)) (show inB old_ i_1 from by first | assumption | (unfold inB; first | omega | (rw [t0]; omega) | (rw [t1 _ (by omega) (by omega)]; omega)))).sc (.str _)) ((ev_ixM (em := eS) (xs := new_) ((ev_va B rfl).w0) (ev_sc B rfl (.int _)) (show inB new_ j_1 from by first | assumption | (unfold inB; first | omega | (rw [t0]; omega) | (rw [t1 _ (by omega) (by omega)]; omega)))).sc (.str _)))) (fun hc4 H1 B => ?_) (fun hc4 H1 B => ?_)
      · rw [if_pos hc4] at hk1
        have hc4_f := hc4
        try simp only [Bool.and_eq_true, Bool.or_eq_true, Bool.not_eq_true', Bool.and_eq_false_imp, Bool.or_eq_false_iff, Bool.not_eq_false', decide_eq_true_eq, decide_eq_false_iff_not] at hc4_f
        refine q_app (f := true) B rfl (ev_tup (ds := [eI i_1, eI j_1]) (B.live true) (ea_cons (ev_sc B rfl (.int _)) (ea_cons (ev_sc B rfl (.int _)) ea_nil)) (by simp)) (by first | omega | (simp; done) | (simp; omega) | exact cutG_le' (by omega) | (simp at *; omega)) fun H1 B => ?_
        have B : Bs _ _ _ [.va false ((eL eS) old_), .va false ((eL eS) new_), .va true ((eL (eL eI)) (m__common_lengths (old_) (new_))), .ow true a3 ((pairs_1 ++ [(i_1, j_1)]).map (eT2 eI eI)), .va true (eI i_1), .va true (eI j_1)] := B.le (.cons (.refl _) (.cons (.refl _) (.cons (.refl _) (.cons (.eqo (by simp)) (.cons (.refl _) (.cons (.refl _) .nil))))))
        refine q_aug B rfl ev_int fun σ1 H1 B => ?_
        have B : Bs _ _ _ [.va false ((eL eS) old_), .va false ((eL eS) new_), .va true ((eL (eL eI)) (m__common_lengths (old_) (new_))), .ow true a3 ((pairs_1 ++ [(i_1, j_1)]).map (eT2 eI eI)), .va true (eI (i_1 + (1 : Int))), .va true (eI j_1)] := B
        refine q_aug B rfl ev_int fun σ1 H1 B => ?_
        have B : Bs _ _ _ [.va false ((eL eS) old_), .va false ((eL eS) new_), .va true ((eL (eL eI)) (m__common_lengths (old_) (new_))), .ow true a3 ((pairs_1 ++ [(i_1, j_1)]).map (eT2 eI eI)), .va true (eI (i_1 + (1 : Int))), .va true (eI (j_1 + (1 : Int)))] := B
        exact ⟨_, hk1.symm, (by simp at *; omega), B.le (.cons (.refl _) (.cons (.refl _) (.cons (.refl _) (.cons (.refl _) (.cons (.refl _) (.cons (.refl _) .nil))))))⟩
      · rw [if_neg (show ¬ (decide ((getI old_ i_1) = (getI new_ j_1))) = true from by rw [hc4]; exact Bool.false_ne_true)] at hk1
        have hc4_f := hc4
        try simp only [Bool.and_eq_true, Bool.or_eq_true, Bool.not_eq_true', Bool.and_eq_false_imp, Bool.or_eq_false_iff, Bool.not_eq_false', decide_eq_true_eq, decide_eq_false_iff_not] at hc4_f
        refine q_if B (et_test (ev_B0 ((ev_ixM (em := eI) (xs := (getI (m__common_lengths (old_) (new_)) (i_1 + (1 : Int)))) (ev_ixM (em := (eL eI)) (xs := (m__common_lengths (old_) (new_))) ((ev_va B rfl).w0) (ev_I0 (ev_sc B rfl (.int _)) ev_int) (show inB (m__common_lengths (old_) (new_)) (i_1 + (1 : Int)) from by first | assumption | (unfold inB; first | omega | (rw [t0]; omega) | (rw [t1 _ (by omega) (by omega)]; omega)))) (ev_sc B rfl (.int _)) (show inB (getI (m__common_lengths (old_) (new_)) (i_1 + (1 : Int))) j_1 from by first | assumption | (unfold inB; first | omega | (rw [t0]; omega) | (rw [t1 _ (by omega) (by omega)]; omega)))).sc (.int _)) ((ev_ixM (em := eI) (xs := (getI (m__common_lengths (old_) (new_)) i_1)) (ev_ixM (em := (eL eI)) (xs := (m__common_lengths (old_) (new_))) ((ev_va B rfl).w0) (ev_sc B rfl (.int _)) (show inB (m__common_lengths (old_) (new_)) i_1 from by first | assumption | (unfold inB; first | omega | (rw [t0]; omega) | (rw [t1 _ (by omega) (by omega)]; omega)))) (ev_I0 (ev_sc B rfl (.int _)) ev_int) (show inB (getI (m__common_lengths (old_) (new_)) i_1) (j_1 + (1 : Int)) from by first | assumption | (unfold inB; first | omega | (rw [t0]; omega) | (rw [t1 _ (by omega) (by omega)]; omega)))).sc (.int _)))) (fun hc5 H1 B => ?_) (fun hc5 H1 B => ?_)
        · rw [if_pos hc5] at hk1
          have hc5_f := hc5
          try simp only [Bool.and_eq_true, Bool.or_eq_true, Bool.not_eq_true', Bool.and_eq_false_imp, Bool.or_eq_false_iff, Bool.not_eq_false', decide_eq_true_eq, decide_eq_false_iff_not] at hc5_f
          refine q_aug B rfl ev_int fun σ1 H1 B => ?_
          have B : Bs _ _ _ [.va false ((eL eS) old_), .va false ((eL eS) new_), .va true ((eL (eL eI)) (m__common_lengths (old_) (new_))), .ow true a3 (pairs_1.map (eT2 eI eI)), .va true (eI (i_1 + (1 : Int))), .va true (eI j_1)] := B
          exact ⟨_, hk1.symm, (by simp at *; omega), B.le (.cons (.refl _) (.cons (.refl _) (.cons (.refl _) (.cons (.refl _) (.cons (.refl _) (.cons (.refl _) .nil))))))⟩
        · rw [if_neg (show ¬ (decide ((getI (getI (m__common_lengths (old_) (new_)) i_1) (j_1 + (1 : Int))) ≤ (getI (getI (m__common_lengths (old_) (new_)) (i_1 + (1 : Int))) j_1))) = true from by rw [hc5]; exact Bool.false_ne_true)] at hk1
          have hc5_f := hc5
          try simp only [Bool.and_eq_true, Bool.or_eq_true, Bool.not_eq_true', Bool.and_eq_false_imp, Bool.or_eq_false_iff, Bool.not_eq_false', decide_eq_true_eq, decide_eq_false_iff_not] at hc5_f
          refine q_aug B rfl ev_int fun σ1 H1 B => ?_
          have B : Bs _ _ _ [.va false ((eL eS) old_), .va false ((eL eS) new_), .va true ((eL (eL eI)) (m__common_lengths (old_) (new_))), .ow true a3 (pairs_1.map (eT2 eI eI)), .va true (eI i_1), .va true (eI (j_1 + (1 : Int)))] := B
          exact ⟨_, hk1.symm, (by simp at *; omega), B.le (.cons (.refl _) (.cons (.refl _) (.cons (.refl _) (.cons (.refl _) (.cons (.refl _) (.cons (.refl _) .nil))))))⟩
    · rw [← hs] at hk
      obtain ⟨pairs_r1, i_r1, j_r1⟩ := s
      try dsimp only at hk
      have B : Bs _ _ _ [.va false ((eL eS) old_), .va false ((eL eS) new_), .va true ((eL (eL eI)) (m__common_lengths (old_) (new_))), .ow true a3 (pairs_r1.map (eT2 eI eI)), .va true (eI i_r1), .va true (eI j_r1)] := B
      have B := B.le (δ' := [.va false ((eL eS) old_), .va false ((eL eS) new_), .va true ((eL (eL eI)) (m__common_lengths (old_) (new_))), .va true ((eL (eT2 eI eI)) pairs_r1), .va true (eI i_r1), .va true (eI j_r1)]) (.cons (.refl _) (.cons (.refl _) (.cons (.refl _) (.cons (.fz _ _ _) (.cons (.refl _) (.cons (.refl _) .nil))))))
      refine q_ret (f := true) B (ev_va B rfl) fun v H1 x hv => q v H1 (e0.trans x) ?_
      rw [hk]; exact new_of hv

def m__law_menu (place_ : Int) : Str :=
  (getI (([("a" : Str), ("b" : Str), ("" : Str), ("ab" : Str), ("ba" : Str), ("aa" : Str), (" " : Str), ("a " : Str), ("<<<<<<<" : Str), ("=======" : Str), ("|||||||" : Str), (">>>>>>>" : Str)]) ++ ([("-" : Str), ("0" : Str), ("aaaaaaaaaaaaaaaaaaaa" : Str), ("aaaaaaaaaaaaaaaaaaab" : Str)])) (Int.fmod place_ (16 : Int)))

abbrev s__law_menu : Stmt := topS 18

abbrev N__law_menu : List Str := ["place", "lines"]

theorem sc__law_menu : FnScope N__law_menu ["place"] (defScope s__law_menu) := ⟨rfl, rfl, rfl, by decide +kernel, rfl, by decide +kernel, by decide +kernel⟩

def r__law_menu : List PyData → PyData → Prop := fun ds d => ∃ (place_ : Int), ds = [eI place_] ∧ d = eS (m__law_menu place_)

set_option maxHeartbeats 8000000 in
theorem ok__law_menu {f : Addr} {fd : FuncData} {k : Nat} (F : Fun K "_law_menu" "_law_menu" s__law_menu f fd) (m_int : mg "int" = none) : FnOk P w K mg base CX0 (k + 1) f fd ["place"] (SpF r__law_menu) := by
  refine F.ok sc__law_menu (fun vs H Q E h => ?_) (fun cdv A outer s H vs Q E hr h => ?_)
  · obtain ⟨ds, d, hd, ⟨place_, rfl, rfl⟩, _⟩ := h
    exact hd.length
  · obtain ⟨ds, d, hd, ⟨place_, rfl, rfl⟩, q⟩ := h
    refine ⟨_, (pss_cons (ps_set (i := 1) sc__law_menu.nd rfl (Or.inl rfl) (pe_lst (pa_cons pe_str (pa_cons pe_str (pa_cons pe_str (pa_cons pe_str (pa_cons pe_str (pa_cons pe_str (pa_cons pe_str (pa_cons pe_str (pa_cons pe_str (pa_cons pe_str (pa_cons pe_str (pa_cons pe_str pa_nil)))))))))))))) (pss_cons (ps_set (i := 1) sc__law_menu.nd rfl (Or.inl rfl) (pe_op op_cat (pv 1) (pe_lst (pa_cons pe_str (pa_cons pe_str (pa_cons pe_str (pa_cons pe_str pa_nil))))))) (pss_cons (ps_ret (pe_ix (r := rIxL K) ix_list (pv 1) (pe_op op_modN (pe_callTy call_int1 (by rfl) m_int (by decide +kernel) (pa_cons (pv 0) pa_nil)) pe_int) (fun _ _ => rfl))) pss_nil))), ?_⟩
    have e0 : Ex H H := Ex.refl H
    have B := bs_F hd (N := N__law_menu) (by rw [hd.length]; exact Nat.le_of_ble_eq_true rfl)
    have B : Bs _ _ _ [.va false (eI place_), .no] := B
    have B : Bs _ _ _ [.va true (eI place_), .no] := B.le (.cons (.sc (.int _)) (.cons (.refl _) .nil))
    have hk : m__law_menu place_ = (getI (([("a" : Str), ("b" : Str), ("" : Str), ("ab" : Str), ("ba" : Str), ("aa" : Str), (" " : Str), ("a " : Str), ("<<<<<<<" : Str), ("=======" : Str), ("|||||||" : Str), (">>>>>>>" : Str)]) ++ ([("-" : Str), ("0" : Str), ("aaaaaaaaaaaaaaaaaaaa" : Str), ("aaaaaaaaaaaaaaaaaaab" : Str)])) (Int.fmod place_ (16 : Int))) := rfl
    refine q_asg (f := true) B ((en_lstM (em := eS) (xs := [("a" : Str), ("b" : Str), ("" : Str), ("ab" : Str), ("ba" : Str), ("aa" : Str), (" " : Str), ("a " : Str), ("<<<<<<<" : Str), ("=======" : Str), ("|||||||" : Str), (">>>>>>>" : Str)]) (ea_cons ev_str (ea_cons ev_str (ea_cons ev_str (ea_cons ev_str (ea_cons ev_str (ea_cons ev_str (ea_cons ev_str (ea_cons ev_str (ea_cons ev_str (ea_cons ev_str (ea_cons ev_str (ea_cons ev_str ea_nil)))))))))))) (by simp)).ev (B.live true)) fun σ1 H1 B => ?_
    have B : Bs _ _ _ [.va true (eI place_), .va true ((eL eS) ([("a" : Str), ("b" : Str), ("" : Str), ("ab" : Str), ("ba" : Str), ("aa" : Str), (" " : Str), ("a " : Str), ("<<<<<<<" : Str), ("=======" : Str), ("|||||||" : Str), (">>>>>>>" : Str)]))] := B
    refine q_asg (f := true) B (((en_catM ((ev_va B rfl).w0) ((en_lstM (em := eS) (xs := [("-" : Str), ("0" : Str), ("aaaaaaaaaaaaaaaaaaaa" : Str), ("aaaaaaaaaaaaaaaaaaab" : Str)]) (ea_cons ev_str (ea_cons ev_str (ea_cons ev_str (ea_cons ev_str ea_nil)))) (by simp)).ev live0) (by first | omega | (simp; done) | (simp; omega) | exact cutG_le' (by omega) | (simp at *; omega))).scL (fun _ => (.str _))).ev (B.live true)) fun σ1 H1 B => ?_
    have B : Bs _ _ _ [.va true (eI place_), .va true ((eL eS) (([("a" : Str), ("b" : Str), ("" : Str), ("ab" : Str), ("ba" : Str), ("aa" : Str), (" " : Str), ("a " : Str), ("<<<<<<<" : Str), ("=======" : Str), ("|||||||" : Str), (">>>>>>>" : Str)]) ++ ([("-" : Str), ("0" : Str), ("aaaaaaaaaaaaaaaaaaaa" : Str), ("aaaaaaaaaaaaaaaaaaab" : Str)])))] := B
    refine q_ret (f := true) B ((ev_ixM (em := eS) (xs := (([("a" : Str), ("b" : Str), ("" : Str), ("ab" : Str), ("ba" : Str), ("aa" : Str), (" " : Str), ("a " : Str), ("<<<<<<<" : Str), ("=======" : Str), ("|||||||" : Str), (">>>>>>>" : Str)]) ++ ([("-" : Str), ("0" : Str), ("aaaaaaaaaaaaaaaaaaaa" : Str), ("aaaaaaaaaaaaaaaaaaab" : Str)]))) ((ev_va B rfl).w0) (ev_IC (ev_intI (ev_sc B rfl (.int _))) ev_int (by omega)) (show inB (([("a" : Str), ("b" : Str), ("" : Str), ("ab" : Str), ("ba" : Str), ("aa" : Str), (" " : Str), ("a " : Str), ("<<<<<<<" : Str), ("=======" : Str), ("|||||||" : Str), (">>>>>>>" : Str)]) ++ ([("-" : Str), ("0" : Str), ("aaaaaaaaaaaaaaaaaaaa" : Str), ("aaaaaaaaaaaaaaaaaaab" : Str)])) (Int.fmod place_ (16 : Int)) from by first | assumption | (have := fmod_b (x := place_) (m := (16 : Int)) (by omega); unfold inB; first | omega | (simp; omega) | (simp at *; omega)))).sc (.str _)) fun v H1 x hv => q v H1 (e0.trans x) ?_
    rw [hk]; exact Dn.sc (.str _) hv

end
end K3
namespace K3
open PySem PySem.Spec PyProof.Rows L2 HL
open Evl (Ex)
def l__law_ends_2 (new_ : (List Str)) (line_t1 : Str) (ends_1 : (List (List Int))) (s : (List Int)) (k_t2 : Int) : (List Int) :=
  match s with
  | row_2 => (if (decide ((k_t2 + (1 : Int)) < (List.length (getI ends_1 (-1 : Int)) : Int))) = true then (if (!decide (((((rng 0 (getI (getI ends_1 (-1 : Int)) k_t2)).filter fun (j_c : Int) => (decide ((getI new_ j_c) = line_t1))).map fun (j_c : Int) => j_c) ++ ([(getI (getI ends_1 (-1 : Int)) (k_t2 + (1 : Int)))])) = ([]))) = true then (row_2 ++ [(maxI ((((rng 0 (getI (getI ends_1 (-1 : Int)) k_t2)).filter fun (j_c : Int) => (decide ((getI new_ j_c) = line_t1))).map fun (j_c : Int) => j_c) ++ ([(getI (getI ends_1 (-1 : Int)) (k_t2 + (1 : Int)))])))]) else row_2) else (if (!decide ((((rng 0 (getI (getI ends_1 (-1 : Int)) k_t2)).filter fun (j_c : Int) => (decide ((getI new_ j_c) = line_t1))).map fun (j_c : Int) => j_c) = ([]))) = true then (row_2 ++ [(maxI (((rng 0 (getI (getI ends_1 (-1 : Int)) k_t2)).filter fun (j_c : Int) => (decide ((getI new_ j_c) = line_t1))).map fun (j_c : Int) => j_c))]) else row_2))

def l__law_ends_1 (new_ : (List Str)) (s : (List (List Int))) (line_t1 : Str) : (List (List Int)) :=
  match s with
  | ends_1 => (match (List.foldl (l__law_ends_2 new_ line_t1 ends_1) ([(List.length new_ : Int)]) (rng 0 (List.length (getI ends_1 (-1 : Int)) : Int))) with | row_r2 => (ends_1 ++ [row_r2]))

def m__law_ends (old_ : (List Str)) (new_ : (List Str)) : (List (List Int)) :=
  (match (List.foldl (l__law_ends_1 new_) ([[(List.length new_ : Int)]]) old_.reverse) with | ends_r1 => ends_r1)

def RowOk (N m : Nat) (r : List Int) : Prop := 1 ≤ r.length ∧ r.length ≤ m ∧ ∀ x ∈ r, 0 ≤ x ∧ x ≤ N
theorem maxI_mem : ∀ (xs : List Int), xs ≠ [] → maxI xs ∈ xs
  | [], h => absurd rfl h
  | [x], _ => by simp [maxI]
  | x :: y :: r, _ => by
    have ih := maxI_mem (y :: r) (by simp)
    simp only [maxI]
    rcases Int.le_total x (maxI (y :: r)) with q | q
    · rw [Int.max_eq_right q]; exact List.mem_cons_of_mem _ ih
    · rw [Int.max_eq_left q]; simp
theorem RowOk.app {N m : Nat} {r : List Int} (h : RowOk N m r) {x : Int} (hx : 0 ≤ x ∧ x ≤ N) : RowOk N (m + 1) (r ++ [x]) := by
  obtain ⟨h1, h2, h3⟩ := h
  refine ⟨by simp, by simp; omega, fun y hy => ?_⟩
  rcases List.mem_append.mp hy with hy | hy
  · exact h3 y hy
  · simp at hy; subst hy; exact hx
theorem RowOk.up {N m m' : Nat} {r : List Int} (h : RowOk N m r) (hm : m ≤ m') : RowOk N m' r := ⟨h.1, by have := h.2.1; omega, h.2.2⟩
theorem ends_J2 {new_ : List Str} {line : Str} {ends : List (List Int)} {row : List Int} {k : Int} {n m : Nat} (h : RowOk new_.length n row) (jl : RowOk new_.length m (getI ends (-1))) (k0 : 0 ≤ k) (k1 : k < (getI ends (-1)).length) :
    RowOk new_.length (n + 1) (l__law_ends_2 new_ line ends row k) := by
  have b1 := jl.2.2 _ (getI_mem (xs := getI ends (-1)) (m := k) (by unfold inB; omega))
  have bf : ∀ x ∈ ((rng 0 (getI (getI ends (-1)) k)).filter fun (j_c : Int) => (decide ((getI new_ j_c) = line))).map fun (j_c : Int) => j_c, 0 ≤ x ∧ x ≤ (new_.length : Int) := fun x hx => by
    obtain ⟨y, hy, rfl⟩ := List.mem_map.mp hx
    have := rng_mem.mp (List.mem_filter.mp hy).1
    omega
  unfold l__law_ends_2
  simp only
  split
  · rename_i hc
    have b2 := jl.2.2 _ (getI_mem (xs := getI ends (-1)) (m := k + 1) (by unfold inB; simp at hc; omega))
    split
    · refine h.app ?_
      have qq := fun (a : List Int) (b : Int) => List.mem_append.mp (maxI_mem (a ++ [b]) (by simp))
      rcases qq _ _ with q | q
      · exact bf _ q
      · have e : ∀ {a b : Int}, a ∈ [b] → a = b := fun h => by simpa using h
        rw [e q]; exact b2
    · exact h.up (by omega)
  · split
    · rename_i hc
      refine h.app ?_
      exact bf _ (maxI_mem _ (fun z => by rw [z] at hc; simp at hc))
    · exact h.up (by omega)
theorem ends_J1 {N n : Nat} {s : List (List Int)} {row r : List Int} {m : Nat} (hr : r ∈ s ++ [row]) (j2 : ∀ r ∈ s, RowOk N (n + 1) r) (hJ : RowOk N (m + 1) row) (hm : m ≤ n + 1) : RowOk N (n + 1 + 1) r := by
  rcases List.mem_append.mp hr with hr | hr
  · exact (j2 r hr).up (by omega)
  · simp at hr; subst hr; exact hJ.up (by omega)
theorem fm_len {p : Int → Bool} {f : Int → Int} {lo hi x : Int} (h : hi - lo ≤ 90000) : (((rng lo hi).filter p).map f).length + [x].length ≤ 100000 := by
  have := List.length_filter_le p (rng lo hi)
  rw [rng_len] at this
  rw [List.length_map]
  simp; omega

def m__law_common (ends_ : (List (List Int))) (i_ : Int) (j_ : Int) : Int :=
  (List.length (((cutG (getI ends_ (((List.length ends_ : Int) - (1 : Int)) - i_)) (some (1 : Int)) none).filter fun (end_c : Int) => (decide (j_ ≤ end_c))).map fun (end_c : Int) => end_c) : Int)

def l__law_walk_1_c (old_ : (List Str)) (new_ : (List Str)) (s : (List (Int × Int)) × Int × Int) : Bool :=
  match s with
  | (pairs_1, i_1, j_1) => ((decide (i_1 < (List.length old_ : Int))) && (decide (j_1 < (List.length new_ : Int))))

def l__law_walk_1 (old_ : (List Str)) (new_ : (List Str)) (s : (List (Int × Int)) × Int × Int) : (List (Int × Int)) × Int × Int :=
  match s with
  | (pairs_1, i_1, j_1) => (if (decide ((getI old_ i_1) = (getI new_ j_1))) = true then ((pairs_1 ++ [(i_1, j_1)]), (i_1 + (1 : Int)), (j_1 + (1 : Int))) else (if (decide ((m__law_common ((m__law_ends (old_) (new_))) (i_1) ((j_1 + (1 : Int)))) ≤ (m__law_common ((m__law_ends (old_) (new_))) ((i_1 + (1 : Int))) (j_1)))) = true then (pairs_1, (i_1 + (1 : Int)), j_1) else (pairs_1, i_1, (j_1 + (1 : Int)))))

def l__law_walk_1_m (old_ : (List Str)) (new_ : (List Str)) (s : (List (Int × Int)) × Int × Int) : Nat :=
  match s with
  | (pairs_1, i_1, j_1) => (old_.length + new_.length - i_1 - j_1).toNat

def m__law_walk (old_ : (List Str)) (new_ : (List Str)) : (List (Int × Int)) :=
  (match (whileF (l__law_walk_1_c old_ new_) (l__law_walk_1 old_ new_) (l__law_walk_1_m old_ new_ (([] : (List (Int × Int))), (0 : Int), (0 : Int))) (([] : (List (Int × Int))), (0 : Int), (0 : Int))) with | (pairs_r1, i_r1, j_r1) => pairs_r1)

theorem fold_inv {α S : Type} {f : S → α → S} {P : Nat → S → Prop} : ∀ (xs : List α) (k : Nat) (s : S), P k s → (∀ n s x, x ∈ xs → P n s → P (n + 1) (f s x)) → P (k + xs.length) (xs.foldl f s)
  | [], k, s, h, _ => h
  | x :: xs, k, s, h, hs => by
    have := fold_inv xs (k + 1) (f s x) (hs k s x (by simp) h) fun n s y hy => hs n s y (by simp [hy])
    rw [List.length_cons, List.foldl_cons]
    have e : k + (xs.length + 1) = k + 1 + xs.length := by omega
    rw [e]; exact this
theorem ends_dim (old_ new_ : List Str) : (m__law_ends old_ new_).length = old_.length + 1 ∧ ∀ r ∈ m__law_ends old_ new_, RowOk new_.length (old_.length + 1) r := by
  have main := fold_inv (f := l__law_ends_1 new_) (P := fun n s => s.length = n + 1 ∧ ∀ r ∈ s, RowOk new_.length (n + 1) r) old_.reverse 0 [[(List.length new_ : Int)]] ⟨rfl, fun r hr => by simp at hr; subst hr; exact ⟨by simp, by simp, fun x hx => by simp at hx; omega⟩⟩ (fun n s x _ h => ?_)
  · unfold m__law_ends
    simp only [Nat.zero_add, List.length_reverse] at main
    exact main
  · obtain ⟨j1, j2⟩ := h
    have hl : inB s (-1) := by unfold inB; omega
    have jl := j2 _ (getI_mem hl)
    have inner := fold_inv (f := l__law_ends_2 new_ x s) (P := fun n r => RowOk new_.length (n + 1) r) (rng 0 ((getI s (-1)).length : Int)) 0 [(List.length new_ : Int)] ⟨by simp, by simp, fun x hx => by simp at hx; omega⟩ (fun n r k hk h => by
      have hk := rng_mem.mp hk
      exact ends_J2 h jl (by omega) (by omega))
    rw [rng_len] at inner
    unfold l__law_ends_1
    simp only
    refine ⟨by simp; omega, fun r hr => ends_J1 hr j2 inner ?_⟩
    have := jl.2.1
    omega


end K3
namespace K3
open PySem PySem.Spec PyProof.Rows L2 HL
open Evl (Ex)
section
variable {P : Program} {w : World} {K : PySem.W.Frag} {mg : Str → Option Value} {base : Heap}
/-! _law_same: data that is the same on both sides -/
mutual
def okD : PyData → Bool
  | .none => true
  | .int _ => true
  | .str x => PyData.strOk x
  | .list ds => decide (ds.length ≤ 100000) && okDs ds
  | .tuple ds => decide (ds.length ≤ 100000) && okDs ds
  | _ => false
def okDs : List PyData → Bool
  | [] => true
  | d :: ds => okD d && okDs ds
end
theorem okDs_mem : ∀ {ds : List PyData}, okDs ds = true → ∀ d ∈ ds, okD d = true
  | [], _, d, h => by simp at h
  | e :: es, h, d, hd => by
    simp only [okDs, Bool.and_eq_true] at h
    rcases List.mem_cons.mp hd with rfl | hd
    · exact h.1
    · exact okDs_mem h.2 d hd
theorem depthAll_mem : ∀ {ds : List PyData} {d : PyData}, d ∈ ds → d.depth ≤ PyData.depthAll ds
  | e :: es, d, h => by
    simp only [PyData.depthAll]
    rcases List.mem_cons.mp h with rfl | h
    · exact Nat.le_max_left _ _
    · exact Nat.le_trans (depthAll_mem h) (Nat.le_max_right _ _)
def r_same (n : Nat) : List PyData → PyData → Prop := fun ds r => ∃ d, ds = [d, d] ∧ okD d = true ∧ d.depth < n ∧ r = .bool true
abbrev s__law_same : Stmt := topS 17
abbrev N__law_same : List Str := ["told", "due", "k"]
theorem sc__law_same : FnScope N__law_same ["told", "due"] (defScope s__law_same) := ⟨rfl, rfl, rfl, by decide +kernel, rfl, by decide +kernel, by decide +kernel⟩
theorem FnOk.vac {R : List PyData → PyData → Prop} {f : Addr} {fd : FuncData} {ps : List Str} (h : ∀ ds d, ¬ R ds d) : FnOk P w K mg base CX0 0 f fd ps (SpF R) := ⟨fun vs H Q E ⟨ds, d, _, r, _⟩ => (h ds d r).elim, fun A outer s H args us vs Q E _ _ _ _ ⟨ds, d, _, r, _⟩ => (h ds d r).elim⟩
theorem isA_n (T : String) : isA .none T = isAN "NoneType" T := rfl
theorem isA_i (i : Int) (T : String) : isA (.int i) T = isAN "int" T := rfl
theorem isA_s (x : Str) (T : String) : isA (.str x) T = isAN "str" T := rfl
theorem isA_l (ds : List PyData) (T : String) : isA (.list ds) T = isAN "list" T := rfl
theorem isA_t (ds : List PyData) (T : String) : isA (.tuple ds) T = isAN "tuple" T := rfl
theorem atI_at {ds : List PyData} {m : Int} (h0 : 0 ≤ m) (h1 : m < ds.length) : atI ds m = some (ds[m.toNat]'(by omega)) := by
  obtain ⟨k, rfl⟩ := Int.eq_ofNat_of_zero_le h0
  exact atI_nat (List.getElem?_eq_getElem (by omega))
set_option maxHeartbeats 8000000 in
theorem ok__law_same {f : Addr} {fd : FuncData} (F : Fun K "_law_same" "_law_same" s__law_same f fd) (bb : Binds K fd ["told", "due"] []) (gg : mg "_law_same" = some (.ref f)) (m_isinstance : mg "isinstance" = none) (m_list : mg "list" = none) (m_tuple : mg "tuple" = none) (m_int : mg "int" = none) (m_bool : mg "bool" = none) (m_str : mg "str" = none) (m_len : mg "len" = none) (m_range : mg "range" = none) :
    ∀ n, FnOk P w K mg base CX0 n f fd ["told", "due"] (SpF (r_same n))
  | 0 => FnOk.vac fun ds d ⟨_, _, _, h, _⟩ => by omega
  | n + 1 => by
    have G := ok__law_same F bb gg m_isinstance m_list m_tuple m_int m_bool m_str m_len m_range n
    refine F.ok sc__law_same (fun vs H Q E h => ?_) (fun cdv A outer s H vs Q E hr h => ?_)
    · obtain ⟨ds, d, hd, ⟨d0, rfl, _⟩, _⟩ := h
      exact hd.length
    · obtain ⟨ds, d, hd, ⟨x, rfl, hok, hdep, rfl⟩, q⟩ := h
      refine ⟨_, pss_cons (ps_if (pt_val (pe_callB (r := rIsiT K) call_isiT (by rfl) m_isinstance (by decide +kernel) (pa_cons (pv 1) (pa_cons (pe_tup (pa_cons (pe_bltn (v := .ty "list") (by rfl) m_list (by decide +kernel) rfl) (pa_cons (pe_bltn (v := .ty "tuple") (by rfl) m_tuple (by decide +kernel) rfl) pa_nil))) pa_nil))))
          (pss_cons (ps_if (pt_cmpR op_ne (pe_callB (r := rIsi K) call_isi (by rfl) m_isinstance (by decide +kernel) (pa_cons (pv 0) (pa_cons (pe_bltn (v := .ty "list") (by rfl) m_list (by decide +kernel) rfl) pa_nil))) (pe_callB (r := rIsi K) call_isi (by rfl) m_isinstance (by decide +kernel) (pa_cons (pv 1) (pa_cons (pe_bltn (v := .ty "list") (by rfl) m_list (by decide +kernel) rfl) pa_nil))) (nomark _)) (pss_cons (ps_ret pe_bl) pss_nil) pss_nil)
          (pss_cons (ps_if (PW.pt (pw_or (pt_cmpR op_ne (pe_callB (r := rIsi K) call_isi (by rfl) m_isinstance (by decide +kernel) (pa_cons (pv 0) (pa_cons (pe_bltn (v := .ty "tuple") (by rfl) m_tuple (by decide +kernel) rfl) pa_nil))) (pe_callB (r := rIsi K) call_isi (by rfl) m_isinstance (by decide +kernel) (pa_cons (pv 1) (pa_cons (pe_bltn (v := .ty "tuple") (by rfl) m_tuple (by decide +kernel) rfl) pa_nil))) (nomark _)) (pw_or1 (pt_cmpR op_ne (pe_callB (r := rLenK K) call_len_seq (by rfl) m_len PySem.boot_len (pa_cons (pv 0) pa_nil)) (pe_callB (r := rLenK K) call_len_seq (by rfl) m_len PySem.boot_len (pa_cons (pv 1) pa_nil)) (nomark _))))) (pss_cons (ps_ret pe_bl) pss_nil) pss_nil)
          (pss_cons (ps_for PassesOwn.never rfl (pi_range1 rfl m_range (pa_cons (pe_callB (r := rLenK K) call_len_seq (by rfl) m_len PySem.boot_len (pa_cons (pv 1) pa_nil)) pa_nil)) (pg_name (i := 2) sc__law_same.nd rfl (Or.inl rfl))
            (pss_cons (ps_if (pt_not (pt_val (pe_call G hr (by rfl) gg F.kp bb .nil pass0 (pa_cons (pe_ix (r := rIx K) ix_seq (pv 0) (pv 2) (fun _ _ => rfl)) (pa_cons (pe_ix (r := rIx K) ix_seq (pv 1) (pv 2) (fun _ _ => rfl)) pa_nil))))) (pss_cons (ps_ret pe_bl) pss_nil) pss_nil) pss_nil))
          (pss_cons (ps_ret pe_bl) pss_nil)))) pss_nil)
        (pss_cons (ps_if (pt_cmpR op_isN (pv 1) pe_non (nomark _)) (pss_cons (ps_ret (pe_cmpR op_isN (pv 0) pe_non (nomark _))) pss_nil) pss_nil)
        (pss_cons (ps_if (pt_val (pe_callB (r := rIsi K) call_isi (by rfl) m_isinstance (by decide +kernel) (pa_cons (pv 1) (pa_cons (pe_bltn (v := .ty "int") (by rfl) m_int (by decide +kernel) rfl) pa_nil))))
          (pss_cons (ps_ret (pe_and (pe_callB (r := rIsi K) call_isi (by rfl) m_isinstance (by decide +kernel) (pa_cons (pv 0) (pa_cons (pe_bltn (v := .ty "int") (by rfl) m_int (by decide +kernel) rfl) pa_nil))) (pe_and (pe_not (pe_callB (r := rIsi K) call_isi (by rfl) m_isinstance (by decide +kernel) (pa_cons (pv 0) (pa_cons (pe_bltn (v := .ty "bool") (by rfl) m_bool (by decide +kernel) rfl) pa_nil)))) (pe_one (pe_cmpR op_eq (pv 0) (pv 1) (nomark _)))))) pss_nil) pss_nil)
        (pss_cons (ps_ret (pe_and (pe_callB (r := rIsi K) call_isi (by rfl) m_isinstance (by decide +kernel) (pa_cons (pv 0) (pa_cons (pe_bltn (v := .ty "str") (by rfl) m_str (by decide +kernel) rfl) pa_nil))) (pe_one (pe_cmpR op_eq (pv 0) (pv 1) (nomark _))))) pss_nil))), ?_⟩
      have e0 : Ex H H := Ex.refl H
      have B := bs_F hd (N := N__law_same) (by rw [hd.length]; exact Nat.le_of_ble_eq_true rfl)
      have B : Bs _ _ _ [.va false x, .va false x, .no] := B
      have fin : ∀ {c : Wd} {δ : List Ent} {σ1 : Sta} {H1 : Hp} {te : TE} {tz : TS} {D : Ends}, Bs c H1 σ1 δ → Ex H c.B → D.rt = Q → Ev (c.hd true δ) te σ1 H1 (.bool true) → tSeq (tRet te) tz D σ1 H1 := fun B e hD h => q_ret (f := true) B h fun v H2 x hv => by rw [hD]; exact q v H2 (e.trans x) (Dn.sc (.bl _) hv)
      have isi2 : ∀ {T U : String} {y : PyData} {σ1 : Sta} {H1 : Hp} {te : TE} {b : Bool}, (T = "list" ∨ T = "tuple" ∨ T = "int" ∨ T = "bool" ∨ T = "str" ∨ T = "dict") → (U = "list" ∨ U = "tuple" ∨ U = "int" ∨ U = "bool" ∨ U = "str" ∨ U = "dict") → Ev o0 te σ1 H1 y → (isA y T || isA y U) = b → EvT (tB (tCB (rIsiT K) (tCons te (tCons (tTup (tCons (tC (.ty T)) (tCons (tC (.ty U)) tNil))) tNil)))) σ1 H1 b := fun hT hU h hb => (et_B (ev_isi2 hT hU h)).is hb
      have isi1 : ∀ {T : String} {y : PyData} {σ1 : Sta} {H1 : Hp} {te : TE} {b : Bool} {o : Hd}, (T = "list" ∨ T = "tuple" ∨ T = "int" ∨ T = "bool" ∨ T = "str" ∨ T = "dict") → Ev o0 te σ1 H1 y → isA y T = b → Ev o (tCB (rIsi K) (tCons te (tCons (tC (.ty T)) tNil))) σ1 H1 (.bool b) := fun hT h hb => (ev_isi hT h).is (by rw [hb])
      cases x with
      | none =>
        refine q_if B (isi2 (by simp) (by simp) (ev_va B rfl).w0 (b := false) (by rw [isA_n, isA_n]; decide)) (fun hc => by cases hc) (fun _ H1 B => ?_)
        dsimp only [tNext]
        refine q_if B (et_test (ev_isN (ev_va B rfl).w0)) (fun _ H1 B => ?_) (fun hc => by cases hc)
        exact fin B e0 rfl ((ev_isN (d := .none) (ev_va B rfl).w0).is rfl)
      | int i =>
        refine q_if B (isi2 (by simp) (by simp) (ev_va B rfl).w0 (b := false) (by rw [isA_i, isA_i]; decide)) (fun hc => by cases hc) (fun _ H1 B => ?_)
        dsimp only [tNext]
        refine q_if B (et_test (ev_isN (ev_va B rfl).w0)) (fun hc => by cases hc) (fun _ H1 B => ?_)
        dsimp only [tNext]
        refine q_if B (et_B (isi1 (b := true) (by simp) (ev_va B rfl).w0 (by rw [isA_i]; decide))) (fun _ H1 B => ?_) (fun hc => by cases hc)
        exact fin B e0 rfl ((ev_andV (isi1 (b := true) (by simp) (ev_va B rfl).w0 (by rw [isA_i]; decide)) fun _ => (ev_andV (ev_notV (isi1 (b := false) (by simp) (ev_va B rfl).w0 (by rw [isA_i]; decide))) fun _ => (ev_eqI (ev_va B rfl).w0 (ev_va B rfl).w0))).is (by simp))
      | str z =>
        refine q_if B (isi2 (by simp) (by simp) (ev_va B rfl).w0 (b := false) (by rw [isA_s, isA_s]; decide)) (fun hc => by cases hc) (fun _ H1 B => ?_)
        dsimp only [tNext]
        refine q_if B (et_test (ev_isN (ev_va B rfl).w0)) (fun hc => by cases hc) (fun _ H1 B => ?_)
        dsimp only [tNext]
        refine q_if B (et_B (isi1 (b := false) (by simp) (ev_va B rfl).w0 (by rw [isA_s]; decide))) (fun hc => by cases hc) (fun _ H1 B => ?_)
        dsimp only [tNext]
        exact fin B e0 rfl ((ev_andV (isi1 (b := true) (by simp) (ev_va B rfl).w0 (by rw [isA_s]; decide)) fun _ => (ev_eqS (ev_va B rfl).w0 (ev_va B rfl).w0)).is (by simp))
      | bool b => simp [okD] at hok
      | dict b => simp [okD] at hok
      | list ds =>
        simp only [okD, Bool.and_eq_true, decide_eq_true_eq] at hok
        simp only [PyData.depth] at hdep
        refine q_if B (isi2 (by simp) (by simp) (ev_va B rfl).w0 (b := true) (by rw [isA_l, isA_l]; decide)) (fun _ H1 B => ?_) (fun hc => by cases hc)
        refine q_if B ((et_test (ev_neB (isi1 (b := true) (by simp) (ev_va B rfl).w0 (by rw [isA_l]; decide)) (isi1 (b := true) (by simp) (ev_va B rfl).w0 (by rw [isA_l]; decide)))).is (b := false) (by simp)) (fun hc => by cases hc) (fun _ H1 B => ?_)
        dsimp only [tNext]
        refine q_if B ((et_or (et_test (ev_neB (isi1 (b := false) (by simp) (ev_va B rfl).w0 (by rw [isA_l]; decide)) (isi1 (b := false) (by simp) (ev_va B rfl).w0 (by rw [isA_l]; decide)))) fun _ => et_test (ev_neI (ev_len (ev_va B rfl).w0) (ev_len (ev_va B rfl).w0))).is (b := false) (by simp)) (fun hc => by cases hc) (fun _ H1 B => ?_)
        dsimp only [tNext]
        refine q_foldR1 (S := Unit) (fun _ => [.va false (.list ds), .va false (.list ds), .no]) (fun _ _ => ()) () (fun _ _ => True) B (ev_len (ev_va B rfl).w0) (by omega) (LeA.refl _) trivial (fun B0 e1 n2 _ k σ1 H1 hx hn hJ B => ?_) (fun _ σ1 H1 hs hJ B => ?_)
        · have hx_f := rng_mem.mp hx
          have B : Bs _ _ _ [.va false (.list ds), .va false (.list ds), .va true (eI k)] := B
          have hk : k.toNat < ds.length := by omega
          have hm := List.getElem_mem hk
          have h1 : Ev o0 (tOp (rIx K) (tVar 0) (tVar 2)) σ1 H1 ds[k.toNat] := ev_ixAL (ev_va B rfl).w0 (ev_sc B rfl (.int _)) (atI_at hx_f.1 hx_f.2)
          have h2 : Ev o0 (tOp (rIx K) (tVar 1) (tVar 2)) σ1 H1 ds[k.toNat] := ev_ixAL (ev_va B rfl).w0 (ev_sc B rfl (.int _)) (atI_at hx_f.1 hx_f.2)
          refine q_if B (et_not (et_B ((ev_callF (B.live true) (ea_cons h1 (ea_cons h2 ea_nil)) ⟨_, rfl, okDs_mem hok.2 _ hm, Nat.lt_of_le_of_lt (depthAll_mem hm) (by omega), rfl⟩).w0))) (fun hc => by cases hc) (fun _ H1 B => ?_)
          dsimp only [tNext]
          exact ⟨_, rfl, trivial, B.le (.cons (.refl _) (.cons (.refl _) (.cons (.no _) .nil)))⟩
        · exact fin B e0 rfl ev_bl
      | tuple ds =>
        simp only [okD, Bool.and_eq_true, decide_eq_true_eq] at hok
        simp only [PyData.depth] at hdep
        refine q_if B (isi2 (by simp) (by simp) (ev_va B rfl).w0 (b := true) (by rw [isA_t, isA_t]; decide)) (fun _ H1 B => ?_) (fun hc => by cases hc)
        refine q_if B ((et_test (ev_neB (isi1 (b := false) (by simp) (ev_va B rfl).w0 (by rw [isA_t]; decide)) (isi1 (b := false) (by simp) (ev_va B rfl).w0 (by rw [isA_t]; decide)))).is (b := false) (by simp)) (fun hc => by cases hc) (fun _ H1 B => ?_)
        dsimp only [tNext]
        refine q_if B ((et_or (et_test (ev_neB (isi1 (b := true) (by simp) (ev_va B rfl).w0 (by rw [isA_t]; decide)) (isi1 (b := true) (by simp) (ev_va B rfl).w0 (by rw [isA_t]; decide)))) fun _ => et_test (ev_neI (ev_lenT (ev_va B rfl).w0) (ev_lenT (ev_va B rfl).w0))).is (b := false) (by simp)) (fun hc => by cases hc) (fun _ H1 B => ?_)
        dsimp only [tNext]
        refine q_foldR1 (S := Unit) (fun _ => [.va false (.tuple ds), .va false (.tuple ds), .no]) (fun _ _ => ()) () (fun _ _ => True) B (ev_lenT (ev_va B rfl).w0) (by omega) (LeA.refl _) trivial (fun B0 e1 n2 _ k σ1 H1 hx hn hJ B => ?_) (fun _ σ1 H1 hs hJ B => ?_)
        · have hx_f := rng_mem.mp hx
          have B : Bs _ _ _ [.va false (.tuple ds), .va false (.tuple ds), .va true (eI k)] := B
          have hk : k.toNat < ds.length := by omega
          have hm := List.getElem_mem hk
          have h1 : Ev o0 (tOp (rIx K) (tVar 0) (tVar 2)) σ1 H1 ds[k.toNat] := ev_ixAT (ev_va B rfl).w0 (ev_sc B rfl (.int _)) (atI_at hx_f.1 hx_f.2)
          have h2 : Ev o0 (tOp (rIx K) (tVar 1) (tVar 2)) σ1 H1 ds[k.toNat] := ev_ixAT (ev_va B rfl).w0 (ev_sc B rfl (.int _)) (atI_at hx_f.1 hx_f.2)
          refine q_if B (et_not (et_B ((ev_callF (B.live true) (ea_cons h1 (ea_cons h2 ea_nil)) ⟨_, rfl, okDs_mem hok.2 _ hm, Nat.lt_of_le_of_lt (depthAll_mem hm) (by omega), rfl⟩).w0))) (fun hc => by cases hc) (fun _ H1 B => ?_)
          dsimp only [tNext]
          exact ⟨_, rfl, trivial, B.le (.cons (.refl _) (.cons (.refl _) (.cons (.no _) .nil)))⟩
        · exact fin B e0 rfl ev_bl
/-! _law_feed -/
def m__law_feed (ns : List Int) : List (List Int) := (ns.take 63).map fun c => [if c < 0 then -c else c, (0 : Int)]
abbrev s__law_feed : Stmt := topS 15
abbrev N__law_feed : List Str := ["script", "cell"]
theorem sc__law_feed : FnScope N__law_feed ["script"] (defScope s__law_feed) := ⟨rfl, rfl, rfl, by decide +kernel, rfl, by decide +kernel, by decide +kernel⟩
def sp__law_feed (K : PySem.W.Frag) : Sp := fun vs H Q _ => ∃ (a : Addr) (ns : List Int), vs = [.ref a] ∧ SqL K H a (ns.map V.int) ∧ ns.length ≤ 63 ∧ ∀ v H', Ex H H' → Dn (new H H') v (eL (eL eI) (m__law_feed ns)) → Q v H'
theorem bs_0 {N : List Str} {vs : List V} {H : Hp} (hN : vs.length ≤ N.length) : Bs ⟨H, fun a => H a ≠ none, o0⟩ H (L2.start N vs) (List.replicate N.length .no) := by
  have na : ∀ a, ¬ Adr (List.replicate N.length .no) a := Adr_none fun e he f a ds z => by
    have := (List.mem_replicate.mp he).2
    rw [this] at z; cases z
  refine ⟨Ex.refl H, fun _ h => h, live0, fun a h => (na a h).elim, fun i j f1 g a d1 es h1 h2 => (na a ⟨i, f1, d1, h1⟩).elim, by rw [start_len hN]; simp, fun i e he => ?_⟩
  have := (List.mem_replicate.mp (List.mem_of_getElem? he)).2
  subst this; trivial
theorem cut63 {ns : List Int} : cutV (ns.map V.int) none (some 63) = (ns.take 63).map V.int := by
  have h : cutV (ns.map V.int) none (some 63) = cutG (ns.map V.int) none (some 63) := rfl
  rw [h, cutG_to _ (by decide), ← List.map_take]; rfl
theorem ok__law_feed {f : Addr} {fd : FuncData} {k : Nat} (F : Fun K "_law_feed" "_law_feed" s__law_feed f fd) (m_abs : mg "abs" = none) (m_int : mg "int" = none) : FnOk P w K mg base CX0 (k + 1) f fd ["script"] (sp__law_feed K) := by
  refine F.ok sc__law_feed (fun vs H Q E h => ?_) (fun cdv A outer s H vs Q E hr h => ?_)
  · obtain ⟨a, ns, rfl, _⟩ := h; rfl
  · obtain ⟨a, ns, rfl, hS, hl, q⟩ := h
    refine ⟨_, (pss_cons (ps_ret (pe_lc (own := [("cell", 1)]) (g := gName 1) (tt := tYes) rfl sc__law_feed.nd (pi_list (pe_slice (r := rSlL K) sl_list (pv 0) po_none (po_some pe_int))) (blkOk_by (own := [("cell", 1)]) (N := N__law_feed) (sc := defScope s__law_feed) (by decide +kernel)) (fun _ _ _ _ _ => pg_name (i := 1) sc__law_feed.nd rfl (Or.inl rfl)) (fun _ _ _ _ _ => pts_nil) (fun _ _ _ _ _ => pe_lst (pa_cons (pe_callB call_abs (by rfl) m_abs (by decide +kernel) (pa_cons (pe_callTy call_int1 (by rfl) m_int (by decide +kernel) (pa_cons (pv 1) pa_nil)) pa_nil)) (pa_cons pe_int pa_nil))))) pss_nil), ?_⟩
    have B : Bs ⟨H, fun a => H a ≠ none, o0⟩ H (L2.start N__law_feed [.ref a]) [.no, .no] := bs_0 (by show 1 ≤ 2; decide)
    have sl : EvN ((⟨H, fun a => H a ≠ none, o0⟩ : Wd).hd true [.no, .no]) (tSl (rSlL K) (tVar 0) tNoPart (tPart (tC (.int 63)))) (L2.start N__law_feed [.ref a]) H ((ns.take 63).map eI) := fun H1 x Q q => ⟨.ref a, rfl, 63, rfl, a, _, rfl, Evl.ex_l x hS, fun p np => q p _ _ np (Evl.Ex.new np) upd_same (by rw [cut63]; exact .of_ints _)⟩
    refine q_ret (f := true) B ((en_lcM1 (g := true) (em2 := eL eI) (fun c => [if c < 0 then -c else c, (0 : Int)]) B rfl (sl.ev (B.live true)) (by simp; omega) (fun c' x σ1 H1 hx B => ?_)).ev (B.live true)) fun v H1 x hv => q v H1 x (new_of hv)
    exact (en_lstM (em := eI) (xs := [if x < 0 then -x else x, 0]) (ea_cons (ev_abs (ev_intI (ev_sc B rfl (.int _)))) (ea_cons ev_int ea_nil)) (by simp)).ev (B.live true)
theorem en__law_feed {o : Hd} {σ : Sta} {H : Hp} {a : Addr} {ns : List Int} {E : XK} (l : Live o H) (h : σ[0]? = some (some (.ref a))) (hS : SqL K H a (ns.map V.int)) (hl : ns.length ≤ 63) : EvN o (tCall (sp__law_feed K) [] E (tCons (tVar 0) tNil)) σ H ((m__law_feed ns).map (eL eI)) :=
  en_new l fun H1 x Q q => ⟨.ref a, h, a, ns, rfl, Evl.ex_l x hS, hl, fun v H2 e2 hv => q v H2 e2 hv⟩
def m__law_same (_ _ : PyData) : Bool := true
def r__law_same : List PyData → PyData → Prop := fun ds d => ∃ (told_ due_ : PyData), ds = [eD told_, eD due_] ∧ (told_ = due_) ∧ (okD due_ = true) ∧ (due_.depth < 5) ∧ d = eB (m__law_same told_ due_)
theorem same_imp {f : Addr} {fd : FuncData} {k : Nat} (G : FnOk P w K mg base CX0 k f fd ["told", "due"] (SpF (r_same 5))) : FnOk P w K mg base CX0 k f fd ["told", "due"] (SpF r__law_same) :=
  G.imp fun vs H Q E ⟨ds, d, h1, ⟨a, b, e, e2, h3, h4, h5⟩, h6⟩ => ⟨ds, d, h1, ⟨b, by rw [e, e2], h3, h4, h5⟩, h6⟩

theorem okDs_map {α : Type} {em : α → PyData} : ∀ {xs : List α}, (∀ x ∈ xs, okD (em x) = true) → okDs (xs.map em) = true
  | [], _ => rfl
  | x :: xs, h => by
    rw [List.map_cons, okDs, h x (by simp), okDs_map fun y hy => h y (by simp [hy])]; rfl
theorem okL {α : Type} {em : α → PyData} {xs : List α} (hl : xs.length ≤ 100000) (h : ∀ x ∈ xs, okD (em x) = true) : okD (eL em xs) = true := by
  show (decide ((xs.map em).length ≤ 100000) && okDs (xs.map em)) = true
  rw [okDs_map h, List.length_map, decide_eq_true hl]; rfl
theorem okTu {α : Type} {em : α → PyData} {xs : List α} (hl : xs.length ≤ 100000) (h : ∀ x ∈ xs, okD (em x) = true) : okD (eTu em xs) = true := by
  show (decide ((xs.map em).length ≤ 100000) && okDs (xs.map em)) = true
  rw [okDs_map h, List.length_map, decide_eq_true hl]; rfl
theorem okT3 {α β γ : Type} {e1 : α → PyData} {e2 : β → PyData} {e3 : γ → PyData} {x : α × β × γ} (h1 : okD (e1 x.1) = true) (h2 : okD (e2 x.2.1) = true) (h3 : okD (e3 x.2.2) = true) : okD (eT3 e1 e2 e3 x) = true := by
  simp [okD, okDs, h1, h2, h3]
theorem okLs {xs : List Str} (hl : xs.length ≤ 100000) (h : ∀ x ∈ xs, PyData.strOk x = true) : okD (eL eS xs) = true := okL hl h
theorem depLs (xs : List Str) : (eL eS xs).depth < 5 := by have := (emL emS).dep xs; omega

end
end K3
namespace K3
open PySem PySem.Spec PyProof.Rows L2 HL
open Evl (Ex)
section
variable {P : Program} {w : World} {K : PySem.W.Frag} {mg : Str → Option Value} {base : Heap}

def m__stable_places (base_ : (List Str)) (ours_ : (List Str)) (theirs_ : (List Str)) : (List (Int × Int × Int)) :=
  (((m_matched (base_) (ours_)).filter fun (p_c1 : (Int × Int)) => (Option.isSome (lookM (dictM (m_matched (base_) (theirs_))) p_c1.1))).map fun (p_c1 : (Int × Int)) => (p_c1.1, p_c1.2, (getM (dictM (m_matched (base_) (theirs_))) p_c1.1)))

theorem matched_le (old new : List Str) : (m_matched old new).length ≤ old.length := by
  have h := whileF_post (c := l_matched_1_c old new) (f := l_matched_1 old new) (I := fun s => 0 ≤ s.2.1 ∧ s.2.1 ≤ old.length ∧ 0 ≤ s.2.2 ∧ s.2.2 ≤ new.length ∧ (s.1.length : Int) ≤ s.2.1) (M := l_matched_1_m old new) (fun s h hc => ?_) (l_matched_1_m old new ([], (0 : Int), (0 : Int))) ([], (0 : Int), (0 : Int)) (by simp) (Nat.le_refl _)
  · unfold m_matched
    generalize whileF (l_matched_1_c old new) (l_matched_1 old new) (l_matched_1_m old new ([], (0 : Int), (0 : Int))) ([], (0 : Int), (0 : Int)) = s at h
    obtain ⟨acc, i, j⟩ := s
    have := h.1
    simp only at this ⊢
    omega
  · obtain ⟨acc, i, j⟩ := s
    simp only [l_matched_1_c, Bool.and_eq_true, decide_eq_true_eq] at hc
    simp only at h
    simp only [l_matched_1, l_matched_1_m]
    split
    · simp; omega
    · split <;> (simp only; omega)

abbrev s__stable_places : Stmt := topS 5

abbrev N__stable_places : List Str := ["base", "ours", "theirs", "their_places", "i", "j"]

theorem sc__stable_places : FnScope N__stable_places ["base", "ours", "theirs"] (defScope s__stable_places) := ⟨rfl, rfl, rfl, by decide +kernel, rfl, by decide +kernel, by decide +kernel⟩

def r__stable_places : List PyData → PyData → Prop := fun ds d => ∃ (base_ : (List Str)) (ours_ : (List Str)) (theirs_ : (List Str)), ds = [(eL eS) base_, (eL eS) ours_, (eL eS) theirs_] ∧ (base_.length ≤ 1000) ∧ (ours_.length ≤ 1000) ∧ (theirs_.length ≤ 1000) ∧ d = (eL (eT3 eI eI eI)) (m__stable_places base_ ours_ theirs_)

set_option maxHeartbeats 8000000 in
theorem ok__stable_places {f : Addr} {fd : FuncData} {k : Nat} (F : Fun K "_stable_places" "_stable_places" s__stable_places f fd) {f_matched : Addr} {fd_matched : FuncData} {k_matched : Nat} (F_matched : Fun K "matched" "matched" s_matched f_matched fd_matched) (b_matched : Binds K fd_matched ["old", "new"] []) (g_matched : mg "matched" = some (.ref f_matched)) (G_matched : FnOk P w K mg base CX0 k_matched f_matched fd_matched ["old", "new"] (SpF r_matched)) (k_matched_ : k_matched ≤ k) (m_dict : mg "dict" = none) : FnOk P w K mg base CX0 (k + 1) f fd ["base", "ours", "theirs"] (SpF r__stable_places) := by
  refine F.ok sc__stable_places (fun vs H Q E h => ?_) (fun cdv A outer s H vs Q E hr h => ?_)
  · obtain ⟨ds, d, hd, ⟨base_, ours_, theirs_, rfl, h1, h2, h3, rfl⟩, _⟩ := h
    exact hd.length
  · obtain ⟨ds, d, hd, ⟨base_, ours_, theirs_, rfl, h1, h2, h3, rfl⟩, q⟩ := h
    refine ⟨_, (pss_cons (ps_set (i := 3) sc__stable_places.nd rfl (Or.inr rfl) (pe_callTy (r := rDictPK K) (call_dictPK rfl) (by rfl) m_dict (by decide +kernel) (pa_cons (pe_call G_matched (hr.mono k_matched_) (by rfl) g_matched F_matched.kp b_matched .nil pass0 (pa_cons (pv 0) (pa_cons (pv 2) pa_nil))) pa_nil))) (pss_cons (ps_ret (pe_lc (own := [("i", 4), ("j", 5)]) (g := (gTup K 2 (gCons (gName 4) (gCons (gName 5) gNil)))) rfl sc__stable_places.nd (pi_list (pe_call G_matched (hr.mono k_matched_) (by rfl) g_matched F_matched.kp b_matched .nil pass0 (pa_cons (pv 0) (pa_cons (pv 1) pa_nil)))) (blkOk_by (own := [("i", 4), ("j", 5)]) (N := N__stable_places) (sc := defScope s__stable_places) (by decide +kernel)) (fun _ _ _ _ _ => pg_tup rfl (pgs_cons (pg_name (i := 4) sc__stable_places.nd rfl (Or.inl rfl)) (pgs_cons (pg_name (i := 5) sc__stable_places.nd rfl (Or.inl rfl)) pgs_nil))) (fun _ _ _ _ _ => (pts_one (pt_cmp (pc_din (un1 hr.units) (pv 4) (pv 3))))) (fun _ _ _ _ _ => (pe_tup (pa_cons (pv 4) (pa_cons (pv 5) (pa_cons (pe_dget (un1 hr.units) (pv 3) (pv 4) (fun _ _ => rfl)) pa_nil))))))) pss_nil)), ?_⟩
    have e0 : Ex H H := Ex.refl H
    have B := bs_F hd (N := N__stable_places) (by rw [hd.length]; exact Nat.le_of_ble_eq_true rfl)
    have B : Bs _ _ _ [.va false ((eL eS) base_), .va false ((eL eS) ours_), .va false ((eL eS) theirs_), .no, .no, .no] := B
    have hk : m__stable_places base_ ours_ theirs_ = (((m_matched (base_) (ours_)).filter fun (p_c1 : (Int × Int)) => (Option.isSome (lookM (dictM (m_matched (base_) (theirs_))) p_c1.1))).map fun (p_c1 : (Int × Int)) => (p_c1.1, p_c1.2, (getM (dictM (m_matched (base_) (theirs_))) p_c1.1))) := rfl
    refine q_asg (f := true) B (ev_dictP (kk := Sum.inl) (fun _ => rfl) (fun _ _ h => by cases h; rfl) (B.live true) (ev_callF (B.live true) (ea_cons ((ev_va B rfl).w0) (ea_cons ((ev_va B rfl).w0) ea_nil)) ⟨base_, theirs_, rfl, by first | assumption | omega | (simp at *; omega), by first | assumption | omega | (simp at *; omega), rfl⟩)) fun σ1 H1 B => ?_
    have B : Bs _ _ _ [.va false ((eL eS) base_), .va false ((eL eS) ours_), .va false ((eL eS) theirs_), .va true ((eK Sum.inl eI) (dictM (m_matched (base_) (theirs_)))), .no, .no] := B
    refine q_ret (f := true) B ((en_lcGM (js := [4, 5]) (g := true) (em2 := (eT3 eI eI eI)) (fun p_c1 => (Option.isSome (lookM (dictM (m_matched (base_) (theirs_))) p_c1.1))) (fun p_c1 => (p_c1.1, p_c1.2, (getM (dictM (m_matched (base_) (theirs_))) p_c1.1))) (tgw_tup2 (by simp) (by simp)) B (by intro j hj; simp at hj; rcases hj with rfl | rfl <;> rfl) (fun y b h => adr_put rfl b (adr_put rfl b h)) (ev_callF (B.live true) (ea_cons ((ev_va B rfl).w0) (ea_cons ((ev_va B rfl).w0) ea_nil)) ⟨base_, ours_, rfl, by first | assumption | omega | (simp at *; omega), by first | assumption | omega | (simp at *; omega), rfl⟩) (by have := matched_le base_ ours_; omega) (fun c' p_c1 σ1 H1 hx B => by have B : Bs _ _ _ [.va false ((eL eS) base_), .va false ((eL eS) ours_), .va false ((eL eS) theirs_), .va true ((eK Sum.inl eI) (dictM (m_matched (base_) (theirs_)))), .va true (eI p_c1.1), .va true (eI p_c1.2)] := B; exact ⟨(et_B (ev_din (kk := Sum.inl) (fun _ => rfl) (fun _ _ h => by cases h; rfl) (ev_sc B rfl (.int _)) ((ev_va B rfl).w0))), fun hc => (ev_tup (B.live true) (ea_cons (ev_sc B rfl (.int _)) (ea_cons (ev_sc B rfl (.int _)) (ea_cons ((ev_dget (kk := Sum.inl) (fun _ => rfl) (fun _ _ h => by cases h; rfl) ((ev_va B rfl).w0) (ev_sc B rfl (.int _)) (by first | assumption | exact hc)).sc (.int _)) ea_nil))) (by simp))⟩)).ev (B.live true)) fun v H1 x hv => q v H1 (e0.trans x) ?_
    rw [hk]; exact new_of hv

def m__part (texts_ : ((List Str) × (List Str) × (List Str))) (start_ : (Int × Int × Int)) (end_ : (Int × Int × Int)) : (List (Str × (List Str) × (List Str) × (List Str))) :=
  (if (List.any (([(texts_.1, start_.1, end_.1), (texts_.2.1, start_.2.1, end_.2.1), (texts_.2.2, start_.2.2, end_.2.2)]).map fun (p_c2 : ((List Str) × Int × Int)) => (cutG p_c2.1 (some p_c2.2.1) (some p_c2.2.2))) fun x => !x.isEmpty) = true then [(("part" : Str), ((fun (p_c2 : ((List Str) × Int × Int)) => (cutG p_c2.1 (some p_c2.2.1) (some p_c2.2.2))) (texts_.1, start_.1, end_.1)), ((fun (p_c2 : ((List Str) × Int × Int)) => (cutG p_c2.1 (some p_c2.2.1) (some p_c2.2.2))) (texts_.2.1, start_.2.1, end_.2.1)), ((fun (p_c2 : ((List Str) × Int × Int)) => (cutG p_c2.1 (some p_c2.2.1) (some p_c2.2.2))) (texts_.2.2, start_.2.2, end_.2.2)))] else ([] : (List (Str × (List Str) × (List Str) × (List Str)))))

theorem cutG_le {α : Type} (xs : List α) (lo hi : Option Int) : (cutG xs lo hi).length ≤ xs.length := by
  unfold cutG
  rw [List.length_take, List.length_drop]
  omega

abbrev s__part : Stmt := topS 7

abbrev N__part : List Str := ["texts", "start", "end", "stretches", "text", "low", "high"]

theorem sc__part : FnScope N__part ["texts", "start", "end"] (defScope s__part) := ⟨rfl, rfl, rfl, by decide +kernel, rfl, by decide +kernel, by decide +kernel⟩

def r__part : List PyData → PyData → Prop := fun ds d => ∃ (texts_ : ((List Str) × (List Str) × (List Str))) (start_ : (Int × Int × Int)) (end_ : (Int × Int × Int)), ds = [(eT3 (eL eS) (eL eS) (eL eS)) texts_, (eT3 eI eI eI) start_, (eT3 eI eI eI) end_] ∧ (texts_.1.length ≤ 1000) ∧ (texts_.2.1.length ≤ 1000) ∧ (texts_.2.2.length ≤ 1000) ∧ d = (eL (eT4 eS (eTu eS) (eTu eS) (eTu eS))) (m__part texts_ start_ end_)

set_option maxHeartbeats 8000000 in
theorem ok__part {f : Addr} {fd : FuncData} {k : Nat} (F : Fun K "_part" "_part" s__part f fd) (m_zip : mg "zip" = none) (m_tuple : mg "tuple" = none) (m_any : mg "any" = none) : FnOk P w K mg base CX0 (k + 1) f fd ["texts", "start", "end"] (SpF r__part) := by
  refine F.ok sc__part (fun vs H Q E h => ?_) (fun cdv A outer s H vs Q E hr h => ?_)
  · obtain ⟨ds, d, hd, ⟨texts_, start_, end_, rfl, h1, h2, h3, rfl⟩, _⟩ := h
    exact hd.length
  · obtain ⟨ds, d, hd, ⟨texts_, start_, end_, rfl, h1, h2, h3, rfl⟩, q⟩ := h
    refine ⟨_, (pss_cons (ps_setLc (i := 3) (own := [("text", 4), ("low", 5), ("high", 6)]) (g := (gTup K 3 (gCons (gName 4) (gCons (gName 5) (gCons (gName 6) gNil))))) (tt := tYes) rfl sc__part.nd rfl rfl (sw_true rfl rfl rfl (by decide +kernel)) (pi_zipT3 (by rfl) m_zip (pa_cons (pv 0) (pa_cons (pv 1) (pa_cons (pv 2) pa_nil)))) (blkOk_by (own := [("text", 4), ("low", 5), ("high", 6)]) (N := N__part) (sc := defScope s__part) (by decide +kernel)) (fun _ _ _ _ _ => pg_tup rfl (pgs_cons (pg_name (i := 4) sc__part.nd rfl (Or.inl rfl)) (pgs_cons (pg_name (i := 5) sc__part.nd rfl (Or.inl rfl)) (pgs_cons (pg_name (i := 6) sc__part.nd rfl (Or.inl rfl)) pgs_nil)))) (fun _ _ _ _ _ => pts_nil) (fun _ _ _ _ _ => (pe_callTy (r := rTupOfK K) call_tuple_of (by rfl) m_tuple (by decide +kernel) (pa_cons (pe_slice (r := rSlL K) sl_list (pv 4) (po_some (pv 5)) (po_some (pv 6))) pa_nil)))) (pss_cons (ps_ret (pe_ifExp (pt_val (pe_callB (r := rAnyD K) (cr_anyD rfl) (by rfl) m_any (by decide +kernel) (pa_cons (pv 3) pa_nil))) (pe_lst (pa_cons (pe_tup (pa_cons pe_str (StX.pa_star (pv 3) pa_nil))) pa_nil)) (pe_lst pa_nil))) pss_nil)), ?_⟩
    have e0 : Ex H H := Ex.refl H
    have B := bs_F hd (N := N__part) (by rw [hd.length]; exact Nat.le_of_ble_eq_true rfl)
    have B : Bs _ _ _ [.va false ((eT3 (eL eS) (eL eS) (eL eS)) texts_), .va false ((eT3 eI eI eI) start_), .va false ((eT3 eI eI eI) end_), .no, .no, .no, .no] := B
    have hk : m__part texts_ start_ end_ = (if (List.any (([(texts_.1, start_.1, end_.1), (texts_.2.1, start_.2.1, end_.2.1), (texts_.2.2, start_.2.2, end_.2.2)]).map fun (p_c2 : ((List Str) × Int × Int)) => (cutG p_c2.1 (some p_c2.2.1) (some p_c2.2.2))) fun x => !x.isEmpty) = true then [(("part" : Str), ((fun (p_c2 : ((List Str) × Int × Int)) => (cutG p_c2.1 (some p_c2.2.1) (some p_c2.2.2))) (texts_.1, start_.1, end_.1)), ((fun (p_c2 : ((List Str) × Int × Int)) => (cutG p_c2.1 (some p_c2.2.1) (some p_c2.2.2))) (texts_.2.1, start_.2.1, end_.2.1)), ((fun (p_c2 : ((List Str) × Int × Int)) => (cutG p_c2.1 (some p_c2.2.1) (some p_c2.2.2))) (texts_.2.2, start_.2.2, end_.2.2)))] else ([] : (List (Str × (List Str) × (List Str) × (List Str))))) := rfl
    refine q_asg (f := true) B ((en_lcZM1 (js := [4, 5, 6]) (g := true) (em2 := (eTu eS)) [(texts_.1, start_.1, end_.1), (texts_.2.1, start_.2.1, end_.2.1), (texts_.2.2, start_.2.2, end_.2.2)] (eL eS) eI eI (fun p_c2 => (cutG p_c2.1 (some p_c2.2.1) (some p_c2.2.2))) (tgw_tup3 (by simp) (by simp) (by simp)) B (by intro j hj; simp at hj; rcases hj with rfl | rfl | rfl <;> rfl) (fun y b h => adr_put rfl b (adr_put rfl b (adr_put rfl b h))) (ea_cons (ev_va B rfl) (ea_cons (ev_va B rfl) (ea_cons (ev_va B rfl) ea_nil))) (by simp) (fun c' p_c2 σ1 H1 hx B => by have B : Bs _ _ _ [.va false ((eT3 (eL eS) (eL eS) (eL eS)) texts_), .va false ((eT3 eI eI eI) start_), .va false ((eT3 eI eI eI) end_), .no, .va false ((eL eS) p_c2.1), .va false (eI p_c2.2.1), .va false (eI p_c2.2.2)] := B; exact (ev_tupM (B.live true) (((en_slM ((ev_va B rfl).w0) (eo_some (ev_sc B rfl (.int _))) (eo_some (ev_sc B rfl (.int _)))).scL (fun _ => (.str _))).ev (B.live true))))).ev (B.live true)) fun σ1 H1 B => ?_
    have B : Bs _ _ _ [.va false ((eT3 (eL eS) (eL eS) (eL eS)) texts_), .va false ((eT3 eI eI eI) start_), .va false ((eT3 eI eI eI) end_), .va true ((eL (eTu eS)) (([(texts_.1, start_.1, end_.1), (texts_.2.1, start_.2.1, end_.2.1), (texts_.2.2, start_.2.2, end_.2.2)]).map fun (p_c2 : ((List Str) × Int × Int)) => (cutG p_c2.1 (some p_c2.2.1) (some p_c2.2.2)))), .no, .no, .no] := B
    refine q_ret (f := true) B ((ev_if (et_B (ev_anyTu ((ev_va B rfl).w0) (by intro x hx; simp only [List.map_cons, List.map_nil, List.mem_cons, List.not_mem_nil, or_false] at hx; rcases hx with rfl | rfl | rfl <;> exact Nat.le_trans (cutG_le _ _ _) (by omega)))) (fun hc => (en_lstM (em := (eT4 eS (eTu eS) (eTu eS) (eTu eS))) (xs := [(("part" : Str), ((fun (p_c2 : ((List Str) × Int × Int)) => (cutG p_c2.1 (some p_c2.2.1) (some p_c2.2.2))) (texts_.1, start_.1, end_.1)), ((fun (p_c2 : ((List Str) × Int × Int)) => (cutG p_c2.1 (some p_c2.2.1) (some p_c2.2.2))) (texts_.2.1, start_.2.1, end_.2.1)), ((fun (p_c2 : ((List Str) × Int × Int)) => (cutG p_c2.1 (some p_c2.2.1) (some p_c2.2.2))) (texts_.2.2, start_.2.2, end_.2.2)))]) (ea_cons (ev_tup (ds := [eS ("part" : Str), (eTu eS) ((fun (p_c2 : ((List Str) × Int × Int)) => (cutG p_c2.1 (some p_c2.2.1) (some p_c2.2.2))) (texts_.1, start_.1, end_.1)), (eTu eS) ((fun (p_c2 : ((List Str) × Int × Int)) => (cutG p_c2.1 (some p_c2.2.1) (some p_c2.2.2))) (texts_.2.1, start_.2.1, end_.2.1)), (eTu eS) ((fun (p_c2 : ((List Str) × Int × Int)) => (cutG p_c2.1 (some p_c2.2.1) (some p_c2.2.2))) (texts_.2.2, start_.2.2, end_.2.2))]) (B.live true) (ea_cons ev_str (show EvA _ _ _ _ (List.map (eTu eS) (([(texts_.1, start_.1, end_.1), (texts_.2.1, start_.2.1, end_.2.1), (texts_.2.2, start_.2.2, end_.2.2)]).map fun (p_c2 : ((List Str) × Int × Int)) => (cutG p_c2.1 (some p_c2.2.1) (some p_c2.2.2))) ++ []) from ea_star (em := (eTu eS)) (xs := (([(texts_.1, start_.1, end_.1), (texts_.2.1, start_.2.1, end_.2.1), (texts_.2.2, start_.2.2, end_.2.2)]).map fun (p_c2 : ((List Str) × Int × Int)) => (cutG p_c2.1 (some p_c2.2.1) (some p_c2.2.2)))) (ev_va B rfl) ea_nil)) (by simp)) ea_nil) (by simp)).ev (B.live true)) (fun hc => (en_lstM (em := (eT4 eS (eTu eS) (eTu eS) (eTu eS))) (xs := []) ea_nil (by simp)).ev (B.live true))).is (by first | exact ite_em (eL (eT4 eS (eTu eS) (eTu eS) (eTu eS))) | (split <;> rfl))) fun v H1 x hv => q v H1 (e0.trans x) ?_
    rw [hk]; exact new_of hv

def l_text_chunks_1 (base_ : (List Str)) (ours_ : (List Str)) (theirs_ : (List Str)) (s : (List (Str × (List Str) × (List Str) × (List Str))) × (Int × Int × Int)) (run_t1 : (List (Int × Int × Int))) : (List (Str × (List Str) × (List Str) × (List Str))) × (Int × Int × Int) :=
  match s with
  | (chunks_1, start_1) => (((chunks_1 ++ (m__part ((base_, ours_, theirs_)) (start_1) ((getI run_t1 (0 : Int))))) ++ [(("same" : Str), (cutG base_ (some ((getI run_t1 (0 : Int)).1)) (some ((((fun (place_c : Int) => (place_c + (1 : Int))) (getI run_t1 (-1 : Int)).1), ((fun (place_c : Int) => (place_c + (1 : Int))) (getI run_t1 (-1 : Int)).2.1), ((fun (place_c : Int) => (place_c + (1 : Int))) (getI run_t1 (-1 : Int)).2.2)).1))), (cutG base_ (some ((getI run_t1 (0 : Int)).1)) (some ((((fun (place_c : Int) => (place_c + (1 : Int))) (getI run_t1 (-1 : Int)).1), ((fun (place_c : Int) => (place_c + (1 : Int))) (getI run_t1 (-1 : Int)).2.1), ((fun (place_c : Int) => (place_c + (1 : Int))) (getI run_t1 (-1 : Int)).2.2)).1))), (cutG base_ (some ((getI run_t1 (0 : Int)).1)) (some ((((fun (place_c : Int) => (place_c + (1 : Int))) (getI run_t1 (-1 : Int)).1), ((fun (place_c : Int) => (place_c + (1 : Int))) (getI run_t1 (-1 : Int)).2.1), ((fun (place_c : Int) => (place_c + (1 : Int))) (getI run_t1 (-1 : Int)).2.2)).1))))]), (((fun (place_c : Int) => (place_c + (1 : Int))) (getI run_t1 (-1 : Int)).1), ((fun (place_c : Int) => (place_c + (1 : Int))) (getI run_t1 (-1 : Int)).2.1), ((fun (place_c : Int) => (place_c + (1 : Int))) (getI run_t1 (-1 : Int)).2.2)))

def m_text_chunks (base_ : (List Str)) (ours_ : (List Str)) (theirs_ : (List Str)) : (List (Str × (List Str) × (List Str) × (List Str))) :=
  (match (List.foldl (l_text_chunks_1 base_ ours_ theirs_) (([] : (List (Str × (List Str) × (List Str) × (List Str)))), ((0 : Int), (0 : Int), (0 : Int))) (m__runs ((m__stable_places (base_) (ours_) (theirs_))))) with | (chunks_r1, start_r1) => (chunks_r1 ++ (m__part ((base_, ours_, theirs_)) (start_r1) (((List.length base_ : Int), (List.length ours_ : Int), (List.length theirs_ : Int))))))

theorem stable_le (base ours theirs : List Str) : (m__stable_places base ours theirs).length ≤ base.length := by
  unfold m__stable_places
  rw [List.length_map]
  exact Nat.le_trans (List.length_filter_le _ _) (matched_le base ours)
theorem runs_inv (ps : List I3) : Full (m__runs ps) ∧ big (m__runs ps) ps.length := by
  have : ∀ (n : Nat), n ≤ ps.length → Full (List.foldl l__runs_1 [] (ps.take n)) ∧ big (List.foldl l__runs_1 [] (ps.take n)) n := by
    intro n
    induction n with
    | zero => exact fun _ => ⟨fun r h => by simp at h, by simp, fun r h => by simp at h⟩
    | succ m ih =>
      intro hm
      have e : ps.take (m + 1) = ps.take m ++ [ps[m]'(by omega)] := by rw [List.take_add_one, List.getElem?_eq_getElem (by omega)]; rfl
      rw [e, List.foldl_append]
      obtain ⟨a, b⟩ := ih (by omega)
      exact ⟨full_step a _, big_step b _⟩
  have h := this ps.length (Nat.le_refl _)
  rwa [List.take_length] at h
theorem part_le (t : List Str × List Str × List Str) (a b : I3) : (m__part t a b).length ≤ 1 := by
  unfold m__part
  simp only
  split <;> simp

abbrev s_text_chunks : Stmt := topS 4

abbrev N_text_chunks : List Str := ["base", "ours", "theirs", "texts", "chunks", "start", "run", "end", "lines", "place"]

theorem sc_text_chunks : FnScope N_text_chunks ["base", "ours", "theirs"] (defScope s_text_chunks) := ⟨rfl, rfl, rfl, by decide +kernel, rfl, by decide +kernel, by decide +kernel⟩

def r_text_chunks : List PyData → PyData → Prop := fun ds d => ∃ (base_ : (List Str)) (ours_ : (List Str)) (theirs_ : (List Str)), ds = [(eL eS) base_, (eL eS) ours_, (eL eS) theirs_] ∧ (base_.length ≤ 1000) ∧ (ours_.length ≤ 1000) ∧ (theirs_.length ≤ 1000) ∧ d = (eL (eT4 eS (eTu eS) (eTu eS) (eTu eS))) (m_text_chunks base_ ours_ theirs_)

set_option maxHeartbeats 8000000 in
theorem ok_text_chunks {f : Addr} {fd : FuncData} {k : Nat} (F : Fun K "text_chunks" "text_chunks" s_text_chunks f fd) {f__runs : Addr} {fd__runs : FuncData} {k__runs : Nat} (F__runs : Fun K "_runs" "_runs" s__runs f__runs fd__runs) (b__runs : Binds K fd__runs ["places"] []) (g__runs : mg "_runs" = some (.ref f__runs)) (G__runs : FnOk P w K mg base CX0 k__runs f__runs fd__runs ["places"] (SpF r__runs)) (k__runs_ : k__runs ≤ k) {f__stable_places : Addr} {fd__stable_places : FuncData} {k__stable_places : Nat} (F__stable_places : Fun K "_stable_places" "_stable_places" s__stable_places f__stable_places fd__stable_places) (b__stable_places : Binds K fd__stable_places ["base", "ours", "theirs"] []) (g__stable_places : mg "_stable_places" = some (.ref f__stable_places)) (G__stable_places : FnOk P w K mg base CX0 k__stable_places f__stable_places fd__stable_places ["base", "ours", "theirs"] (SpF r__stable_places)) (k__stable_places_ : k__stable_places ≤ k) {f__part : Addr} {fd__part : FuncData} {k__part : Nat} (F__part : Fun K "_part" "_part" s__part f__part fd__part) (b__part : Binds K fd__part ["texts", "start", "end"] []) (g__part : mg "_part" = some (.ref f__part)) (G__part : FnOk P w K mg base CX0 k__part f__part fd__part ["texts", "start", "end"] (SpF r__part)) (k__part_ : k__part ≤ k) (m_tuple : mg "tuple" = none) (m_len : mg "len" = none) : FnOk P w K mg base CX0 (k + 1) f fd ["base", "ours", "theirs"] (SpF r_text_chunks) := by
  refine F.ok sc_text_chunks (fun vs H Q E h => ?_) (fun cdv A outer s H vs Q E hr h => ?_)
  · obtain ⟨ds, d, hd, ⟨base_, ours_, theirs_, rfl, h1, h2, h3, rfl⟩, _⟩ := h
    exact hd.length
  · obtain ⟨ds, d, hd, ⟨base_, ours_, theirs_, rfl, h1, h2, h3, rfl⟩, q⟩ := h
    refine ⟨_, (pss_cons (ps_set (i := 3) sc_text_chunks.nd rfl (Or.inl rfl) (pe_tup (pa_cons (pv 0) (pa_cons (pv 1) (pa_cons (pv 2) pa_nil))))) (pss_cons (ps_set (i := 4) sc_text_chunks.nd rfl (Or.inl rfl) (pe_lst pa_nil)) (pss_cons (ps_set (i := 5) sc_text_chunks.nd rfl (Or.inl rfl) (pe_tup (pa_cons pe_int (pa_cons pe_int (pa_cons pe_int pa_nil))))) (pss_cons (ps_for PassesOwn.never rfl (pi_list (pe_call G__runs (hr.mono k__runs_) (by rfl) g__runs F__runs.kp b__runs .nil pass0 (pa_cons (pe_call G__stable_places (hr.mono k__stable_places_) (by rfl) g__stable_places F__stable_places.kp b__stable_places .nil pass0 (pa_cons (pv 0) (pa_cons (pv 1) (pa_cons (pv 2) pa_nil)))) pa_nil))) (pg_name (i := 6) sc_text_chunks.nd rfl (Or.inl rfl)) (pss_cons (ps_set (i := 7) sc_text_chunks.nd rfl (Or.inl rfl) (pe_callTy (r := rTupOfK K) call_tuple_of (by rfl) m_tuple (by decide +kernel) (pa_cons (pe_lc (own := [("place", 9)]) (g := gName 9) (tt := tYes) rfl sc_text_chunks.nd (pi_tup (pe_ix (r := rIxL K) ix_list (pv 6) (pe_un un_neg pe_int) (fun _ _ => rfl))) (blkOk_by (own := [("place", 9)]) (N := N_text_chunks) (sc := defScope s_text_chunks) (by decide +kernel)) (fun _ _ _ _ _ => pg_name (i := 9) sc_text_chunks.nd rfl (Or.inl rfl)) (fun _ _ _ _ _ => pts_nil) (fun _ _ _ _ _ => (pe_op op_add (pv 9) pe_int))) pa_nil))) (pss_cons (ps_set (i := 8) sc_text_chunks.nd rfl (Or.inl rfl) (pe_callTy (r := rTupOfK K) call_tuple_of (by rfl) m_tuple (by decide +kernel) (pa_cons (pe_slice (r := rSlL K) sl_list (pv 0) (po_some (pe_ix (r := rIxT K) ix_tup (pe_ix (r := rIxL K) ix_list (pv 6) pe_int (fun _ _ => rfl)) pe_int (fun _ _ => rfl))) (po_some (pe_ix (r := rIxT K) ix_tup (pv 7) pe_int (fun _ _ => rfl)))) pa_nil))) (pss_cons (ps_expr (pe_bm PySem.F.plainAttrs_list PySem.F.slot_list_extend PySem.F.type_list_extend mt_extend (pv 4) (pa_cons (pe_call G__part (hr.mono k__part_) (by rfl) g__part F__part.kp b__part .nil pass0 (pa_cons (pv 3) (pa_cons (pv 5) (pa_cons (pe_ix (r := rIxL K) ix_list (pv 6) pe_int (fun _ _ => rfl)) pa_nil)))) pa_nil))) (pss_cons (ps_expr (pe_bm PySem.F.plainAttrs_list PySem.F.slot_list_append PySem.F.type_list_append mt_append (pv 4) (pa_cons (pe_tup (pa_cons pe_str (pa_cons (pv 8) (pa_cons (pv 8) (pa_cons (pv 8) pa_nil))))) pa_nil))) (pss_cons (ps_set (i := 5) sc_text_chunks.nd rfl (Or.inl rfl) (pv 7)) pss_nil)))))) (pss_cons (ps_expr (pe_bm PySem.F.plainAttrs_list PySem.F.slot_list_extend PySem.F.type_list_extend mt_extend (pv 4) (pa_cons (pe_call G__part (hr.mono k__part_) (by rfl) g__part F__part.kp b__part .nil pass0 (pa_cons (pv 3) (pa_cons (pv 5) (pa_cons (pe_tup (pa_cons (pe_callB (r := rLenK K) call_len_seq (by rfl) m_len PySem.boot_len (pa_cons (pv 0) pa_nil)) (pa_cons (pe_callB (r := rLenK K) call_len_seq (by rfl) m_len PySem.boot_len (pa_cons (pv 1) pa_nil)) (pa_cons (pe_callB (r := rLenK K) call_len_seq (by rfl) m_len PySem.boot_len (pa_cons (pv 2) pa_nil)) pa_nil)))) pa_nil)))) pa_nil))) (pss_cons (ps_ret (pv 4)) pss_nil)))))), ?_⟩
    have e0 : Ex H H := Ex.refl H
    have B := bs_F hd (N := N_text_chunks) (by rw [hd.length]; exact Nat.le_of_ble_eq_true rfl)
    have B : Bs _ _ _ [.va false ((eL eS) base_), .va false ((eL eS) ours_), .va false ((eL eS) theirs_), .no, .no, .no, .no, .no, .no, .no] := B
    have hk : m_text_chunks base_ ours_ theirs_ = (match (List.foldl (l_text_chunks_1 base_ ours_ theirs_) (([] : (List (Str × (List Str) × (List Str) × (List Str)))), ((0 : Int), (0 : Int), (0 : Int))) (m__runs ((m__stable_places (base_) (ours_) (theirs_))))) with | (chunks_r1, start_r1) => (chunks_r1 ++ (m__part ((base_, ours_, theirs_)) (start_r1) (((List.length base_ : Int), (List.length ours_ : Int), (List.length theirs_ : Int)))))) := rfl
    have st := stable_le base_ ours_ theirs_
    refine q_asg (f := false) B (ev_tup (B.live false) (ea_cons (ev_va B rfl) (ea_cons (ev_va B rfl) (ea_cons (ev_va B rfl) ea_nil))) (by simp)) fun σ1 H1 B => ?_
    have B : Bs _ _ _ [.va false ((eL eS) base_), .va false ((eL eS) ours_), .va false ((eL eS) theirs_), .va false ((eT3 (eL eS) (eL eS) (eL eS)) (base_, ours_, theirs_)), .no, .no, .no, .no, .no, .no] := B
    refine q_asgN (f := true) B (en_lstM (em := (eT4 eS (eTu eS) (eTu eS) (eTu eS))) (xs := []) ea_nil (by simp)) fun a3 σ1 H1 B => ?_
    have B : Bs _ _ _ [.va false ((eL eS) base_), .va false ((eL eS) ours_), .va false ((eL eS) theirs_), .va false ((eT3 (eL eS) (eL eS) (eL eS)) (base_, ours_, theirs_)), .ow true a3 (([] : (List (Str × (List Str) × (List Str) × (List Str)))).map (eT4 eS (eTu eS) (eTu eS) (eTu eS))), .no, .no, .no, .no, .no] := B
    refine q_asg (f := true) B (ev_tup (B.live true) (ea_cons ev_int (ea_cons ev_int (ea_cons ev_int ea_nil))) (by simp)) fun σ1 H1 B => ?_
    have B : Bs _ _ _ [.va false ((eL eS) base_), .va false ((eL eS) ours_), .va false ((eL eS) theirs_), .va false ((eT3 (eL eS) (eL eS) (eL eS)) (base_, ours_, theirs_)), .ow true a3 (([] : (List (Str × (List Str) × (List Str) × (List Str)))).map (eT4 eS (eTu eS) (eTu eS) (eTu eS))), .va true ((eT3 eI eI eI) ((0 : Int), (0 : Int), (0 : Int))), .no, .no, .no, .no] := B
    refine q_foldL (fun (s : (List (Str × (List Str) × (List Str) × (List Str))) × (Int × Int × Int)) => [.va false ((eL eS) base_), .va false ((eL eS) ours_), .va false ((eL eS) theirs_), .va false ((eT3 (eL eS) (eL eS) (eL eS)) (base_, ours_, theirs_)), .ow true a3 (s.1.map (eT4 eS (eTu eS) (eTu eS) (eTu eS))), .va true ((eT3 eI eI eI) s.2), .no, .no, .no, .no]) (l_text_chunks_1 base_ ours_ theirs_) (([] : (List (Str × (List Str) × (List Str) × (List Str)))), ((0 : Int), (0 : Int), (0 : Int))) (fun n s => s.1.length ≤ 2 * n) B (ev_callF (B.live true) (ea_cons (ev_callF live0 (ea_cons ((ev_va B rfl).w0) (ea_cons ((ev_va B rfl).w0) (ea_cons ((ev_va B rfl).w0) ea_nil))) ⟨base_, ours_, theirs_, rfl, by first | assumption | omega | (simp at *; omega), by first | assumption | omega | (simp at *; omega), by first | assumption | omega | (simp at *; omega), rfl⟩) ea_nil) ⟨(m__stable_places (base_) (ours_) (theirs_)), rfl, by first | assumption | omega | (simp at *; omega), rfl⟩) (.cons (.refl _) (.cons (.refl _) (.cons (.refl _) (.cons (.refl _) (.cons (.refl _) (.cons (.refl _) (.cons (.no _) (.cons (.no _) (.cons (.no _) (.cons (.no _) .nil)))))))))) (by simp) (fun B0 e1 n s run_t1 σ1 H1 hx hn hJ B => ?_) (fun s σ1 H1 hs hJ B => ?_)
    · rcases s with ⟨chunks_1, start_1⟩
      have B : Bs _ _ _ [.va false ((eL eS) base_), .va false ((eL eS) ours_), .va false ((eL eS) theirs_), .va false ((eT3 (eL eS) (eL eS) (eL eS)) (base_, ours_, theirs_)), .ow true a3 (chunks_1.map (eT4 eS (eTu eS) (eTu eS) (eTu eS))), .va true ((eT3 eI eI eI) start_1), .va true ((eL (eT3 eI eI eI)) run_t1), .no, .no, .no] := B
      try simp only [List.length_reverse, rng_len, List.length_map] at hn
      have e0 := e0.trans e1
      have hk1 : l_text_chunks_1 base_ ours_ theirs_ (chunks_1, start_1) run_t1 = (((chunks_1 ++ (m__part ((base_, ours_, theirs_)) (start_1) ((getI run_t1 (0 : Int))))) ++ [(("same" : Str), (cutG base_ (some ((getI run_t1 (0 : Int)).1)) (some ((((fun (place_c : Int) => (place_c + (1 : Int))) (getI run_t1 (-1 : Int)).1), ((fun (place_c : Int) => (place_c + (1 : Int))) (getI run_t1 (-1 : Int)).2.1), ((fun (place_c : Int) => (place_c + (1 : Int))) (getI run_t1 (-1 : Int)).2.2)).1))), (cutG base_ (some ((getI run_t1 (0 : Int)).1)) (some ((((fun (place_c : Int) => (place_c + (1 : Int))) (getI run_t1 (-1 : Int)).1), ((fun (place_c : Int) => (place_c + (1 : Int))) (getI run_t1 (-1 : Int)).2.1), ((fun (place_c : Int) => (place_c + (1 : Int))) (getI run_t1 (-1 : Int)).2.2)).1))), (cutG base_ (some ((getI run_t1 (0 : Int)).1)) (some ((((fun (place_c : Int) => (place_c + (1 : Int))) (getI run_t1 (-1 : Int)).1), ((fun (place_c : Int) => (place_c + (1 : Int))) (getI run_t1 (-1 : Int)).2.1), ((fun (place_c : Int) => (place_c + (1 : Int))) (getI run_t1 (-1 : Int)).2.2)).1))))]), (((fun (place_c : Int) => (place_c + (1 : Int))) (getI run_t1 (-1 : Int)).1), ((fun (place_c : Int) => (place_c + (1 : Int))) (getI run_t1 (-1 : Int)).2.1), ((fun (place_c : Int) => (place_c + (1 : Int))) (getI run_t1 (-1 : Int)).2.2))) := rfl
      simp only at hJ
      have ri := runs_inv (m__stable_places base_ ours_ theirs_)
      have rf := ri.1 _ hx
      have rl := ri.2.1
      have r0 : 0 < run_t1.length := List.length_pos_iff.mpr rf
      have pl := part_le (base_, ours_, theirs_) start_1 (getI run_t1 0)
      refine q_asg (f := true) B (show Ev _ _ _ _ ((eT3 eI eI eI) (((fun (place_c : Int) => (place_c + (1 : Int))) (getI run_t1 (-1 : Int)).1), ((fun (place_c : Int) => (place_c + (1 : Int))) (getI run_t1 (-1 : Int)).2.1), ((fun (place_c : Int) => (place_c + (1 : Int))) (getI run_t1 (-1 : Int)).2.2))) from (ev_tupM (B.live true) ((en_lcTM1 (xs := [(getI run_t1 (-1 : Int)).1, (getI run_t1 (-1 : Int)).2.1, (getI run_t1 (-1 : Int)).2.2]) (em := eI) (g := true) (em2 := eI) (fun place_c => (place_c + (1 : Int))) B rfl (ev_ixM (em := (eT3 eI eI eI)) (xs := run_t1) (ev_va B rfl) (ev_neg ev_int) (show inB run_t1 (-1 : Int) from by first | assumption | (unfold inB; first | omega | (simp; omega) | (simp at *; omega)))) (by first | omega | (simp; done) | (simp; omega) | exact cutG_le' (by omega) | (simp at *; omega)) (fun c' place_c σ1 H1 hx B => (ev_I0 (ev_sc B rfl (.int _)) ev_int))).ev (B.live true)))) fun σ1 H1 B => ?_
      have B : Bs _ _ _ [.va false ((eL eS) base_), .va false ((eL eS) ours_), .va false ((eL eS) theirs_), .va false ((eT3 (eL eS) (eL eS) (eL eS)) (base_, ours_, theirs_)), .ow true a3 (chunks_1.map (eT4 eS (eTu eS) (eTu eS) (eTu eS))), .va true ((eT3 eI eI eI) start_1), .va true ((eL (eT3 eI eI eI)) run_t1), .va true ((eT3 eI eI eI) (((fun (place_c : Int) => (place_c + (1 : Int))) (getI run_t1 (-1 : Int)).1), ((fun (place_c : Int) => (place_c + (1 : Int))) (getI run_t1 (-1 : Int)).2.1), ((fun (place_c : Int) => (place_c + (1 : Int))) (getI run_t1 (-1 : Int)).2.2))), .no, .no] := B
      refine q_asg (f := true) B (ev_tupM (B.live true) (((en_slM ((ev_va B rfl).w0) (eo_some ((ev_ixT (K := K) (d := eI ((getI run_t1 (0 : Int)).1)) (ev_ixM (em := (eT3 eI eI eI)) (xs := run_t1) ((ev_va B rfl).w0) ev_int (show inB run_t1 (0 : Int) from by first | assumption | (unfold inB; first | omega | (simp; omega) | (simp at *; omega)))) ev_int (by rfl)).sc (.int _))) (eo_some ((ev_ixT (K := K) (d := eI ((((fun (place_c : Int) => (place_c + (1 : Int))) (getI run_t1 (-1 : Int)).1), ((fun (place_c : Int) => (place_c + (1 : Int))) (getI run_t1 (-1 : Int)).2.1), ((fun (place_c : Int) => (place_c + (1 : Int))) (getI run_t1 (-1 : Int)).2.2)).1)) ((ev_va B rfl).w0) ev_int (by rfl)).sc (.int _)))).scL (fun _ => (.str _))).ev (B.live true))) fun σ1 H1 B => ?_
      have B : Bs _ _ _ [.va false ((eL eS) base_), .va false ((eL eS) ours_), .va false ((eL eS) theirs_), .va false ((eT3 (eL eS) (eL eS) (eL eS)) (base_, ours_, theirs_)), .ow true a3 (chunks_1.map (eT4 eS (eTu eS) (eTu eS) (eTu eS))), .va true ((eT3 eI eI eI) start_1), .va true ((eL (eT3 eI eI eI)) run_t1), .va true ((eT3 eI eI eI) (((fun (place_c : Int) => (place_c + (1 : Int))) (getI run_t1 (-1 : Int)).1), ((fun (place_c : Int) => (place_c + (1 : Int))) (getI run_t1 (-1 : Int)).2.1), ((fun (place_c : Int) => (place_c + (1 : Int))) (getI run_t1 (-1 : Int)).2.2))), .va true ((eTu eS) (cutG base_ (some ((getI run_t1 (0 : Int)).1)) (some ((((fun (place_c : Int) => (place_c + (1 : Int))) (getI run_t1 (-1 : Int)).1), ((fun (place_c : Int) => (place_c + (1 : Int))) (getI run_t1 (-1 : Int)).2.1), ((fun (place_c : Int) => (place_c + (1 : Int))) (getI run_t1 (-1 : Int)).2.2)).1)))), .no] := B
      refine q_extL (f := true) (xs := chunks_1) (ys := (m__part ((base_, ours_, theirs_)) (start_1) ((getI run_t1 (0 : Int))))) B rfl (ev_callF (B.live true) (ea_cons ((ev_va B rfl).w0) (ea_cons ((ev_va B rfl).w0) (ea_cons (ev_ixM (em := (eT3 eI eI eI)) (xs := run_t1) ((ev_va B rfl).w0) ev_int (show inB run_t1 (0 : Int) from by first | assumption | (unfold inB; first | omega | (simp; omega) | (simp at *; omega)))) ea_nil))) ⟨(base_, ours_, theirs_), start_1, (getI run_t1 (0 : Int)), rfl, by first | assumption | omega | (simp at *; omega), by first | assumption | omega | (simp at *; omega), by first | assumption | omega | (simp at *; omega), rfl⟩) (by first | omega | (simp; done) | (simp; omega) | exact cutG_le' (by omega) | (simp at *; omega)) fun H1 B => ?_
      have B : Bs _ _ _ [.va false ((eL eS) base_), .va false ((eL eS) ours_), .va false ((eL eS) theirs_), .va false ((eT3 (eL eS) (eL eS) (eL eS)) (base_, ours_, theirs_)), .ow true a3 ((chunks_1 ++ (m__part ((base_, ours_, theirs_)) (start_1) ((getI run_t1 (0 : Int))))).map (eT4 eS (eTu eS) (eTu eS) (eTu eS))), .va true ((eT3 eI eI eI) start_1), .va true ((eL (eT3 eI eI eI)) run_t1), .va true ((eT3 eI eI eI) (((fun (place_c : Int) => (place_c + (1 : Int))) (getI run_t1 (-1 : Int)).1), ((fun (place_c : Int) => (place_c + (1 : Int))) (getI run_t1 (-1 : Int)).2.1), ((fun (place_c : Int) => (place_c + (1 : Int))) (getI run_t1 (-1 : Int)).2.2))), .va true ((eTu eS) (cutG base_ (some ((getI run_t1 (0 : Int)).1)) (some ((((fun (place_c : Int) => (place_c + (1 : Int))) (getI run_t1 (-1 : Int)).1), ((fun (place_c : Int) => (place_c + (1 : Int))) (getI run_t1 (-1 : Int)).2.1), ((fun (place_c : Int) => (place_c + (1 : Int))) (getI run_t1 (-1 : Int)).2.2)).1)))), .no] := B
      refine q_app (f := true) B rfl (ev_tup (ds := [eS ("same" : Str), (eTu eS) (cutG base_ (some ((getI run_t1 (0 : Int)).1)) (some ((((fun (place_c : Int) => (place_c + (1 : Int))) (getI run_t1 (-1 : Int)).1), ((fun (place_c : Int) => (place_c + (1 : Int))) (getI run_t1 (-1 : Int)).2.1), ((fun (place_c : Int) => (place_c + (1 : Int))) (getI run_t1 (-1 : Int)).2.2)).1))), (eTu eS) (cutG base_ (some ((getI run_t1 (0 : Int)).1)) (some ((((fun (place_c : Int) => (place_c + (1 : Int))) (getI run_t1 (-1 : Int)).1), ((fun (place_c : Int) => (place_c + (1 : Int))) (getI run_t1 (-1 : Int)).2.1), ((fun (place_c : Int) => (place_c + (1 : Int))) (getI run_t1 (-1 : Int)).2.2)).1))), (eTu eS) (cutG base_ (some ((getI run_t1 (0 : Int)).1)) (some ((((fun (place_c : Int) => (place_c + (1 : Int))) (getI run_t1 (-1 : Int)).1), ((fun (place_c : Int) => (place_c + (1 : Int))) (getI run_t1 (-1 : Int)).2.1), ((fun (place_c : Int) => (place_c + (1 : Int))) (getI run_t1 (-1 : Int)).2.2)).1)))]) (B.live true) (ea_cons ev_str (ea_cons (ev_va B rfl) (ea_cons (ev_va B rfl) (ea_cons (ev_va B rfl) ea_nil)))) (by simp)) (by first | omega | (simp; done) | (simp; omega) | exact cutG_le' (by omega) | (simp at *; omega)) fun H1 B => ?_
      have B : Bs _ _ _ [.va false ((eL eS) base_), .va false ((eL eS) ours_), .va false ((eL eS) theirs_), .va false ((eT3 (eL eS) (eL eS) (eL eS)) (base_, ours_, theirs_)), .ow true a3 (((chunks_1 ++ (m__part ((base_, ours_, theirs_)) (start_1) ((getI run_t1 (0 : Int))))) ++ [(("same" : Str), (cutG base_ (some ((getI run_t1 (0 : Int)).1)) (some ((((fun (place_c : Int) => (place_c + (1 : Int))) (getI run_t1 (-1 : Int)).1), ((fun (place_c : Int) => (place_c + (1 : Int))) (getI run_t1 (-1 : Int)).2.1), ((fun (place_c : Int) => (place_c + (1 : Int))) (getI run_t1 (-1 : Int)).2.2)).1))), (cutG base_ (some ((getI run_t1 (0 : Int)).1)) (some ((((fun (place_c : Int) => (place_c + (1 : Int))) (getI run_t1 (-1 : Int)).1), ((fun (place_c : Int) => (place_c + (1 : Int))) (getI run_t1 (-1 : Int)).2.1), ((fun (place_c : Int) => (place_c + (1 : Int))) (getI run_t1 (-1 : Int)).2.2)).1))), (cutG base_ (some ((getI run_t1 (0 : Int)).1)) (some ((((fun (place_c : Int) => (place_c + (1 : Int))) (getI run_t1 (-1 : Int)).1), ((fun (place_c : Int) => (place_c + (1 : Int))) (getI run_t1 (-1 : Int)).2.1), ((fun (place_c : Int) => (place_c + (1 : Int))) (getI run_t1 (-1 : Int)).2.2)).1))))]).map (eT4 eS (eTu eS) (eTu eS) (eTu eS))), .va true ((eT3 eI eI eI) start_1), .va true ((eL (eT3 eI eI eI)) run_t1), .va true ((eT3 eI eI eI) (((fun (place_c : Int) => (place_c + (1 : Int))) (getI run_t1 (-1 : Int)).1), ((fun (place_c : Int) => (place_c + (1 : Int))) (getI run_t1 (-1 : Int)).2.1), ((fun (place_c : Int) => (place_c + (1 : Int))) (getI run_t1 (-1 : Int)).2.2))), .va true ((eTu eS) (cutG base_ (some ((getI run_t1 (0 : Int)).1)) (some ((((fun (place_c : Int) => (place_c + (1 : Int))) (getI run_t1 (-1 : Int)).1), ((fun (place_c : Int) => (place_c + (1 : Int))) (getI run_t1 (-1 : Int)).2.1), ((fun (place_c : Int) => (place_c + (1 : Int))) (getI run_t1 (-1 : Int)).2.2)).1)))), .no] := B.le (.cons (.refl _) (.cons (.refl _) (.cons (.refl _) (.cons (.refl _) (.cons (.eqo (by simp)) (.cons (.refl _) (.cons (.refl _) (.cons (.refl _) (.cons (.refl _) (.cons (.refl _) .nil))))))))))
      refine q_asg (f := true) B (ev_va B rfl) fun σ1 H1 B => ?_
      have B : Bs _ _ _ [.va false ((eL eS) base_), .va false ((eL eS) ours_), .va false ((eL eS) theirs_), .va false ((eT3 (eL eS) (eL eS) (eL eS)) (base_, ours_, theirs_)), .ow true a3 (((chunks_1 ++ (m__part ((base_, ours_, theirs_)) (start_1) ((getI run_t1 (0 : Int))))) ++ [(("same" : Str), (cutG base_ (some ((getI run_t1 (0 : Int)).1)) (some ((((fun (place_c : Int) => (place_c + (1 : Int))) (getI run_t1 (-1 : Int)).1), ((fun (place_c : Int) => (place_c + (1 : Int))) (getI run_t1 (-1 : Int)).2.1), ((fun (place_c : Int) => (place_c + (1 : Int))) (getI run_t1 (-1 : Int)).2.2)).1))), (cutG base_ (some ((getI run_t1 (0 : Int)).1)) (some ((((fun (place_c : Int) => (place_c + (1 : Int))) (getI run_t1 (-1 : Int)).1), ((fun (place_c : Int) => (place_c + (1 : Int))) (getI run_t1 (-1 : Int)).2.1), ((fun (place_c : Int) => (place_c + (1 : Int))) (getI run_t1 (-1 : Int)).2.2)).1))), (cutG base_ (some ((getI run_t1 (0 : Int)).1)) (some ((((fun (place_c : Int) => (place_c + (1 : Int))) (getI run_t1 (-1 : Int)).1), ((fun (place_c : Int) => (place_c + (1 : Int))) (getI run_t1 (-1 : Int)).2.1), ((fun (place_c : Int) => (place_c + (1 : Int))) (getI run_t1 (-1 : Int)).2.2)).1))))]).map (eT4 eS (eTu eS) (eTu eS) (eTu eS))), .va true ((eT3 eI eI eI) (((fun (place_c : Int) => (place_c + (1 : Int))) (getI run_t1 (-1 : Int)).1), ((fun (place_c : Int) => (place_c + (1 : Int))) (getI run_t1 (-1 : Int)).2.1), ((fun (place_c : Int) => (place_c + (1 : Int))) (getI run_t1 (-1 : Int)).2.2))), .va true ((eL (eT3 eI eI eI)) run_t1), .va true ((eT3 eI eI eI) (((fun (place_c : Int) => (place_c + (1 : Int))) (getI run_t1 (-1 : Int)).1), ((fun (place_c : Int) => (place_c + (1 : Int))) (getI run_t1 (-1 : Int)).2.1), ((fun (place_c : Int) => (place_c + (1 : Int))) (getI run_t1 (-1 : Int)).2.2))), .va true ((eTu eS) (cutG base_ (some ((getI run_t1 (0 : Int)).1)) (some ((((fun (place_c : Int) => (place_c + (1 : Int))) (getI run_t1 (-1 : Int)).1), ((fun (place_c : Int) => (place_c + (1 : Int))) (getI run_t1 (-1 : Int)).2.1), ((fun (place_c : Int) => (place_c + (1 : Int))) (getI run_t1 (-1 : Int)).2.2)).1)))), .no] := B
      exact ⟨_, hk1.symm, (by simp only [List.length_append, List.length_cons, List.length_nil]; omega), B.le (.cons (.refl _) (.cons (.refl _) (.cons (.refl _) (.cons (.refl _) (.cons (.refl _) (.cons (.refl _) (.cons (.no _) (.cons (.no _) (.cons (.no _) (.cons (.no _) .nil))))))))))⟩
    · rw [← hs] at hk
      try simp only [List.length_reverse, rng_len, List.length_map] at hJ
      obtain ⟨chunks_r1, start_r1⟩ := s
      try dsimp only at hk
      have B : Bs _ _ _ [.va false ((eL eS) base_), .va false ((eL eS) ours_), .va false ((eL eS) theirs_), .va false ((eT3 (eL eS) (eL eS) (eL eS)) (base_, ours_, theirs_)), .ow true a3 (chunks_r1.map (eT4 eS (eTu eS) (eTu eS) (eTu eS))), .va true ((eT3 eI eI eI) start_r1), .no, .no, .no, .no] := B
      simp only at hJ
      have ri := runs_inv (m__stable_places base_ ours_ theirs_)
      have rl := ri.2.1
      have pl := part_le (base_, ours_, theirs_) start_r1 ((List.length base_ : Int), (List.length ours_ : Int), (List.length theirs_ : Int))
      refine q_extL (f := true) (xs := chunks_r1) (ys := (m__part ((base_, ours_, theirs_)) (start_r1) (((List.length base_ : Int), (List.length ours_ : Int), (List.length theirs_ : Int))))) B rfl (ev_callF (B.live true) (ea_cons ((ev_va B rfl).w0) (ea_cons ((ev_va B rfl).w0) (ea_cons (ev_tup (ds := [eI (List.length base_ : Int), eI (List.length ours_ : Int), eI (List.length theirs_ : Int)]) live0 (ea_cons (ev_lenM ((ev_va B rfl).w0)) (ea_cons (ev_lenM ((ev_va B rfl).w0)) (ea_cons (ev_lenM ((ev_va B rfl).w0)) ea_nil))) (by simp)) ea_nil))) ⟨(base_, ours_, theirs_), start_r1, ((List.length base_ : Int), (List.length ours_ : Int), (List.length theirs_ : Int)), rfl, by first | assumption | omega | (simp at *; omega), by first | assumption | omega | (simp at *; omega), by first | assumption | omega | (simp at *; omega), rfl⟩) (by first | omega | (simp; done) | (simp; omega) | exact cutG_le' (by omega) | (simp at *; omega)) fun H1 B => ?_
      have B : Bs _ _ _ [.va false ((eL eS) base_), .va false ((eL eS) ours_), .va false ((eL eS) theirs_), .va false ((eT3 (eL eS) (eL eS) (eL eS)) (base_, ours_, theirs_)), .ow true a3 ((chunks_r1 ++ (m__part ((base_, ours_, theirs_)) (start_r1) (((List.length base_ : Int), (List.length ours_ : Int), (List.length theirs_ : Int))))).map (eT4 eS (eTu eS) (eTu eS) (eTu eS))), .va true ((eT3 eI eI eI) start_r1), .no, .no, .no, .no] := B
      have B := B.le (δ' := [.va false ((eL eS) base_), .va false ((eL eS) ours_), .va false ((eL eS) theirs_), .va false ((eT3 (eL eS) (eL eS) (eL eS)) (base_, ours_, theirs_)), .va true ((eL (eT4 eS (eTu eS) (eTu eS) (eTu eS))) (chunks_r1 ++ (m__part ((base_, ours_, theirs_)) (start_r1) (((List.length base_ : Int), (List.length ours_ : Int), (List.length theirs_ : Int)))))), .va true ((eT3 eI eI eI) start_r1), .no, .no, .no, .no]) (.cons (.refl _) (.cons (.refl _) (.cons (.refl _) (.cons (.refl _) (.cons (.fz _ _ _) (.cons (.refl _) (.cons (.refl _) (.cons (.refl _) (.cons (.refl _) (.cons (.refl _) .nil))))))))))
      refine q_ret (f := true) B (ev_va B rfl) fun v H1 x hv => q v H1 (e0.trans x) ?_
      rw [hk]; exact new_of hv

end
end K3
namespace K3
open PySem PySem.Spec PyProof.Rows L2 HL
open Evl (Ex)
/-! ### longest common subsequences -/
def lcs : List Str → List Str → Nat
  | [], _ => 0
  | _ :: _, [] => 0
  | x :: xs, y :: ys => if x = y then lcs xs ys + 1 else max (lcs xs (y :: ys)) (lcs (x :: xs) ys)
termination_by xs ys => xs.length + ys.length
theorem lcs_nil (xs : List Str) : lcs xs [] = 0 := by cases xs <;> simp [lcs]
theorem lcs_nil' (ys : List Str) : lcs [] ys = 0 := by simp [lcs]
theorem lcs_cons (x y : Str) (xs ys : List Str) : lcs (x :: xs) (y :: ys) = if x = y then lcs xs ys + 1 else max (lcs xs (y :: ys)) (lcs (x :: xs) ys) := by rw [lcs]
theorem sub_tail {a : Str} {p : List Str} {x : Str} {xs : List Str} (h : List.Sublist (a :: p) (x :: xs)) : List.Sublist p xs := by
  cases h with
  | cons _ h => exact List.sublist_of_cons_sublist h
  | cons_cons _ h => exact h
theorem lcs_ge : ∀ (xs ys p : List Str), List.Sublist p xs → List.Sublist p ys → p.length ≤ lcs xs ys
  | [], ys, p, h, _ => by cases h; simp
  | x :: xs, [], p, _, h => by cases h; simp
  | x :: xs, y :: ys, [], _, _ => by simp
  | x :: xs, y :: ys, a :: p, h1, h2 => by
    rw [lcs_cons]
    by_cases e : x = y
    · rw [if_pos e]
      have := lcs_ge xs ys p (sub_tail h1) (sub_tail h2)
      simp only [List.length_cons]; omega
    · rw [if_neg e]
      cases h1 with
      | cons _ h => exact Nat.le_trans (lcs_ge xs (y :: ys) (a :: p) h h2) (Nat.le_max_left _ _)
      | cons_cons _ h =>
        cases h2 with
        | cons _ h2 => exact Nat.le_trans (lcs_ge (x :: xs) ys (x :: p) (.cons_cons x h) h2) (Nat.le_max_right _ _)
        | cons_cons _ h2 => exact absurd rfl e
termination_by xs ys => xs.length + ys.length
theorem lcs_is : ∀ (xs ys : List Str), ∃ p : List Str, List.Sublist p xs ∧ List.Sublist p ys ∧ p.length = lcs xs ys
  | [], ys => ⟨[], .slnil, List.nil_sublist _, by simp [lcs]⟩
  | x :: xs, [] => ⟨[], List.nil_sublist _, .slnil, by simp [lcs]⟩
  | x :: xs, y :: ys => by
    rw [lcs_cons]
    by_cases e : x = y
    · rw [if_pos e]
      obtain ⟨p, h1, h2, h3⟩ := lcs_is xs ys
      subst e
      exact ⟨x :: p, .cons_cons x h1, .cons_cons x h2, by simp [h3]⟩
    · rw [if_neg e]
      rcases Nat.le_total (lcs xs (y :: ys)) (lcs (x :: xs) ys) with h | h
      · rw [Nat.max_eq_right h]
        obtain ⟨p, h1, h2, h3⟩ := lcs_is (x :: xs) ys
        exact ⟨p, h1, .cons y h2, h3⟩
      · rw [Nat.max_eq_left h]
        obtain ⟨p, h1, h2, h3⟩ := lcs_is xs (y :: ys)
        exact ⟨p, .cons x h1, h2, h3⟩
termination_by xs ys => xs.length + ys.length
theorem lcs_iff {xs ys : List Str} {t : Nat} : t ≤ lcs xs ys ↔ ∃ p : List Str, List.Sublist p xs ∧ List.Sublist p ys ∧ p.length = t := by
  constructor
  · intro h
    obtain ⟨p, h1, h2, h3⟩ := lcs_is xs ys
    exact ⟨p.take t, (List.take_sublist t p).trans h1, (List.take_sublist t p).trans h2, by rw [List.length_take]; omega⟩
  · rintro ⟨p, h1, h2, rfl⟩
    exact lcs_ge xs ys p h1 h2
theorem sub_at {x : Str} {p ys : List Str} : List.Sublist (x :: p) ys ↔ ∃ k, ys[k]? = some x ∧ List.Sublist p (ys.drop (k + 1)) := by
  induction ys with
  | nil => constructor
           · intro h; cases h
           · rintro ⟨k, h, _⟩; simp at h
  | cons y ys ih =>
    constructor
    · intro h
      cases h with
      | cons _ h =>
        obtain ⟨k, h1, h2⟩ := ih.mp h
        exact ⟨k + 1, by simpa using h1, by simpa using h2⟩
      | cons_cons _ h => exact ⟨0, rfl, by simpa using h⟩
    · rintro ⟨k, h1, h2⟩
      cases k with
      | zero => simp at h1; subst h1; exact .cons_cons _ (by simpa using h2)
      | succ k => exact .cons _ (ih.mpr ⟨k, by simpa using h1, by simpa using h2⟩)
theorem lcs_step {x : Str} {s ys : List Str} {t : Nat} : t + 1 ≤ lcs (x :: s) ys ↔ t + 1 ≤ lcs s ys ∨ ∃ k, ys[k]? = some x ∧ t ≤ lcs s (ys.drop (k + 1)) := by
  constructor
  · intro h
    obtain ⟨p, h1, h2, h3⟩ := lcs_iff.mp h
    cases h1 with
    | cons _ h1 => exact .inl (lcs_iff.mpr ⟨p, h1, h2, h3⟩)
    | @cons_cons p' _ _ h1 =>
      obtain ⟨k, q1, q2⟩ := sub_at.mp h2
      exact .inr ⟨k, q1, lcs_iff.mpr ⟨p', h1, q2, by simpa using h3⟩⟩
  · rintro (h | ⟨k, q1, h⟩)
    · obtain ⟨p, h1, h2, h3⟩ := lcs_iff.mp h
      exact lcs_iff.mpr ⟨p, .cons x h1, h2, h3⟩
    · obtain ⟨p, h1, h2, h3⟩ := lcs_iff.mp h
      exact lcs_iff.mpr ⟨x :: p, .cons_cons x h1, sub_at.mpr ⟨k, q1, h2⟩, by simp [h3]⟩
theorem lcs_le1 {x : Str} {s ys : List Str} : lcs (x :: s) ys ≤ lcs s ys + 1 := by
  obtain ⟨p, h1, h2, h3⟩ := lcs_is (x :: s) ys
  rw [← h3]
  cases h1 with
  | cons _ h1 => have := lcs_ge s ys p h1 h2; omega
  | @cons_cons p' _ _ h1 =>
    have := lcs_ge s ys p' h1 (List.sublist_of_cons_sublist h2)
    simp only [List.length_cons]; omega
/-! ### the table holds them -/
theorem at2_put {m n : Nat} {M : List (List Int)} (D : Dim m n M) {i j : Nat} (hi : i < m) (hj : j < n) (v : Int) (a b : Nat) : at2 (put2 M i j v) a b = if a = i ∧ b = j then v else at2 M a b := by
  have hl : i < M.length := by rw [D.1]; exact hi
  have hr := D.getD hi
  unfold at2 put2
  by_cases ha : a = i
  · subst ha
    have e : (M.set a ((M.getD a []).set j v)).getD a [] = (M.getD a []).set j v := by simp [List.getD, hl]
    rw [e]
    by_cases hb : b = j
    · subst hb
      rw [if_pos ⟨rfl, rfl⟩]
      have : b < (M.getD a []).length := by rw [hr]; exact hj
      simp [List.getD, this] at *
      simp [this]
    · rw [if_neg (fun h => hb h.2)]
      simp [List.getD, List.getElem?_set_ne (fun h => hb h.symm)]
  · rw [if_neg (fun h => ha h.1)]
    have e : (M.set i ((M.getD i []).set j v)).getD a [] = M.getD a [] := by simp [List.getD, List.getElem?_set_ne (fun h => ha h.symm)]
    rw [e]
theorem drop_cons {xs : List Str} {i : Nat} (h : i < xs.length) : xs.drop i = xs.getD i default :: xs.drop (i + 1) := by
  rw [List.drop_eq_getElem_cons h]
  simp [List.getD, h]
structure TInv (old new : List Str) (i : Nat) (M : List (List Int)) : Prop where
  dim : Dim (old.length + 1) (new.length + 1) M
  right : ∀ a b, i ≤ a → a ≤ old.length → b ≤ new.length → at2 M a b = lcs (old.drop a) (new.drop b)
  zero : ∀ a b, a < i → at2 M a b = 0
structure TInv2 (old new : List Str) (i j : Nat) (M : List (List Int)) : Prop where
  dim : Dim (old.length + 1) (new.length + 1) M
  right : ∀ a b, i + 1 ≤ a → a ≤ old.length → b ≤ new.length → at2 M a b = lcs (old.drop a) (new.drop b)
  row : ∀ b, j ≤ b → b ≤ new.length → at2 M i b = lcs (old.drop i) (new.drop b)
  zero : ∀ a b, a < i → at2 M a b = 0
theorem cell_right {old new : List Str} {i j : Nat} {M : List (List Int)} (h : TInv2 old new i (j + 1) M) (hi : i < old.length) (hj : j < new.length) : cell2 old new M i j = lcs (old.drop i) (new.drop j) := by
  unfold cell2
  rw [drop_cons hi, drop_cons hj, lcs_cons]
  have e1 := h.right (i + 1) (j + 1) (by omega) (by omega) (by omega)
  have e2 := h.right (i + 1) j (by omega) (by omega) (by omega)
  have e3 := h.row (j + 1) (by omega) (by omega)
  rw [drop_cons hj] at e2
  rw [drop_cons hi] at e3
  split
  · rw [e1]; simp
  · rw [e2, e3]
    split <;> omega
theorem rowJ_inv {old new : List Str} {i : Nat} (hi : i < old.length) : ∀ (j : Nat) (M : List (List Int)), j ≤ new.length → TInv2 old new i j M → TInv2 old new i 0 ((List.range j).reverse.foldl (rowJ old new i) M)
  | 0, M, _, h => h
  | j + 1, M, hj, h => by
    rw [List.range_succ, List.reverse_append, List.reverse_cons, List.reverse_nil, List.nil_append, List.singleton_append, List.foldl_cons]
    refine rowJ_inv hi j _ (by omega) ?_
    have ap := at2_put h.dim (i := i) (j := j) (by omega) (by omega) (cell2 old new M i j)
    refine ⟨h.dim.put (by omega) _ _, fun a b h1 h2 h3 => ?_, fun b h1 h2 => ?_, fun a b h1 => ?_⟩
    · show at2 (put2 M i j _) a b = _
      rw [ap, if_neg (by omega)]; exact h.right a b h1 h2 h3
    · show at2 (put2 M i j _) i b = _
      rw [ap]
      by_cases e : b = j
      · subst e; rw [if_pos ⟨rfl, rfl⟩]; exact cell_right h hi (by omega)
      · rw [if_neg (by omega)]; exact h.row b (by omega) h2
    · show at2 (put2 M i j _) a b = _
      rw [ap, if_neg (by omega)]; exact h.zero a b h1
theorem rowI_inv {old new : List Str} : ∀ (i : Nat) (M : List (List Int)), i ≤ old.length → TInv old new i M → TInv old new 0 ((List.range i).reverse.foldl (rowI old new) M)
  | 0, M, _, h => h
  | i + 1, M, hi, h => by
    rw [List.range_succ, List.reverse_append, List.reverse_cons, List.reverse_nil, List.nil_append, List.singleton_append, List.foldl_cons]
    refine rowI_inv i _ (by omega) ?_
    have r := rowJ_inv (old := old) (new := new) (i := i) (by omega) new.length M (Nat.le_refl _) ⟨h.dim, fun a b h1 h2 h3 => h.right a b h1 h2 h3, fun b h1 h2 => by
      have e : b = new.length := by omega
      subst e
      rw [h.zero i _ (by omega), List.drop_length, lcs_nil]; rfl, fun a b h1 => h.zero a b (by omega)⟩
    refine ⟨r.dim, fun a b h1 h2 h3 => ?_, fun a b h1 => r.zero a b h1⟩
    by_cases e : a = i
    · subst e; exact r.row b (by omega) h3
    · exact r.right a b (by omega) h2 h3
theorem at2_zero (m n a b : Nat) : at2 (List.replicate m (List.replicate n 0)) a b = 0 := by
  unfold at2
  by_cases h : a < m
  · by_cases h2 : b < n
    · simp [List.getD, h, h2]
    · simp [List.getD, h, h2]
  · simp [List.getD, h]
theorem tbl_is (old new : List Str) {a b : Nat} (ha : a ≤ old.length) (hb : b ≤ new.length) : at2 (m__common_lengths old new) a b = lcs (old.drop a) (new.drop b) :=
  (rowI_inv old.length _ (Nat.le_refl _) ⟨dim0 _ _, fun a b h1 h2 h3 => by
    have e : a = old.length := by omega
    subst e
    rw [at2_zero, List.drop_length, lcs_nil']; rfl, fun a b _ => at2_zero _ _ _ _⟩).right a b (by omega) ha hb

end K3
namespace K3
open PySem PySem.Spec PyProof.Rows L2 HL
open Evl (Ex)
/-! ### the ends hold them -/
/-- places at or ahead of v are those with at least t in common -/
def SpecT (new s : List Str) (t : Nat) (v : Int) : Prop := ∀ j : Nat, j ≤ new.length → (t ≤ lcs s (new.drop j) ↔ (j : Int) ≤ v)
structure RowFor (new s : List Str) (r : List Int) : Prop where
  spec : ∀ t v, r[t]? = some v → SpecT new s t v
  last : ∀ j : Nat, j ≤ new.length → lcs s (new.drop j) < r.length
theorem RowFor.count {new s : List Str} {r : List Int} (h : RowFor new s r) {j : Nat} (hj : j ≤ new.length) : ((r.drop 1).filter fun e => decide ((j : Int) ≤ e)).length = lcs s (new.drop j) := by
  have hl := h.last j hj
  generalize hL : lcs s (new.drop j) = L at hl
  have e : r.drop 1 = (r.drop 1).take L ++ (r.drop 1).drop L := (List.take_append_drop L _).symm
  rw [e, List.filter_append]
  have f1 : ((r.drop 1).take L).filter (fun e => decide ((j : Int) ≤ e)) = (r.drop 1).take L := by
    refine List.filter_eq_self.mpr fun x hx => ?_
    obtain ⟨k, hk⟩ := List.getElem?_of_mem hx
    have hkL : k < L := by
      have := (List.getElem?_eq_some_iff.mp hk).1
      rw [List.length_take] at this; omega
    rw [List.getElem?_take_of_lt hkL, List.getElem?_drop] at hk
    exact decide_eq_true ((h.spec _ _ hk j hj).mp (by omega))
  have f2 : ((r.drop 1).drop L).filter (fun e => decide ((j : Int) ≤ e)) = [] := by
    refine List.filter_eq_nil_iff.mpr fun x hx => ?_
    obtain ⟨k, hk⟩ := List.getElem?_of_mem hx
    rw [List.getElem?_drop, List.getElem?_drop] at hk
    intro z
    have := (h.spec _ _ hk j hj).mpr (of_decide_eq_true z)
    omega
  rw [f1, f2, List.append_nil, List.length_take, List.length_drop]
  omega
theorem maxI_ge : ∀ (xs : List Int) (x : Int), x ∈ xs → x ≤ maxI xs
  | [], x, h => by simp at h
  | [y], x, h => by simp at h; subst h; simp [maxI]
  | y :: z :: r, x, h => by
    simp only [maxI]
    rcases List.mem_cons.mp h with rfl | h
    · exact Int.le_max_left _ _
    · exact Int.le_trans (maxI_ge (z :: r) x h) (Int.le_max_right _ _)
/-- what the law finds for one more line -/
def foundE (new : List Str) (line : Str) (last : List Int) (k : Int) : List Int :=
  (((rng 0 (getI last k)).filter fun j => decide (getI new j = line)).map fun j => j) ++ (if k + 1 < last.length then [getI last (k + 1)] else [])
theorem getI_at {α : Type} [Inhabited α] {xs : List α} {k : Nat} {v : α} (h : xs[k]? = some v) : getI xs (k : Int) = v := by
  rw [getI_nat]; simp [List.getD, h]
theorem found_spec {new s last : List Int → Prop} : True := trivial
theorem foundE_iff {new s : List Str} {x : Str} {last : List Int} (h : RowFor new s last) (hb : ∀ v ∈ last, v ≤ new.length) {k : Nat} (hk : k < last.length) {j : Nat} (hj : j ≤ new.length) :
    k + 1 ≤ lcs (x :: s) (new.drop j) ↔ ∃ e ∈ foundE new x last k, (j : Int) ≤ e := by
  have hv := List.getElem?_eq_getElem hk
  have gk : getI last (k : Int) = last[k] := getI_at hv
  have bk := hb _ (List.getElem_mem hk)
  rw [lcs_step]
  unfold foundE
  constructor
  · rintro (q | ⟨i, q1, q2⟩)
    · have hl := h.last j hj
      have hk1 : k + 1 < last.length := by omega
      have hv1 := List.getElem?_eq_getElem hk1
      refine ⟨last[k + 1], List.mem_append_right _ ?_, (h.spec _ _ hv1 j hj).mp q⟩
      rw [if_pos (by omega)]
      have : getI last ((k : Int) + 1) = last[k + 1] := getI_at (k := k + 1) hv1
      simp [this]
    · rw [List.getElem?_drop] at q1
      have hn : j + i < new.length := (List.getElem?_eq_some_iff.mp q1).1
      rw [List.drop_drop] at q2
      have q3 := (h.spec _ _ hv (j + (i + 1)) (by omega)).mp q2
      refine ⟨((j + i : Nat) : Int), List.mem_append_left _ (List.mem_map.mpr ⟨_, List.mem_filter.mpr ⟨rng_mem.mpr ⟨by omega, by rw [gk]; omega⟩, decide_eq_true (getI_at q1)⟩, rfl⟩), by omega⟩
  · rintro ⟨e, he, hje⟩
    rcases List.mem_append.mp he with he | he
    · obtain ⟨y, hy, rfl⟩ := List.mem_map.mp he
      obtain ⟨h1, h2⟩ := List.mem_filter.mp hy
      have h1 := rng_mem.mp h1
      rw [gk] at h1
      obtain ⟨m, rfl⟩ := Int.eq_ofNat_of_zero_le h1.1
      have hm : m < new.length := by omega
      have e2 : new[m] = x := by
        have := of_decide_eq_true h2
        rw [show getI new (m : Int) = new[m] from getI_at (List.getElem?_eq_getElem hm)] at this
        exact this
      refine .inr ⟨m - j, ?_, ?_⟩
      · rw [List.getElem?_drop, show j + (m - j) = m by omega, List.getElem?_eq_getElem hm, e2]
      · rw [List.drop_drop, show j + (m - j + 1) = m + 1 by omega]
        exact (h.spec _ _ hv (m + 1) (by omega)).mpr (by omega)
    · split at he
      · rename_i hk1
        have hk1 : k + 1 < last.length := by omega
        have hv1 := List.getElem?_eq_getElem hk1
        have : getI last ((k : Int) + 1) = last[k + 1] := getI_at (k := k + 1) hv1
        simp [this] at he
        subst he
        exact .inl ((h.spec _ _ hv1 j hj).mpr hje)
      · simp at he
/-- one turn of the law's inner loop -/
theorem turn_E {new : List Str} {line : Str} {ends : List (List Int)} {row : List Int} {k : Int} : l__law_ends_2 new line ends row k = if foundE new line (getI ends (-1)) k = [] then row else row ++ [maxI (foundE new line (getI ends (-1)) k)] := by
  unfold l__law_ends_2 foundE
  simp only
  by_cases h : k + 1 < ((getI ends (-1)).length : Int)
  · rw [if_pos (decide_eq_true h), if_pos h]
    split
    · rename_i q
      rw [if_neg]
      intro z; rw [z] at q; simp at q
    · rename_i q
      simp at q
  · rw [if_neg (by simpa using h), if_neg h, List.append_nil]
    split
    · rename_i q
      rw [if_neg]
      intro z; rw [z] at q; simp at q
    · rename_i q
      rw [if_pos]
      simpa using q
def PE2 (new s : List Str) (x : Str) (len n : Nat) (row : List Int) : Prop := (row.length = n + 1 ∧ ∀ t v, row[t]? = some v → SpecT new (x :: s) t v) ∨ (n = len ∧ row.length = n ∧ (∀ t v, row[t]? = some v → SpecT new (x :: s) t v) ∧ ∀ j : Nat, j ≤ new.length → lcs (x :: s) (new.drop j) < n)
theorem spec_app {new s : List Str} {row : List Int} {v : Int} {n : Nat} (hl : row.length = n) (h : ∀ t v, row[t]? = some v → SpecT new s t v) (hv : SpecT new s n v) : ∀ t u, (row ++ [v])[t]? = some u → SpecT new s t u := fun t u q => by
  by_cases ht : t < row.length
  · rw [List.getElem?_append_left ht] at q; exact h t u q
  · rw [List.getElem?_append_right (by omega)] at q
    have h0 : t - row.length = 0 := by
      have := (List.getElem?_eq_some_iff.mp q).1
      simp at this; omega
    rw [h0] at q
    simp at q; subst q
    have e : t = n := by omega
    rw [e]; exact hv
theorem inner_E {new s : List Str} {x : Str} {ends : List (List Int)} (h : RowFor new s (getI ends (-1))) (hb : ∀ v ∈ getI ends (-1), v ≤ new.length) (hne : 1 ≤ (getI ends (-1)).length) :
    RowFor new (x :: s) (List.foldl (l__law_ends_2 new x ends) [(new.length : Int)] (rng 0 ((getI ends (-1)).length : Int))) := by
  generalize hlast : getI ends (-1) = last at h hb hne
  have gen : ∀ n : Nat, n ≤ last.length → PE2 new s x last.length n (List.foldl (l__law_ends_2 new x ends) [(new.length : Int)] ((rng 0 (last.length : Int)).take n)) := by
    intro n
    induction n with
    | zero =>
      intro _
      refine .inl ⟨rfl, fun t v q j hj => ?_⟩
      have h0 : t = 0 := by
        have := (List.getElem?_eq_some_iff.mp q).1
        simp at this; omega
      subst h0
      simp at q; subst q
      exact ⟨fun _ => by omega, fun _ => Nat.zero_le _⟩
    | succ n ih =>
      intro hn
      have ihn := ih (by omega)
      rw [take_fold (rng_get (by omega)), turn_E, hlast]
      have ek : (0 : Int) + n = (n : Int) := by omega
      rw [ek]
      generalize hr : List.foldl (l__law_ends_2 new x ends) [(new.length : Int)] ((rng 0 (last.length : Int)).take n) = row at ihn
      rcases ihn with ⟨hl, hs⟩ | ⟨hl, _⟩
      · have iff := fun {j : Nat} (hj : j ≤ new.length) => foundE_iff (x := x) h hb (k := n) (by omega) hj
        by_cases hf : foundE new x last n = []
        · rw [if_pos hf]
          have none1 : ∀ j : Nat, j ≤ new.length → lcs (x :: s) (new.drop j) < n + 1 := fun j hj => by
            have := (not_congr (iff hj)).mpr (by rw [hf]; simp)
            omega
          refine .inr ⟨?_, hl, hs, none1⟩
          -- only the last turn finds nothing
          have : ¬ ((n : Int) + 1 < last.length) := fun z => by
            unfold foundE at hf
            rw [if_pos z] at hf
            simp at hf
          omega
        · rw [if_neg hf]
          refine .inl ⟨by rw [List.length_append, hl]; rfl, spec_app hl hs fun j hj => ?_⟩
          rw [iff hj]
          constructor
          · rintro ⟨e, he, hje⟩
            have := maxI_ge _ e he
            omega
          · intro hje
            exact ⟨_, maxI_mem _ hf, hje⟩
      · omega
  have fin := gen last.length (Nat.le_refl _)
  have et : (rng 0 (last.length : Int)).take last.length = rng 0 (last.length : Int) := List.take_of_length_le (by rw [rng_len]; omega)
  rw [et] at fin
  rcases fin with ⟨hl, hs⟩ | ⟨_, hl, hs, hn⟩
  · refine ⟨hs, fun j hj => ?_⟩
    rw [hl]
    have := h.last j hj
    have := lcs_le1 (x := x) (s := s) (ys := new.drop j)
    omega
  · exact ⟨hs, fun j hj => by rw [hl]; exact hn j hj⟩
theorem row0 (new : List Str) : RowFor new [] [(new.length : Int)] := ⟨fun t v q j hj => by
  have h0 : t = 0 := by
    have := (List.getElem?_eq_some_iff.mp q).1
    simp at this; omega
  subst h0
  simp at q; subst q
  exact ⟨fun _ => by omega, fun _ => Nat.zero_le _⟩, fun j hj => by rw [lcs_nil']; simp⟩
theorem ends_is (old new : List Str) : (m__law_ends old new).length = old.length + 1 ∧ ∀ t, t ≤ old.length → ∃ r, (m__law_ends old new)[t]? = some r ∧ RowFor new (old.drop (old.length - t)) r := by
  have gen : ∀ n : Nat, n ≤ old.length → ((List.foldl (l__law_ends_1 new) [[(new.length : Int)]] (old.reverse.take n)).length = n + 1 ∧ ∀ t, t ≤ n → ∃ r, (List.foldl (l__law_ends_1 new) [[(new.length : Int)]] (old.reverse.take n))[t]? = some r ∧ RowFor new (old.drop (old.length - t)) r ∧ RowOk new.length (n + 1) r) := by
    intro n
    induction n with
    | zero =>
      intro _
      refine ⟨rfl, fun t ht => ⟨[(new.length : Int)], ?_, ?_, ⟨by simp, by simp, fun x hx => by simp at hx; omega⟩⟩⟩
      · have : t = 0 := by omega
        subst this; rfl
      · have : old.length - t = old.length := by omega
        rw [this, List.drop_length]; exact row0 new
    | succ n ih =>
      intro hn
      obtain ⟨hl, hr⟩ := ih (by omega)
      obtain ⟨x, hx, ed⟩ : ∃ x, old.reverse[n]? = some x ∧ x :: old.drop (old.length - n) = old.drop (old.length - (n + 1)) := by
        refine ⟨old[old.length - 1 - n]'(by omega), ?_, ?_⟩
        · rw [List.getElem?_reverse (by omega), List.getElem?_eq_getElem (by omega)]
        · have e1 : old.length - n = (old.length - (n + 1)) + 1 := by omega
          rw [e1]
          have e2 : old.length - 1 - n = old.length - (n + 1) := by omega
          have e3 := List.drop_eq_getElem_cons (l := old) (i := old.length - (n + 1)) (by omega)
          rw [e3]
          congr 2
      rw [take_fold hx]
      generalize hE : List.foldl (l__law_ends_1 new) [[(new.length : Int)]] (old.reverse.take n) = E at hl hr
      obtain ⟨r, h1, h2, h3⟩ := hr n (Nat.le_refl _)
      have gl : getI E (-1) = r := by
        unfold getI atI ixN
        rw [if_neg (by omega), if_pos (by omega), hl]
        simp
        have : ((-1 : Int) + ((n : Int) + 1)).toNat = n := by omega
        rw [this, h1]; rfl
      have inner := inner_E (x := x) (ends := E) (by rw [gl]; exact h2) (by rw [gl]; exact fun v hv => (h3.2.2 v hv).2) (by rw [gl]; exact h3.1)
      rw [ed] at inner
      have dim := fold_inv (f := l__law_ends_2 new x E) (P := fun k r => RowOk new.length (k + 1) r) (rng 0 ((getI E (-1)).length : Int)) 0 [(new.length : Int)] ⟨by simp, by simp, fun x hx => by simp at hx; omega⟩ (fun k r2 y hy h => by
        have hy := rng_mem.mp hy
        exact ends_J2 h (m := n + 1) (by rw [gl]; exact h3) (by omega) (by omega))
      rw [rng_len] at dim
      refine ⟨by unfold l__law_ends_1; simp; omega, fun t ht => ?_⟩
      by_cases q : t ≤ n
      · obtain ⟨r', k1, k2, k3⟩ := hr t q
        refine ⟨r', ?_, k2, k3.up (by omega)⟩
        unfold l__law_ends_1
        simp only
        rw [List.getElem?_append_left (by omega)]; exact k1
      · have e : t = n + 1 := by omega
        subst e
        refine ⟨_, ?_, inner, dim.up ?_⟩
        · unfold l__law_ends_1
          simp only
          rw [List.getElem?_append_right (by omega), hl]
          simp
        · rw [gl]
          have := h3.2.1
          omega
  have g := gen old.length (Nat.le_refl _)
  have et : old.reverse.take old.length = old.reverse := List.take_of_length_le (by simp)
  rw [et] at g
  exact ⟨g.1, fun t ht => by obtain ⟨r, h1, h2, _⟩ := g.2 t ht; exact ⟨r, h1, h2⟩⟩
theorem common_is (old new : List Str) {i j : Nat} (hi : i ≤ old.length) (hj : j ≤ new.length) : m__law_common (m__law_ends old new) i j = lcs (old.drop i) (new.drop j) := by
  obtain ⟨h1, h2⟩ := ends_is old new
  obtain ⟨r, h3, h4⟩ := h2 (old.length - i) (by omega)
  have e : getI (m__law_ends old new) (((m__law_ends old new).length : Int) - 1 - i) = r := by
    rw [h1]
    have : ((old.length + 1 : Nat) : Int) - 1 - i = ((old.length - i : Nat) : Int) := by omega
    rw [this]; exact getI_at h3
  have e2 : old.length - (old.length - i) = i := by omega
  rw [e2] at h4
  unfold m__law_common
  rw [e, cutG_from _ (by decide), List.length_map]
  have := h4.count hj
  rw [show (1 : Int).toNat = 1 from rfl, this]

end K3
namespace K3
open PySem PySem.Spec PyProof.Rows L2 HL
open Evl (Ex)
/-- where a walk stands -/
def WI (old new : List Str) (s : List (Int × Int) × Int × Int) : Prop := ∃ a b : Nat, s.2.1 = a ∧ s.2.2 = b ∧ a ≤ old.length ∧ b ≤ new.length ∧ s.1.length + lcs (old.drop a) (new.drop b) = lcs old new
theorem getI2 {M : List (List Int)} {a b : Nat} : getI (getI M (a : Int)) (b : Int) = at2 M a b := by
  unfold at2
  rw [getI_nat, getI_nat]; rfl
theorem cond_true {old new : List Str} {acc : List (Int × Int)} {a b : Nat} (h : l_matched_1_c old new (acc, (a : Int), (b : Int)) = true) : a < old.length ∧ b < new.length := by
  unfold l_matched_1_c at h
  simp at h
  omega
theorem cond_false {old new : List Str} {acc : List (Int × Int)} {a b : Nat} (ha : a ≤ old.length) (hb : b ≤ new.length) (h : l_matched_1_c old new (acc, (a : Int), (b : Int)) = false) : a = old.length ∨ b = new.length := by
  unfold l_matched_1_c at h
  simp at h
  omega
theorem step_m {old new : List Str} {acc : List (Int × Int)} {a b : Nat} (ha : a < old.length) (hb : b < new.length) : l_matched_1 old new (acc, (a : Int), (b : Int)) =
    if old.getD a default = new.getD b default then (acc ++ [((a : Int), (b : Int))], ((a + 1 : Nat) : Int), ((b + 1 : Nat) : Int))
    else if lcs (old.drop a) (new.drop (b + 1)) ≤ lcs (old.drop (a + 1)) (new.drop b) then (acc, ((a + 1 : Nat) : Int), (b : Int)) else (acc, (a : Int), ((b + 1 : Nat) : Int)) := by
  unfold l_matched_1
  simp only
  have e1 : ((a : Int) + 1) = ((a + 1 : Nat) : Int) := by omega
  have e2 : ((b : Int) + 1) = ((b + 1 : Nat) : Int) := by omega
  rw [e1, e2, getI_nat, getI_nat, getI2, getI2, tbl_is old new (by omega) (by omega), tbl_is old new (by omega) (by omega)]
  simp only [decide_eq_true_eq, Int.ofNat_le]
theorem step_w {old new : List Str} {acc : List (Int × Int)} {a b : Nat} (ha : a < old.length) (hb : b < new.length) : l__law_walk_1 old new (acc, (a : Int), (b : Int)) =
    if old.getD a default = new.getD b default then (acc ++ [((a : Int), (b : Int))], ((a + 1 : Nat) : Int), ((b + 1 : Nat) : Int))
    else if lcs (old.drop a) (new.drop (b + 1)) ≤ lcs (old.drop (a + 1)) (new.drop b) then (acc, ((a + 1 : Nat) : Int), (b : Int)) else (acc, (a : Int), ((b + 1 : Nat) : Int)) := by
  unfold l__law_walk_1
  simp only
  have e1 : ((a : Int) + 1) = ((a + 1 : Nat) : Int) := by omega
  have e2 : ((b : Int) + 1) = ((b + 1 : Nat) : Int) := by omega
  rw [e1, e2, getI_nat, getI_nat, common_is old new (by omega) (by omega), common_is old new (by omega) (by omega)]
  simp only [decide_eq_true_eq, Int.ofNat_le]
theorem WI.step {old new : List Str} {s : List (Int × Int) × Int × Int} (h : WI old new s) (hc : l_matched_1_c old new s = true) : l_matched_1 old new s = l__law_walk_1 old new s ∧ WI old new (l_matched_1 old new s) := by
  obtain ⟨acc, i, j⟩ := s
  obtain ⟨a, b, e1, e2, ha, hb, hl⟩ := h
  simp only at e1 e2 hl
  subst e1; subst e2
  obtain ⟨ha, hb⟩ := cond_true hc
  refine ⟨by rw [step_m ha hb, step_w ha hb], ?_⟩
  rw [step_m ha hb]
  have l1 := drop_cons ha
  have l2 := drop_cons hb
  have hlc : lcs (old.drop a) (new.drop b) = if old.getD a default = new.getD b default then lcs (old.drop (a + 1)) (new.drop (b + 1)) + 1 else max (lcs (old.drop (a + 1)) (new.drop b)) (lcs (old.drop a) (new.drop (b + 1))) := by
    rw [l1, l2, lcs_cons]
  split
  · rename_i q
    rw [if_pos q] at hlc
    exact ⟨a + 1, b + 1, rfl, rfl, by omega, by omega, by simp; omega⟩
  · rename_i q
    rw [if_neg q] at hlc
    split
    · exact ⟨a + 1, b, rfl, rfl, by omega, by omega, by show acc.length + _ = _; omega⟩
    · exact ⟨a, b + 1, rfl, rfl, by omega, by omega, by show acc.length + _ = _; omega⟩
theorem less_m {old new : List Str} {s : List (Int × Int) × Int × Int} (h : WI old new s) (hc : l_matched_1_c old new s = true) : l_matched_1_m old new (l_matched_1 old new s) < l_matched_1_m old new s := by
  obtain ⟨acc, i, j⟩ := s
  obtain ⟨a, b, e1, e2, ha, hb, hl⟩ := h
  simp only at e1 e2
  subst e1; subst e2
  obtain ⟨ha, hb⟩ := cond_true hc
  have me : ∀ (acc : List (Int × Int)) (i j : Int), l_matched_1_m old new (acc, i, j) = ((old.length : Int) + new.length - i - j).toNat := fun _ _ _ => rfl
  rw [step_m ha hb]
  by_cases q1 : old.getD a default = new.getD b default
  · rw [if_pos q1, me, me]; omega
  · rw [if_neg q1]
    by_cases q2 : lcs (old.drop a) (new.drop (b + 1)) ≤ lcs (old.drop (a + 1)) (new.drop b)
    · rw [if_pos q2, me, me]; omega
    · rw [if_neg q2, me, me]; omega
theorem WI0 (old new : List Str) : WI old new ([], (0 : Int), (0 : Int)) := ⟨0, 0, rfl, rfl, Nat.zero_le _, Nat.zero_le _, by simp⟩
theorem math1 (old new : List Str) : m__law_walk old new = m_matched old new := by
  have h := whileF_congr (c := l_matched_1_c old new) (c' := l__law_walk_1_c old new) (f := l_matched_1 old new) (f' := l__law_walk_1 old new) (I := WI old new) (fun s _ => rfl) (fun s h hc => h.step hc) (l_matched_1_m old new ([], (0 : Int), (0 : Int))) ([], (0 : Int), (0 : Int)) (WI0 old new)
  unfold m__law_walk m_matched
  rw [h]; rfl
theorem matched_len (old new : List Str) : (m_matched old new).length = lcs old new := by
  have h := whileF_post (c := l_matched_1_c old new) (f := l_matched_1 old new) (I := WI old new) (M := l_matched_1_m old new) (fun s h hc => ⟨(h.step hc).2, less_m h hc⟩) (l_matched_1_m old new ([], (0 : Int), (0 : Int))) ([], (0 : Int), (0 : Int)) (WI0 old new) (Nat.le_refl _)
  unfold m_matched
  generalize whileF (l_matched_1_c old new) (l_matched_1 old new) (l_matched_1_m old new ([], (0 : Int), (0 : Int))) ([], (0 : Int), (0 : Int)) = s at h
  obtain ⟨⟨a, b, e1, e2, ha, hb, hl⟩, hc⟩ := h
  obtain ⟨acc, i, j⟩ := s
  simp only at e1 e2 hl
  subst e1; subst e2
  show acc.length = lcs old new
  rcases cond_false ha hb hc with q | q
  · subst q; rw [List.drop_length, lcs_nil'] at hl; omega
  · subst q; rw [List.drop_length, lcs_nil] at hl; omega
theorem lcs_le (xs ys : List Str) : lcs xs ys ≤ xs.length := by
  obtain ⟨p, h1, _, h3⟩ := lcs_is xs ys
  rw [← h3]; exact h1.length_le
/-! ### a text and itself -/
def AI (old : List Str) (s : List (Int × Int) × Int × Int) : Prop := ∃ a : Nat, s.2.1 = a ∧ s.2.2 = a ∧ a ≤ old.length ∧ s.1 = (List.range a).map fun (k : Nat) => ((k : Int), (k : Int))
theorem alike_is (old : List Str) : m_matched old old = (rng 0 (List.length old : Int)).map fun (k_c : Int) => (k_c, k_c) := by
  have h := whileF_post (c := l_matched_1_c old old) (f := l_matched_1 old old) (I := fun s => WI old old s ∧ AI old s) (M := l_matched_1_m old old) (fun s ⟨h, h2⟩ hc => by
    refine ⟨⟨(h.step hc).2, ?_⟩, less_m h hc⟩
    obtain ⟨acc, i, j⟩ := s
    obtain ⟨a, e1, e2, ha, e3⟩ := h2
    simp only at e1 e2 e3
    subst e1; subst e2; subst e3
    obtain ⟨h1, h2⟩ := cond_true hc
    rw [step_m h1 h2, if_pos rfl]
    refine ⟨a + 1, rfl, rfl, by omega, ?_⟩
    rw [List.range_succ, List.map_append]; rfl) (l_matched_1_m old old ([], (0 : Int), (0 : Int))) ([], (0 : Int), (0 : Int)) ⟨WI0 old old, 0, rfl, rfl, Nat.zero_le _, rfl⟩ (Nat.le_refl _)
  unfold m_matched
  generalize whileF (l_matched_1_c old old) (l_matched_1 old old) (l_matched_1_m old old ([], (0 : Int), (0 : Int))) ([], (0 : Int), (0 : Int)) = s at h
  obtain ⟨⟨_, a, e1, e2, ha, e3⟩, hc⟩ := h
  obtain ⟨acc, i, j⟩ := s
  simp only at e1 e2 e3
  subst e1; subst e2; subst e3
  show ((List.range a).map fun (k : Nat) => ((k : Int), (k : Int))) = _
  have e : a = old.length := by
    rcases cond_false ha ha hc with q | q <;> exact q
  subst e
  unfold rng
  rw [List.map_map]
  have : ((old.length : Int) - 0).toNat = old.length := by omega
  rw [this]
  refine List.map_congr_left fun k _ => ?_
  simp
/-! ### cutting texts into edits -/
abbrev Edt := Int × List Str × List Str
def Ch (old new : List Str) : Nat → Nat → List (Nat × Nat) → Nat → Nat → Prop
  | i, j, [], e, f => i ≤ e ∧ j ≤ f
  | i, j, p :: ps, e, f => i ≤ p.1 ∧ j ≤ p.2 ∧ p.1 < old.length ∧ p.2 < new.length ∧ old[p.1]? = new[p.2]? ∧ Ch old new (p.1 + 1) (p.2 + 1) ps e f
theorem Ch.weak {old new : List Str} {e f e' f' : Nat} (he : e ≤ e') (hf : f ≤ f') : ∀ {ps : List (Nat × Nat)} {i j : Nat}, Ch old new i j ps e f → Ch old new i j ps e' f'
  | [], i, j, h => ⟨Nat.le_trans h.1 he, Nat.le_trans h.2 hf⟩
  | p :: ps, i, j, ⟨h1, h2, h3, h4, h5, h6⟩ => ⟨h1, h2, h3, h4, h5, Ch.weak he hf h6⟩
theorem Ch.snoc {old new : List Str} {e f : Nat} (he : e < old.length) (hf : f < new.length) (hq : old[e]? = new[f]?) : ∀ {ps : List (Nat × Nat)} {i j : Nat}, Ch old new i j ps e f → Ch old new i j (ps ++ [(e, f)]) (e + 1) (f + 1)
  | [], i, j, h => ⟨h.1, h.2, he, hf, hq, Nat.le_refl _, Nat.le_refl _⟩
  | p :: ps, i, j, ⟨h1, h2, h3, h4, h5, h6⟩ => ⟨h1, h2, h3, h4, h5, Ch.snoc he hf hq h6⟩
theorem Ch.swap {old new : List Str} {e f : Nat} : ∀ {ps : List (Nat × Nat)} {i j : Nat}, Ch old new i j ps e f → Ch new old j i (ps.map Prod.swap) f e
  | [], i, j, h => ⟨h.2, h.1⟩
  | p :: ps, i, j, ⟨h1, h2, h3, h4, h5, h6⟩ => ⟨h2, h1, h4, h3, h5.symm, Ch.swap h6⟩
def cP (q : Nat × Nat) : Int × Int := ((q.1 : Int), (q.2 : Int))
def CI (old new : List Str) (s : List (Int × Int) × Int × Int) : Prop := ∃ (ps : List (Nat × Nat)) (a b : Nat), s = (ps.map cP, (a : Int), (b : Int)) ∧ a ≤ old.length ∧ b ≤ new.length ∧ Ch old new 0 0 ps a b
theorem CI.step {old new : List Str} {s : List (Int × Int) × Int × Int} (h : CI old new s) (hc : l_matched_1_c old new s = true) : CI old new (l_matched_1 old new s) ∧ l_matched_1_m old new (l_matched_1 old new s) < l_matched_1_m old new s := by
  obtain ⟨ps, a, b, rfl, ha, hb, hC⟩ := h
  obtain ⟨h1, h2⟩ := cond_true hc
  rw [step_m h1 h2]
  by_cases q : old.getD a default = new.getD b default
  · rw [if_pos q]
    refine ⟨⟨ps ++ [(a, b)], a + 1, b + 1, by simp [cP], h1, h2, hC.snoc h1 h2 ?_⟩, ?_⟩
    · simp [h1, h2] at q ⊢; exact q
    · simp only [l_matched_1_m]; omega
  · rw [if_neg q]
    by_cases q2 : lcs (old.drop a) (new.drop (b + 1)) ≤ lcs (old.drop (a + 1)) (new.drop b)
    · rw [if_pos q2]
      exact ⟨⟨ps, a + 1, b, rfl, h1, hb, hC.weak (by omega) (Nat.le_refl _)⟩, by simp only [l_matched_1_m]; omega⟩
    · rw [if_neg q2]
      exact ⟨⟨ps, a, b + 1, rfl, ha, h2, hC.weak (Nat.le_refl _) (by omega)⟩, by simp only [l_matched_1_m]; omega⟩
theorem matched_ch (old new : List Str) : ∃ ps : List (Nat × Nat), m_matched old new = ps.map cP ∧ Ch old new 0 0 ps old.length new.length := by
  have h := whileF_post (c := l_matched_1_c old new) (f := l_matched_1 old new) (I := CI old new) (M := l_matched_1_m old new) (fun s h hc => h.step hc) (l_matched_1_m old new ([], (0 : Int), (0 : Int))) ([], (0 : Int), (0 : Int)) ⟨[], 0, 0, rfl, Nat.zero_le _, Nat.zero_le _, Nat.le_refl _, Nat.le_refl _⟩ (Nat.le_refl _)
  unfold m_matched
  generalize whileF (l_matched_1_c old new) (l_matched_1 old new) (l_matched_1_m old new ([], (0 : Int), (0 : Int))) ([], (0 : Int), (0 : Int)) = s at h
  obtain ⟨⟨ps, a, b, rfl, ha, hb, hC⟩, _⟩ := h
  exact ⟨ps, rfl, hC.weak ha hb⟩
def cutN (xs : List Str) (a b : Nat) : List Str := (xs.drop a).take (b - a)
theorem cutG_nat {xs : List Str} {a b : Nat} (hb : b ≤ xs.length) (h : a ≤ b) : cutG xs (some (a : Int)) (some (b : Int)) = cutN xs a b := by
  unfold cutG cutN
  rw [HT.sIx_nat, HT.sIx_nat, Nat.min_eq_left hb, Nat.min_eq_left (by omega)]
theorem cutG_from {xs : List Str} {a : Nat} (h : a ≤ xs.length) : cutG xs (some (a : Int)) none = xs.drop a := by
  unfold cutG
  rw [HT.sIx_nat, HT.sIx_none, Nat.min_eq_left h]
  exact List.take_of_length_le (by simp)
theorem cutN_len {xs : List Str} {a b : Nat} (hb : b ≤ xs.length) : (cutN xs a b).length = b - a := by
  unfold cutN
  simp; omega
theorem cutN_app {xs : List Str} {a b : Nat} (hb : b ≤ xs.length) (h : a ≤ b) : cutN xs a b ++ xs.drop b = xs.drop a := by
  unfold cutN
  have : xs.drop b = (xs.drop a).drop (b - a) := by rw [List.drop_drop]; congr 1; omega
  rw [this, List.take_append_drop]
theorem cutN_snoc {xs : List Str} {a b : Nat} {c : Str} (hc : xs[b]? = some c) (h : a ≤ b) : cutN xs a (b + 1) = cutN xs a b ++ [c] := by
  unfold cutN
  rw [show b + 1 - a = (b - a) + 1 by omega, List.take_add_one, List.getElem?_drop, show a + (b - a) = b by omega, hc]; rfl
theorem cutN_self {xs : List Str} {a : Nat} : cutN xs a a = [] := by unfold cutN; simp
theorem drop_c {xs : List Str} {b : Nat} {c : Str} (hc : xs[b]? = some c) : xs.drop b = c :: xs.drop (b + 1) := by
  rw [List.getElem?_eq_some_iff] at hc
  obtain ⟨h, rfl⟩ := hc
  exact List.drop_eq_getElem_cons h

end K3
namespace K3
open PySem PySem.Spec PyProof.Rows L2 HL
open Evl (Ex)
def l__law_mates_1 (s : (List Int)) (pair_t1 : (Int × Int)) : (List Int) :=
  match s with
  | mates_1 => (setI mates_1 pair_t1.1 pair_t1.2)

def m__law_mates (base_ : (List Str)) (side_ : (List Str)) : (List Int) :=
  (match (List.foldl (l__law_mates_1) (base_.map fun (line_c : Str) => (-1 : Int)) (m__law_walk (base_) (side_))) with | mates_r1 => mates_r1)

theorem ch_in {old new : List Str} : ∀ {ps : List (Nat × Nat)} {i j : Nat}, Ch old new i j ps old.length new.length → ∀ p ∈ ps, p.1 < old.length ∧ p.2 < new.length
  | [], _, _, _, p, h => by simp at h
  | q :: ps, i, j, ⟨_, _, h3, h4, _, h6⟩, p, h => by
    rcases List.mem_cons.mp h with rfl | h
    · exact ⟨h3, h4⟩
    · exact ch_in h6 p h
theorem walk_in (old new : List Str) : ∀ p ∈ m__law_walk old new, 0 ≤ p.1 ∧ p.1 < old.length ∧ 0 ≤ p.2 ∧ p.2 < new.length := by
  rw [math1]
  obtain ⟨ps, e, h⟩ := matched_ch old new
  rw [e]
  intro p hp
  obtain ⟨q, hq, rfl⟩ := List.mem_map.mp hp
  have := ch_in h q hq
  unfold cP
  simp only
  omega

def l__law_chunks_1 (base_ : (List Str)) (ours_ : (List Str)) (theirs_ : (List Str)) (s : (List Str) × (List (Str × (List Str) × (List Str) × (List Str))) × (List Int)) (mark_t1 : (List Int)) : (List Str) × (List (Str × (List Str) × (List Str) × (List Str))) × (List Int) :=
  match s with
  | (run_1, chunks_1, spot_1) => (if ((!decide (mark_t1 = spot_1)) || (decide (mark_t1 = (getI (((((rng 0 (List.length base_ : Int)).filter fun (i_c : Int) => ((decide ((0 : Int) ≤ (getI (m__law_mates (base_) (ours_)) i_c))) && (decide ((0 : Int) ≤ (getI (m__law_mates (base_) (theirs_)) i_c))))).map fun (i_c : Int) => i_c).map fun (i_c : Int) => [i_c, (getI (m__law_mates (base_) (ours_)) i_c), (getI (m__law_mates (base_) (theirs_)) i_c)]) ++ ([[(List.length base_ : Int), (List.length ours_ : Int), (List.length theirs_ : Int)]])) (-1 : Int))))) = true then (if (!decide (run_1 = ([]))) = true then (if (!decide (mark_t1 = spot_1)) = true then ((([] : (List Str)) ++ (cutG base_ (some (getI mark_t1 (0 : Int))) (some ((getI mark_t1 (0 : Int)) + (1 : Int))))), ((chunks_1 ++ [(("same" : Str), run_1, run_1, run_1)]) ++ [(("part" : Str), (cutG base_ (some (getI spot_1 (0 : Int))) (some (getI mark_t1 (0 : Int)))), (cutG ours_ (some (getI spot_1 (1 : Int))) (some (getI mark_t1 (1 : Int)))), (cutG theirs_ (some (getI spot_1 (2 : Int))) (some (getI mark_t1 (2 : Int)))))]), [((getI mark_t1 (0 : Int)) + (1 : Int)), ((getI mark_t1 (1 : Int)) + (1 : Int)), ((getI mark_t1 (2 : Int)) + (1 : Int))]) else ((([] : (List Str)) ++ (cutG base_ (some (getI mark_t1 (0 : Int))) (some ((getI mark_t1 (0 : Int)) + (1 : Int))))), (chunks_1 ++ [(("same" : Str), run_1, run_1, run_1)]), [((getI mark_t1 (0 : Int)) + (1 : Int)), ((getI mark_t1 (1 : Int)) + (1 : Int)), ((getI mark_t1 (2 : Int)) + (1 : Int))])) else (if (!decide (mark_t1 = spot_1)) = true then ((([] : (List Str)) ++ (cutG base_ (some (getI mark_t1 (0 : Int))) (some ((getI mark_t1 (0 : Int)) + (1 : Int))))), (chunks_1 ++ [(("part" : Str), (cutG base_ (some (getI spot_1 (0 : Int))) (some (getI mark_t1 (0 : Int)))), (cutG ours_ (some (getI spot_1 (1 : Int))) (some (getI mark_t1 (1 : Int)))), (cutG theirs_ (some (getI spot_1 (2 : Int))) (some (getI mark_t1 (2 : Int)))))]), [((getI mark_t1 (0 : Int)) + (1 : Int)), ((getI mark_t1 (1 : Int)) + (1 : Int)), ((getI mark_t1 (2 : Int)) + (1 : Int))]) else ((([] : (List Str)) ++ (cutG base_ (some (getI mark_t1 (0 : Int))) (some ((getI mark_t1 (0 : Int)) + (1 : Int))))), chunks_1, [((getI mark_t1 (0 : Int)) + (1 : Int)), ((getI mark_t1 (1 : Int)) + (1 : Int)), ((getI mark_t1 (2 : Int)) + (1 : Int))]))) else ((run_1 ++ (cutG base_ (some (getI mark_t1 (0 : Int))) (some ((getI mark_t1 (0 : Int)) + (1 : Int))))), chunks_1, [((getI mark_t1 (0 : Int)) + (1 : Int)), ((getI mark_t1 (1 : Int)) + (1 : Int)), ((getI mark_t1 (2 : Int)) + (1 : Int))]))

def m__law_chunks (base_ : (List Str)) (ours_ : (List Str)) (theirs_ : (List Str)) : (List (Str × (List Str) × (List Str) × (List Str))) :=
  (match (List.foldl (l__law_chunks_1 base_ ours_ theirs_) (([] : (List Str)), ([] : (List (Str × (List Str) × (List Str) × (List Str)))), [(0 : Int), (0 : Int), (0 : Int)]) (((((rng 0 (List.length base_ : Int)).filter fun (i_c : Int) => ((decide ((0 : Int) ≤ (getI (m__law_mates (base_) (ours_)) i_c))) && (decide ((0 : Int) ≤ (getI (m__law_mates (base_) (theirs_)) i_c))))).map fun (i_c : Int) => i_c).map fun (i_c : Int) => [i_c, (getI (m__law_mates (base_) (ours_)) i_c), (getI (m__law_mates (base_) (theirs_)) i_c)]) ++ ([[(List.length base_ : Int), (List.length ours_ : Int), (List.length theirs_ : Int)]]))) with | (run_r1, chunks_r1, spot_r1) => chunks_r1)

theorem foldl_len {α β : Type} {f : List β → α → List β} (h : ∀ s x, (f s x).length = s.length) : ∀ (xs : List α) (s : List β), (xs.foldl f s).length = s.length
  | [], s => rfl
  | x :: xs, s => by rw [List.foldl_cons, foldl_len h xs, h]
theorem mates_len (base side : List Str) : (m__law_mates base side).length = base.length := by
  unfold m__law_mates
  rw [foldl_len (fun s x => by unfold l__law_mates_1; rw [setI_len])]
  simp
def sel4 (x : Str × List Str × List Str × List Str) (i : Int) : List Str := if i = 1 then x.2.1 else if i = 2 then x.2.2.1 else x.2.2.2
def marksI (base ours theirs : List Str) : List (List Int) := ((((rng 0 (base.length : Int)).filter fun i => decide (0 ≤ getI (m__law_mates base ours) i) && decide (0 ≤ getI (m__law_mates base theirs) i)).map (fun i => i)).map fun i => [i, getI (m__law_mates base ours) i, getI (m__law_mates base theirs) i]) ++ [[(base.length : Int), (ours.length : Int), (theirs.length : Int)]]
theorem cutG_mem {α : Type} {xs : List α} {lo hi : Option Int} {x : α} (h : x ∈ cutG xs lo hi) : x ∈ xs := by
  unfold cutG at h
  exact List.mem_of_mem_drop (List.mem_of_mem_take h)
theorem stab_in {p : Int → Bool} {n i : Int} (h : i ∈ ((rng 0 n).filter p).map fun (i_c : Int) => i_c) : 0 ≤ i ∧ i < n := by
  obtain ⟨j, hj, rfl⟩ := List.mem_map.mp h
  exact rng_mem.mp (List.mem_filter.mp hj).1
theorem marks_3 {base ours theirs : List Str} {m : List Int} (h : m ∈ marksI base ours theirs) : m.length = 3 := by
  rcases List.mem_append.mp h with h | h
  · obtain ⟨i, _, rfl⟩ := List.mem_map.mp h; rfl
  · rw [List.mem_singleton.mp h]; rfl
theorem marks_le (base ours theirs : List Str) : (marksI base ours theirs).length ≤ base.length + 1 := by
  unfold marksI
  rw [List.length_append, List.length_map, List.length_map]
  have := List.length_filter_le (fun i => decide (0 ≤ getI (m__law_mates base ours) i) && decide (0 ≤ getI (m__law_mates base theirs) i)) (rng 0 (base.length : Int))
  rw [rng_len] at this
  simp only [List.length_cons, List.length_nil]
  omega

def l__law_joined_1 (side_ : Int) (s : (List Str)) (chunk_t1 : (Str × (List Str) × (List Str) × (List Str))) : (List Str) :=
  match s with
  | lines_1 => (lines_1 ++ (sel4 chunk_t1 side_))

def m__law_joined (chunks_ : (List (Str × (List Str) × (List Str) × (List Str)))) (side_ : Int) : (List Str) :=
  (match (List.foldl (l__law_joined_1 side_) ([] : (List Str)) chunks_) with | lines_r1 => lines_r1)

theorem sel4_at {x : Str × List Str × List Str × List Str} {i : Int} (h1 : 1 ≤ i) (h2 : i ≤ 3) : atI [eS x.1, eTu eS x.2.1, eTu eS x.2.2.1, eTu eS x.2.2.2] i = some (eTu eS (sel4 x i)) := by
  have : i = 1 ∨ i = 2 ∨ i = 3 := by omega
  rcases this with rfl | rfl | rfl <;> rfl
theorem sel4_le {x : Str × List Str × List Str × List Str} {i : Int} (h : x.2.1.length ≤ 1000 ∧ x.2.2.1.length ≤ 1000 ∧ x.2.2.2.length ≤ 1000) : (sel4 x i).length ≤ 1000 := by
  unfold sel4
  split
  · exact h.1
  · split
    · exact h.2.1
    · exact h.2.2


end K3
namespace K3
open PySem PySem.Spec PyProof.Rows L2 HL
open Evl (Ex)
/-! ### the chunks -/
abbrev N3 := Nat × Nat × Nat
abbrev Chn := Str × List Str × List Str × List Str
def c3 (p : N3) : I3 := ((p.1 : Int), (p.2.1 : Int), (p.2.2 : Int))
def l3 (p : N3) : List Int := [(p.1 : Int), (p.2.1 : Int), (p.2.2 : Int)]
def nx (p : N3) : N3 := (p.1 + 1, p.2.1 + 1, p.2.2 + 1)
def lens (b o t : List Str) : N3 := (b.length, o.length, t.length)
def partN (b o t : List Str) (s p : N3) : List Chn := if p = s then [] else [(("part" : Str), cutN b s.1 p.1, cutN o s.2.1 p.2.1, cutN t s.2.2 p.2.2)]
def flushN (run : List Str) : List Chn := if run = [] then [] else [(("same" : Str), run, run, run)]
def Le3 (s p : N3) : Prop := s.1 ≤ p.1 ∧ s.2.1 ≤ p.2.1 ∧ s.2.2 ≤ p.2.2
structure In3 (b o t : List Str) (p : N3) : Prop where
  h1 : p.1 < b.length
  h2 : p.2.1 < o.length
  h3 : p.2.2 < t.length
  e1 : b[p.1]? = o[p.2.1]?
  e2 : b[p.1]? = t[p.2.2]?
def Up (b o t : List Str) : N3 → List N3 → Prop
  | s, [] => Le3 s (lens b o t)
  | s, p :: ps => Le3 s p ∧ In3 b o t p ∧ Up b o t (nx p) ps
def G (b o t : List Str) : N3 → List Str → List N3 → List Chn
  | s, run, [] => flushN run ++ partN b o t s (lens b o t)
  | s, run, p :: ps => if p = s then G b o t (nx p) (run ++ cutN b p.1 (p.1 + 1)) ps else flushN run ++ partN b o t s p ++ G b o t (nx p) (cutN b p.1 (p.1 + 1)) ps
theorem l3_inj {p q : N3} : l3 p = l3 q ↔ p = q := by
  obtain ⟨a, b, c⟩ := p
  obtain ⟨a', b', c'⟩ := q
  simp only [l3, List.cons.injEq, Prod.mk.injEq, and_true]
  omega
theorem c3_inj {p q : N3} : c3 p = c3 q ↔ p = q := by
  obtain ⟨a, b, c⟩ := p
  obtain ⟨a', b', c'⟩ := q
  simp only [c3, Prod.mk.injEq]
  omega
theorem getI_last {α : Type} [Inhabited α] (xs : List α) (x : α) : getI (xs ++ [x]) (-1) = x := by
  unfold getI
  rw [atI_last (by simp)]
  simp
theorem cutG1 {b : List Str} {p : Nat} (h : p < b.length) : cutG b (some (p : Int)) (some ((p : Int) + 1)) = cutN b p (p + 1) := by
  rw [show ((p : Int) + 1) = ((p + 1 : Nat) : Int) by omega]
  exact cutG_nat (by omega) (by omega)
theorem law_step {b o t : List Str} {run : List Str} {acc : List Chn} {s p : N3} (hs : Le3 s p) (hp : In3 b o t p) : l__law_chunks_1 b o t (run, acc, l3 s) (l3 p) = if p = s then (run ++ cutN b p.1 (p.1 + 1), acc, l3 (nx p)) else (cutN b p.1 (p.1 + 1), acc ++ flushN run ++ partN b o t s p, l3 (nx p)) := by
  unfold l__law_chunks_1
  simp only [getI_last]
  have ne : ¬ (l3 p = [(b.length : Int), (o.length : Int), (t.length : Int)]) := by
    have := hp.h1
    simp only [l3, List.cons.injEq]
    omega
  have g0 : ∀ q : N3, getI (l3 q) 0 = (q.1 : Int) := fun q => rfl
  have g1 : ∀ q : N3, getI (l3 q) 1 = (q.2.1 : Int) := fun q => rfl
  have g2 : ∀ q : N3, getI (l3 q) 2 = (q.2.2 : Int) := fun q => rfl
  have hx : [(p.1 : Int) + 1, (p.2.1 : Int) + 1, (p.2.2 : Int) + 1] = l3 (nx p) := by
    simp [l3, nx]
  simp only [g0, g1, g2, hx, cutG1 hp.h1, cutG_nat (Nat.le_of_lt hp.h1) hs.1, cutG_nat (Nat.le_of_lt hp.h2) hs.2.1, cutG_nat (Nat.le_of_lt hp.h3) hs.2.2]
  by_cases q : p = s
  · subst q
    simp [ne]
  · have q2 : ¬ l3 p = l3 s := fun z => q (l3_inj.mp z)
    by_cases r : run = []
    · subst r
      simp [q2, q, flushN, partN]
    · simp [q2, q, r, flushN, partN]
theorem law_end {b o t : List Str} {run : List Str} {acc : List Chn} {s : N3} (hs : Le3 s (lens b o t)) : (l__law_chunks_1 b o t (run, acc, l3 s) (l3 (lens b o t))).2.1 = acc ++ flushN run ++ partN b o t s (lens b o t) := by
  unfold l__law_chunks_1
  simp only [getI_last]
  have el : l3 (lens b o t) = [(b.length : Int), (o.length : Int), (t.length : Int)] := rfl
  have g0 : ∀ q : N3, getI (l3 q) 0 = (q.1 : Int) := fun q => rfl
  have g1 : ∀ q : N3, getI (l3 q) 1 = (q.2.1 : Int) := fun q => rfl
  have g2 : ∀ q : N3, getI (l3 q) 2 = (q.2.2 : Int) := fun q => rfl
  rw [← el]
  simp only [g0, g1, g2, cutG_nat (xs := b) (b := (lens b o t).1) (Nat.le_refl _) hs.1, cutG_nat (xs := o) (b := (lens b o t).2.1) (Nat.le_refl _) hs.2.1, cutG_nat (xs := t) (b := (lens b o t).2.2) (Nat.le_refl _) hs.2.2]
  by_cases q : lens b o t = s
  · by_cases r : run = []
    · subst r
      simp [← q, flushN, partN]
    · simp [← q, r, flushN, partN]
  · have q2 : ¬ l3 (lens b o t) = l3 s := fun z => q (l3_inj.mp z)
    by_cases r : run = []
    · subst r
      simp [q2, q, flushN, partN]
    · simp [q2, q, r, flushN, partN]
theorem law_fold {b o t : List Str} : ∀ (ps : List N3) (run : List Str) (acc : List Chn) (s : N3), Up b o t s ps → (List.foldl (l__law_chunks_1 b o t) (run, acc, l3 s) (ps.map l3 ++ [l3 (lens b o t)])).2.1 = acc ++ G b o t s run ps
  | [], run, acc, s, h => by
    show (l__law_chunks_1 b o t (run, acc, l3 s) (l3 (lens b o t))).2.1 = _
    rw [law_end h, G, List.append_assoc]
  | p :: ps, run, acc, s, ⟨h1, h2, h3⟩ => by
    rw [List.map_cons, List.cons_append, List.foldl_cons, law_step h1 h2, G]
    split
    · exact law_fold ps _ _ _ h3
    · rw [law_fold ps _ _ _ h3]
      simp only [List.append_assoc]
theorem part_is {b o t : List Str} {s p : N3} (hs : Le3 s p) (h1 : p.1 ≤ b.length) (h2 : p.2.1 ≤ o.length) (h3 : p.2.2 ≤ t.length) : m__part (b, o, t) (c3 s) (c3 p) = partN b o t s p := by
  unfold m__part
  have e1 : cutG b (some (s.1 : Int)) (some (p.1 : Int)) = cutN b s.1 p.1 := cutG_nat h1 hs.1
  have e2 : cutG o (some (s.2.1 : Int)) (some (p.2.1 : Int)) = cutN o s.2.1 p.2.1 := cutG_nat h2 hs.2.1
  have e3 : cutG t (some (s.2.2 : Int)) (some (p.2.2 : Int)) = cutN t s.2.2 p.2.2 := cutG_nat h3 hs.2.2
  simp only [c3, List.map_cons, List.map_nil, e1, e2, e3, List.any_cons, List.any_nil]
  have em : ∀ {xs : List Str} {a c : Nat}, c ≤ xs.length → (cutN xs a c).isEmpty = decide (c ≤ a) := fun {xs a c} h => by
    have := cutN_len (xs := xs) (a := a) h
    cases q : cutN xs a c with
    | nil => rw [q] at this; simp at this; simp; omega
    | cons x xs => rw [q] at this; simp at this; simp; omega
  rw [em h1, em h2, em h3]
  unfold partN
  by_cases q : p = s
  · subst q
    simp
  · rw [if_neg q]
    have : ¬ (p.1 ≤ s.1 ∧ p.2.1 ≤ s.2.1 ∧ p.2.2 ≤ s.2.2) := fun z => q (by
      obtain ⟨a, b, c⟩ := p
      obtain ⟨a', b', c'⟩ := s
      obtain ⟨u1, u2, u3⟩ := hs
      simp only at z u1 u2 u3
      simp only [Prod.mk.injEq]
      omega)
    rw [if_pos]
    simp
    omega
def m3 (M : List (List N3)) : List (List I3) := M.map fun r => r.map c3
theorem runs_step {M0 : List (List N3)} {r : List N3} {q p : N3} : l__runs_1 (m3 (M0 ++ [r ++ [q]])) (c3 p) = m3 (if p = nx q then M0 ++ [r ++ [q] ++ [p]] else M0 ++ [r ++ [q]] ++ [[p]]) := by
  have e1 : m3 (M0 ++ [r ++ [q]]) = m3 M0 ++ [r.map c3 ++ [c3 q]] := by simp [m3]
  unfold l__runs_1
  rw [e1, getI_last, getI_last]
  have ne : (!List.isEmpty (m3 M0 ++ [r.map c3 ++ [c3 q]])) = true := by cases m3 M0 <;> rfl
  rw [ne, Bool.true_and]
  have hd : decide (c3 q = ((c3 p).1 - 1, (c3 p).2.1 - 1, (c3 p).2.2 - 1)) = decide (p = nx q) := by
    apply decide_eq_decide.mpr
    obtain ⟨a, b, c⟩ := p
    obtain ⟨a', b', c'⟩ := q
    simp only [c3, nx, Prod.mk.injEq]
    omega
  rw [hd]
  by_cases z : p = nx q
  · simp only [z, decide_true, if_true]
    have el : (m3 M0 ++ [r.map c3 ++ [c3 q]]).length - 1 = (m3 M0).length := by simp
    rw [el]
    simp [m3]
  · simp only [z, decide_false, Bool.false_eq_true, if_false]
    simp [m3]
theorem text_step {b o t : List Str} {acc : List Chn} {s x0 q : N3} {r : List N3} (hr : r.head? = some x0) (hl : r.getLast? = some q) (hs : Le3 s x0) (h0 : In3 b o t x0) (hq : q.1 < b.length) (hx : x0.1 ≤ q.1) :
    l_text_chunks_1 b o t (acc, c3 s) (r.map c3) = (acc ++ partN b o t s x0 ++ [(("same" : Str), cutN b x0.1 (q.1 + 1), cutN b x0.1 (q.1 + 1), cutN b x0.1 (q.1 + 1))], c3 (nx q)) := by
  unfold l_text_chunks_1
  have g0 : getI (r.map c3) 0 = c3 x0 := by
    cases r with
    | nil => simp at hr
    | cons y r => simp at hr; subst hr; exact getI_at (k := 0) rfl
  have g1 : getI (r.map c3) (-1) = c3 q := by
    rw [List.getLast?_eq_some_iff] at hl
    obtain ⟨ys, rfl⟩ := hl
    rw [List.map_append]
    exact getI_last _ _
  simp only [g0, g1]
  rw [part_is hs (Nat.le_of_lt h0.h1) (Nat.le_of_lt h0.h2) (Nat.le_of_lt h0.h3)]
  have ec : cutG b (some ((c3 x0).1)) (some ((c3 q).1 + 1)) = cutN b x0.1 (q.1 + 1) := by
    show cutG b (some (x0.1 : Int)) (some ((q.1 : Int) + 1)) = _
    rw [show ((q.1 : Int) + 1) = ((q.1 + 1 : Nat) : Int) by omega]
    exact cutG_nat (by omega) (by omega)
  rw [ec]
  simp [c3, nx]
def fin (b o t : List Str) (s : List Chn × I3) : List Chn := s.1 ++ m__part (b, o, t) s.2 ((b.length : Int), (o.length : Int), (t.length : Int))
theorem cutN_ne {xs : List Str} {a c : Nat} (hc : c ≤ xs.length) (h : a < c) : cutN xs a c ≠ [] := fun z => by
  have := cutN_len (xs := xs) (a := a) hc
  rw [z] at this
  simp at this
  omega
theorem cutN_cat {xs : List Str} {a c : Nat} (hc : c < xs.length) (h : a ≤ c) : cutN xs a c ++ cutN xs c (c + 1) = cutN xs a (c + 1) := by
  have e : xs[c]? = some xs[c] := List.getElem?_eq_getElem hc
  rw [cutN_snoc e h, cutN_snoc e (Nat.le_refl c), cutN_self]
  rfl
theorem text_fold {b o t : List Str} : ∀ (ps : List N3) (M0 : List (List N3)) (r : List N3) (acc0 : List Chn) (s0 x0 q : N3), List.foldl (l_text_chunks_1 b o t) ([], ((0 : Int), (0 : Int), (0 : Int))) (m3 M0) = (acc0, c3 s0) → (r ++ [q]).head? = some x0 → Le3 s0 x0 → In3 b o t x0 → q.1 < b.length → x0.1 ≤ q.1 → Up b o t (nx q) ps →
    fin b o t (List.foldl (l_text_chunks_1 b o t) ([], ((0 : Int), (0 : Int), (0 : Int))) (List.foldl l__runs_1 (m3 (M0 ++ [r ++ [q]])) (ps.map c3))) = acc0 ++ partN b o t s0 x0 ++ G b o t (nx q) (cutN b x0.1 (q.1 + 1)) ps
  | [], M0, r, acc0, s0, x0, q, hM, hr, hs, h0, hq, hx, hu => by
    have e1 : m3 (M0 ++ [r ++ [q]]) = m3 M0 ++ [(r ++ [q]).map c3] := by simp [m3]
    rw [List.map_nil, List.foldl_nil, e1, List.foldl_append, hM, List.foldl_cons, List.foldl_nil, text_step hr (by simp) hs h0 hq hx]
    unfold fin
    have : m__part (b, o, t) (c3 (nx q)) (c3 (lens b o t)) = partN b o t (nx q) (lens b o t) := part_is hu (Nat.le_refl _) (Nat.le_refl _) (Nat.le_refl _)
    rw [show (((b.length : Int), (o.length : Int), (t.length : Int)) : I3) = c3 (lens b o t) from rfl]
    simp only [this, G, flushN]
    rw [if_neg (cutN_ne (by omega) (by omega))]
    simp only [List.append_assoc]
  | p :: ps, M0, r, acc0, s0, x0, q, hM, hr, hs, h0, hq, hx, ⟨u1, u2, u3⟩ => by
    rw [List.map_cons, List.foldl_cons, runs_step, G]
    by_cases z : p = nx q
    · rw [if_pos z, if_pos z]
      have ep : p.1 = q.1 + 1 := by rw [z]; rfl
      rw [text_fold ps M0 (r ++ [q]) acc0 s0 x0 p hM (by rw [List.head?_append, hr]; rfl) hs h0 u2.h1 (by omega) u3, ep, cutN_cat (by have := u2.h1; omega) (by omega)]
    · rw [if_neg z, if_neg z]
      have e1 : m3 (M0 ++ [r ++ [q]]) = m3 M0 ++ [(r ++ [q]).map c3] := by simp [m3]
      have := text_fold ps (M0 ++ [r ++ [q]]) [] (acc0 ++ partN b o t s0 x0 ++ [(("same" : Str), cutN b x0.1 (q.1 + 1), cutN b x0.1 (q.1 + 1), cutN b x0.1 (q.1 + 1))]) (nx q) p p (by rw [e1, List.foldl_append, hM, List.foldl_cons, List.foldl_nil, text_step hr (by simp) hs h0 hq hx]) rfl u1 u2 u2.h1 (Nat.le_refl _) u3
      rw [List.nil_append] at this
      rw [this]
      simp only [flushN]
      rw [if_neg (cutN_ne (by omega) (by omega))]
      simp only [List.append_assoc]
theorem text_all {b o t : List Str} {ps : List N3} (h : Up b o t (0, 0, 0) ps) (e : m__stable_places b o t = ps.map c3) : m_text_chunks b o t = G b o t (0, 0, 0) [] ps := by
  have e0 : m_text_chunks b o t = fin b o t (List.foldl (l_text_chunks_1 b o t) ([], ((0 : Int), (0 : Int), (0 : Int))) (m__runs (m__stable_places b o t))) := rfl
  rw [e0, e]
  cases ps with
  | nil =>
    show m__part (b, o, t) (c3 (0, 0, 0)) (c3 (lens b o t)) = _
    rw [part_is h (Nat.le_refl _) (Nat.le_refl _) (Nat.le_refl _)]
    simp [G, flushN]
  | cons p ps =>
    obtain ⟨u1, u2, u3⟩ := h
    have e1 : m__runs ((p :: ps).map c3) = List.foldl l__runs_1 (m3 ([] ++ [[] ++ [p]])) (ps.map c3) := rfl
    rw [e1, text_fold ps [] [] [] (0, 0, 0) p p rfl rfl u1 u2 u2.h1 (Nat.le_refl _) u3, G]
    by_cases z : p = (0, 0, 0)
    · subst z
      rw [if_pos rfl]
      simp [partN]
    · rw [if_neg z]
      simp [flushN]

end K3
namespace K3
open PySem PySem.Spec PyProof.Rows L2 HL
open Evl (Ex)
/-! ### stable places -/
def lookN (Q : List (Nat × Nat)) (i : Nat) : Option Nat := (Q.find? fun x => decide (x.1 = i)).map (·.2)
def Asc : Nat → List (Nat × Nat) → Prop
  | _, [] => True
  | lo, p :: ps => lo ≤ p.1 ∧ Asc (p.1 + 1) ps
theorem Asc.weak {lo lo' : Nat} (h : lo' ≤ lo) : ∀ {ps : List (Nat × Nat)}, Asc lo ps → Asc lo' ps
  | [], _ => trivial
  | p :: ps, ⟨h1, h2⟩ => ⟨by omega, h2⟩
theorem ch_asc {old new : List Str} {e f : Nat} : ∀ {ps : List (Nat × Nat)} {i j : Nat}, Ch old new i j ps e f → Asc i ps
  | [], _, _, _ => trivial
  | p :: ps, i, j, ⟨h1, h2, h3, h4, h5, h6⟩ => ⟨h1, ch_asc h6⟩
theorem lookN_lt : ∀ {ps : List (Nat × Nat)} {lo i : Nat}, Asc lo ps → i < lo → lookN ps i = none
  | [], _, _, _, _ => rfl
  | p :: ps, lo, i, ⟨h1, h2⟩, h => by
    unfold lookN
    rw [List.find?_cons_of_neg (by simp; omega)]
    exact lookN_lt h2 (by omega)
theorem lookN_hd {p : Nat × Nat} {ps : List (Nat × Nat)} : lookN (p :: ps) p.1 = some p.2 := by simp [lookN]
theorem lookN_tl {p : Nat × Nat} {ps : List (Nat × Nat)} {i : Nat} (h : p.1 ≠ i) : lookN (p :: ps) i = lookN ps i := by
  unfold lookN
  rw [List.find?_cons_of_neg (by simpa using h)]
theorem look_map : ∀ (Q : List (Nat × Nat)) (i : Nat), lookM (Q.map cP) (i : Int) = (lookN Q i).map (fun (k : Nat) => (k : Int))
  | [], i => rfl
  | q :: Q, i => by
    by_cases h : q.1 = i
    · subst h
      rw [lookN_hd]
      simp [lookM, cP]
    · rw [lookN_tl h, ← look_map Q i, List.map_cons]
      unfold lookM
      have hz : decide ((cP q).1 = (i : Int)) = false := decide_eq_false (fun z => h (Int.ofNat_inj.mp z))
      rw [List.find?_cons, hz]
theorem putM_new {m : List (Int × Int)} {k v : Int} (h : ∀ x ∈ m, x.1 ≠ k) : putM m k v = m ++ [(k, v)] := by
  unfold putM
  rw [if_neg]
  simp only [List.any_eq_true, decide_eq_true_eq, not_exists, not_and]
  exact h
theorem dict_fold : ∀ (Q : List (Nat × Nat)) (m : List (Int × Int)) (lo : Nat), Asc lo Q → (∀ x ∈ m, x.1 < lo) → (Q.map cP).foldl (fun m x => putM m x.1 x.2) m = m ++ Q.map cP
  | [], m, lo, _, _ => by simp
  | q :: Q, m, lo, ⟨h1, h2⟩, hm => by
    rw [List.map_cons, List.foldl_cons, putM_new (fun x hx z => by have := hm x hx; simp only [cP] at z; omega), dict_fold Q _ (q.1 + 1) h2 (fun x hx => ?_)]
    · simp [cP]
    · rcases List.mem_append.mp hx with z | z
      · have := hm x z; omega
      · rw [List.mem_singleton.mp z]; simp only [cP]; omega
theorem dict_id {Q : List (Nat × Nat)} (h : Asc 0 Q) : dictM (Q.map cP) = Q.map cP := by
  unfold dictM
  rw [dict_fold Q [] 0 h (fun x hx => by simp at hx)]
  rfl
def stab (P Q : List (Nat × Nat)) : List N3 := P.filterMap fun p => (lookN Q p.1).map fun k => (p.1, p.2, k)
theorem stab_is {b o t : List Str} {P Q : List (Nat × Nat)} (e1 : m_matched b o = P.map cP) (e2 : m_matched b t = Q.map cP) (h : Asc 0 Q) : m__stable_places b o t = (stab P Q).map c3 := by
  unfold m__stable_places
  rw [e1, e2, dict_id h]
  unfold stab
  clear e1
  induction P with
  | nil => rfl
  | cons p P ih =>
    rw [List.map_cons, List.filter_cons, List.filterMap_cons]
    have el : lookM (Q.map cP) (cP p).1 = (lookN Q p.1).map (fun (k : Nat) => (k : Int)) := look_map Q p.1
    have eg : getM (Q.map cP) (cP p).1 = ((lookN Q p.1).map (fun (k : Nat) => (k : Int))).getD default := by unfold getM; rw [el]
    rw [el]
    cases hq : lookN Q p.1 with
    | none =>
      simp only [Option.map_none, Option.isSome_none, Bool.false_eq_true, if_false]
      exact ih
    | some k =>
      simp only [Option.map_some, Option.isSome_some, if_true, List.map_cons]
      rw [hq] at eg
      rw [ih]
      have eg : getM (List.map cP Q) (cP p).1 = (k : Int) := eg
      rw [eg]
      rfl
theorem stab_up {b o t : List Str} {Q : List (Nat × Nat)} (hq : ∀ i k, lookN Q i = some k → k < t.length ∧ b[i]? = t[k]?) (hm : ∀ i k i' k', lookN Q i = some k → lookN Q i' = some k' → i < i' → k < k') : ∀ (P : List (Nat × Nat)) (i j k : Nat), Ch b o i j P b.length o.length → k ≤ t.length → (∀ i' k', i ≤ i' → lookN Q i' = some k' → k ≤ k') → Up b o t (i, j, k) (stab P Q)
  | [], i, j, k, h, hk, _ => ⟨h.1, h.2, hk⟩
  | p :: P, i, j, k, ⟨h1, h2, h3, h4, h5, h6⟩, hk, hl => by
    unfold stab
    rw [List.filterMap_cons]
    cases hz : lookN Q p.1 with
    | none => 
      have w := stab_up hq hm P (p.1 + 1) (p.2 + 1) k h6 hk (fun i' k' hi => hl i' k' (by omega))
      simp only [Option.map_none]
      have aux : ∀ {s s' : N3} {ps : List N3}, Le3 s' s → Up b o t s ps → Up b o t s' ps := fun {s s' ps} l h => by
        cases ps with
        | nil => exact ⟨Nat.le_trans l.1 h.1, Nat.le_trans l.2.1 h.2.1, Nat.le_trans l.2.2 h.2.2⟩
        | cons p ps => exact ⟨⟨Nat.le_trans l.1 h.1.1, Nat.le_trans l.2.1 h.1.2.1, Nat.le_trans l.2.2 h.1.2.2⟩, h.2⟩
      exact aux (s := (p.1 + 1, p.2 + 1, k)) ⟨by simp only; omega, by simp only; omega, Nat.le_refl _⟩ w
    | some k1 =>
      simp only [Option.map_some]
      obtain ⟨q1, q2⟩ := hq _ _ hz
      exact ⟨⟨h1, h2, hl _ _ h1 hz⟩, ⟨h3, h4, q1, h5, q2⟩, stab_up hq hm P (p.1 + 1) (p.2 + 1) (k1 + 1) h6 (by omega) (fun i' k' hi hk' => hm _ _ _ _ hz hk' (by omega))⟩
theorem look_ch {b t : List Str} : ∀ {Q : List (Nat × Nat)} {i j : Nat}, Ch b t i j Q b.length t.length → (∀ x k, lookN Q x = some k → i ≤ x ∧ j ≤ k ∧ x < b.length ∧ k < t.length ∧ b[x]? = t[k]?) ∧ (∀ x k x' k', lookN Q x = some k → lookN Q x' = some k' → x < x' → k < k')
  | [], i, j, _ => ⟨fun x k h => by simp [lookN] at h, fun x k x' k' h => by simp [lookN] at h⟩
  | q :: Q, i, j, ⟨h1, h2, h3, h4, h5, h6⟩ => by
    obtain ⟨r1, r2⟩ := look_ch h6
    have c : ∀ x k, lookN (q :: Q) x = some k → (x = q.1 ∧ k = q.2) ∨ lookN Q x = some k := fun x k h => by
      by_cases z : q.1 = x
      · subst z; rw [lookN_hd] at h; cases h; exact .inl ⟨rfl, rfl⟩
      · rw [lookN_tl z] at h; exact .inr h
    refine ⟨fun x k h => ?_, fun x k x' k' h h' hl => ?_⟩
    · rcases c x k h with ⟨rfl, rfl⟩ | h
      · exact ⟨h1, h2, h3, h4, h5⟩
      · have := r1 x k h
        exact ⟨by omega, by omega, this.2.2⟩
    · rcases c x k h with ⟨rfl, rfl⟩ | h
      · rcases c x' k' h' with ⟨rfl, rfl⟩ | h'
        · omega
        · have := r1 x' k' h'; omega
      · rcases c x' k' h' with ⟨rfl, rfl⟩ | h'
        · have := r1 x k h; omega
        · exact r2 _ _ _ _ h h' hl
/-! the law's marks -/
theorem setI_nat {M : List Int} {p : Nat} {v : Int} (h : p < M.length) : setI M (p : Int) v = M.set p v := by
  have e : ixN M.length (p : Int) = some p := by
    unfold ixN
    simp
    omega
  unfold setI
  rw [e]
theorem fm_congr {α β : Type} {f g : α → Option β} : ∀ {l : List α}, (∀ a ∈ l, f a = g a) → l.filterMap f = l.filterMap g
  | [], _ => rfl
  | a :: l, h => by rw [List.filterMap_cons, List.filterMap_cons, h a List.mem_cons_self, fm_congr fun x hx => h x (List.mem_cons_of_mem _ hx)]
theorem mates_fold : ∀ (P : List (Nat × Nat)) (M : List Int) (lo : Nat), Asc lo P → (∀ p ∈ P, p.1 < M.length) → ∀ i : Nat, i < M.length → getI (List.foldl l__law_mates_1 M (P.map cP)) (i : Int) = match lookN P i with | some j => (j : Int) | none => getI M (i : Int)
  | [], M, lo, _, _, i, _ => rfl
  | p :: P, M, lo, ⟨h1, h2⟩, hp, i, hi => by
    rw [List.map_cons, List.foldl_cons]
    have es : l__law_mates_1 M (cP p) = setI M (p.1 : Int) (p.2 : Int) := rfl
    have hpl := hp p List.mem_cons_self
    have hin : inB M (p.1 : Int) := by unfold inB; omega
    rw [es, mates_fold P _ (p.1 + 1) h2 (fun q hq => by rw [setI_len]; exact hp q (List.mem_cons_of_mem _ hq)) i (by rw [setI_len]; exact hi)]
    by_cases z : p.1 = i
    · subst z
      rw [lookN_hd, lookN_lt h2 (by omega)]
      simp only
      rw [getI_setI hin]
    · rw [lookN_tl z]
      cases lookN P i with
      | some j => rfl
      | none =>
        simp only
        have e1 : setI M (p.1 : Int) (p.2 : Int) = M.set p.1 (p.2 : Int) := setI_nat hpl
        rw [e1]
        have hM : M[i]? = some M[i] := List.getElem?_eq_getElem hi
        rw [getI_at hM]
        exact getI_at (by rw [List.getElem?_set_ne z]; exact hM)
theorem mates_is {b o : List Str} {P : List (Nat × Nat)} (e : m_matched b o = P.map cP) (h : Ch b o 0 0 P b.length o.length) {i : Nat} (hi : i < b.length) : getI (m__law_mates b o) (i : Int) = match lookN P i with | some j => (j : Int) | none => -1 := by
  have e0 : m__law_mates b o = List.foldl l__law_mates_1 (b.map fun (line_c : Str) => (-1 : Int)) (m__law_walk b o) := rfl
  rw [e0, math1, e, mates_fold P _ 0 (ch_asc h) (fun p hp => by rw [List.length_map]; exact (ch_in h p hp).1) i (by rw [List.length_map]; exact hi)]
  cases lookN P i with
  | some j => rfl
  | none => exact getI_at (by rw [List.getElem?_map, List.getElem?_eq_getElem hi]; rfl)
theorem asc_range {β : Type} (F : Nat → Nat → Option β) : ∀ (m lo : Nat) (P : List (Nat × Nat)), Asc lo P → (∀ p ∈ P, p.1 < lo + m) → P.filterMap (fun p => F p.1 p.2) = (List.range' lo m).filterMap fun i => (lookN P i).bind (F i)
  | 0, lo, P, h, hp => by
    cases P with
    | nil => rfl
    | cons p P => have := hp p List.mem_cons_self; have := h.1; omega
  | m + 1, lo, P, h, hp => by
    rw [List.range'_succ, List.filterMap_cons]
    cases P with
    | nil =>
      have := asc_range F m (lo + 1) [] trivial (fun p hp => by simp at hp)
      simp [lookN] at this ⊢
    | cons p P =>
      by_cases z : p.1 = lo
      · have h2 := h.2
        have ih := asc_range F m (lo + 1) P (by rw [← z]; exact h2) (fun q hq => by have := hp q (List.mem_cons_of_mem _ hq); omega)
        have ec : (List.range' (lo + 1) m).filterMap (fun i => (lookN (p :: P) i).bind (F i)) = (List.range' (lo + 1) m).filterMap fun i => (lookN P i).bind (F i) := by
          apply fm_congr
          intro i hi
          have := List.mem_range'_1.mp hi
          rw [lookN_tl (by omega)]
        rw [ec, List.filterMap_cons, ih]
        subst z
        rw [lookN_hd]
        rfl
      · have hp1 : Asc (lo + 1) (p :: P) := ⟨by have := h.1; omega, h.2⟩
        rw [lookN_lt hp1 (by omega), asc_range F m (lo + 1) (p :: P) hp1 (fun q hq => by have := hp q hq; omega)]
        rfl
theorem marks_is {b o t : List Str} {P Q : List (Nat × Nat)} (e1 : m_matched b o = P.map cP) (e2 : m_matched b t = Q.map cP) (h1 : Ch b o 0 0 P b.length o.length) (h2 : Ch b t 0 0 Q b.length t.length) :
    (((rng 0 (b.length : Int)).filter fun i => decide (0 ≤ getI (m__law_mates b o) i) && decide (0 ≤ getI (m__law_mates b t) i)).map (fun i => i)).map (fun i => [i, getI (m__law_mates b o) i, getI (m__law_mates b t) i]) = (stab P Q).map l3 := by
  have er : rng 0 (b.length : Int) = (List.range' 0 b.length).map fun (n : Nat) => (n : Int) := by
    unfold rng
    rw [List.range_eq_range']
    simp
  have es : (stab P Q).map l3 = P.filterMap fun p => (fun i j => (lookN Q i).map fun k => l3 (i, j, k)) p.1 p.2 := by
    unfold stab
    rw [List.map_filterMap]
    apply fm_congr
    intro p _
    cases hz : lookN Q p.1 <;> simp [hz]
  rw [es, asc_range (fun i j => (lookN Q i).map fun k => l3 (i, j, k)) b.length 0 P (ch_asc h1) (fun p hp => by have := (ch_in h1 p hp).1; omega), er]
  have all : ∀ (l : List Nat), (∀ i ∈ l, i < b.length) → (((l.map fun (n : Nat) => (n : Int)).filter fun i => decide (0 ≤ getI (m__law_mates b o) i) && decide (0 ≤ getI (m__law_mates b t) i)).map (fun i => i)).map (fun i => [i, getI (m__law_mates b o) i, getI (m__law_mates b t) i]) = l.filterMap fun i => (lookN P i).bind fun j => (lookN Q i).map fun k => l3 (i, j, k) := by
    intro l
    induction l with
    | nil => intro _; rfl
    | cons i l ih =>
      intro hl
      have hi := hl i List.mem_cons_self
      rw [List.map_cons, List.filter_cons, List.filterMap_cons, ← ih (fun x hx => hl x (List.mem_cons_of_mem _ hx))]
      have a1 := mates_is e1 h1 hi
      have a2 := mates_is e2 h2 hi
      cases q1 : lookN P i with
      | none =>
        rw [q1] at a1
        simp only at a1
        rw [a1]
        simp
      | some j =>
        rw [q1] at a1
        simp only at a1
        cases q2 : lookN Q i with
        | none =>
          rw [q2] at a2
          simp only at a2
          rw [a2]
          simp
        | some k =>
          rw [q2] at a2
          simp only at a2
          simp [a1, a2, l3]
  exact all _ (fun i hi => by have := List.mem_range'_1.mp hi; omega)
theorem law_all {b o t : List Str} {P Q : List (Nat × Nat)} (e1 : m_matched b o = P.map cP) (e2 : m_matched b t = Q.map cP) (h1 : Ch b o 0 0 P b.length o.length) (h2 : Ch b t 0 0 Q b.length t.length) (hu : Up b o t (0, 0, 0) (stab P Q)) : m__law_chunks b o t = G b o t (0, 0, 0) [] (stab P Q) := by
  have e0 : m__law_chunks b o t = (List.foldl (l__law_chunks_1 b o t) ([], [], l3 (0, 0, 0)) ((((rng 0 (b.length : Int)).filter fun i => decide (0 ≤ getI (m__law_mates b o) i) && decide (0 ≤ getI (m__law_mates b t) i)).map (fun i => i)).map (fun i => [i, getI (m__law_mates b o) i, getI (m__law_mates b t) i]) ++ [l3 (lens b o t)])).2.1 := rfl
  rw [e0, marks_is e1 e2 h1 h2, law_fold _ _ _ _ hu]
  rfl
theorem chunks_is (b o t : List Str) : ∃ P Q : List (Nat × Nat), m_matched b o = P.map cP ∧ m_matched b t = Q.map cP ∧ Up b o t (0, 0, 0) (stab P Q) ∧ m_text_chunks b o t = G b o t (0, 0, 0) [] (stab P Q) ∧ m__law_chunks b o t = G b o t (0, 0, 0) [] (stab P Q) := by
  obtain ⟨P, e1, h1⟩ := matched_ch b o
  obtain ⟨Q, e2, h2⟩ := matched_ch b t
  obtain ⟨r1, r2⟩ := look_ch h2
  have hu : Up b o t (0, 0, 0) (stab P Q) := stab_up (fun i k h => ⟨(r1 i k h).2.2.2.1, (r1 i k h).2.2.2.2⟩) r2 P 0 0 0 h1 (Nat.zero_le _) (fun _ _ _ _ => Nat.zero_le _)
  exact ⟨P, Q, e1, e2, hu, text_all hu (stab_is e1 e2 (ch_asc h2)), law_all e1 e2 h1 h2 hu⟩

end K3
namespace K3
open PySem PySem.Spec PyProof.Rows L2 HL
open Evl (Ex)
/-! ### what the chunks are made of -/
def flat (side : Int) (cs : List Chn) : List Str := (cs.map fun c => sel4 c side).flatten
theorem flat_app (side : Int) (a b : List Chn) : flat side (a ++ b) = flat side a ++ flat side b := by
  unfold flat; rw [List.map_append, List.flatten_append]
theorem joined_is (side : Int) : ∀ (cs : List Chn) (s : List Str), List.foldl (l__law_joined_1 side) s cs = s ++ flat side cs
  | [], s => by simp [flat]
  | c :: cs, s => by
    rw [List.foldl_cons, joined_is side cs]
    show (s ++ sel4 c side) ++ _ = _
    simp [flat]
theorem flat_flush (side : Int) (run : List Str) : flat side (flushN run) = run := by
  unfold flushN flat
  split
  · rename_i h; rw [h]; rfl
  · simp only [List.map_cons, List.map_nil, sel4]
    split
    · simp
    · split <;> simp
def tx (b o t : List Str) (side : Int) : List Str := if side = 1 then b else if side = 2 then o else t
def at3 (p : N3) (side : Int) : Nat := if side = 1 then p.1 else if side = 2 then p.2.1 else p.2.2
theorem flat_part {b o t : List Str} {s p : N3} (side : Int) : flat side (partN b o t s p) = cutN (tx b o t side) (at3 s side) (at3 p side) := by
  unfold partN flat
  split
  · rename_i h
    subst h
    rw [cutN_self]; rfl
  · simp only [List.map_cons, List.map_nil, sel4, tx, at3]
    split
    · simp
    · split <;> simp
theorem In3.tx {b o t : List Str} {p : N3} (h : In3 b o t p) (side : Int) : at3 p side < (tx b o t side).length ∧ (tx b o t side)[at3 p side]? = b[p.1]? := by
  unfold at3 K3.tx
  split
  · exact ⟨h.h1, rfl⟩
  · split
    · exact ⟨h.h2, h.e1.symm⟩
    · exact ⟨h.h3, h.e2.symm⟩
theorem Le3.at {s p : N3} (h : Le3 s p) (side : Int) : at3 s side ≤ at3 p side := by
  unfold at3
  split
  · exact h.1
  · split
    · exact h.2.1
    · exact h.2.2
theorem at_lens (b o t : List Str) (side : Int) : at3 (lens b o t) side = (tx b o t side).length := by
  unfold at3 tx lens
  split
  · rfl
  · split <;> rfl
theorem at_nx (p : N3) (side : Int) : at3 (nx p) side = at3 p side + 1 := by
  unfold at3 nx
  split
  · rfl
  · split <;> rfl
theorem cutN_one {xs : List Str} {a : Nat} (h : a < xs.length) : cutN xs a (a + 1) = [xs[a]] := by
  rw [cutN_snoc (List.getElem?_eq_getElem h) (Nat.le_refl _), cutN_self]; rfl
theorem flat_G {b o t : List Str} (side : Int) : ∀ (ps : List N3) (s : N3) (run : List Str), Up b o t s ps → flat side (G b o t s run ps) = run ++ (tx b o t side).drop (at3 s side)
  | [], s, run, h => by
    have hl := Le3.at h side
    rw [at_lens] at hl
    have := cutN_app (xs := tx b o t side) (a := at3 s side) (b := (tx b o t side).length) (Nat.le_refl _) hl
    rw [G, flat_app, flat_flush, flat_part, at_lens, ← this]
    simp
  | p :: ps, s, run, ⟨h1, h2, h3⟩ => by
    have ht := h2.tx side
    have hb : cutN b p.1 (p.1 + 1) = [b[p.1]'h2.h1] := cutN_one h2.h1
    have hd : (tx b o t side).drop (at3 p side) = b[p.1]'h2.h1 :: (tx b o t side).drop (at3 p side + 1) := drop_c (by rw [ht.2]; exact List.getElem?_eq_getElem h2.h1)
    rw [G]
    split
    · rename_i e
      rw [flat_G side ps _ _ h3, at_nx, hb, ← e, hd]
      simp
    · rw [flat_app, flat_app, flat_flush, flat_part, flat_G side ps _ _ h3, at_nx, hb, ← cutN_app (xs := tx b o t side) (a := at3 s side) (b := at3 p side) (Nat.le_of_lt ht.1) (h1.at side), hd]
      simp
theorem joined_text (b o t : List Str) (side : Int) : m__law_joined (m__law_chunks b o t) side = tx b o t side := by
  obtain ⟨P, Q, _, _, hu, _, e⟩ := chunks_is b o t
  have e0 : m__law_joined (m__law_chunks b o t) side = List.foldl (l__law_joined_1 side) [] (m__law_chunks b o t) := rfl
  rw [e0, joined_is, e, flat_G side _ _ _ hu]
  have : at3 (0, 0, 0) side = 0 := by unfold at3; split <;> (try split) <;> rfl
  rw [this]
  rfl
theorem joined_texts (b o t : List Str) : ((rng 1 4).map fun (side_c : Int) => m__law_joined (m__law_chunks b o t) side_c) = [b, o, t] := by
  have : rng 1 4 = [1, 2, 3] := by decide
  rw [this]
  simp only [List.map_cons, List.map_nil, joined_text]
  rfl
/-! sizes -/
structure CK (n : Nat) (q : Str → Prop) (c : Chn) : Prop where
  w : PyData.strOk c.1 = true
  l1 : c.2.1.length ≤ n
  l2 : c.2.2.1.length ≤ n
  l3 : c.2.2.2.length ≤ n
  q1 : ∀ x ∈ c.2.1, q x
  q2 : ∀ x ∈ c.2.2.1, q x
  q3 : ∀ x ∈ c.2.2.2, q x
theorem cutN_mem {xs : List Str} {a c : Nat} {x : Str} (h : x ∈ cutN xs a c) : x ∈ xs := List.mem_of_mem_drop (List.mem_of_mem_take h)
theorem cutN_le (xs : List Str) (a c : Nat) : (cutN xs a c).length ≤ xs.length := by
  unfold cutN
  rw [List.length_take, List.length_drop]
  omega
theorem ck_flush {q : Str → Prop} {n : Nat} {run : List Str} (hn : run.length ≤ n) (hq : ∀ x ∈ run, q x) : ∀ c ∈ flushN run, CK n q c := fun c hc => by
  unfold flushN at hc
  split at hc
  · simp at hc
  · rw [List.mem_singleton.mp hc]
    exact ⟨(by decide +kernel : PyData.strOk ("same" : Str) = true), hn, hn, hn, hq, hq, hq⟩
theorem ck_part {q : Str → Prop} {n : Nat} {b o t : List Str} {s p : N3} (h1 : b.length ≤ n) (h2 : o.length ≤ n) (h3 : t.length ≤ n) (q1 : ∀ x ∈ b, q x) (q2 : ∀ x ∈ o, q x) (q3 : ∀ x ∈ t, q x) : ∀ c ∈ partN b o t s p, CK n q c := fun c hc => by
  unfold partN at hc
  split at hc
  · simp at hc
  · rw [List.mem_singleton.mp hc]
    exact ⟨(by decide +kernel : PyData.strOk ("part" : Str) = true), Nat.le_trans (cutN_le _ _ _) h1, Nat.le_trans (cutN_le _ _ _) h2, Nat.le_trans (cutN_le _ _ _) h3, fun x hx => q1 x (cutN_mem hx), fun x hx => q2 x (cutN_mem hx), fun x hx => q3 x (cutN_mem hx)⟩
theorem ck_G {q : Str → Prop} {b o t : List Str} {n : Nat} (h1 : b.length ≤ n) (h2 : o.length ≤ n) (h3 : t.length ≤ n) (q1 : ∀ x ∈ b, q x) (q2 : ∀ x ∈ o, q x) (q3 : ∀ x ∈ t, q x) : ∀ (ps : List N3) (s : N3) (run : List Str), run.length + ps.length ≤ n → (∀ x ∈ run, q x) → (∀ c ∈ G b o t s run ps, CK n q c) ∧ (G b o t s run ps).length ≤ 2 * ps.length + 2
  | [], s, run, hr, hq => by
    rw [G]
    refine ⟨fun c hc => ?_, ?_⟩
    · rcases List.mem_append.mp hc with z | z
      · exact ck_flush (by simpa using hr) hq c z
      · exact ck_part h1 h2 h3 q1 q2 q3 c z
    · rw [List.length_append]
      unfold flushN partN
      split <;> split <;> simp
  | p :: ps, s, run, hr, hq => by
    rw [List.length_cons] at hr
    have hc1 : (cutN b p.1 (p.1 + 1)).length ≤ 1 := by unfold cutN; rw [List.length_take]; omega
    have hcq : ∀ x ∈ cutN b p.1 (p.1 + 1), q x := fun x hx => q1 x (cutN_mem hx)
    rw [G]
    split
    · have ih := ck_G h1 h2 h3 q1 q2 q3 ps (nx p) (run ++ cutN b p.1 (p.1 + 1)) (by rw [List.length_append]; omega) (fun x hx => by
        rcases List.mem_append.mp hx with z | z
        · exact hq x z
        · exact hcq x z)
      exact ⟨ih.1, by have := ih.2; rw [List.length_cons]; omega⟩
    · have ih := ck_G h1 h2 h3 q1 q2 q3 ps (nx p) (cutN b p.1 (p.1 + 1)) (by omega) hcq
      refine ⟨fun c hc => ?_, ?_⟩
      · rcases List.mem_append.mp hc with z | z
        · rcases List.mem_append.mp z with z | z
          · exact ck_flush (by omega) hq c z
          · exact ck_part h1 h2 h3 q1 q2 q3 c z
        · exact ih.1 c z
      · have := ih.2
        rw [List.length_append, List.length_append, List.length_cons]
        have a1 : (flushN run).length ≤ 1 := by unfold flushN; split <;> simp
        have a2 : (partN b o t s p).length ≤ 1 := by unfold partN; split <;> simp
        omega
theorem stab_len (P Q : List (Nat × Nat)) : (stab P Q).length ≤ P.length := List.length_filterMap_le _ _
structure Due (cs : List Chn) : Prop where
  len : cs.length ≤ 30
  ck : ∀ c ∈ cs, CK 40 (fun x => PyData.strOk x = true) c
theorem due_all {b o t : List Str} (h1 : b.length ≤ 8) (h2 : o.length ≤ 24) (h3 : t.length ≤ 24) (q1 : ∀ x ∈ b, PyData.strOk x = true) (q2 : ∀ x ∈ o, PyData.strOk x = true) (q3 : ∀ x ∈ t, PyData.strOk x = true) : m_text_chunks b o t = m__law_chunks b o t ∧ Due (m__law_chunks b o t) := by
  obtain ⟨P, Q, e1, e2, hu, g1, g2⟩ := chunks_is b o t
  have hP : P.length ≤ 8 := by
    have := matched_le b o
    rw [e1, List.length_map] at this
    omega
  have hl := stab_len P Q
  have := ck_G (n := 40) (q := fun x => PyData.strOk x = true) (by omega) (by omega) (by omega) q1 q2 q3 (stab P Q) (0, 0, 0) [] (by simp; omega) (fun x hx => by simp at hx)
  exact ⟨by rw [g1, g2], by rw [g2]; exact ⟨by have := this.2; omega, this.1⟩⟩
theorem Due.ok {cs : List Chn} (h : Due cs) : okD (eL (eT4 eS (eTu eS) (eTu eS) (eTu eS)) cs) = true := okL (by have := h.len; omega) fun c hc => by
  have k := h.ck c hc
  have a1 := okTu (em := eS) (xs := c.2.1) (by have := k.l1; omega) (fun x hx => k.q1 x hx)
  have a2 := okTu (em := eS) (xs := c.2.2.1) (by have := k.l2; omega) (fun x hx => k.q2 x hx)
  have a3 := okTu (em := eS) (xs := c.2.2.2) (by have := k.l3; omega) (fun x hx => k.q3 x hx)
  have a0 := k.w
  simp [okD, okDs] at a1 a2 a3 a0 ⊢
  exact ⟨a0, a1, a2, a3⟩
theorem emT4_dep {c : Chn} : (eT4 eS (eTu eS) (eTu eS) (eTu eS) c).depth ≤ 3 := by
  have h : ∀ xs : List Str, PyData.depthAll (xs.map eS) ≤ 1 := fun xs => by
    induction xs with
    | nil => simp [PyData.depthAll]
    | cons x xs ih => simp [PyData.depthAll, PyData.depth]; omega
  have h1 := h c.2.1
  have h2 := h c.2.2.1
  have h3 := h c.2.2.2
  simp [PyData.depth, PyData.depthAll]
  omega
theorem Due.dep (cs : List Chn) : (eL (eT4 eS (eTu eS) (eTu eS) (eTu eS)) cs).depth < 5 := by
  have h : PyData.depthAll (cs.map (eT4 eS (eTu eS) (eTu eS) (eTu eS))) ≤ 3 := by
    induction cs with
    | nil => simp [PyData.depthAll]
    | cons c cs ih =>
      rw [List.map_cons]
      have := emT4_dep (c := c)
      simp only [PyData.depthAll]
      omega
  show PyData.depth (.list _) < 5
  simp only [PyData.depth]
  omega
/-! one text in all places -/
theorem cP_inj {p q : Nat × Nat} (h : cP p = cP q) : p = q := by
  obtain ⟨a, b⟩ := p
  obtain ⟨a', b'⟩ := q
  simp only [cP, Prod.mk.injEq] at h ⊢
  omega
theorem map_cP_inj : ∀ {P Q : List (Nat × Nat)}, P.map cP = Q.map cP → P = Q
  | [], [], _ => rfl
  | [], q :: Q, h => by simp at h
  | p :: P, [], h => by simp at h
  | p :: P, q :: Q, h => by
    rw [List.map_cons, List.map_cons, List.cons.injEq] at h
    rw [cP_inj h.1, map_cP_inj h.2]
theorem alone_G {b : List Str} : ∀ (m s : Nat), s + m = b.length → G b b b (s, s, s) (b.take s) ((List.range' s m).map fun k => (k, k, k)) = flushN b
  | 0, s, h => by
    have e : s = b.length := by omega
    rw [List.range'_zero, List.map_nil, G, e, List.take_length]
    simp [partN, lens]
  | m + 1, s, h => by
    rw [List.range'_succ, List.map_cons, G, if_pos rfl]
    have : b.take s ++ cutN b s (s + 1) = b.take (s + 1) := by
      rw [cutN_one (by omega), List.take_add_one, List.getElem?_eq_getElem (by omega)]; rfl
    rw [this]
    exact alone_G m (s + 1) (by omega)
theorem alone_is (b : List Str) : m_text_chunks b b b = flushN b := by
  obtain ⟨P, Q, e1, e2, hu, g1, _⟩ := chunks_is b b b
  have ed : m_matched b b = ((List.range' 0 b.length).map fun (k : Nat) => (k, k)).map cP := by
    rw [alike_is]
    unfold rng
    rw [List.range_eq_range']
    simp [cP]
  rw [g1, map_cP_inj (e1.symm.trans ed), map_cP_inj (e2.symm.trans ed)]
  have lk : ∀ (m s i : Nat), s ≤ i → i < s + m → lookN ((List.range' s m).map fun (k : Nat) => (k, k)) i = some i := by
    intro m
    induction m with
    | zero => intro s i h1 h2; omega
    | succ m ih =>
      intro s i h1 h2
      rw [List.range'_succ, List.map_cons]
      by_cases z : s = i
      · subst z; exact lookN_hd
      · rw [lookN_tl z]; exact ih (s + 1) i (by omega) (by omega)
  have es : stab ((List.range' 0 b.length).map fun (k : Nat) => (k, k)) ((List.range' 0 b.length).map fun (k : Nat) => (k, k)) = (List.range' 0 b.length).map fun k => (k, k, k) := by
    unfold stab
    rw [List.filterMap_map]
    have : ∀ l : List Nat, (∀ i ∈ l, i < b.length) → l.filterMap ((fun p => (lookN ((List.range' 0 b.length).map fun (k : Nat) => (k, k)) p.1).map fun k => (p.1, p.2, k)) ∘ fun (k : Nat) => (k, k)) = l.map fun k => (k, k, k) := by
      intro l
      induction l with
      | nil => intro _; rfl
      | cons i l ih =>
        intro hl
        rw [List.filterMap_cons, ih (fun x hx => hl x (List.mem_cons_of_mem _ hx))]
        simp [lk b.length 0 i (Nat.zero_le _) (by have := hl i List.mem_cons_self; omega)]
    exact this _ (fun i hi => by have := List.mem_range'_1.mp hi; omega)
  rw [es]
  exact alone_G b.length 0 (by omega)

end K3
namespace K3
open PySem PySem.Spec PyProof.Rows L2 HL
open Evl (Ex)
section
variable {P : Program} {w : World} {K : PySem.W.Frag} {mg : Str → Option Value} {base : Heap}

def l_merge_texts_1 (s : (List Str) × Int) (p_t1 : (Str × (List Str) × (List Str) × (List Str))) : (List Str) × Int :=
  match s with
  | (lines_1, clashes_1) => (if ((decide (p_t1.2.2.1 = p_t1.2.2.2)) || (decide (p_t1.2.2.2 = p_t1.2.1))) = true then ((lines_1 ++ p_t1.2.2.1), clashes_1) else (if (decide (p_t1.2.2.1 = p_t1.2.1)) = true then ((lines_1 ++ p_t1.2.2.2), clashes_1) else ((lines_1 ++ (("<<<<<<<" : Str) :: (p_t1.2.2.1 ++ (("|||||||" : Str) :: (p_t1.2.1 ++ (("=======" : Str) :: (p_t1.2.2.2 ++ ((">>>>>>>" : Str) :: [])))))))), (clashes_1 + (1 : Int)))))

def m_merge_texts (base_ : (List Str)) (ours_ : (List Str)) (theirs_ : (List Str)) : ((List Str) × Int) :=
  (match (List.foldl (l_merge_texts_1) (([] : (List Str)), (0 : Int)) (m_text_chunks (base_) (ours_) (theirs_))) with | (lines_r1, clashes_r1) => (lines_r1, clashes_r1))

abbrev s_merge_texts : Stmt := topS 13

abbrev N_merge_texts : List Str := ["base", "ours", "theirs", "lines", "clashes", "_", "b", "x", "y"]

theorem sc_merge_texts : FnScope N_merge_texts ["base", "ours", "theirs"] (defScope s_merge_texts) := ⟨rfl, rfl, rfl, by decide +kernel, rfl, by decide +kernel, by decide +kernel⟩

def r_merge_texts : List PyData → PyData → Prop := fun ds d => ∃ (base_ : (List Str)) (ours_ : (List Str)) (theirs_ : (List Str)), ds = [(eL eS) base_, (eL eS) ours_, (eL eS) theirs_] ∧ (base_.length ≤ 8) ∧ (ours_.length ≤ 24) ∧ (theirs_.length ≤ 24) ∧ (∀ x ∈ base_, PyData.strOk x = true) ∧ (∀ x ∈ ours_, PyData.strOk x = true) ∧ (∀ x ∈ theirs_, PyData.strOk x = true) ∧ d = (eT2 (eL eS) eI) (m_merge_texts base_ ours_ theirs_)

set_option maxHeartbeats 8000000 in
theorem ok_merge_texts {f : Addr} {fd : FuncData} {k : Nat} (F : Fun K "merge_texts" "merge_texts" s_merge_texts f fd) {f_text_chunks : Addr} {fd_text_chunks : FuncData} {k_text_chunks : Nat} (F_text_chunks : Fun K "text_chunks" "text_chunks" s_text_chunks f_text_chunks fd_text_chunks) (b_text_chunks : Binds K fd_text_chunks ["base", "ours", "theirs"] []) (g_text_chunks : mg "text_chunks" = some (.ref f_text_chunks)) (G_text_chunks : FnOk P w K mg base CX0 k_text_chunks f_text_chunks fd_text_chunks ["base", "ours", "theirs"] (SpF r_text_chunks)) (k_text_chunks_ : k_text_chunks ≤ k) {t_OUR_SIDE : _} (c_OUR_SIDE : mg "OUR_SIDE" = some (.str ("<<<<<<<" : Str) t_OUR_SIDE)) {t_BASE_SIDE : _} (c_BASE_SIDE : mg "BASE_SIDE" = some (.str ("|||||||" : Str) t_BASE_SIDE)) {t_THEIR_SIDE : _} (c_THEIR_SIDE : mg "THEIR_SIDE" = some (.str ("=======" : Str) t_THEIR_SIDE)) {t_CLASH_END : _} (c_CLASH_END : mg "CLASH_END" = some (.str (">>>>>>>" : Str) t_CLASH_END)) : FnOk P w K mg base CX0 (k + 1) f fd ["base", "ours", "theirs"] (SpF r_merge_texts) := by
  refine F.ok sc_merge_texts (fun vs H Q E h => ?_) (fun cdv A outer s H vs Q E hr h => ?_)
  · obtain ⟨ds, d, hd, ⟨base_, ours_, theirs_, rfl, h1, h2, h3, h4, h5, h6, rfl⟩, _⟩ := h
    exact hd.length
  · obtain ⟨ds, d, hd, ⟨base_, ours_, theirs_, rfl, h1, h2, h3, h4, h5, h6, rfl⟩, q⟩ := h
    refine ⟨_, (pss_cons (ps_set (i := 3) sc_merge_texts.nd rfl (Or.inl rfl) (pe_lst pa_nil)) (pss_cons (ps_set (i := 4) sc_merge_texts.nd rfl (Or.inl rfl) pe_int) (pss_cons (ps_for PassesOwn.never rfl (pi_list (pe_call G_text_chunks (hr.mono k_text_chunks_) (by rfl) g_text_chunks F_text_chunks.kp b_text_chunks .nil pass0 (pa_cons (pv 0) (pa_cons (pv 1) (pa_cons (pv 2) pa_nil))))) (pg_tup rfl (pgs_cons (pg_name (i := 5) sc_merge_texts.nd rfl (Or.inl rfl)) (pgs_cons (pg_name (i := 6) sc_merge_texts.nd rfl (Or.inl rfl)) (pgs_cons (pg_name (i := 7) sc_merge_texts.nd rfl (Or.inl rfl)) (pgs_cons (pg_name (i := 8) sc_merge_texts.nd rfl (Or.inl rfl)) pgs_nil))))) (pss_cons (ps_if (PW.pt (pw_or (pt_cmpR (r := rEqD K) (op_eqD hr.units) (pv 7) (pv 8) (nomark _)) (pw_or1 (pt_cmpR (r := rEqD K) (op_eqD hr.units) (pv 8) (pv 6) (nomark _))))) (pss_cons (ps_expr (pe_bm PySem.F.plainAttrs_list PySem.F.slot_list_extend PySem.F.type_list_extend mt_extT (pv 3) (pa_cons (pv 7) pa_nil))) pss_nil) (pss_cons (ps_if (pt_cmpR (r := rEqD K) (op_eqD hr.units) (pv 7) (pv 6) (nomark _)) (pss_cons (ps_expr (pe_bm PySem.F.plainAttrs_list PySem.F.slot_list_extend PySem.F.type_list_extend mt_extT (pv 3) (pa_cons (pv 8) pa_nil))) pss_nil) (pss_cons (ps_expr (pe_bm PySem.F.plainAttrs_list PySem.F.slot_list_extend PySem.F.type_list_extend mt_extend (pv 3) (pa_cons (pe_lst (pa_cons (pe_glob (v := .str ("<<<<<<<" : Str)) rfl c_OUR_SIDE ⟨_, rfl⟩) (StX.pa_star (pv 7) (pa_cons (pe_glob (v := .str ("|||||||" : Str)) rfl c_BASE_SIDE ⟨_, rfl⟩) (StX.pa_star (pv 6) (pa_cons (pe_glob (v := .str ("=======" : Str)) rfl c_THEIR_SIDE ⟨_, rfl⟩) (StX.pa_star (pv 8) (pa_cons (pe_glob (v := .str (">>>>>>>" : Str)) rfl c_CLASH_END ⟨_, rfl⟩) pa_nil)))))))) pa_nil))) (pss_cons (ps_aug (i := 4) sc_merge_texts.nd rfl (Or.inl rfl) pe_int ip_add) pss_nil))) pss_nil)) pss_nil)) (pss_cons (ps_ret (pe_tup (pa_cons (pv 3) (pa_cons (pv 4) pa_nil)))) pss_nil)))), ?_⟩
    have e0 : Ex H H := Ex.refl H
    have B := bs_F hd (N := N_merge_texts) (by rw [hd.length]; exact Nat.le_of_ble_eq_true rfl)
    have B : Bs _ _ _ [.va false ((eL eS) base_), .va false ((eL eS) ours_), .va false ((eL eS) theirs_), .no, .no, .no, .no, .no, .no] := B
    have hk : m_merge_texts base_ ours_ theirs_ = (match (List.foldl (l_merge_texts_1) (([] : (List Str)), (0 : Int)) (m_text_chunks (base_) (ours_) (theirs_))) with | (lines_r1, clashes_r1) => (lines_r1, clashes_r1)) := rfl
    obtain ⟨A1, A2⟩ := due_all h1 h2 h3 h4 h5 h6
    rw [← A1] at A2
    have al := A2.len
    refine q_asgN (f := true) B (en_lstM (em := eS) (xs := []) ea_nil (by simp)) fun a1 σ1 H1 B => ?_
    have B : Bs _ _ _ [.va false ((eL eS) base_), .va false ((eL eS) ours_), .va false ((eL eS) theirs_), .ow true a1 (([] : (List Str)).map eS), .no, .no, .no, .no, .no] := B
    refine q_asg (f := true) B ev_int fun σ1 H1 B => ?_
    have B : Bs _ _ _ [.va false ((eL eS) base_), .va false ((eL eS) ours_), .va false ((eL eS) theirs_), .ow true a1 (([] : (List Str)).map eS), .va true (eI (0 : Int)), .no, .no, .no, .no] := B
    refine q_foldLG tgt_tup4 (fun (s : (List Str) × Int) => [.va false ((eL eS) base_), .va false ((eL eS) ours_), .va false ((eL eS) theirs_), .ow true a1 (s.1.map eS), .va true (eI s.2), .no, .no, .no, .no]) (l_merge_texts_1) (([] : (List Str)), (0 : Int)) (fun n s => s.1.length ≤ 200 * n) B (ev_callF (B.live true) (ea_cons ((ev_va B rfl).w0) (ea_cons ((ev_va B rfl).w0) (ea_cons ((ev_va B rfl).w0) ea_nil))) ⟨base_, ours_, theirs_, rfl, by omega, by omega, by omega, rfl⟩) (.cons (.refl _) (.cons (.refl _) (.cons (.refl _) (.cons (.refl _) (.cons (.refl _) (.cons (.no _) (.cons (.no _) (.cons (.no _) (.cons (.no _) .nil))))))))) (by simp) (fun B0 e1 n s p_t1 σ1 H1 hx hn hJ B => ?_) (fun s σ1 H1 hs hJ B => ?_)
    · rcases s with ⟨lines_1, clashes_1⟩
      have B : Bs _ _ _ [.va false ((eL eS) base_), .va false ((eL eS) ours_), .va false ((eL eS) theirs_), .ow true a1 (lines_1.map eS), .va true (eI clashes_1), .va true (eS p_t1.1), .va true ((eTu eS) p_t1.2.1), .va true ((eTu eS) p_t1.2.2.1), .va true ((eTu eS) p_t1.2.2.2)] := B
      try simp only [List.length_reverse, rng_len, List.length_map] at hn
      have e0 := e0.trans e1
      have hk1 : l_merge_texts_1 (lines_1, clashes_1) p_t1 = (if ((decide (p_t1.2.2.1 = p_t1.2.2.2)) || (decide (p_t1.2.2.2 = p_t1.2.1))) = true then ((lines_1 ++ p_t1.2.2.1), clashes_1) else (if (decide (p_t1.2.2.1 = p_t1.2.1)) = true then ((lines_1 ++ p_t1.2.2.2), clashes_1) else ((lines_1 ++ (("<<<<<<<" : Str) :: (p_t1.2.2.1 ++ (("|||||||" : Str) :: (p_t1.2.1 ++ (("=======" : Str) :: (p_t1.2.2.2 ++ ((">>>>>>>" : Str) :: [])))))))), (clashes_1 + (1 : Int))))) := rfl
      simp only at hJ
      have k := A2.ck _ hx
      have k1 := k.l1
      have k2 := k.l2
      have k3 := k.l3
      refine q_if B (et_or (et_test (ev_eqM (a := p_t1.2.2.1) (b := p_t1.2.2.2) (emTu emS) ((ev_va B rfl).w0) ((ev_va B rfl).w0) (by first | exact k.q1 | exact k.q2 | exact k.q3) (by first | exact k.q1 | exact k.q2 | exact k.q3))) fun hc => (et_test (ev_eqM (a := p_t1.2.2.2) (b := p_t1.2.1) (emTu emS) ((ev_va B rfl).w0) ((ev_va B rfl).w0) (by first | exact k.q1 | exact k.q2 | exact k.q3) (by first | exact k.q1 | exact k.q2 | exact k.q3)))) (fun hc2 H1 B => ?_) (fun hc2 H1 B => ?_)
      · rw [if_pos hc2] at hk1
        have hc2_f := hc2
        try simp only [Bool.and_eq_true, Bool.or_eq_true, Bool.not_eq_true', Bool.and_eq_false_imp, Bool.or_eq_false_iff, Bool.not_eq_false', decide_eq_true_eq, decide_eq_false_iff_not] at hc2_f
        refine q_extT0 (f := true) (xs := lines_1) (ys := p_t1.2.2.1) (fun _ => (.str _)) B rfl ((ev_va B rfl).w0) (by first | omega | (simp; done) | (simp; omega) | exact cutG_le' (by omega) | (simp at *; omega)) fun H1 B => ?_
        have B : Bs _ _ _ [.va false ((eL eS) base_), .va false ((eL eS) ours_), .va false ((eL eS) theirs_), .ow true a1 ((lines_1 ++ p_t1.2.2.1).map eS), .va true (eI clashes_1), .va true (eS p_t1.1), .va true ((eTu eS) p_t1.2.1), .va true ((eTu eS) p_t1.2.2.1), .va true ((eTu eS) p_t1.2.2.2)] := B
        exact ⟨_, hk1.symm, (by simp only [List.length_append, List.length_cons, List.length_nil]; omega), B.le (.cons (.refl _) (.cons (.refl _) (.cons (.refl _) (.cons (.refl _) (.cons (.refl _) (.cons (.no _) (.cons (.no _) (.cons (.no _) (.cons (.no _) .nil)))))))))⟩
      · rw [if_neg (show ¬ ((decide (p_t1.2.2.1 = p_t1.2.2.2)) || (decide (p_t1.2.2.2 = p_t1.2.1))) = true from by rw [hc2]; exact Bool.false_ne_true)] at hk1
        have hc2_f := hc2
        try simp only [Bool.and_eq_true, Bool.or_eq_true, Bool.not_eq_true', Bool.and_eq_false_imp, Bool.or_eq_false_iff, Bool.not_eq_false', decide_eq_true_eq, decide_eq_false_iff_not] at hc2_f
        refine q_if B (et_test (ev_eqM (a := p_t1.2.2.1) (b := p_t1.2.1) (emTu emS) ((ev_va B rfl).w0) ((ev_va B rfl).w0) (by first | exact k.q1 | exact k.q2 | exact k.q3) (by first | exact k.q1 | exact k.q2 | exact k.q3))) (fun hc3 H1 B => ?_) (fun hc3 H1 B => ?_)
        · rw [if_pos hc3] at hk1
          have hc3_f := hc3
          try simp only [Bool.and_eq_true, Bool.or_eq_true, Bool.not_eq_true', Bool.and_eq_false_imp, Bool.or_eq_false_iff, Bool.not_eq_false', decide_eq_true_eq, decide_eq_false_iff_not] at hc3_f
          refine q_extT0 (f := true) (xs := lines_1) (ys := p_t1.2.2.2) (fun _ => (.str _)) B rfl ((ev_va B rfl).w0) (by first | omega | (simp; done) | (simp; omega) | exact cutG_le' (by omega) | (simp at *; omega)) fun H1 B => ?_
          have B : Bs _ _ _ [.va false ((eL eS) base_), .va false ((eL eS) ours_), .va false ((eL eS) theirs_), .ow true a1 ((lines_1 ++ p_t1.2.2.2).map eS), .va true (eI clashes_1), .va true (eS p_t1.1), .va true ((eTu eS) p_t1.2.1), .va true ((eTu eS) p_t1.2.2.1), .va true ((eTu eS) p_t1.2.2.2)] := B
          exact ⟨_, hk1.symm, (by simp only [List.length_append, List.length_cons, List.length_nil]; omega), B.le (.cons (.refl _) (.cons (.refl _) (.cons (.refl _) (.cons (.refl _) (.cons (.refl _) (.cons (.no _) (.cons (.no _) (.cons (.no _) (.cons (.no _) .nil)))))))))⟩
        · rw [if_neg (show ¬ (decide (p_t1.2.2.1 = p_t1.2.1)) = true from by rw [hc3]; exact Bool.false_ne_true)] at hk1
          have hc3_f := hc3
          try simp only [Bool.and_eq_true, Bool.or_eq_true, Bool.not_eq_true', Bool.and_eq_false_imp, Bool.or_eq_false_iff, Bool.not_eq_false', decide_eq_true_eq, decide_eq_false_iff_not] at hc3_f
          refine q_extL0 (f := true) (xs := lines_1) (ys := (("<<<<<<<" : Str) :: (p_t1.2.2.1 ++ (("|||||||" : Str) :: (p_t1.2.1 ++ (("=======" : Str) :: (p_t1.2.2.2 ++ ((">>>>>>>" : Str) :: [])))))))) (fun _ => (.str _)) B rfl (((en_lstM (em := eS) (xs := (("<<<<<<<" : Str) :: (p_t1.2.2.1 ++ (("|||||||" : Str) :: (p_t1.2.1 ++ (("=======" : Str) :: (p_t1.2.2.2 ++ ((">>>>>>>" : Str) :: [])))))))) (ea_consM (em := eS) (x := ("<<<<<<<" : Str)) ev_str (ea_starTM (em := eS) (xs := p_t1.2.2.1) ((ev_va B rfl).w0) (ea_consM (em := eS) (x := ("|||||||" : Str)) ev_str (ea_starTM (em := eS) (xs := p_t1.2.1) ((ev_va B rfl).w0) (ea_consM (em := eS) (x := ("=======" : Str)) ev_str (ea_starTM (em := eS) (xs := p_t1.2.2.2) ((ev_va B rfl).w0) (ea_consM (em := eS) (x := (">>>>>>>" : Str)) ev_str (show EvA _ _ _ _ (List.map eS []) from ea_nil)))))))) (by first | omega | (simp; done) | (simp; omega) | exact cutG_le' (by omega) | (simp at *; omega))).scL (fun _ => (.str _))).ev live0) (by first | omega | (simp; done) | (simp; omega) | exact cutG_le' (by omega) | (simp at *; omega)) fun H1 B => ?_
          have B : Bs _ _ _ [.va false ((eL eS) base_), .va false ((eL eS) ours_), .va false ((eL eS) theirs_), .ow true a1 ((lines_1 ++ (("<<<<<<<" : Str) :: (p_t1.2.2.1 ++ (("|||||||" : Str) :: (p_t1.2.1 ++ (("=======" : Str) :: (p_t1.2.2.2 ++ ((">>>>>>>" : Str) :: [])))))))).map eS), .va true (eI clashes_1), .va true (eS p_t1.1), .va true ((eTu eS) p_t1.2.1), .va true ((eTu eS) p_t1.2.2.1), .va true ((eTu eS) p_t1.2.2.2)] := B
          refine q_aug B rfl ev_int fun σ1 H1 B => ?_
          have B : Bs _ _ _ [.va false ((eL eS) base_), .va false ((eL eS) ours_), .va false ((eL eS) theirs_), .ow true a1 ((lines_1 ++ (("<<<<<<<" : Str) :: (p_t1.2.2.1 ++ (("|||||||" : Str) :: (p_t1.2.1 ++ (("=======" : Str) :: (p_t1.2.2.2 ++ ((">>>>>>>" : Str) :: [])))))))).map eS), .va true (eI (clashes_1 + (1 : Int))), .va true (eS p_t1.1), .va true ((eTu eS) p_t1.2.1), .va true ((eTu eS) p_t1.2.2.1), .va true ((eTu eS) p_t1.2.2.2)] := B
          exact ⟨_, hk1.symm, (by simp only [List.length_append, List.length_cons, List.length_nil]; omega), B.le (.cons (.refl _) (.cons (.refl _) (.cons (.refl _) (.cons (.refl _) (.cons (.refl _) (.cons (.no _) (.cons (.no _) (.cons (.no _) (.cons (.no _) .nil)))))))))⟩
    · rw [← hs] at hk
      try simp only [List.length_reverse, rng_len, List.length_map] at hJ
      obtain ⟨lines_r1, clashes_r1⟩ := s
      try dsimp only at hk
      have B : Bs _ _ _ [.va false ((eL eS) base_), .va false ((eL eS) ours_), .va false ((eL eS) theirs_), .ow true a1 (lines_r1.map eS), .va true (eI clashes_r1), .no, .no, .no, .no] := B
      have B : Bs _ _ _ [.va false ((eL eS) base_), .va false ((eL eS) ours_), .va false ((eL eS) theirs_), .va true ((eL eS) lines_r1), .va true (eI clashes_r1), .no, .no, .no, .no] := B.le (.cons (.refl _) (.cons (.refl _) (.cons (.refl _) (.cons (.fz _ _ _) (.cons (.refl _) (.cons (.refl _) (.cons (.refl _) (.cons (.refl _) (.cons (.refl _) .nil)))))))))
      refine q_ret (f := true) B (ev_tup (B.live true) (ea_cons (ev_va B rfl) (ea_cons (ev_sc B rfl (.int _)) ea_nil)) (by simp)) fun v H1 x hv => q v H1 (e0.trans x) ?_
      rw [hk]; exact new_of hv

def m__law_decided (base_ : (List Str)) (ours_ : (List Str)) (theirs_ : (List Str)) : ((List Str) × Int) :=
  (if ((decide (ours_ = theirs_)) || (decide (theirs_ = base_))) = true then (ours_, (0 : Int)) else (if (decide (ours_ = base_)) = true then (theirs_, (0 : Int)) else (((((((([("<<<<<<<" : Str)]) ++ ours_) ++ ([("|||||||" : Str)])) ++ base_) ++ ([("=======" : Str)])) ++ theirs_) ++ ([(">>>>>>>" : Str)])), (1 : Int))))

abbrev s__law_decided : Stmt := topS 19

abbrev N__law_decided : List Str := ["base", "ours", "theirs", "lines"]

theorem sc__law_decided : FnScope N__law_decided ["base", "ours", "theirs"] (defScope s__law_decided) := ⟨rfl, rfl, rfl, by decide +kernel, rfl, by decide +kernel, by decide +kernel⟩

def r__law_decided : List PyData → PyData → Prop := fun ds d => ∃ (base_ : (List Str)) (ours_ : (List Str)) (theirs_ : (List Str)), ds = [(eL eS) base_, (eL eS) ours_, (eL eS) theirs_] ∧ (base_.length ≤ 70) ∧ (ours_.length ≤ 70) ∧ (theirs_.length ≤ 70) ∧ (∀ x ∈ base_, PyData.strOk x = true) ∧ (∀ x ∈ ours_, PyData.strOk x = true) ∧ (∀ x ∈ theirs_, PyData.strOk x = true) ∧ d = (eT2 (eL eS) eI) (m__law_decided base_ ours_ theirs_)

set_option maxHeartbeats 8000000 in
theorem ok__law_decided {f : Addr} {fd : FuncData} {k : Nat} (F : Fun K "_law_decided" "_law_decided" s__law_decided f fd) : FnOk P w K mg base CX0 (k + 1) f fd ["base", "ours", "theirs"] (SpS r__law_decided) := by
  refine F.ok sc__law_decided (fun vs H Q E h => ?_) (fun cdv A outer s H vs Q E hr h => ?_)
  · obtain ⟨o, ds, d, lo, hd, ⟨base_, ours_, theirs_, rfl, h1, h2, h3, h4, h5, h6, rfl⟩, _⟩ := h
    exact hd.length
  · obtain ⟨o, ds, d, lo, hd, ⟨base_, ours_, theirs_, rfl, h1, h2, h3, h4, h5, h6, rfl⟩, q⟩ := h
    refine ⟨_, (pss_cons (ps_if (PW.pt (pw_or (pt_cmpR (r := rEqD K) (op_eqD hr.units) (pv 1) (pv 2) (nomark _)) (pw_or1 (pt_cmpR (r := rEqD K) (op_eqD hr.units) (pv 2) (pv 0) (nomark _))))) (pss_cons (ps_ret (pe_tup (pa_cons (pv 1) (pa_cons pe_int pa_nil)))) pss_nil) pss_nil) (pss_cons (ps_if (pt_cmpR (r := rEqD K) (op_eqD hr.units) (pv 1) (pv 0) (nomark _)) (pss_cons (ps_ret (pe_tup (pa_cons (pv 2) (pa_cons pe_int pa_nil)))) pss_nil) pss_nil) (pss_cons (ps_set (i := 3) sc__law_decided.nd rfl (Or.inl rfl) (pe_op op_cat (pe_op op_cat (pe_op op_cat (pe_op op_cat (pe_op op_cat (pe_op op_cat (pe_lst (pa_cons pe_str pa_nil)) (pv 1)) (pe_lst (pa_cons pe_str pa_nil))) (pv 0)) (pe_lst (pa_cons pe_str pa_nil))) (pv 2)) (pe_lst (pa_cons pe_str pa_nil)))) (pss_cons (ps_ret (pe_tup (pa_cons (pv 3) (pa_cons pe_int pa_nil)))) pss_nil)))), ?_⟩
    have e0 : Ex H H := Ex.refl H
    have B := bs_S lo hd (N := N__law_decided) (by rw [hd.length]; exact Nat.le_of_ble_eq_true rfl)
    have B : Bs _ _ _ [.va true ((eL eS) base_), .va true ((eL eS) ours_), .va true ((eL eS) theirs_), .no] := B
    have hk : m__law_decided base_ ours_ theirs_ = (if ((decide (ours_ = theirs_)) || (decide (theirs_ = base_))) = true then (ours_, (0 : Int)) else (if (decide (ours_ = base_)) = true then (theirs_, (0 : Int)) else (((((((([("<<<<<<<" : Str)]) ++ ours_) ++ ([("|||||||" : Str)])) ++ base_) ++ ([("=======" : Str)])) ++ theirs_) ++ ([(">>>>>>>" : Str)])), (1 : Int)))) := rfl
    refine q_if B (et_or (et_test (ev_eqM (a := ours_) (b := theirs_) (emL emS) ((ev_va B rfl).w0) ((ev_va B rfl).w0) (by first | exact h4 | exact h5 | exact h6) (by first | exact h4 | exact h5 | exact h6))) fun hc => (et_test (ev_eqM (a := theirs_) (b := base_) (emL emS) ((ev_va B rfl).w0) ((ev_va B rfl).w0) (by first | exact h4 | exact h5 | exact h6) (by first | exact h4 | exact h5 | exact h6)))) (fun hc5 H1 B => ?_) (fun hc5 H1 B => ?_)
    · rw [if_pos hc5] at hk
      have hc5_f := hc5
      try simp only [Bool.and_eq_true, Bool.or_eq_true, Bool.not_eq_true', Bool.and_eq_false_imp, Bool.or_eq_false_iff, Bool.not_eq_false', decide_eq_true_eq, decide_eq_false_iff_not] at hc5_f
      refine q_ret (f := true) B (ev_tup (B.live true) (ea_cons (ev_va B rfl) (ea_cons ev_int ea_nil)) (by simp)) fun v H1 x hv => q v H1 (e0.trans x) ?_
      rw [hk]; exact hd_nil hv
    · rw [if_neg (show ¬ ((decide (ours_ = theirs_)) || (decide (theirs_ = base_))) = true from by rw [hc5]; exact Bool.false_ne_true)] at hk
      have hc5_f := hc5
      try simp only [Bool.and_eq_true, Bool.or_eq_true, Bool.not_eq_true', Bool.and_eq_false_imp, Bool.or_eq_false_iff, Bool.not_eq_false', decide_eq_true_eq, decide_eq_false_iff_not] at hc5_f
      dsimp only [tNext]
      refine q_if B (et_test (ev_eqM (a := ours_) (b := base_) (emL emS) ((ev_va B rfl).w0) ((ev_va B rfl).w0) (by first | exact h4 | exact h5 | exact h6) (by first | exact h4 | exact h5 | exact h6))) (fun hc6 H1 B => ?_) (fun hc6 H1 B => ?_)
      · rw [if_pos hc6] at hk
        have hc6_f := hc6
        try simp only [Bool.and_eq_true, Bool.or_eq_true, Bool.not_eq_true', Bool.and_eq_false_imp, Bool.or_eq_false_iff, Bool.not_eq_false', decide_eq_true_eq, decide_eq_false_iff_not] at hc6_f
        refine q_ret (f := true) B (ev_tup (B.live true) (ea_cons (ev_va B rfl) (ea_cons ev_int ea_nil)) (by simp)) fun v H1 x hv => q v H1 (e0.trans x) ?_
        rw [hk]; exact hd_nil hv
      · rw [if_neg (show ¬ (decide (ours_ = base_)) = true from by rw [hc6]; exact Bool.false_ne_true)] at hk
        have hc6_f := hc6
        try simp only [Bool.and_eq_true, Bool.or_eq_true, Bool.not_eq_true', Bool.and_eq_false_imp, Bool.or_eq_false_iff, Bool.not_eq_false', decide_eq_true_eq, decide_eq_false_iff_not] at hc6_f
        dsimp only [tNext]
        refine q_asg (f := true) B (((en_catM (((en_catM (((en_catM (((en_catM (((en_catM (((en_catM ((en_lstM (em := eS) (xs := [("<<<<<<<" : Str)]) (ea_cons ev_str ea_nil) (by simp)).ev live0) ((ev_va B rfl).w0) (by (try simp only [List.length_append, List.length_cons, List.length_nil]); omega)).scL (fun _ => (.str _))).ev live0) ((en_lstM (em := eS) (xs := [("|||||||" : Str)]) (ea_cons ev_str ea_nil) (by simp)).ev live0) (by (try simp only [List.length_append, List.length_cons, List.length_nil]); omega)).scL (fun _ => (.str _))).ev live0) ((ev_va B rfl).w0) (by (try simp only [List.length_append, List.length_cons, List.length_nil]); omega)).scL (fun _ => (.str _))).ev live0) ((en_lstM (em := eS) (xs := [("=======" : Str)]) (ea_cons ev_str ea_nil) (by simp)).ev live0) (by (try simp only [List.length_append, List.length_cons, List.length_nil]); omega)).scL (fun _ => (.str _))).ev live0) ((ev_va B rfl).w0) (by (try simp only [List.length_append, List.length_cons, List.length_nil]); omega)).scL (fun _ => (.str _))).ev live0) ((en_lstM (em := eS) (xs := [(">>>>>>>" : Str)]) (ea_cons ev_str ea_nil) (by simp)).ev live0) (by (try simp only [List.length_append, List.length_cons, List.length_nil]); omega)).scL (fun _ => (.str _))).ev (B.live true)) fun σ1 H1 B => ?_
        have B : Bs _ _ _ [.va true ((eL eS) base_), .va true ((eL eS) ours_), .va true ((eL eS) theirs_), .va true ((eL eS) ((((((([("<<<<<<<" : Str)]) ++ ours_) ++ ([("|||||||" : Str)])) ++ base_) ++ ([("=======" : Str)])) ++ theirs_) ++ ([(">>>>>>>" : Str)])))] := B
        refine q_ret (f := true) B (ev_tup (B.live true) (ea_cons (ev_va B rfl) (ea_cons ev_int ea_nil)) (by simp)) fun v H1 x hv => q v H1 (e0.trans x) ?_
        rw [hk]; exact hd_nil hv

def l__law_side_1 (base_ : (List Str)) (kept_ : (List Bool)) (new_ : (List (List Str))) (s : (List Str)) (k_t1 : Int) : (List Str) :=
  match s with
  | lines_1 => (if (getI kept_ k_t1) = true then ((lines_1 ++ (getI new_ k_t1)) ++ ([(getI base_ k_t1)])) else (lines_1 ++ (getI new_ k_t1)))

def m__law_side (base_ : (List Str)) (kept_ : (List Bool)) (new_ : (List (List Str))) : (List Str) :=
  (match (List.foldl (l__law_side_1 base_ kept_ new_) ([] : (List Str)) (rng 0 (List.length base_ : Int))) with | lines_r1 => (lines_r1 ++ (getI new_ (List.length base_ : Int))))

theorem getI_le {xs : List (List Str)} {m : Int} (h : ∀ x ∈ xs, x.length ≤ 2) : (getI xs m).length ≤ 2 := by
  unfold getI atI
  cases ixN xs.length m with
  | none => exact Nat.zero_le _
  | some n =>
    show ((xs[n]?).getD default).length ≤ 2
    cases q : xs[n]? with
    | none => exact Nat.zero_le _
    | some x => exact h x (List.mem_of_getElem? q)

abbrev s__law_side : Stmt := topS 20

abbrev N__law_side : List Str := ["base", "kept", "new", "lines", "k"]

theorem sc__law_side : FnScope N__law_side ["base", "kept", "new"] (defScope s__law_side) := ⟨rfl, rfl, rfl, by decide +kernel, rfl, by decide +kernel, by decide +kernel⟩

def r__law_side : List PyData → PyData → Prop := fun ds d => ∃ (base_ : (List Str)) (kept_ : (List Bool)) (new_ : (List (List Str))), ds = [(eL eS) base_, (eL eB) kept_, (eL (eL eS)) new_] ∧ (kept_.length = base_.length) ∧ (new_.length = base_.length + 1) ∧ (base_.length ≤ 8) ∧ (∀ x ∈ new_, x.length ≤ 2) ∧ d = (eL eS) (m__law_side base_ kept_ new_)

set_option maxHeartbeats 8000000 in
theorem ok__law_side {f : Addr} {fd : FuncData} {k : Nat} (F : Fun K "_law_side" "_law_side" s__law_side f fd) (m_range : mg "range" = none) (m_len : mg "len" = none) : FnOk P w K mg base CX0 (k + 1) f fd ["base", "kept", "new"] (SpF r__law_side) := by
  refine F.ok sc__law_side (fun vs H Q E h => ?_) (fun cdv A outer s H vs Q E hr h => ?_)
  · obtain ⟨ds, d, hd, ⟨base_, kept_, new_, rfl, h1, h2, h3, h4, rfl⟩, _⟩ := h
    exact hd.length
  · obtain ⟨ds, d, hd, ⟨base_, kept_, new_, rfl, h1, h2, h3, h4, rfl⟩, q⟩ := h
    refine ⟨_, (pss_cons (ps_set (i := 3) sc__law_side.nd rfl (Or.inl rfl) (pe_lst pa_nil)) (pss_cons (ps_for PassesOwn.never rfl (pi_range1 rfl m_range (pa_cons (pe_callB (r := rLenK K) call_len_seq (by rfl) m_len PySem.boot_len (pa_cons (pv 0) pa_nil)) pa_nil)) (pg_name (i := 4) sc__law_side.nd rfl (Or.inl rfl)) (pss_cons (ps_set (i := 3) sc__law_side.nd rfl (Or.inl rfl) (pe_op op_cat (pv 3) (pe_ix (r := rIxL K) ix_list (pv 2) (pv 4) (fun _ _ => rfl)))) (pss_cons (ps_if (pt_val (pe_ix (r := rIxL K) ix_list (pv 1) (pv 4) (fun _ _ => rfl))) (pss_cons (ps_set (i := 3) sc__law_side.nd rfl (Or.inl rfl) (pe_op op_cat (pv 3) (pe_lst (pa_cons (pe_ix (r := rIxL K) ix_list (pv 0) (pv 4) (fun _ _ => rfl)) pa_nil)))) pss_nil) pss_nil) pss_nil))) (pss_cons (ps_ret (pe_op op_cat (pv 3) (pe_ix (r := rIxL K) ix_list (pv 2) (pe_callB (r := rLenK K) call_len_seq (by rfl) m_len PySem.boot_len (pa_cons (pv 0) pa_nil)) (fun _ _ => rfl)))) pss_nil))), ?_⟩
    have e0 : Ex H H := Ex.refl H
    have B := bs_F hd (N := N__law_side) (by rw [hd.length]; exact Nat.le_of_ble_eq_true rfl)
    have B : Bs _ _ _ [.va false ((eL eS) base_), .va false ((eL eB) kept_), .va false ((eL (eL eS)) new_), .no, .no] := B
    have hk : m__law_side base_ kept_ new_ = (match (List.foldl (l__law_side_1 base_ kept_ new_) ([] : (List Str)) (rng 0 (List.length base_ : Int))) with | lines_r1 => (lines_r1 ++ (getI new_ (List.length base_ : Int)))) := rfl
    have gl : ∀ m : Int, (getI new_ m).length ≤ 2 := fun m => getI_le h4
    refine q_asg (f := true) B ((en_lstM (em := eS) (xs := []) ea_nil (by simp)).ev (B.live true)) fun σ1 H1 B => ?_
    have B : Bs _ _ _ [.va false ((eL eS) base_), .va false ((eL eB) kept_), .va false ((eL (eL eS)) new_), .va true ((eL eS) ([] : (List Str))), .no] := B
    refine q_foldR1 (fun (s : (List Str)) => [.va false ((eL eS) base_), .va false ((eL eB) kept_), .va false ((eL (eL eS)) new_), .va true ((eL eS) s), .no]) (l__law_side_1 base_ kept_ new_) ([] : (List Str)) (fun n s => s.length ≤ 3 * n) B (ev_lenM ((ev_va B rfl).w0)) (by omega) (.cons (.refl _) (.cons (.refl _) (.cons (.refl _) (.cons (.refl _) (.cons (.no _) .nil))))) (by simp) (fun B0 e1 n lines_1 k_t1 σ1 H1 hx hn hJ B => ?_) (fun lines_r1 σ1 H1 hs hJ B => ?_)
    · skip
      have B : Bs _ _ _ [.va false ((eL eS) base_), .va false ((eL eB) kept_), .va false ((eL (eL eS)) new_), .va true ((eL eS) lines_1), .va true (eI k_t1)] := B
      have hx_f := rng_mem.mp hx
      try simp only [List.length_reverse, rng_len, List.length_map] at hn
      have e0 := e0.trans e1
      have hk1 : l__law_side_1 base_ kept_ new_ lines_1 k_t1 = (if (getI kept_ k_t1) = true then ((lines_1 ++ (getI new_ k_t1)) ++ ([(getI base_ k_t1)])) else (lines_1 ++ (getI new_ k_t1))) := rfl
      have g1 := gl k_t1
      refine q_asg (f := true) B (((en_catM ((ev_va B rfl).w0) (ev_ixM (em := (eL eS)) (xs := new_) ((ev_va B rfl).w0) (ev_sc B rfl (.int _)) (show inB new_ k_t1 from by first | assumption | (unfold inB; first | omega | (simp; omega) | (simp at *; omega)))) (by first | omega | (simp; done) | (simp; omega) | exact cutG_le' (by omega) | (simp at *; omega))).scL (fun _ => (.str _))).ev (B.live true)) fun σ1 H1 B => ?_
      have B : Bs _ _ _ [.va false ((eL eS) base_), .va false ((eL eB) kept_), .va false ((eL (eL eS)) new_), .va true ((eL eS) (lines_1 ++ (getI new_ k_t1))), .va true (eI k_t1)] := B
      refine q_if B (et_B ((ev_ixM (em := eB) (xs := kept_) ((ev_va B rfl).w0) (ev_sc B rfl (.int _)) (show inB kept_ k_t1 from by first | assumption | (unfold inB; first | omega | (simp; omega) | (simp at *; omega)))).sc (.bl _))) (fun hc7 H1 B => ?_) (fun hc7 H1 B => ?_)
      · rw [if_pos hc7] at hk1
        have hc7_f := hc7
        try simp only [Bool.and_eq_true, Bool.or_eq_true, Bool.not_eq_true', Bool.and_eq_false_imp, Bool.or_eq_false_iff, Bool.not_eq_false', decide_eq_true_eq, decide_eq_false_iff_not] at hc7_f
        refine q_asg (f := true) B (((en_catM ((ev_va B rfl).w0) ((en_lstM (em := eS) (xs := [(getI base_ k_t1)]) (ea_cons ((ev_ixM (em := eS) (xs := base_) ((ev_va B rfl).w0) (ev_sc B rfl (.int _)) (show inB base_ k_t1 from by first | assumption | (unfold inB; first | omega | (simp; omega) | (simp at *; omega)))).sc (.str _)) ea_nil) (by simp)).ev live0) (by first | omega | (simp; done) | (simp; omega) | exact cutG_le' (by omega) | (simp at *; omega))).scL (fun _ => (.str _))).ev (B.live true)) fun σ1 H1 B => ?_
        have B : Bs _ _ _ [.va false ((eL eS) base_), .va false ((eL eB) kept_), .va false ((eL (eL eS)) new_), .va true ((eL eS) ((lines_1 ++ (getI new_ k_t1)) ++ ([(getI base_ k_t1)]))), .va true (eI k_t1)] := B
        exact ⟨_, hk1.symm, (by simp only [List.length_append, List.length_cons, List.length_nil]; omega), B.le (.cons (.refl _) (.cons (.refl _) (.cons (.refl _) (.cons (.refl _) (.cons (.no _) .nil)))))⟩
      · rw [if_neg (show ¬ (getI kept_ k_t1) = true from by rw [hc7]; exact Bool.false_ne_true)] at hk1
        have hc7_f := hc7
        try simp only [Bool.and_eq_true, Bool.or_eq_true, Bool.not_eq_true', Bool.and_eq_false_imp, Bool.or_eq_false_iff, Bool.not_eq_false', decide_eq_true_eq, decide_eq_false_iff_not] at hc7_f
        exact ⟨_, hk1.symm, (by simp only [List.length_append, List.length_cons, List.length_nil]; omega), B.le (.cons (.refl _) (.cons (.refl _) (.cons (.refl _) (.cons (.refl _) (.cons (.no _) .nil)))))⟩
    · rw [← hs] at hk
      try simp only [List.length_reverse, rng_len, List.length_map] at hJ
      try dsimp only at hk
      have B : Bs _ _ _ [.va false ((eL eS) base_), .va false ((eL eB) kept_), .va false ((eL (eL eS)) new_), .va true ((eL eS) lines_r1), .no] := B
      have g1 := gl (List.length base_ : Int)
      refine q_ret (f := true) B (((en_catM ((ev_va B rfl).w0) (ev_ixM (em := (eL eS)) (xs := new_) ((ev_va B rfl).w0) (ev_lenM ((ev_va B rfl).w0)) (show inB new_ (List.length base_ : Int) from by first | assumption | (unfold inB; first | omega | (simp; omega) | (simp at *; omega)))) (by first | omega | (simp; done) | (simp; omega) | exact cutG_le' (by omega) | (simp at *; omega))).scL (fun _ => (.str _))).ev (B.live true)) fun v H1 x hv => q v H1 (e0.trans x) ?_
      rw [hk]; exact new_of hv

def l__law_merged_2 (base_ : (List Str)) (kept_ : (List (List Bool))) (k_t1 : Int) (s : (List (List Str))) (side_t2 : Int) : (List (List Str)) :=
  match s with
  | part_2 => (if (getI (getI kept_ side_t2) k_t1) = true then (setI part_2 (side_t2 + (1 : Int)) ((getI part_2 (side_t2 + (1 : Int))) ++ ([(getI base_ k_t1)]))) else part_2)

def l__law_merged_1 (base_ : (List Str)) (kept_ : (List (List Bool))) (new_ : (List (List (List Str)))) (s : (List (List Str)) × (List Str) × Int) (k_t1 : Int) : (List (List Str)) × (List Str) × Int :=
  match s with
  | (part_1, lines_1, clashes_1) => (if ((decide (k_t1 < (List.length base_ : Int))) && (!((getI (getI kept_ (0 : Int)) k_t1) && (getI (getI kept_ (1 : Int)) k_t1)))) = true then (match (List.foldl (l__law_merged_2 base_ kept_ k_t1) (setI (setI (setI part_1 (1 : Int) ((getI part_1 (1 : Int)) ++ (getI (getI new_ (0 : Int)) k_t1))) (2 : Int) ((getI (setI part_1 (1 : Int) ((getI part_1 (1 : Int)) ++ (getI (getI new_ (0 : Int)) k_t1))) (2 : Int)) ++ (getI (getI new_ (1 : Int)) k_t1))) (0 : Int) ((getI (setI (setI part_1 (1 : Int) ((getI part_1 (1 : Int)) ++ (getI (getI new_ (0 : Int)) k_t1))) (2 : Int) ((getI (setI part_1 (1 : Int) ((getI part_1 (1 : Int)) ++ (getI (getI new_ (0 : Int)) k_t1))) (2 : Int)) ++ (getI (getI new_ (1 : Int)) k_t1))) (0 : Int)) ++ ([(getI base_ k_t1)]))) (rng 0 (2 : Int))) with | part_r2 => (part_r2, lines_1, clashes_1)) else ([([] : (List Str)), ([] : (List Str)), ([] : (List Str))], ((lines_1 ++ ((m__law_decided ((getI (setI (setI part_1 (1 : Int) ((getI part_1 (1 : Int)) ++ (getI (getI new_ (0 : Int)) k_t1))) (2 : Int) ((getI (setI part_1 (1 : Int) ((getI part_1 (1 : Int)) ++ (getI (getI new_ (0 : Int)) k_t1))) (2 : Int)) ++ (getI (getI new_ (1 : Int)) k_t1))) (0 : Int))) ((getI (setI (setI part_1 (1 : Int) ((getI part_1 (1 : Int)) ++ (getI (getI new_ (0 : Int)) k_t1))) (2 : Int) ((getI (setI part_1 (1 : Int) ((getI part_1 (1 : Int)) ++ (getI (getI new_ (0 : Int)) k_t1))) (2 : Int)) ++ (getI (getI new_ (1 : Int)) k_t1))) (1 : Int))) ((getI (setI (setI part_1 (1 : Int) ((getI part_1 (1 : Int)) ++ (getI (getI new_ (0 : Int)) k_t1))) (2 : Int) ((getI (setI part_1 (1 : Int) ((getI part_1 (1 : Int)) ++ (getI (getI new_ (0 : Int)) k_t1))) (2 : Int)) ++ (getI (getI new_ (1 : Int)) k_t1))) (2 : Int)))).1)) ++ (cutG base_ (some k_t1) (some (k_t1 + (1 : Int))))), (clashes_1 + ((m__law_decided ((getI (setI (setI part_1 (1 : Int) ((getI part_1 (1 : Int)) ++ (getI (getI new_ (0 : Int)) k_t1))) (2 : Int) ((getI (setI part_1 (1 : Int) ((getI part_1 (1 : Int)) ++ (getI (getI new_ (0 : Int)) k_t1))) (2 : Int)) ++ (getI (getI new_ (1 : Int)) k_t1))) (0 : Int))) ((getI (setI (setI part_1 (1 : Int) ((getI part_1 (1 : Int)) ++ (getI (getI new_ (0 : Int)) k_t1))) (2 : Int) ((getI (setI part_1 (1 : Int) ((getI part_1 (1 : Int)) ++ (getI (getI new_ (0 : Int)) k_t1))) (2 : Int)) ++ (getI (getI new_ (1 : Int)) k_t1))) (1 : Int))) ((getI (setI (setI part_1 (1 : Int) ((getI part_1 (1 : Int)) ++ (getI (getI new_ (0 : Int)) k_t1))) (2 : Int) ((getI (setI part_1 (1 : Int) ((getI part_1 (1 : Int)) ++ (getI (getI new_ (0 : Int)) k_t1))) (2 : Int)) ++ (getI (getI new_ (1 : Int)) k_t1))) (2 : Int)))).2))))

def m__law_merged (base_ : (List Str)) (kept_ : (List (List Bool))) (new_ : (List (List (List Str)))) : ((List Str) × Int) :=
  (match (List.foldl (l__law_merged_1 base_ kept_ new_) ([([] : (List Str)), ([] : (List Str)), ([] : (List Str))], ([] : (List Str)), (0 : Int)) (rng 0 ((List.length base_ : Int) + (1 : Int)))) with | (part_r1, lines_r1, clashes_r1) => (lines_r1, clashes_r1))

theorem decided_le (a b c : List Str) : (m__law_decided a b c).1.length ≤ a.length + b.length + c.length + 4 := by
  unfold m__law_decided
  split
  · simp only; omega
  · split
    · simp only; omega
    · simp only [List.length_append, List.length_cons, List.length_nil]; omega
theorem setI_mem {α : Type} {xs : List α} {m : Int} {x y : α} (h : y ∈ setI xs m x) : y ∈ xs ∨ y = x := by
  unfold setI at h
  split at h
  · exact List.mem_or_eq_of_mem_set h
  · exact .inl h
def PJ (b : Nat) (part : List (List Str)) : Prop := part.length = 3 ∧ ∀ p ∈ part, p.length ≤ b ∧ ∀ x ∈ p, PyData.strOk x = true
theorem PJ.get {b : Nat} {part : List (List Str)} (h : PJ b part) (m : Int) : (getI part m).length ≤ b ∧ ∀ x ∈ getI part m, PyData.strOk x = true := by
  unfold getI atI
  cases ixN part.length m with
  | none => exact ⟨Nat.zero_le _, fun x hx => by simp [default] at hx⟩
  | some n =>
    show ((part[n]?).getD default).length ≤ b ∧ ∀ x ∈ ((part[n]?).getD default), PyData.strOk x = true
    cases q : part[n]? with
    | none => exact ⟨Nat.zero_le _, fun x hx => by simp [default] at hx⟩
    | some x => exact h.2 x (List.mem_of_getElem? q)
theorem PJ.set {b c d : Nat} {part : List (List Str)} {m k : Int} {ys : List Str} (h : PJ b part) (hy : ys.length ≤ c) (ho : ∀ y ∈ ys, PyData.strOk y = true) (hd : b + c ≤ d) : PJ d (setI part m (getI part k ++ ys)) := by
  have g := h.get k
  refine ⟨by rw [setI_len]; exact h.1, fun p hp => ?_⟩
  rcases setI_mem hp with z | z
  · exact ⟨by have := (h.2 p z).1; omega, (h.2 p z).2⟩
  · rw [z, List.length_append]
    refine ⟨by omega, fun x hx => ?_⟩
    rcases List.mem_append.mp hx with w | w
    · exact g.2 x w
    · exact ho x w
theorem PJ.mono {b d : Nat} {part : List (List Str)} (h : PJ b part) (hd : b ≤ d) : PJ d part := ⟨h.1, fun p hp => ⟨by have := (h.2 p hp).1; omega, (h.2 p hp).2⟩⟩
theorem PJ0 (b : Nat) : PJ b [[], [], []] := ⟨rfl, fun p hp => by
  simp only [List.mem_cons, List.not_mem_nil, or_false] at hp
  rcases hp with rfl | rfl | rfl <;> exact ⟨Nat.zero_le _, fun x hx => by simp at hx⟩⟩

abbrev s__law_merged : Stmt := topS 21

abbrev N__law_merged : List Str := ["base", "kept", "new", "lines", "clashes", "part", "k", "side", "done"]

theorem sc__law_merged : FnScope N__law_merged ["base", "kept", "new"] (defScope s__law_merged) := ⟨rfl, rfl, rfl, by decide +kernel, rfl, by decide +kernel, by decide +kernel⟩

def r__law_merged : List PyData → PyData → Prop := fun ds d => ∃ (base_ : (List Str)) (kept_ : (List (List Bool))) (new_ : (List (List (List Str)))), ds = [(eL eS) base_, (eL (eL eB)) kept_, (eL (eL (eL eS))) new_] ∧ (base_.length ≤ 8) ∧ (∀ x ∈ base_, PyData.strOk x = true) ∧ (kept_.length = 2) ∧ (∀ r ∈ kept_, r.length = base_.length) ∧ (new_.length = 2) ∧ (∀ r ∈ new_, r.length = base_.length + 1 ∧ ∀ x ∈ r, x.length ≤ 2 ∧ ∀ y ∈ x, PyData.strOk y = true) ∧ d = (eT2 (eL eS) eI) (m__law_merged base_ kept_ new_)

set_option maxHeartbeats 8000000 in
theorem ok__law_merged {f : Addr} {fd : FuncData} {k : Nat} (F : Fun K "_law_merged" "_law_merged" s__law_merged f fd) {f__law_decided : Addr} {fd__law_decided : FuncData} {k__law_decided : Nat} (F__law_decided : Fun K "_law_decided" "_law_decided" s__law_decided f__law_decided fd__law_decided) (b__law_decided : Binds K fd__law_decided ["base", "ours", "theirs"] []) (g__law_decided : mg "_law_decided" = some (.ref f__law_decided)) (G__law_decided : FnOk P w K mg base CX0 k__law_decided f__law_decided fd__law_decided ["base", "ours", "theirs"] (SpS r__law_decided)) (k__law_decided_ : k__law_decided ≤ k) (m_range : mg "range" = none) (m_len : mg "len" = none) : FnOk P w K mg base CX0 (k + 1) f fd ["base", "kept", "new"] (SpF r__law_merged) := by
  refine F.ok sc__law_merged (fun vs H Q E h => ?_) (fun cdv A outer s H vs Q E hr h => ?_)
  · obtain ⟨ds, d, hd, ⟨base_, kept_, new_, rfl, h1, h2, h3, h4, h5, h6, rfl⟩, _⟩ := h
    exact hd.length
  · obtain ⟨ds, d, hd, ⟨base_, kept_, new_, rfl, h1, h2, h3, h4, h5, h6, rfl⟩, q⟩ := h
    refine ⟨_, (pss_cons (ps_set (i := 3) sc__law_merged.nd rfl (Or.inl rfl) (pe_lst pa_nil)) (pss_cons (ps_set (i := 4) sc__law_merged.nd rfl (Or.inl rfl) pe_int) (pss_cons (ps_set (i := 5) sc__law_merged.nd rfl (Or.inl rfl) (pe_lst (pa_cons (pe_lst pa_nil) (pa_cons (pe_lst pa_nil) (pa_cons (pe_lst pa_nil) pa_nil))))) (pss_cons (ps_for PassesOwn.never rfl (pi_range1 rfl m_range (pa_cons (pe_op op_add (pe_callB (r := rLenK K) call_len_seq (by rfl) m_len PySem.boot_len (pa_cons (pv 0) pa_nil)) pe_int) pa_nil)) (pg_name (i := 6) sc__law_merged.nd rfl (Or.inl rfl)) (pss_cons (ps_asg (pe_op op_cat (pe_ix (r := rIxL K) ix_list (pv 5) pe_int (fun _ _ => rfl)) (pe_ix (r := rIxL K) ix_list (pe_ix (r := rIxL K) ix_list (pv 2) pe_int (fun _ _ => rfl)) (pv 6) (fun _ _ => rfl))) (pg_sub (pv 5) pe_int set_list)) (pss_cons (ps_asg (pe_op op_cat (pe_ix (r := rIxL K) ix_list (pv 5) pe_int (fun _ _ => rfl)) (pe_ix (r := rIxL K) ix_list (pe_ix (r := rIxL K) ix_list (pv 2) pe_int (fun _ _ => rfl)) (pv 6) (fun _ _ => rfl))) (pg_sub (pv 5) pe_int set_list)) (pss_cons (ps_if (PW.pt (pw_and (pt_cmpR (op_lt) (pv 6) (pe_callB (r := rLenK K) call_len_seq (by rfl) m_len PySem.boot_len (pa_cons (pv 0) pa_nil)) (nomark _)) (pw_and1 (pt_not (PW.pt (pw_and (pt_val (pe_ix (r := rIxL K) ix_list (pe_ix (r := rIxL K) ix_list (pv 1) pe_int (fun _ _ => rfl)) (pv 6) (fun _ _ => rfl))) (pw_and1 (pt_val (pe_ix (r := rIxL K) ix_list (pe_ix (r := rIxL K) ix_list (pv 1) pe_int (fun _ _ => rfl)) (pv 6) (fun _ _ => rfl)))))))))) (pss_cons (ps_asg (pe_op op_cat (pe_ix (r := rIxL K) ix_list (pv 5) pe_int (fun _ _ => rfl)) (pe_lst (pa_cons (pe_ix (r := rIxL K) ix_list (pv 0) (pv 6) (fun _ _ => rfl)) pa_nil))) (pg_sub (pv 5) pe_int set_list)) (pss_cons (ps_for PassesOwn.never rfl (pi_range1 rfl m_range (pa_cons pe_int pa_nil)) (pg_name (i := 7) sc__law_merged.nd rfl (Or.inl rfl)) (pss_cons (ps_if (pt_val (pe_ix (r := rIxL K) ix_list (pe_ix (r := rIxL K) ix_list (pv 1) (pv 7) (fun _ _ => rfl)) (pv 6) (fun _ _ => rfl))) (pss_cons (ps_asg (pe_op op_cat (pe_ix (r := rIxL K) ix_list (pv 5) (pe_op op_add (pv 7) pe_int) (fun _ _ => rfl)) (pe_lst (pa_cons (pe_ix (r := rIxL K) ix_list (pv 0) (pv 6) (fun _ _ => rfl)) pa_nil))) (pg_sub (pv 5) (pe_op op_add (pv 7) pe_int) set_list)) pss_nil) pss_nil) pss_nil)) pss_nil)) (pss_cons (ps_set (i := 8) sc__law_merged.nd rfl (Or.inl rfl) (pe_call G__law_decided (hr.mono k__law_decided_) (by rfl) g__law_decided F__law_decided.kp b__law_decided .nil pass0 (pa_cons (pe_ix (r := rIxL K) ix_list (pv 5) pe_int (fun _ _ => rfl)) (pa_cons (pe_ix (r := rIxL K) ix_list (pv 5) pe_int (fun _ _ => rfl)) (pa_cons (pe_ix (r := rIxL K) ix_list (pv 5) pe_int (fun _ _ => rfl)) pa_nil))))) (pss_cons (ps_set (i := 3) sc__law_merged.nd rfl (Or.inl rfl) (pe_op op_cat (pe_op op_cat (pv 3) (pe_ix (r := rIxT K) ix_tup (pv 8) pe_int (fun _ _ => rfl))) (pe_slice (r := rSlL K) sl_list (pv 0) (po_some (pv 6)) (po_some (pe_op op_add (pv 6) pe_int))))) (pss_cons (ps_set (i := 4) sc__law_merged.nd rfl (Or.inl rfl) (pe_op op_add (pv 4) (pe_ix (r := rIxT K) ix_tup (pv 8) pe_int (fun _ _ => rfl)))) (pss_cons (ps_set (i := 5) sc__law_merged.nd rfl (Or.inl rfl) (pe_lst (pa_cons (pe_lst pa_nil) (pa_cons (pe_lst pa_nil) (pa_cons (pe_lst pa_nil) pa_nil))))) pss_nil))))) pss_nil)))) (pss_cons (ps_ret (pe_tup (pa_cons (pv 3) (pa_cons (pv 4) pa_nil)))) pss_nil))))), ?_⟩
    have e0 : Ex H H := Ex.refl H
    have B := bs_F hd (N := N__law_merged) (by rw [hd.length]; exact Nat.le_of_ble_eq_true rfl)
    have B : Bs _ _ _ [.va false ((eL eS) base_), .va false ((eL (eL eB)) kept_), .va false ((eL (eL (eL eS))) new_), .no, .no, .no, .no, .no, .no] := B
    have hk : m__law_merged base_ kept_ new_ = (match (List.foldl (l__law_merged_1 base_ kept_ new_) ([([] : (List Str)), ([] : (List Str)), ([] : (List Str))], ([] : (List Str)), (0 : Int)) (rng 0 ((List.length base_ : Int) + (1 : Int)))) with | (part_r1, lines_r1, clashes_r1) => (lines_r1, clashes_r1)) := rfl
    have kk : ∀ m : Int, 0 ≤ m → m < 2 → (getI kept_ m).length = base_.length := fun m a b => h4 _ (getI_mem (by unfold inB; omega))
    have n0 := h6 _ (getI_mem (xs := new_) (m := 0) (by unfold inB; omega))
    have n1 := h6 _ (getI_mem (xs := new_) (m := 1) (by unfold inB; omega))
    have n0l := n0.1
    have n1l := n1.1
    have k0 := kk 0 (by omega) (by omega)
    have k1 := kk 1 (by omega) (by omega)
    refine q_asg (f := true) B ((en_lstM (em := eS) (xs := []) ea_nil (by simp)).ev (B.live true)) fun σ1 H1 B => ?_
    have B : Bs _ _ _ [.va false ((eL eS) base_), .va false ((eL (eL eB)) kept_), .va false ((eL (eL (eL eS))) new_), .va true ((eL eS) ([] : (List Str))), .no, .no, .no, .no, .no] := B
    refine q_asg (f := true) B ev_int fun σ1 H1 B => ?_
    have B : Bs _ _ _ [.va false ((eL eS) base_), .va false ((eL (eL eB)) kept_), .va false ((eL (eL (eL eS))) new_), .va true ((eL eS) ([] : (List Str))), .va true (eI (0 : Int)), .no, .no, .no, .no] := B
    refine q_asgN (f := true) B (en_lstM (em := (eL eS)) (xs := [([] : (List Str)), ([] : (List Str)), ([] : (List Str))]) (ea_cons ((en_lstM (em := eS) (xs := []) ea_nil (by simp)).ev (B.live true)) (ea_cons ((en_lstM (em := eS) (xs := []) ea_nil (by simp)).ev (B.live true)) (ea_cons ((en_lstM (em := eS) (xs := []) ea_nil (by simp)).ev (B.live true)) ea_nil))) (by simp)) fun a9 σ1 H1 B => ?_
    have B : Bs _ _ _ [.va false ((eL eS) base_), .va false ((eL (eL eB)) kept_), .va false ((eL (eL (eL eS))) new_), .va true ((eL eS) ([] : (List Str))), .va true (eI (0 : Int)), .ow true a9 (([([] : (List Str)), ([] : (List Str)), ([] : (List Str))]).map (eL eS)), .no, .no, .no] := B
    refine q_foldR1g (γ := Addr) (fun (s : (List (List Str)) × (List Str) × Int) gg => [.va false ((eL eS) base_), .va false ((eL (eL eB)) kept_), .va false ((eL (eL (eL eS))) new_), .va true ((eL eS) s.2.1), .va true (eI s.2.2), .ow true gg (s.1.map (eL eS)), .no, .no, .no]) (l__law_merged_1 base_ kept_ new_) ([([] : (List Str)), ([] : (List Str)), ([] : (List Str))], ([] : (List Str)), (0 : Int)) a9 (fun n s => PJ (7 * n) s.1 ∧ s.2.1.length ≤ 300 * n) B (ev_I0 (ev_lenM ((ev_va B rfl).w0)) ev_int) (by omega) (.cons (.refl _) (.cons (.refl _) (.cons (.refl _) (.cons (.refl _) (.cons (.refl _) (.cons (.refl _) (.cons (.no _) (.cons (.no _) (.cons (.no _) .nil))))))))) ⟨PJ0 _, by simp⟩ (fun B0 e1 n s ga1_part k_t1 σ1 H1 hx hn hJ B => ?_) (fun s gb1_part σ1 H1 hs hJ B => ?_)
    · rcases s with ⟨part_1, lines_1, clashes_1⟩
      have B : Bs _ _ _ [.va false ((eL eS) base_), .va false ((eL (eL eB)) kept_), .va false ((eL (eL (eL eS))) new_), .va true ((eL eS) lines_1), .va true (eI clashes_1), .ow true ga1_part (part_1.map (eL eS)), .va true (eI k_t1), .no, .no] := B
      have hx_f := rng_mem.mp hx
      try simp only [List.length_reverse, rng_len, List.length_map] at hn
      have e0 := e0.trans e1
      have hk1 : l__law_merged_1 base_ kept_ new_ (part_1, lines_1, clashes_1) k_t1 = (if ((decide (k_t1 < (List.length base_ : Int))) && (!((getI (getI kept_ (0 : Int)) k_t1) && (getI (getI kept_ (1 : Int)) k_t1)))) = true then (match (List.foldl (l__law_merged_2 base_ kept_ k_t1) (setI (setI (setI part_1 (1 : Int) ((getI part_1 (1 : Int)) ++ (getI (getI new_ (0 : Int)) k_t1))) (2 : Int) ((getI (setI part_1 (1 : Int) ((getI part_1 (1 : Int)) ++ (getI (getI new_ (0 : Int)) k_t1))) (2 : Int)) ++ (getI (getI new_ (1 : Int)) k_t1))) (0 : Int) ((getI (setI (setI part_1 (1 : Int) ((getI part_1 (1 : Int)) ++ (getI (getI new_ (0 : Int)) k_t1))) (2 : Int) ((getI (setI part_1 (1 : Int) ((getI part_1 (1 : Int)) ++ (getI (getI new_ (0 : Int)) k_t1))) (2 : Int)) ++ (getI (getI new_ (1 : Int)) k_t1))) (0 : Int)) ++ ([(getI base_ k_t1)]))) (rng 0 (2 : Int))) with | part_r2 => (part_r2, lines_1, clashes_1)) else ([([] : (List Str)), ([] : (List Str)), ([] : (List Str))], ((lines_1 ++ ((m__law_decided ((getI (setI (setI part_1 (1 : Int) ((getI part_1 (1 : Int)) ++ (getI (getI new_ (0 : Int)) k_t1))) (2 : Int) ((getI (setI part_1 (1 : Int) ((getI part_1 (1 : Int)) ++ (getI (getI new_ (0 : Int)) k_t1))) (2 : Int)) ++ (getI (getI new_ (1 : Int)) k_t1))) (0 : Int))) ((getI (setI (setI part_1 (1 : Int) ((getI part_1 (1 : Int)) ++ (getI (getI new_ (0 : Int)) k_t1))) (2 : Int) ((getI (setI part_1 (1 : Int) ((getI part_1 (1 : Int)) ++ (getI (getI new_ (0 : Int)) k_t1))) (2 : Int)) ++ (getI (getI new_ (1 : Int)) k_t1))) (1 : Int))) ((getI (setI (setI part_1 (1 : Int) ((getI part_1 (1 : Int)) ++ (getI (getI new_ (0 : Int)) k_t1))) (2 : Int) ((getI (setI part_1 (1 : Int) ((getI part_1 (1 : Int)) ++ (getI (getI new_ (0 : Int)) k_t1))) (2 : Int)) ++ (getI (getI new_ (1 : Int)) k_t1))) (2 : Int)))).1)) ++ (cutG base_ (some k_t1) (some (k_t1 + (1 : Int))))), (clashes_1 + ((m__law_decided ((getI (setI (setI part_1 (1 : Int) ((getI part_1 (1 : Int)) ++ (getI (getI new_ (0 : Int)) k_t1))) (2 : Int) ((getI (setI part_1 (1 : Int) ((getI part_1 (1 : Int)) ++ (getI (getI new_ (0 : Int)) k_t1))) (2 : Int)) ++ (getI (getI new_ (1 : Int)) k_t1))) (0 : Int))) ((getI (setI (setI part_1 (1 : Int) ((getI part_1 (1 : Int)) ++ (getI (getI new_ (0 : Int)) k_t1))) (2 : Int) ((getI (setI part_1 (1 : Int) ((getI part_1 (1 : Int)) ++ (getI (getI new_ (0 : Int)) k_t1))) (2 : Int)) ++ (getI (getI new_ (1 : Int)) k_t1))) (1 : Int))) ((getI (setI (setI part_1 (1 : Int) ((getI part_1 (1 : Int)) ++ (getI (getI new_ (0 : Int)) k_t1))) (2 : Int) ((getI (setI part_1 (1 : Int) ((getI part_1 (1 : Int)) ++ (getI (getI new_ (0 : Int)) k_t1))) (2 : Int)) ++ (getI (getI new_ (1 : Int)) k_t1))) (2 : Int)))).2)))) := rfl
      simp only at hJ
      obtain ⟨j1, j2⟩ := hJ
      have jl := j1.1
      have p1 := n0.2 _ (getI_mem (xs := getI new_ 0) (m := k_t1) (by unfold inB; omega))
      have p2 := n1.2 _ (getI_mem (xs := getI new_ 1) (m := k_t1) (by unfold inB; omega))
      have q1 := PJ.set (d := 7 * n + 2) (m := 1) (k := 1) j1 p1.1 p1.2 (by omega)
      have q2 := PJ.set (d := 7 * n + 4) (m := 2) (k := 2) q1 p2.1 p2.2 (by omega)
      have q1l := q1.1
      have q2l := q2.1
      have dg : ∀ P : List (List Str), PJ (7 * n + 4) P → (m__law_decided (getI P 0) (getI P 1) (getI P 2)).1.length ≤ 250 := fun P hP => by
        have a0 := (hP.get 0).1
        have a1 := (hP.get 1).1
        have a2 := (hP.get 2).1
        have := decided_le (getI P 0) (getI P 1) (getI P 2)
        omega
      have d2 := dg _ q2
      have cl := cutG_le base_ (some k_t1) (some (k_t1 + 1))
      refine q_setM (f := true) B rfl (((en_catM ((ev_ixOM B rfl ev_int (show inB part_1 (1 : Int) from by first | assumption | (unfold inB; first | omega | (have q := of_decide_eq_true hc; omega) | (have q := of_decide_eq_true (by assumption : decide (k_t1 < (List.length base_ : Int)) = true); omega) | (simp only [setI_len]; omega) | (rw [kk _ (by omega) (by omega)]; omega) | (simp; omega)))).w0) (ev_ixM (em := (eL eS)) (xs := (getI new_ (0 : Int))) (ev_ixM (em := (eL (eL eS))) (xs := new_) ((ev_va B rfl).w0) ev_int (show inB new_ (0 : Int) from by first | assumption | (unfold inB; first | omega | (have q := of_decide_eq_true hc; omega) | (have q := of_decide_eq_true (by assumption : decide (k_t1 < (List.length base_ : Int)) = true); omega) | (simp only [setI_len]; omega) | (rw [kk _ (by omega) (by omega)]; omega) | (simp; omega)))) (ev_sc B rfl (.int _)) (show inB (getI new_ (0 : Int)) k_t1 from by first | assumption | (unfold inB; first | omega | (have q := of_decide_eq_true hc; omega) | (have q := of_decide_eq_true (by assumption : decide (k_t1 < (List.length base_ : Int)) = true); omega) | (simp only [setI_len]; omega) | (rw [kk _ (by omega) (by omega)]; omega) | (simp; omega)))) (by have := (j1.get 1).1; have := (q1.get 2).1; have := (q2.get 0).1; first | omega | (simp only [List.length_cons, List.length_nil]; omega) | (have := (hJ.get (side_t2 + 1)).1; simp only [List.length_cons, List.length_nil]; omega) | (simp only [List.length_append]; omega))).scL (fun _ => (.str _))).ev (B.live true)) ev_int (show inB part_1 (1 : Int) from by first | assumption | (unfold inB; first | omega | (have q := of_decide_eq_true hc; omega) | (have q := of_decide_eq_true (by assumption : decide (k_t1 < (List.length base_ : Int)) = true); omega) | (simp only [setI_len]; omega) | (rw [kk _ (by omega) (by omega)]; omega) | (simp; omega))) fun H1 B => ?_
      have B : Bs _ _ _ [.va false ((eL eS) base_), .va false ((eL (eL eB)) kept_), .va false ((eL (eL (eL eS))) new_), .va true ((eL eS) lines_1), .va true (eI clashes_1), .ow true ga1_part ((setI part_1 (1 : Int) ((getI part_1 (1 : Int)) ++ (getI (getI new_ (0 : Int)) k_t1))).map (eL eS)), .va true (eI k_t1), .no, .no] := B
      refine q_setM (f := true) B rfl (((en_catM ((ev_ixOM B rfl ev_int (show inB (setI part_1 (1 : Int) ((getI part_1 (1 : Int)) ++ (getI (getI new_ (0 : Int)) k_t1))) (2 : Int) from by first | assumption | (unfold inB; first | omega | (have q := of_decide_eq_true hc; omega) | (have q := of_decide_eq_true (by assumption : decide (k_t1 < (List.length base_ : Int)) = true); omega) | (simp only [setI_len]; omega) | (rw [kk _ (by omega) (by omega)]; omega) | (simp; omega)))).w0) (ev_ixM (em := (eL eS)) (xs := (getI new_ (1 : Int))) (ev_ixM (em := (eL (eL eS))) (xs := new_) ((ev_va B rfl).w0) ev_int (show inB new_ (1 : Int) from by first | assumption | (unfold inB; first | omega | (have q := of_decide_eq_true hc; omega) | (have q := of_decide_eq_true (by assumption : decide (k_t1 < (List.length base_ : Int)) = true); omega) | (simp only [setI_len]; omega) | (rw [kk _ (by omega) (by omega)]; omega) | (simp; omega)))) (ev_sc B rfl (.int _)) (show inB (getI new_ (1 : Int)) k_t1 from by first | assumption | (unfold inB; first | omega | (have q := of_decide_eq_true hc; omega) | (have q := of_decide_eq_true (by assumption : decide (k_t1 < (List.length base_ : Int)) = true); omega) | (simp only [setI_len]; omega) | (rw [kk _ (by omega) (by omega)]; omega) | (simp; omega)))) (by have := (j1.get 1).1; have := (q1.get 2).1; have := (q2.get 0).1; first | omega | (simp only [List.length_cons, List.length_nil]; omega) | (have := (hJ.get (side_t2 + 1)).1; simp only [List.length_cons, List.length_nil]; omega) | (simp only [List.length_append]; omega))).scL (fun _ => (.str _))).ev (B.live true)) ev_int (show inB (setI part_1 (1 : Int) ((getI part_1 (1 : Int)) ++ (getI (getI new_ (0 : Int)) k_t1))) (2 : Int) from by first | assumption | (unfold inB; first | omega | (have q := of_decide_eq_true hc; omega) | (have q := of_decide_eq_true (by assumption : decide (k_t1 < (List.length base_ : Int)) = true); omega) | (simp only [setI_len]; omega) | (rw [kk _ (by omega) (by omega)]; omega) | (simp; omega))) fun H1 B => ?_
      have B : Bs _ _ _ [.va false ((eL eS) base_), .va false ((eL (eL eB)) kept_), .va false ((eL (eL (eL eS))) new_), .va true ((eL eS) lines_1), .va true (eI clashes_1), .ow true ga1_part ((setI (setI part_1 (1 : Int) ((getI part_1 (1 : Int)) ++ (getI (getI new_ (0 : Int)) k_t1))) (2 : Int) ((getI (setI part_1 (1 : Int) ((getI part_1 (1 : Int)) ++ (getI (getI new_ (0 : Int)) k_t1))) (2 : Int)) ++ (getI (getI new_ (1 : Int)) k_t1))).map (eL eS)), .va true (eI k_t1), .no, .no] := B
      refine q_if B (et_and (et_test (ev_B0 (ev_sc B rfl (.int _)) (ev_lenM ((ev_va B rfl).w0)))) fun hc => (et_not (et_and (et_B ((ev_ixM (em := eB) (xs := (getI kept_ (0 : Int))) (ev_ixM (em := (eL eB)) (xs := kept_) ((ev_va B rfl).w0) ev_int (show inB kept_ (0 : Int) from by first | assumption | (unfold inB; first | omega | (have q := of_decide_eq_true hc; omega) | (have q := of_decide_eq_true (by assumption : decide (k_t1 < (List.length base_ : Int)) = true); omega) | (simp only [setI_len]; omega) | (rw [kk _ (by omega) (by omega)]; omega) | (simp; omega)))) (ev_sc B rfl (.int _)) (show inB (getI kept_ (0 : Int)) k_t1 from by first | assumption | (unfold inB; first | omega | (have q := of_decide_eq_true hc; omega) | (have q := of_decide_eq_true (by assumption : decide (k_t1 < (List.length base_ : Int)) = true); omega) | (simp only [setI_len]; omega) | (rw [kk _ (by omega) (by omega)]; omega) | (simp; omega)))).sc (.bl _))) fun hc => (et_B ((ev_ixM (em := eB) (xs := (getI kept_ (1 : Int))) (ev_ixM (em := (eL eB)) (xs := kept_) ((ev_va B rfl).w0) ev_int (show inB kept_ (1 : Int) from by first | assumption | (unfold inB; first | omega | (have q := of_decide_eq_true hc; omega) | (have q := of_decide_eq_true (by assumption : decide (k_t1 < (List.length base_ : Int)) = true); omega) | (simp only [setI_len]; omega) | (rw [kk _ (by omega) (by omega)]; omega) | (simp; omega)))) (ev_sc B rfl (.int _)) (show inB (getI kept_ (1 : Int)) k_t1 from by first | assumption | (unfold inB; first | omega | (have q := of_decide_eq_true hc; omega) | (have q := of_decide_eq_true (by assumption : decide (k_t1 < (List.length base_ : Int)) = true); omega) | (simp only [setI_len]; omega) | (rw [kk _ (by omega) (by omega)]; omega) | (simp; omega)))).sc (.bl _)))))) (fun hc10 H1 B => ?_) (fun hc10 H1 B => ?_)
      · rw [if_pos hc10] at hk1
        have hc10_f := hc10
        try simp only [Bool.and_eq_true, Bool.or_eq_true, Bool.not_eq_true', Bool.and_eq_false_imp, Bool.or_eq_false_iff, Bool.not_eq_false', decide_eq_true_eq, decide_eq_false_iff_not] at hc10_f
        refine q_setM (f := true) B rfl (((en_catM ((ev_ixOM B rfl ev_int (show inB (setI (setI part_1 (1 : Int) ((getI part_1 (1 : Int)) ++ (getI (getI new_ (0 : Int)) k_t1))) (2 : Int) ((getI (setI part_1 (1 : Int) ((getI part_1 (1 : Int)) ++ (getI (getI new_ (0 : Int)) k_t1))) (2 : Int)) ++ (getI (getI new_ (1 : Int)) k_t1))) (0 : Int) from by first | assumption | (unfold inB; first | omega | (have q := of_decide_eq_true hc; omega) | (have q := of_decide_eq_true (by assumption : decide (k_t1 < (List.length base_ : Int)) = true); omega) | (simp only [setI_len]; omega) | (rw [kk _ (by omega) (by omega)]; omega) | (simp; omega)))).w0) ((en_lstM (em := eS) (xs := [(getI base_ k_t1)]) (ea_cons ((ev_ixM (em := eS) (xs := base_) ((ev_va B rfl).w0) (ev_sc B rfl (.int _)) (show inB base_ k_t1 from by first | assumption | (unfold inB; first | omega | (have q := of_decide_eq_true hc; omega) | (have q := of_decide_eq_true (by assumption : decide (k_t1 < (List.length base_ : Int)) = true); omega) | (simp only [setI_len]; omega) | (rw [kk _ (by omega) (by omega)]; omega) | (simp; omega)))).sc (.str _)) ea_nil) (by simp)).ev live0) (by have := (j1.get 1).1; have := (q1.get 2).1; have := (q2.get 0).1; first | omega | (simp only [List.length_cons, List.length_nil]; omega) | (have := (hJ.get (side_t2 + 1)).1; simp only [List.length_cons, List.length_nil]; omega) | (simp only [List.length_append]; omega))).scL (fun _ => (.str _))).ev (B.live true)) ev_int (show inB (setI (setI part_1 (1 : Int) ((getI part_1 (1 : Int)) ++ (getI (getI new_ (0 : Int)) k_t1))) (2 : Int) ((getI (setI part_1 (1 : Int) ((getI part_1 (1 : Int)) ++ (getI (getI new_ (0 : Int)) k_t1))) (2 : Int)) ++ (getI (getI new_ (1 : Int)) k_t1))) (0 : Int) from by first | assumption | (unfold inB; first | omega | (have q := of_decide_eq_true hc; omega) | (have q := of_decide_eq_true (by assumption : decide (k_t1 < (List.length base_ : Int)) = true); omega) | (simp only [setI_len]; omega) | (rw [kk _ (by omega) (by omega)]; omega) | (simp; omega))) fun H1 B => ?_
        have B : Bs _ _ _ [.va false ((eL eS) base_), .va false ((eL (eL eB)) kept_), .va false ((eL (eL (eL eS))) new_), .va true ((eL eS) lines_1), .va true (eI clashes_1), .ow true ga1_part ((setI (setI (setI part_1 (1 : Int) ((getI part_1 (1 : Int)) ++ (getI (getI new_ (0 : Int)) k_t1))) (2 : Int) ((getI (setI part_1 (1 : Int) ((getI part_1 (1 : Int)) ++ (getI (getI new_ (0 : Int)) k_t1))) (2 : Int)) ++ (getI (getI new_ (1 : Int)) k_t1))) (0 : Int) ((getI (setI (setI part_1 (1 : Int) ((getI part_1 (1 : Int)) ++ (getI (getI new_ (0 : Int)) k_t1))) (2 : Int) ((getI (setI part_1 (1 : Int) ((getI part_1 (1 : Int)) ++ (getI (getI new_ (0 : Int)) k_t1))) (2 : Int)) ++ (getI (getI new_ (1 : Int)) k_t1))) (0 : Int)) ++ ([(getI base_ k_t1)]))).map (eL eS)), .va true (eI k_t1), .no, .no] := B
        refine q_foldR1 (fun (s : (List (List Str))) => [.va false ((eL eS) base_), .va false ((eL (eL eB)) kept_), .va false ((eL (eL (eL eS))) new_), .va true ((eL eS) lines_1), .va true (eI clashes_1), .ow true ga1_part (s.map (eL eS)), .va true (eI k_t1), .no, .no]) (l__law_merged_2 base_ kept_ k_t1) (setI (setI (setI part_1 (1 : Int) ((getI part_1 (1 : Int)) ++ (getI (getI new_ (0 : Int)) k_t1))) (2 : Int) ((getI (setI part_1 (1 : Int) ((getI part_1 (1 : Int)) ++ (getI (getI new_ (0 : Int)) k_t1))) (2 : Int)) ++ (getI (getI new_ (1 : Int)) k_t1))) (0 : Int) ((getI (setI (setI part_1 (1 : Int) ((getI part_1 (1 : Int)) ++ (getI (getI new_ (0 : Int)) k_t1))) (2 : Int) ((getI (setI part_1 (1 : Int) ((getI part_1 (1 : Int)) ++ (getI (getI new_ (0 : Int)) k_t1))) (2 : Int)) ++ (getI (getI new_ (1 : Int)) k_t1))) (0 : Int)) ++ ([(getI base_ k_t1)]))) (fun m s => PJ (7 * n + 5 + m) s) B ev_int (by omega) (.cons (.refl _) (.cons (.refl _) (.cons (.refl _) (.cons (.refl _) (.cons (.refl _) (.cons (.refl _) (.cons (.refl _) (.cons (.no _) (.cons (.no _) .nil))))))))) (PJ.set q2 (c := 1) (by simp) (fun y hy => by rw [List.mem_singleton.mp hy]; exact h2 _ (getI_mem (by unfold inB; omega))) (by omega)) (fun B0 e1 n part_2 side_t2 σ1 H1 hx hn hJ B => ?_) (fun part_r2 σ1 H1 hs hJ B => ?_)
        · skip
          have B : Bs _ _ _ [.va false ((eL eS) base_), .va false ((eL (eL eB)) kept_), .va false ((eL (eL (eL eS))) new_), .va true ((eL eS) lines_1), .va true (eI clashes_1), .ow true ga1_part (part_2.map (eL eS)), .va true (eI k_t1), .va true (eI side_t2), .no] := B
          have hx_f := rng_mem.mp hx
          try simp only [List.length_reverse, rng_len, List.length_map] at hn
          have e0 := e0.trans e1
          have hk2 : l__law_merged_2 base_ kept_ k_t1 part_2 side_t2 = (if (getI (getI kept_ side_t2) k_t1) = true then (setI part_2 (side_t2 + (1 : Int)) ((getI part_2 (side_t2 + (1 : Int))) ++ ([(getI base_ k_t1)]))) else part_2) := rfl
          have hl3 := hJ.1
          refine q_if B (et_B ((ev_ixM (em := eB) (xs := (getI kept_ side_t2)) (ev_ixM (em := (eL eB)) (xs := kept_) ((ev_va B rfl).w0) (ev_sc B rfl (.int _)) (show inB kept_ side_t2 from by first | assumption | (unfold inB; first | omega | (have q := of_decide_eq_true hc; omega) | (have q := of_decide_eq_true (by assumption : decide (k_t1 < (List.length base_ : Int)) = true); omega) | (simp only [setI_len]; omega) | (rw [kk _ (by omega) (by omega)]; omega) | (simp; omega)))) (ev_sc B rfl (.int _)) (show inB (getI kept_ side_t2) k_t1 from by first | assumption | (unfold inB; first | omega | (have q := of_decide_eq_true hc; omega) | (have q := of_decide_eq_true (by assumption : decide (k_t1 < (List.length base_ : Int)) = true); omega) | (simp only [setI_len]; omega) | (rw [kk _ (by omega) (by omega)]; omega) | (simp; omega)))).sc (.bl _))) (fun hc11 H1 B => ?_) (fun hc11 H1 B => ?_)
          · rw [if_pos hc11] at hk2
            have hc11_f := hc11
            try simp only [Bool.and_eq_true, Bool.or_eq_true, Bool.not_eq_true', Bool.and_eq_false_imp, Bool.or_eq_false_iff, Bool.not_eq_false', decide_eq_true_eq, decide_eq_false_iff_not] at hc11_f
            refine q_setM (f := true) B rfl (((en_catM ((ev_ixOM B rfl (ev_I0 (ev_sc B rfl (.int _)) ev_int) (show inB part_2 (side_t2 + (1 : Int)) from by first | assumption | (unfold inB; first | omega | (have q := of_decide_eq_true hc; omega) | (have q := of_decide_eq_true (by assumption : decide (k_t1 < (List.length base_ : Int)) = true); omega) | (simp only [setI_len]; omega) | (rw [kk _ (by omega) (by omega)]; omega) | (simp; omega)))).w0) ((en_lstM (em := eS) (xs := [(getI base_ k_t1)]) (ea_cons ((ev_ixM (em := eS) (xs := base_) ((ev_va B rfl).w0) (ev_sc B rfl (.int _)) (show inB base_ k_t1 from by first | assumption | (unfold inB; first | omega | (have q := of_decide_eq_true hc; omega) | (have q := of_decide_eq_true (by assumption : decide (k_t1 < (List.length base_ : Int)) = true); omega) | (simp only [setI_len]; omega) | (rw [kk _ (by omega) (by omega)]; omega) | (simp; omega)))).sc (.str _)) ea_nil) (by simp)).ev live0) (by have := (j1.get 1).1; have := (q1.get 2).1; have := (q2.get 0).1; first | omega | (simp only [List.length_cons, List.length_nil]; omega) | (have := (hJ.get (side_t2 + 1)).1; simp only [List.length_cons, List.length_nil]; omega) | (simp only [List.length_append]; omega))).scL (fun _ => (.str _))).ev (B.live true)) (ev_I0 (ev_sc B rfl (.int _)) ev_int) (show inB part_2 (side_t2 + (1 : Int)) from by first | assumption | (unfold inB; first | omega | (have q := of_decide_eq_true hc; omega) | (have q := of_decide_eq_true (by assumption : decide (k_t1 < (List.length base_ : Int)) = true); omega) | (simp only [setI_len]; omega) | (rw [kk _ (by omega) (by omega)]; omega) | (simp; omega))) fun H1 B => ?_
            have B : Bs _ _ _ [.va false ((eL eS) base_), .va false ((eL (eL eB)) kept_), .va false ((eL (eL (eL eS))) new_), .va true ((eL eS) lines_1), .va true (eI clashes_1), .ow true ga1_part ((setI part_2 (side_t2 + (1 : Int)) ((getI part_2 (side_t2 + (1 : Int))) ++ ([(getI base_ k_t1)]))).map (eL eS)), .va true (eI k_t1), .va true (eI side_t2), .no] := B
            exact ⟨_, hk2.symm, (by first | exact hJ.mono (by omega) | exact PJ.set hJ (c := 1) (by simp) (fun y hy => by rw [List.mem_singleton.mp hy]; exact h2 _ (getI_mem (by unfold inB; omega))) (by omega)), B.le (.cons (.refl _) (.cons (.refl _) (.cons (.refl _) (.cons (.refl _) (.cons (.refl _) (.cons (.refl _) (.cons (.refl _) (.cons (.no _) (.cons (.no _) .nil)))))))))⟩
          · rw [if_neg (show ¬ (getI (getI kept_ side_t2) k_t1) = true from by rw [hc11]; exact Bool.false_ne_true)] at hk2
            have hc11_f := hc11
            try simp only [Bool.and_eq_true, Bool.or_eq_true, Bool.not_eq_true', Bool.and_eq_false_imp, Bool.or_eq_false_iff, Bool.not_eq_false', decide_eq_true_eq, decide_eq_false_iff_not] at hc11_f
            exact ⟨_, hk2.symm, (by first | exact hJ.mono (by omega) | exact PJ.set hJ (c := 1) (by simp) (fun y hy => by rw [List.mem_singleton.mp hy]; exact h2 _ (getI_mem (by unfold inB; omega))) (by omega)), B.le (.cons (.refl _) (.cons (.refl _) (.cons (.refl _) (.cons (.refl _) (.cons (.refl _) (.cons (.refl _) (.cons (.refl _) (.cons (.no _) (.cons (.no _) .nil)))))))))⟩
        · rw [← hs] at hk1
          try simp only [List.length_reverse, rng_len, List.length_map] at hJ
          try dsimp only at hk1
          have B : Bs _ _ _ [.va false ((eL eS) base_), .va false ((eL (eL eB)) kept_), .va false ((eL (eL (eL eS))) new_), .va true ((eL eS) lines_1), .va true (eI clashes_1), .ow true ga1_part (part_r2.map (eL eS)), .va true (eI k_t1), .no, .no] := B
          exact ⟨_, ga1_part, hk1.symm, (by first | exact ⟨hJ.mono (by omega), by simp only; omega⟩ | exact ⟨PJ0 _, by simp only [List.length_append]; omega⟩), B.le (.cons (.refl _) (.cons (.refl _) (.cons (.refl _) (.cons (.refl _) (.cons (.refl _) (.cons (.refl _) (.cons (.no _) (.cons (.no _) (.cons (.no _) .nil)))))))))⟩
      · rw [if_neg (show ¬ ((decide (k_t1 < (List.length base_ : Int))) && (!((getI (getI kept_ (0 : Int)) k_t1) && (getI (getI kept_ (1 : Int)) k_t1)))) = true from by rw [hc10]; exact Bool.false_ne_true)] at hk1
        have hc10_f := hc10
        try simp only [Bool.and_eq_true, Bool.or_eq_true, Bool.not_eq_true', Bool.and_eq_false_imp, Bool.or_eq_false_iff, Bool.not_eq_false', decide_eq_true_eq, decide_eq_false_iff_not] at hc10_f
        refine q_asg (f := true) B (ev_callS (B.live true) (ea_cons (ev_ixOM B rfl ev_int (show inB (setI (setI part_1 (1 : Int) ((getI part_1 (1 : Int)) ++ (getI (getI new_ (0 : Int)) k_t1))) (2 : Int) ((getI (setI part_1 (1 : Int) ((getI part_1 (1 : Int)) ++ (getI (getI new_ (0 : Int)) k_t1))) (2 : Int)) ++ (getI (getI new_ (1 : Int)) k_t1))) (0 : Int) from by first | assumption | (unfold inB; first | omega | (have q := of_decide_eq_true hc; omega) | (have q := of_decide_eq_true (by assumption : decide (k_t1 < (List.length base_ : Int)) = true); omega) | (simp only [setI_len]; omega) | (rw [kk _ (by omega) (by omega)]; omega) | (simp; omega)))) (ea_cons (ev_ixOM B rfl ev_int (show inB (setI (setI part_1 (1 : Int) ((getI part_1 (1 : Int)) ++ (getI (getI new_ (0 : Int)) k_t1))) (2 : Int) ((getI (setI part_1 (1 : Int) ((getI part_1 (1 : Int)) ++ (getI (getI new_ (0 : Int)) k_t1))) (2 : Int)) ++ (getI (getI new_ (1 : Int)) k_t1))) (1 : Int) from by first | assumption | (unfold inB; first | omega | (have q := of_decide_eq_true hc; omega) | (have q := of_decide_eq_true (by assumption : decide (k_t1 < (List.length base_ : Int)) = true); omega) | (simp only [setI_len]; omega) | (rw [kk _ (by omega) (by omega)]; omega) | (simp; omega)))) (ea_cons (ev_ixOM B rfl ev_int (show inB (setI (setI part_1 (1 : Int) ((getI part_1 (1 : Int)) ++ (getI (getI new_ (0 : Int)) k_t1))) (2 : Int) ((getI (setI part_1 (1 : Int) ((getI part_1 (1 : Int)) ++ (getI (getI new_ (0 : Int)) k_t1))) (2 : Int)) ++ (getI (getI new_ (1 : Int)) k_t1))) (2 : Int) from by first | assumption | (unfold inB; first | omega | (have q := of_decide_eq_true hc; omega) | (have q := of_decide_eq_true (by assumption : decide (k_t1 < (List.length base_ : Int)) = true); omega) | (simp only [setI_len]; omega) | (rw [kk _ (by omega) (by omega)]; omega) | (simp; omega)))) ea_nil))) ⟨(getI (setI (setI part_1 (1 : Int) ((getI part_1 (1 : Int)) ++ (getI (getI new_ (0 : Int)) k_t1))) (2 : Int) ((getI (setI part_1 (1 : Int) ((getI part_1 (1 : Int)) ++ (getI (getI new_ (0 : Int)) k_t1))) (2 : Int)) ++ (getI (getI new_ (1 : Int)) k_t1))) (0 : Int)), (getI (setI (setI part_1 (1 : Int) ((getI part_1 (1 : Int)) ++ (getI (getI new_ (0 : Int)) k_t1))) (2 : Int) ((getI (setI part_1 (1 : Int) ((getI part_1 (1 : Int)) ++ (getI (getI new_ (0 : Int)) k_t1))) (2 : Int)) ++ (getI (getI new_ (1 : Int)) k_t1))) (1 : Int)), (getI (setI (setI part_1 (1 : Int) ((getI part_1 (1 : Int)) ++ (getI (getI new_ (0 : Int)) k_t1))) (2 : Int) ((getI (setI part_1 (1 : Int) ((getI part_1 (1 : Int)) ++ (getI (getI new_ (0 : Int)) k_t1))) (2 : Int)) ++ (getI (getI new_ (1 : Int)) k_t1))) (2 : Int)), rfl, by have := (q2.get 0).1; omega, by have := (q2.get 1).1; omega, by have := (q2.get 2).1; omega, (q2.get 0).2, (q2.get 1).2, (q2.get 2).2, rfl⟩) fun σ1 H1 B => ?_
        have B : Bs _ _ _ [.va false ((eL eS) base_), .va false ((eL (eL eB)) kept_), .va false ((eL (eL (eL eS))) new_), .va true ((eL eS) lines_1), .va true (eI clashes_1), .ow true ga1_part ((setI (setI part_1 (1 : Int) ((getI part_1 (1 : Int)) ++ (getI (getI new_ (0 : Int)) k_t1))) (2 : Int) ((getI (setI part_1 (1 : Int) ((getI part_1 (1 : Int)) ++ (getI (getI new_ (0 : Int)) k_t1))) (2 : Int)) ++ (getI (getI new_ (1 : Int)) k_t1))).map (eL eS)), .va true (eI k_t1), .no, .va true ((eT2 (eL eS) eI) (m__law_decided ((getI (setI (setI part_1 (1 : Int) ((getI part_1 (1 : Int)) ++ (getI (getI new_ (0 : Int)) k_t1))) (2 : Int) ((getI (setI part_1 (1 : Int) ((getI part_1 (1 : Int)) ++ (getI (getI new_ (0 : Int)) k_t1))) (2 : Int)) ++ (getI (getI new_ (1 : Int)) k_t1))) (0 : Int))) ((getI (setI (setI part_1 (1 : Int) ((getI part_1 (1 : Int)) ++ (getI (getI new_ (0 : Int)) k_t1))) (2 : Int) ((getI (setI part_1 (1 : Int) ((getI part_1 (1 : Int)) ++ (getI (getI new_ (0 : Int)) k_t1))) (2 : Int)) ++ (getI (getI new_ (1 : Int)) k_t1))) (1 : Int))) ((getI (setI (setI part_1 (1 : Int) ((getI part_1 (1 : Int)) ++ (getI (getI new_ (0 : Int)) k_t1))) (2 : Int) ((getI (setI part_1 (1 : Int) ((getI part_1 (1 : Int)) ++ (getI (getI new_ (0 : Int)) k_t1))) (2 : Int)) ++ (getI (getI new_ (1 : Int)) k_t1))) (2 : Int)))))] := B
        refine q_asg (f := true) B (((en_catM (((en_catM ((ev_va B rfl).w0) (ev_ixT (K := K) (d := (eL eS) ((m__law_decided ((getI (setI (setI part_1 (1 : Int) ((getI part_1 (1 : Int)) ++ (getI (getI new_ (0 : Int)) k_t1))) (2 : Int) ((getI (setI part_1 (1 : Int) ((getI part_1 (1 : Int)) ++ (getI (getI new_ (0 : Int)) k_t1))) (2 : Int)) ++ (getI (getI new_ (1 : Int)) k_t1))) (0 : Int))) ((getI (setI (setI part_1 (1 : Int) ((getI part_1 (1 : Int)) ++ (getI (getI new_ (0 : Int)) k_t1))) (2 : Int) ((getI (setI part_1 (1 : Int) ((getI part_1 (1 : Int)) ++ (getI (getI new_ (0 : Int)) k_t1))) (2 : Int)) ++ (getI (getI new_ (1 : Int)) k_t1))) (1 : Int))) ((getI (setI (setI part_1 (1 : Int) ((getI part_1 (1 : Int)) ++ (getI (getI new_ (0 : Int)) k_t1))) (2 : Int) ((getI (setI part_1 (1 : Int) ((getI part_1 (1 : Int)) ++ (getI (getI new_ (0 : Int)) k_t1))) (2 : Int)) ++ (getI (getI new_ (1 : Int)) k_t1))) (2 : Int)))).1)) ((ev_va B rfl).w0) ev_int (by rfl)) (by have := (j1.get 1).1; have := (q1.get 2).1; have := (q2.get 0).1; first | omega | (simp only [List.length_cons, List.length_nil]; omega) | (have := (hJ.get (side_t2 + 1)).1; simp only [List.length_cons, List.length_nil]; omega) | (simp only [List.length_append]; omega))).scL (fun _ => (.str _))).ev live0) (((en_slM ((ev_va B rfl).w0) (eo_some (ev_sc B rfl (.int _))) (eo_some (ev_I0 (ev_sc B rfl (.int _)) ev_int))).scL (fun _ => (.str _))).ev live0) (by have := (j1.get 1).1; have := (q1.get 2).1; have := (q2.get 0).1; first | omega | (simp only [List.length_cons, List.length_nil]; omega) | (have := (hJ.get (side_t2 + 1)).1; simp only [List.length_cons, List.length_nil]; omega) | (simp only [List.length_append]; omega))).scL (fun _ => (.str _))).ev (B.live true)) fun σ1 H1 B => ?_
        have B : Bs _ _ _ [.va false ((eL eS) base_), .va false ((eL (eL eB)) kept_), .va false ((eL (eL (eL eS))) new_), .va true ((eL eS) ((lines_1 ++ ((m__law_decided ((getI (setI (setI part_1 (1 : Int) ((getI part_1 (1 : Int)) ++ (getI (getI new_ (0 : Int)) k_t1))) (2 : Int) ((getI (setI part_1 (1 : Int) ((getI part_1 (1 : Int)) ++ (getI (getI new_ (0 : Int)) k_t1))) (2 : Int)) ++ (getI (getI new_ (1 : Int)) k_t1))) (0 : Int))) ((getI (setI (setI part_1 (1 : Int) ((getI part_1 (1 : Int)) ++ (getI (getI new_ (0 : Int)) k_t1))) (2 : Int) ((getI (setI part_1 (1 : Int) ((getI part_1 (1 : Int)) ++ (getI (getI new_ (0 : Int)) k_t1))) (2 : Int)) ++ (getI (getI new_ (1 : Int)) k_t1))) (1 : Int))) ((getI (setI (setI part_1 (1 : Int) ((getI part_1 (1 : Int)) ++ (getI (getI new_ (0 : Int)) k_t1))) (2 : Int) ((getI (setI part_1 (1 : Int) ((getI part_1 (1 : Int)) ++ (getI (getI new_ (0 : Int)) k_t1))) (2 : Int)) ++ (getI (getI new_ (1 : Int)) k_t1))) (2 : Int)))).1)) ++ (cutG base_ (some k_t1) (some (k_t1 + (1 : Int)))))), .va true (eI clashes_1), .ow true ga1_part ((setI (setI part_1 (1 : Int) ((getI part_1 (1 : Int)) ++ (getI (getI new_ (0 : Int)) k_t1))) (2 : Int) ((getI (setI part_1 (1 : Int) ((getI part_1 (1 : Int)) ++ (getI (getI new_ (0 : Int)) k_t1))) (2 : Int)) ++ (getI (getI new_ (1 : Int)) k_t1))).map (eL eS)), .va true (eI k_t1), .no, .va true ((eT2 (eL eS) eI) (m__law_decided ((getI (setI (setI part_1 (1 : Int) ((getI part_1 (1 : Int)) ++ (getI (getI new_ (0 : Int)) k_t1))) (2 : Int) ((getI (setI part_1 (1 : Int) ((getI part_1 (1 : Int)) ++ (getI (getI new_ (0 : Int)) k_t1))) (2 : Int)) ++ (getI (getI new_ (1 : Int)) k_t1))) (0 : Int))) ((getI (setI (setI part_1 (1 : Int) ((getI part_1 (1 : Int)) ++ (getI (getI new_ (0 : Int)) k_t1))) (2 : Int) ((getI (setI part_1 (1 : Int) ((getI part_1 (1 : Int)) ++ (getI (getI new_ (0 : Int)) k_t1))) (2 : Int)) ++ (getI (getI new_ (1 : Int)) k_t1))) (1 : Int))) ((getI (setI (setI part_1 (1 : Int) ((getI part_1 (1 : Int)) ++ (getI (getI new_ (0 : Int)) k_t1))) (2 : Int) ((getI (setI part_1 (1 : Int) ((getI part_1 (1 : Int)) ++ (getI (getI new_ (0 : Int)) k_t1))) (2 : Int)) ++ (getI (getI new_ (1 : Int)) k_t1))) (2 : Int)))))] := B
        refine q_asg (f := true) B (ev_I0 (ev_sc B rfl (.int _)) ((ev_ixT (K := K) (d := eI ((m__law_decided ((getI (setI (setI part_1 (1 : Int) ((getI part_1 (1 : Int)) ++ (getI (getI new_ (0 : Int)) k_t1))) (2 : Int) ((getI (setI part_1 (1 : Int) ((getI part_1 (1 : Int)) ++ (getI (getI new_ (0 : Int)) k_t1))) (2 : Int)) ++ (getI (getI new_ (1 : Int)) k_t1))) (0 : Int))) ((getI (setI (setI part_1 (1 : Int) ((getI part_1 (1 : Int)) ++ (getI (getI new_ (0 : Int)) k_t1))) (2 : Int) ((getI (setI part_1 (1 : Int) ((getI part_1 (1 : Int)) ++ (getI (getI new_ (0 : Int)) k_t1))) (2 : Int)) ++ (getI (getI new_ (1 : Int)) k_t1))) (1 : Int))) ((getI (setI (setI part_1 (1 : Int) ((getI part_1 (1 : Int)) ++ (getI (getI new_ (0 : Int)) k_t1))) (2 : Int) ((getI (setI part_1 (1 : Int) ((getI part_1 (1 : Int)) ++ (getI (getI new_ (0 : Int)) k_t1))) (2 : Int)) ++ (getI (getI new_ (1 : Int)) k_t1))) (2 : Int)))).2)) ((ev_va B rfl).w0) ev_int (by rfl)).sc (.int _))) fun σ1 H1 B => ?_
        have B : Bs _ _ _ [.va false ((eL eS) base_), .va false ((eL (eL eB)) kept_), .va false ((eL (eL (eL eS))) new_), .va true ((eL eS) ((lines_1 ++ ((m__law_decided ((getI (setI (setI part_1 (1 : Int) ((getI part_1 (1 : Int)) ++ (getI (getI new_ (0 : Int)) k_t1))) (2 : Int) ((getI (setI part_1 (1 : Int) ((getI part_1 (1 : Int)) ++ (getI (getI new_ (0 : Int)) k_t1))) (2 : Int)) ++ (getI (getI new_ (1 : Int)) k_t1))) (0 : Int))) ((getI (setI (setI part_1 (1 : Int) ((getI part_1 (1 : Int)) ++ (getI (getI new_ (0 : Int)) k_t1))) (2 : Int) ((getI (setI part_1 (1 : Int) ((getI part_1 (1 : Int)) ++ (getI (getI new_ (0 : Int)) k_t1))) (2 : Int)) ++ (getI (getI new_ (1 : Int)) k_t1))) (1 : Int))) ((getI (setI (setI part_1 (1 : Int) ((getI part_1 (1 : Int)) ++ (getI (getI new_ (0 : Int)) k_t1))) (2 : Int) ((getI (setI part_1 (1 : Int) ((getI part_1 (1 : Int)) ++ (getI (getI new_ (0 : Int)) k_t1))) (2 : Int)) ++ (getI (getI new_ (1 : Int)) k_t1))) (2 : Int)))).1)) ++ (cutG base_ (some k_t1) (some (k_t1 + (1 : Int)))))), .va true (eI (clashes_1 + ((m__law_decided ((getI (setI (setI part_1 (1 : Int) ((getI part_1 (1 : Int)) ++ (getI (getI new_ (0 : Int)) k_t1))) (2 : Int) ((getI (setI part_1 (1 : Int) ((getI part_1 (1 : Int)) ++ (getI (getI new_ (0 : Int)) k_t1))) (2 : Int)) ++ (getI (getI new_ (1 : Int)) k_t1))) (0 : Int))) ((getI (setI (setI part_1 (1 : Int) ((getI part_1 (1 : Int)) ++ (getI (getI new_ (0 : Int)) k_t1))) (2 : Int) ((getI (setI part_1 (1 : Int) ((getI part_1 (1 : Int)) ++ (getI (getI new_ (0 : Int)) k_t1))) (2 : Int)) ++ (getI (getI new_ (1 : Int)) k_t1))) (1 : Int))) ((getI (setI (setI part_1 (1 : Int) ((getI part_1 (1 : Int)) ++ (getI (getI new_ (0 : Int)) k_t1))) (2 : Int) ((getI (setI part_1 (1 : Int) ((getI part_1 (1 : Int)) ++ (getI (getI new_ (0 : Int)) k_t1))) (2 : Int)) ++ (getI (getI new_ (1 : Int)) k_t1))) (2 : Int)))).2))), .ow true ga1_part ((setI (setI part_1 (1 : Int) ((getI part_1 (1 : Int)) ++ (getI (getI new_ (0 : Int)) k_t1))) (2 : Int) ((getI (setI part_1 (1 : Int) ((getI part_1 (1 : Int)) ++ (getI (getI new_ (0 : Int)) k_t1))) (2 : Int)) ++ (getI (getI new_ (1 : Int)) k_t1))).map (eL eS)), .va true (eI k_t1), .no, .va true ((eT2 (eL eS) eI) (m__law_decided ((getI (setI (setI part_1 (1 : Int) ((getI part_1 (1 : Int)) ++ (getI (getI new_ (0 : Int)) k_t1))) (2 : Int) ((getI (setI part_1 (1 : Int) ((getI part_1 (1 : Int)) ++ (getI (getI new_ (0 : Int)) k_t1))) (2 : Int)) ++ (getI (getI new_ (1 : Int)) k_t1))) (0 : Int))) ((getI (setI (setI part_1 (1 : Int) ((getI part_1 (1 : Int)) ++ (getI (getI new_ (0 : Int)) k_t1))) (2 : Int) ((getI (setI part_1 (1 : Int) ((getI part_1 (1 : Int)) ++ (getI (getI new_ (0 : Int)) k_t1))) (2 : Int)) ++ (getI (getI new_ (1 : Int)) k_t1))) (1 : Int))) ((getI (setI (setI part_1 (1 : Int) ((getI part_1 (1 : Int)) ++ (getI (getI new_ (0 : Int)) k_t1))) (2 : Int) ((getI (setI part_1 (1 : Int) ((getI part_1 (1 : Int)) ++ (getI (getI new_ (0 : Int)) k_t1))) (2 : Int)) ++ (getI (getI new_ (1 : Int)) k_t1))) (2 : Int)))))] := B
        refine q_asgN (f := true) B (en_lstM (em := (eL eS)) (xs := [([] : (List Str)), ([] : (List Str)), ([] : (List Str))]) (ea_cons ((en_lstM (em := eS) (xs := []) ea_nil (by simp)).ev (B.live true)) (ea_cons ((en_lstM (em := eS) (xs := []) ea_nil (by simp)).ev (B.live true)) (ea_cons ((en_lstM (em := eS) (xs := []) ea_nil (by simp)).ev (B.live true)) ea_nil))) (by simp)) fun a13 σ1 H1 B => ?_
        have B : Bs _ _ _ [.va false ((eL eS) base_), .va false ((eL (eL eB)) kept_), .va false ((eL (eL (eL eS))) new_), .va true ((eL eS) ((lines_1 ++ ((m__law_decided ((getI (setI (setI part_1 (1 : Int) ((getI part_1 (1 : Int)) ++ (getI (getI new_ (0 : Int)) k_t1))) (2 : Int) ((getI (setI part_1 (1 : Int) ((getI part_1 (1 : Int)) ++ (getI (getI new_ (0 : Int)) k_t1))) (2 : Int)) ++ (getI (getI new_ (1 : Int)) k_t1))) (0 : Int))) ((getI (setI (setI part_1 (1 : Int) ((getI part_1 (1 : Int)) ++ (getI (getI new_ (0 : Int)) k_t1))) (2 : Int) ((getI (setI part_1 (1 : Int) ((getI part_1 (1 : Int)) ++ (getI (getI new_ (0 : Int)) k_t1))) (2 : Int)) ++ (getI (getI new_ (1 : Int)) k_t1))) (1 : Int))) ((getI (setI (setI part_1 (1 : Int) ((getI part_1 (1 : Int)) ++ (getI (getI new_ (0 : Int)) k_t1))) (2 : Int) ((getI (setI part_1 (1 : Int) ((getI part_1 (1 : Int)) ++ (getI (getI new_ (0 : Int)) k_t1))) (2 : Int)) ++ (getI (getI new_ (1 : Int)) k_t1))) (2 : Int)))).1)) ++ (cutG base_ (some k_t1) (some (k_t1 + (1 : Int)))))), .va true (eI (clashes_1 + ((m__law_decided ((getI (setI (setI part_1 (1 : Int) ((getI part_1 (1 : Int)) ++ (getI (getI new_ (0 : Int)) k_t1))) (2 : Int) ((getI (setI part_1 (1 : Int) ((getI part_1 (1 : Int)) ++ (getI (getI new_ (0 : Int)) k_t1))) (2 : Int)) ++ (getI (getI new_ (1 : Int)) k_t1))) (0 : Int))) ((getI (setI (setI part_1 (1 : Int) ((getI part_1 (1 : Int)) ++ (getI (getI new_ (0 : Int)) k_t1))) (2 : Int) ((getI (setI part_1 (1 : Int) ((getI part_1 (1 : Int)) ++ (getI (getI new_ (0 : Int)) k_t1))) (2 : Int)) ++ (getI (getI new_ (1 : Int)) k_t1))) (1 : Int))) ((getI (setI (setI part_1 (1 : Int) ((getI part_1 (1 : Int)) ++ (getI (getI new_ (0 : Int)) k_t1))) (2 : Int) ((getI (setI part_1 (1 : Int) ((getI part_1 (1 : Int)) ++ (getI (getI new_ (0 : Int)) k_t1))) (2 : Int)) ++ (getI (getI new_ (1 : Int)) k_t1))) (2 : Int)))).2))), .ow true a13 (([([] : (List Str)), ([] : (List Str)), ([] : (List Str))]).map (eL eS)), .va true (eI k_t1), .no, .va true ((eT2 (eL eS) eI) (m__law_decided ((getI (setI (setI part_1 (1 : Int) ((getI part_1 (1 : Int)) ++ (getI (getI new_ (0 : Int)) k_t1))) (2 : Int) ((getI (setI part_1 (1 : Int) ((getI part_1 (1 : Int)) ++ (getI (getI new_ (0 : Int)) k_t1))) (2 : Int)) ++ (getI (getI new_ (1 : Int)) k_t1))) (0 : Int))) ((getI (setI (setI part_1 (1 : Int) ((getI part_1 (1 : Int)) ++ (getI (getI new_ (0 : Int)) k_t1))) (2 : Int) ((getI (setI part_1 (1 : Int) ((getI part_1 (1 : Int)) ++ (getI (getI new_ (0 : Int)) k_t1))) (2 : Int)) ++ (getI (getI new_ (1 : Int)) k_t1))) (1 : Int))) ((getI (setI (setI part_1 (1 : Int) ((getI part_1 (1 : Int)) ++ (getI (getI new_ (0 : Int)) k_t1))) (2 : Int) ((getI (setI part_1 (1 : Int) ((getI part_1 (1 : Int)) ++ (getI (getI new_ (0 : Int)) k_t1))) (2 : Int)) ++ (getI (getI new_ (1 : Int)) k_t1))) (2 : Int)))))] := B
        exact ⟨_, a13, hk1.symm, (by first | exact ⟨hJ.mono (by omega), by simp only; omega⟩ | exact ⟨PJ0 _, by simp only [List.length_append]; omega⟩), B.le (.cons (.refl _) (.cons (.refl _) (.cons (.refl _) (.cons (.refl _) (.cons (.refl _) (.cons (.refl _) (.cons (.no _) (.cons (.no _) (.cons (.no _) .nil)))))))))⟩
    · rw [← hs] at hk
      try simp only [List.length_reverse, rng_len, List.length_map] at hJ
      obtain ⟨part_r1, lines_r1, clashes_r1⟩ := s
      try dsimp only at hk
      have B : Bs _ _ _ [.va false ((eL eS) base_), .va false ((eL (eL eB)) kept_), .va false ((eL (eL (eL eS))) new_), .va true ((eL eS) lines_r1), .va true (eI clashes_r1), .ow true gb1_part (part_r1.map (eL eS)), .no, .no, .no] := B
      refine q_ret (f := true) B (ev_tup (B.live true) (ea_cons (ev_va B rfl) (ea_cons (ev_sc B rfl (.int _)) ea_nil)) (by simp)) fun v H1 x hv => q v H1 (e0.trans x) ?_
      rw [hk]; exact new_of hv

end
end K3
namespace K3
open PySem PySem.Spec PyProof.Rows L2 HL
open Evl (Ex)
/-! ### sides made of kept lines and fresh ones -/
def sideR : List Str → List Bool → List (List Str) → List Str
  | x :: b, k :: ks, n :: ns => n ++ (if k = true then x :: sideR b ks ns else sideR b ks ns)
  | _, _, n :: _ => n
  | _, _, [] => []
def prs : List Bool → List (List Str) → Nat → Nat → List (Nat × Nat)
  | k :: ks, n :: ns, i, j => if k = true then (i, j + n.length) :: prs ks ns (i + 1) (j + n.length + 1) else prs ks ns (i + 1) (j + n.length)
  | _, _, _, _ => []
def stR : List Bool → List Bool → List (List Str) → List (List Str) → Nat → Nat → Nat → List N3
  | k :: ks, l :: ls, n :: ns, m :: ms, i, j, z =>
    if (k && l) = true then (i, j + n.length, z + m.length) :: stR ks ls ns ms (i + 1) (j + n.length + 1) (z + m.length + 1)
    else stR ks ls ns ms (i + 1) (j + n.length + if k = true then 1 else 0) (z + m.length + if l = true then 1 else 0)
  | _, _, _, _, _, _, _ => []
theorem rng_r (n : Nat) : rng 0 (n : Int) = (List.range' 0 n).map fun (k : Nat) => (k : Int) := by
  unfold rng
  rw [List.range_eq_range']
  simp
theorem drop_at {α : Type} [Inhabited α] {xs : List α} {a : Nat} (h : a < xs.length) : xs.drop a = getI xs (a : Int) :: xs.drop (a + 1) := by
  rw [List.drop_eq_getElem_cons h, getI_at (List.getElem?_eq_getElem h)]
theorem side_fold {base : List Str} {kept : List Bool} {new : List (List Str)} (hk : kept.length = base.length) (hn : new.length = base.length + 1) : ∀ (m a : Nat) (acc : List Str), a + m = base.length →
    List.foldl (l__law_side_1 base kept new) acc ((List.range' a m).map fun (k : Nat) => (k : Int)) ++ getI new (base.length : Int) = acc ++ sideR (base.drop a) (kept.drop a) (new.drop a)
  | 0, a, acc, h => by
    have e : a = base.length := by omega
    subst e
    rw [List.drop_length, drop_at (xs := new) (a := base.length) (by omega)]
    rfl
  | m + 1, a, acc, h => by
    rw [List.range'_succ, List.map_cons, List.foldl_cons, side_fold hk hn m (a + 1) _ (by omega), drop_at (xs := base) (a := a) (by omega), drop_at (xs := kept) (a := a) (by omega), drop_at (xs := new) (a := a) (by omega), sideR]
    unfold l__law_side_1
    simp only
    split <;> simp
theorem side_is {base : List Str} {kept : List Bool} {new : List (List Str)} (hk : kept.length = base.length) (hn : new.length = base.length + 1) : m__law_side base kept new = sideR base kept new := by
  have := side_fold hk hn base.length 0 [] (by omega)
  rw [← rng_r] at this
  simpa [m__law_side] using this
/-! where the lines stand -/
theorem side_mem {fr : Str → Prop} : ∀ {b : List Str} {ks : List Bool} {ns : List (List Str)}, (∀ n ∈ ns, ∀ v ∈ n, fr v) → ∀ {v : Str}, v ∈ sideR b ks ns → v ∈ b ∨ fr v
  | x :: b, k :: ks, n :: ns, h, v, hv => by
    rw [sideR] at hv
    rcases List.mem_append.mp hv with z | z
    · exact .inr (h n List.mem_cons_self v z)
    · have h2 : ∀ n ∈ ns, ∀ v ∈ n, fr v := fun n hn => h n (List.mem_cons_of_mem _ hn)
      split at z
      · rcases List.mem_cons.mp z with rfl | z
        · exact .inl List.mem_cons_self
        · rcases side_mem h2 z with w | w
          · exact .inl (List.mem_cons_of_mem _ w)
          · exact .inr w
      · rcases side_mem h2 z with w | w
        · exact .inl (List.mem_cons_of_mem _ w)
        · exact .inr w
  | [], ks, n :: ns, h, v, hv => by
    have hv : v ∈ n := by simpa [sideR] using hv
    exact .inr (h n List.mem_cons_self v hv)
  | x :: b, [], n :: ns, h, v, hv => by
    have hv : v ∈ n := by simpa [sideR] using hv
    exact .inr (h n List.mem_cons_self v hv)
  | [], ks, [], h, v, hv => by simp [sideR] at hv
  | x :: b, ks, [], h, v, hv => by simp [sideR] at hv
theorem prs_mem {fr : Str → Prop} : ∀ {b : List Str} {ks : List Bool} {ns : List (List Str)} (i j : Nat), ks.length = b.length → ns.length = b.length + 1 → b.Nodup → (∀ x ∈ b, ¬ fr x) → (∀ n ∈ ns, ∀ v ∈ n, fr v) → ∀ (x y : Nat) (v : Str), b[x]? = some v → (sideR b ks ns)[y]? = some v → (i + x, j + y) ∈ prs ks ns i j
  | [], ks, ns, i, j, _, _, _, _, _, x, y, v, h, _ => by simp at h
  | c :: b, [], ns, i, j, hk, _, _, _, _, x, y, v, h, _ => by simp at hk
  | c :: b, k :: ks, [], i, j, hk, hn, _, _, _, x, y, v, h, _ => by simp at hn
  | c :: b, k :: ks, n :: ns, i, j, hk, hn, hd, hb, hf, x, y, v, hx, hy => by
    have hd1 : c ∉ b := (List.nodup_cons.mp hd).1
    have hd2 := (List.nodup_cons.mp hd).2
    have hf2 : ∀ n ∈ ns, ∀ v ∈ n, fr v := fun n hn => hf n (List.mem_cons_of_mem _ hn)
    have hb2 : ∀ x ∈ b, ¬ fr x := fun x hx => hb x (List.mem_cons_of_mem _ hx)
    have hv : v ∈ c :: b := List.mem_of_getElem? hx
    have ih := prs_mem (fr := fr) (ks := ks) (ns := ns) (b := b)
    have cR : c ∉ sideR b ks ns := fun z => by
      rcases side_mem hf2 z with w | w
      · exact hd1 w
      · exact hb c List.mem_cons_self w
    rw [sideR] at hy
    have hyn : n.length ≤ y := by
      by_cases q : y < n.length
      · rw [List.getElem?_append_left q] at hy
        exact absurd (hf n List.mem_cons_self v (List.mem_of_getElem? hy)) (hb v hv)
      · omega
    rw [List.getElem?_append_right hyn] at hy
    rw [prs]
    by_cases hk1 : k = true
    · rw [if_pos hk1] at hy ⊢
      by_cases q : y = n.length
      · subst q
        rw [Nat.sub_self] at hy
        have : c = v := by simpa using hy
        subst this
        have x0 : x = 0 := by
          cases x with
          | zero => rfl
          | succ x => exact absurd (List.mem_of_getElem? (by simpa using hx)) hd1
        subst x0
        exact List.mem_cons_self
      · obtain ⟨w, hw⟩ : ∃ w, y = n.length + 1 + w := ⟨y - n.length - 1, by omega⟩
        subst hw
        have e : n.length + 1 + w - n.length = w + 1 := by omega
        rw [e, List.getElem?_cons_succ] at hy
        cases x with
        | zero =>
          have : c = v := by simpa using hx
          subst this
          exact absurd (List.mem_of_getElem? hy) cR
        | succ x =>
          have := ih (i + 1) (j + n.length + 1) (by simpa using hk) (by simpa using hn) hd2 hb2 hf2 x w v (by simpa using hx) hy
          refine List.mem_cons_of_mem _ ?_
          have e2 : (i + (x + 1), j + (n.length + 1 + w)) = (i + 1 + x, j + n.length + 1 + w) := by
            rw [Prod.mk.injEq]; omega
          rw [e2]; exact this
    · rw [if_neg hk1] at hy ⊢
      obtain ⟨w, hw⟩ : ∃ w, y = n.length + w := ⟨y - n.length, by omega⟩
      subst hw
      have e : n.length + w - n.length = w := by omega
      rw [e] at hy
      cases x with
      | zero =>
        have : c = v := by simpa using hx
        subst this
        exact absurd (List.mem_of_getElem? hy) cR
      | succ x =>
        have := ih (i + 1) (j + n.length) (by simpa using hk) (by simpa using hn) hd2 hb2 hf2 x w v (by simpa using hx) hy
        have e2 : (i + (x + 1), j + (n.length + w)) = (i + 1 + x, j + n.length + w) := by
          rw [Prod.mk.injEq]; omega
        rw [e2]; exact this
theorem prs_asc : ∀ (ks : List Bool) (ns : List (List Str)) (i j : Nat), Asc i (prs ks ns i j)
  | k :: ks, n :: ns, i, j => by
    rw [prs]
    split
    · exact ⟨Nat.le_refl _, prs_asc ks ns (i + 1) _⟩
    · exact (prs_asc ks ns (i + 1) _).weak (by omega)
  | [], ns, i, j => by simp [prs, Asc]
  | k :: ks, [], i, j => by simp [prs, Asc]
theorem asc_ge : ∀ {P : List (Nat × Nat)} {lo : Nat} {p : Nat × Nat}, Asc lo P → p ∈ P → lo ≤ p.1
  | q :: P, lo, p, ⟨h1, h2⟩, h => by
    rcases List.mem_cons.mp h with rfl | h
    · exact h1
    · have := asc_ge h2 h; omega
theorem asc_sub : ∀ {K P : List (Nat × Nat)} {lo lo' : Nat}, Asc lo K → Asc lo' P → (∀ p ∈ P, p ∈ K) → List.Sublist P K
  | [], [], _, _, _, _, _ => .slnil
  | [], p :: P, _, _, _, _, h => by have := h p List.mem_cons_self; simp at this
  | q :: K, [], _, _, _, _, _ => List.nil_sublist _
  | q :: K, p :: P, lo, lo', ⟨k1, k2⟩, ⟨p1, p2⟩, h => by
    by_cases e : p = q
    · subst e
      refine List.Sublist.cons₂ _ (asc_sub k2 p2 fun x hx => ?_)
      rcases List.mem_cons.mp (h x (List.mem_cons_of_mem _ hx)) with rfl | z
      · have := asc_ge p2 hx; omega
      · exact z
    · have hp : p ∈ K := by
        rcases List.mem_cons.mp (h p List.mem_cons_self) with z | z
        · exact absurd z e
        · exact z
      have hq := asc_ge k2 hp
      refine List.Sublist.cons _ (asc_sub (lo' := lo') k2 ⟨p1, p2⟩ fun x hx => ?_)
      rcases List.mem_cons.mp hx with rfl | hx
      · exact hp
      · rcases List.mem_cons.mp (h x (List.mem_cons_of_mem _ hx)) with rfl | z
        · have := asc_ge p2 hx; omega
        · exact z
def kp : List Str → List Bool → List Str
  | x :: b, k :: ks => if k = true then x :: kp b ks else kp b ks
  | _, _ => []
theorem kp_b : ∀ (b : List Str) (ks : List Bool), List.Sublist (kp b ks) b
  | x :: b, k :: ks => by
    rw [kp]
    split
    · exact (kp_b b ks).cons₂ _
    · exact (kp_b b ks).cons _
  | [], ks => by simp [kp]
  | x :: b, [] => by simp [kp]
theorem kp_s : ∀ (b : List Str) (ks : List Bool) (ns : List (List Str)), ns.length = b.length + 1 → List.Sublist (kp b ks) (sideR b ks ns)
  | x :: b, k :: ks, n :: ns, h => by
    rw [kp, sideR]
    have ih := kp_s b ks ns (by simpa using h)
    split
    · exact (ih.cons₂ _).trans (List.sublist_append_right _ _)
    · exact ih.trans (List.sublist_append_right _ _)
  | [], ks, ns, h => by simp [kp]
  | x :: b, [], ns, h => by simp [kp]
  | x :: b, k :: ks, [], h => by simp at h
theorem kp_len : ∀ (b : List Str) (ks : List Bool) (ns : List (List Str)) (i j : Nat), ks.length = b.length → ns.length = b.length + 1 → (prs ks ns i j).length = (kp b ks).length
  | x :: b, k :: ks, n :: ns, i, j, h1, h2 => by
    rw [prs, kp]
    split
    · rw [List.length_cons, List.length_cons, kp_len b ks ns _ _ (by simpa using h1) (by simpa using h2)]
    · exact kp_len b ks ns _ _ (by simpa using h1) (by simpa using h2)
  | [], [], ns, i, j, h1, h2 => by simp [prs, kp]
  | [], k :: ks, ns, i, j, h1, h2 => by simp at h1
  | x :: b, [], ns, i, j, h1, h2 => by simp at h1
  | x :: b, k :: ks, [], i, j, h1, h2 => by simp at h2
theorem ch_all {old new : List Str} {e f : Nat} : ∀ {ps : List (Nat × Nat)} {i j : Nat}, Ch old new i j ps e f → ∀ p ∈ ps, p.1 < old.length ∧ p.2 < new.length ∧ old[p.1]? = new[p.2]?
  | [], _, _, _, p, hp => by simp at hp
  | q :: ps, i, j, ⟨h1, h2, h3, h4, h5, h6⟩, p, hp => by
    rcases List.mem_cons.mp hp with rfl | hp
    · exact ⟨h3, h4, h5⟩
    · exact ch_all h6 p hp
theorem matched_side {fr : Str → Prop} {b : List Str} {ks : List Bool} {ns : List (List Str)} (hk : ks.length = b.length) (hn : ns.length = b.length + 1) (hd : b.Nodup) (hb : ∀ x ∈ b, ¬ fr x) (hf : ∀ n ∈ ns, ∀ v ∈ n, fr v) :
    m_matched b (sideR b ks ns) = (prs ks ns 0 0).map cP ∧ Ch b (sideR b ks ns) 0 0 (prs ks ns 0 0) b.length (sideR b ks ns).length := by
  obtain ⟨ps, e, h⟩ := matched_ch b (sideR b ks ns)
  have hl : ps.length = lcs b (sideR b ks ns) := by rw [← matched_len, e, List.length_map]
  have hg := lcs_ge b (sideR b ks ns) (kp b ks) (kp_b b ks) (kp_s b ks ns hn)
  have hs : List.Sublist ps (prs ks ns 0 0) := asc_sub (prs_asc ks ns 0 0) (ch_asc h) fun p hp => by
    obtain ⟨h1, h2, h3⟩ := ch_all h p hp
    have e1 : b[p.1]? = some b[p.1] := List.getElem?_eq_getElem h1
    have := prs_mem (fr := fr) 0 0 hk hn hd hb hf p.1 p.2 _ e1 (by rw [← h3, e1])
    simpa using this
  have : ps = prs ks ns 0 0 := hs.eq_of_length_le (by rw [kp_len b ks ns 0 0 hk hn]; omega)
  subst this
  exact ⟨e, h⟩
theorem stab_skip {P Q : List (Nat × Nat)} {q : Nat × Nat} {lo : Nat} (h : Asc lo P) (hq : q.1 < lo) : stab P (q :: Q) = stab P Q := by
  unfold stab
  exact fm_congr fun p hp => by
    have := asc_ge h hp
    rw [lookN_tl (by omega)]
theorem stab_prs : ∀ (ks ls : List Bool) (ns ms : List (List Str)) (i j z : Nat), ks.length = ls.length → ns.length = ks.length + 1 → ms.length = ks.length + 1 → stab (prs ks ns i j) (prs ls ms i z) = stR ks ls ns ms i j z
  | k :: ks, l :: ls, n :: ns, m :: ms, i, j, z, h1, h2, h3 => by
    have ih := stab_prs ks ls ns ms (i + 1)
    have g1 : ks.length = ls.length := by simpa using h1
    have g2 : ns.length = ks.length + 1 := by simpa using h2
    have g3 : ms.length = ks.length + 1 := by simpa using h3
    rw [prs, prs, stR]
    cases k <;> cases l
    · simp only [Bool.and_self, Bool.false_eq_true, if_false]
      rw [← ih _ _ g1 g2 g3]; rfl
    · simp only [Bool.false_and, Bool.false_eq_true, if_false, if_true]
      rw [← ih _ _ g1 g2 g3]
      exact stab_skip (prs_asc ks ns (i + 1) _) (by simp)
    · simp only [Bool.and_false, Bool.false_eq_true, if_false, if_true]
      rw [← ih _ _ g1 g2 g3]
      unfold stab
      rw [List.filterMap_cons]
      simp only
      rw [lookN_lt (prs_asc ls ms (i + 1) _) (by omega)]
      rfl
    · simp only [Bool.and_self, if_true]
      rw [← ih _ _ g1 g2 g3]
      rw [← stab_skip (q := (i, z + m.length)) (Q := prs ls ms (i + 1) (z + m.length + 1)) (prs_asc ks ns (i + 1) (j + n.length + 1)) (by simp)]
      unfold stab
      rw [List.filterMap_cons]
      simp only
      have := lookN_hd (p := (i, z + m.length)) (ps := prs ls ms (i + 1) (z + m.length + 1))
      simp only at this
      rw [this]
      rfl
  | [], ls, ns, ms, i, j, z, h1, h2, h3 => by simp [prs, stR, stab]
  | k :: ks, [], ns, ms, i, j, z, h1, h2, h3 => by simp at h1
  | k :: ks, l :: ls, [], ms, i, j, z, h1, h2, h3 => by simp at h2
  | k :: ks, l :: ls, n :: ns, [], i, j, z, h1, h2, h3 => by simp at h3
/-! ### the merge of the chunks -/
def DD (b o t : List Str) (s p : N3) : List Str × Int := m__law_decided (cutN b s.1 p.1) (cutN o s.2.1 p.2.1) (cutN t s.2.2 p.2.2)
def FR (b o t : List Str) : N3 → List N3 → List Str × Int
  | s, [] => DD b o t s (lens b o t)
  | s, p :: ps => ((DD b o t s p).1 ++ cutN b p.1 (p.1 + 1) ++ (FR b o t (nx p) ps).1, (DD b o t s p).2 + (FR b o t (nx p) ps).2)
theorem decided_nil : m__law_decided [] [] [] = ([], 0) := by simp [m__law_decided]
theorem DD_self (b o t : List Str) (s : N3) : DD b o t s s = ([], 0) := by
  unfold DD
  rw [cutN_self, cutN_self, cutN_self, decided_nil]
theorem step_dec (ls : List Str) (c : Int) (w : Str) (x y z : List Str) : l_merge_texts_1 (ls, c) (w, x, y, z) = (ls ++ (m__law_decided x y z).1, c + (m__law_decided x y z).2) := by
  unfold l_merge_texts_1 m__law_decided
  simp only
  split
  · simp
  · split <;> simp
theorem step_part {b o t : List Str} (s p : N3) (ls : List Str) (c : Int) : List.foldl l_merge_texts_1 (ls, c) (partN b o t s p) = (ls ++ (DD b o t s p).1, c + (DD b o t s p).2) := by
  unfold partN
  split
  · rename_i h
    subst h
    rw [DD_self]
    simp
  · rw [List.foldl_cons, List.foldl_nil, step_dec]; rfl
theorem step_flush (run ls : List Str) (c : Int) : List.foldl l_merge_texts_1 (ls, c) (flushN run) = (ls ++ run, c) := by
  unfold flushN
  split
  · rename_i h; subst h; simp
  · rw [List.foldl_cons, List.foldl_nil, step_dec]
    simp [m__law_decided]
theorem merge_G {b o t : List Str} : ∀ (ps : List N3) (s : N3) (run ls : List Str) (c : Int), List.foldl l_merge_texts_1 (ls, c) (G b o t s run ps) = (ls ++ run ++ (FR b o t s ps).1, c + (FR b o t s ps).2)
  | [], s, run, ls, c => by
    rw [G, List.foldl_append, step_flush, step_part]; rfl
  | p :: ps, s, run, ls, c => by
    rw [G, FR]
    by_cases q : p = s
    · rw [if_pos q, merge_G ps, q, DD_self]
      simp
    · rw [if_neg q, List.foldl_append, List.foldl_append, step_flush, step_part, merge_G ps]
      simp only [List.append_assoc, Prod.mk.injEq, true_and]
      omega
/-! ### the law's merge -/
def mgR : List Str → List Bool → List Bool → List (List Str) → List (List Str) → List Str → List Str → List Str → List Str × Int
  | x :: b, k :: ks, l :: ls, n :: ns, m :: ms, p, q, r =>
    if (k && l) = true then ((m__law_decided p (q ++ n) (r ++ m)).1 ++ [x] ++ (mgR b ks ls ns ms [] [] []).1, (m__law_decided p (q ++ n) (r ++ m)).2 + (mgR b ks ls ns ms [] [] []).2)
    else mgR b ks ls ns ms (p ++ [x]) (q ++ n ++ if k = true then [x] else []) (r ++ m ++ if l = true then [x] else [])
  | _, _, _, n :: _, m :: _, p, q, r => m__law_decided p (q ++ n) (r ++ m)
  | _, _, _, _, _, _, _, _ => ([], 0)
theorem cut_ext {xs n r : List Str} {s j : Nat} (hs : s ≤ j) (hj : j ≤ xs.length) (h : xs.drop j = n ++ r) : cutN xs s (j + n.length) = cutN xs s j ++ n := by
  unfold cutN
  have e : j + n.length - s = (j - s) + n.length := by omega
  rw [e, List.take_add, List.drop_drop]
  have e2 : s + (j - s) = j := by omega
  rw [e2, h, List.take_left]
theorem drop_ext {xs n r : List Str} {j : Nat} (h : xs.drop j = n ++ r) : xs.drop (j + n.length) = r := by
  rw [← List.drop_drop, h, List.drop_left]
theorem drop_len {xs n r : List Str} {j : Nat} (hj : j ≤ xs.length) (h : xs.drop j = n ++ r) : j + n.length ≤ xs.length := by
  have := congrArg List.length h
  rw [List.length_drop, List.length_append] at this
  omega
theorem FR_mg {b o t : List Str} : ∀ (bs : List Str) (ks ls : List Bool) (ns ms : List (List Str)) (i j z : Nat) (s : N3), ks.length = bs.length → ls.length = bs.length → ns.length = bs.length + 1 → ms.length = bs.length + 1 → s.1 ≤ i → s.2.1 ≤ j → s.2.2 ≤ z → i ≤ b.length → j ≤ o.length → z ≤ t.length → b.drop i = bs → o.drop j = sideR bs ks ns → t.drop z = sideR bs ls ms →
    FR b o t s (stR ks ls ns ms i j z) = mgR bs ks ls ns ms (cutN b s.1 i) (cutN o s.2.1 j) (cutN t s.2.2 z)
  | x :: bs, k :: ks, l :: ls, n :: ns, m :: ms, i, j, z, s, h1, h2, h3, h4, s1, s2, s3, b1, b2, b3, d1, d2, d3 => by
    rw [sideR] at d2 d3
    have ih := FR_mg (b := b) (o := o) (t := t) bs ks ls ns ms
    have g1 : ks.length = bs.length := by simpa using h1
    have g2 : ls.length = bs.length := by simpa using h2
    have g3 : ns.length = bs.length + 1 := by simpa using h3
    have g4 : ms.length = bs.length + 1 := by simpa using h4
    have c2 := cut_ext s2 b2 d2
    have c3 := cut_ext s3 b3 d3
    have l2 := drop_len b2 d2
    have l3 := drop_len b3 d3
    have r2 := drop_ext d2
    have r3 := drop_ext d3
    have d1' : b.drop i = [x] ++ bs := d1
    have c1 := cut_ext s1 b1 d1'
    have c1i := cut_ext (Nat.le_refl i) b1 d1'
    have l1 := drop_len b1 d1'
    have r1 := drop_ext d1'
    simp only [List.length_cons, List.length_nil, Nat.zero_add] at c1 c1i l1 r1
    rw [cutN_self, List.nil_append] at c1i
    rw [stR, mgR]
    cases k <;> cases l
    · simp only [Bool.and_self, Bool.false_eq_true, if_false] at d2 d3 r2 r3 ⊢
      have := ih (i + 1) (j + n.length + 0) (z + m.length + 0) s g1 g2 g3 g4 (by omega) (by omega) (by omega) l1 (by omega) (by omega) r1 r2 r3
      rw [this, c1, Nat.add_zero, Nat.add_zero, c2, c3, List.append_nil, List.append_nil]
    · simp only [Bool.false_and, Bool.false_eq_true, if_false, if_true] at d2 d3 r2 r3 ⊢
      have r3' : t.drop (z + m.length) = [x] ++ sideR bs ls ms := r3
      have l3' := drop_len l3 r3'
      have e3 := drop_ext r3'
      have f3 := cut_ext (s := s.2.2) (by omega) l3 r3'
      simp only [List.length_cons, List.length_nil, Nat.zero_add] at l3' e3 f3
      have := ih (i + 1) (j + n.length + 0) (z + m.length + 1) s g1 g2 g3 g4 (by omega) (by omega) (by omega) l1 (by omega) l3' r1 r2 e3
      rw [this, c1, f3, c3, Nat.add_zero, c2, List.append_nil]
    · simp only [Bool.and_false, Bool.false_eq_true, if_false, if_true] at d2 d3 r2 r3 ⊢
      have r2' : o.drop (j + n.length) = [x] ++ sideR bs ks ns := r2
      have l2' := drop_len l2 r2'
      have e2 := drop_ext r2'
      have f2 := cut_ext (s := s.2.1) (by omega) l2 r2'
      simp only [List.length_cons, List.length_nil, Nat.zero_add] at l2' e2 f2
      have := ih (i + 1) (j + n.length + 1) (z + m.length + 0) s g1 g2 g3 g4 (by omega) (by omega) (by omega) l1 l2' (by omega) r1 e2 r3
      rw [this, c1, f2, c2, Nat.add_zero, c3, List.append_nil]
    · simp only [Bool.and_self, if_true] at d2 d3 r2 r3 ⊢
      have r2' : o.drop (j + n.length) = [x] ++ sideR bs ks ns := r2
      have l2' := drop_len l2 r2'
      have e2 := drop_ext r2'
      have r3' : t.drop (z + m.length) = [x] ++ sideR bs ls ms := r3
      have l3' := drop_len l3 r3'
      have e3 := drop_ext r3'
      simp only [List.length_cons, List.length_nil, Nat.zero_add] at l2' e2 l3' e3
      rw [FR]
      have := ih (i + 1) (j + n.length + 1) (z + m.length + 1) (nx (i, j + n.length, z + m.length)) g1 g2 g3 g4 (Nat.le_refl _) (Nat.le_refl _) (Nat.le_refl _) l1 l2' l3' r1 e2 e3
      rw [this]
      simp only [nx, cutN_self, DD, c1i, c2, c3]
  | [], [], [], n :: ns, m :: ms, i, j, z, s, h1, h2, h3, h4, s1, s2, s3, b1, b2, b3, d1, d2, d3 => by
    have d2 : o.drop j = n ++ [] := by rw [d2]; simp [sideR]
    have d3 : t.drop z = m ++ [] := by rw [d3]; simp [sideR]
    have q1 := congrArg List.length d1
    have q2 := congrArg List.length d2
    have q3 := congrArg List.length d3
    simp only [List.length_drop, List.length_append, List.length_nil] at q1 q2 q3
    have c2 := cut_ext s2 b2 d2
    have c3 := cut_ext s3 b3 d3
    have e1 : b.length = i := by omega
    have e2 : o.length = j + n.length := by omega
    have e3 : t.length = z + m.length := by omega
    simp only [stR, FR, DD, lens, e1, e2, e3, c2, c3]
    rfl
  | x :: bs, [], ls, ns, ms, i, j, z, s, h1, _, _, _, _, _, _, _, _, _, _, _, _ => by simp at h1
  | x :: bs, k :: ks, [], ns, ms, i, j, z, s, _, h1, _, _, _, _, _, _, _, _, _, _, _ => by simp at h1
  | x :: bs, k :: ks, l :: ls, [], ms, i, j, z, s, _, _, h1, _, _, _, _, _, _, _, _, _, _ => by simp at h1
  | x :: bs, k :: ks, l :: ls, n :: ns, [], i, j, z, s, _, _, _, h1, _, _, _, _, _, _, _, _, _ => by simp at h1
  | [], k :: ks, ls, ns, ms, i, j, z, s, h1, _, _, _, _, _, _, _, _, _, _, _, _ => by simp at h1
  | [], [], l :: ls, ns, ms, i, j, z, s, _, h1, _, _, _, _, _, _, _, _, _, _, _ => by simp at h1
  | [], [], [], [], ms, i, j, z, s, _, _, h1, _, _, _, _, _, _, _, _, _, _ => by simp at h1
  | [], [], [], n :: ns, [], i, j, z, s, _, _, _, h1, _, _, _, _, _, _, _, _, _ => by simp at h1
theorem law_merged_fold {base : List Str} {ks ls : List Bool} {ns ms : List (List Str)} (hk : ks.length = base.length) (hl : ls.length = base.length) (hn : ns.length = base.length + 1) (hm : ms.length = base.length + 1) : ∀ (m a : Nat) (p q r lines : List Str) (c : Int), a + m = base.length →
    (List.foldl (l__law_merged_1 base [ks, ls] [ns, ms]) ([p, q, r], lines, c) ((List.range' a (m + 1)).map fun (k : Nat) => (k : Int))).2 = (lines ++ (mgR (base.drop a) (ks.drop a) (ls.drop a) (ns.drop a) (ms.drop a) p q r).1, c + (mgR (base.drop a) (ks.drop a) (ls.drop a) (ns.drop a) (ms.drop a) p q r).2) := by
  have g0 : getI [ks, ls] (0 : Int) = ks := rfl
  have g1 : getI [ks, ls] (1 : Int) = ls := rfl
  have g2 : getI [ns, ms] (0 : Int) = ns := rfl
  have g3 : getI [ns, ms] (1 : Int) = ms := rfl
  have t0 : ∀ u v w : List Str, getI [u, v, w] (0 : Int) = u := fun _ _ _ => rfl
  have t1 : ∀ u v w : List Str, getI [u, v, w] (1 : Int) = v := fun _ _ _ => rfl
  have t2 : ∀ u v w : List Str, getI [u, v, w] (2 : Int) = w := fun _ _ _ => rfl
  have u0 : ∀ u v w y : List Str, setI [u, v, w] (0 : Int) y = [y, v, w] := fun _ _ _ _ => rfl
  have u1 : ∀ u v w y : List Str, setI [u, v, w] (1 : Int) y = [u, y, w] := fun _ _ _ _ => rfl
  have u2 : ∀ u v w y : List Str, setI [u, v, w] (2 : Int) y = [u, v, y] := fun _ _ _ _ => rfl
  have r2 : rng 0 2 = [0, 1] := by decide
  intro m
  induction m with
  | zero =>
    intro a p q r lines c h
    have e : a = base.length := by omega
    subst e
    rw [List.range'_succ, List.range'_zero, List.map_cons, List.map_nil, List.foldl_cons, List.foldl_nil]
    unfold l__law_merged_1
    have hc : decide (((base.length : Nat) : Int) < (base.length : Int)) = false := by simp
    simp only [hc, Bool.false_and, Bool.false_eq_true, if_false, g2, g3, t0, t1, t2, u1, u2]
    have ec : cutG base (some (base.length : Int)) (some ((base.length : Int) + 1)) = [] := by
      unfold cutG
      rw [HT.sIx_nat, Nat.min_self, List.drop_length, List.take_nil]
    rw [ec, List.drop_length, drop_at (xs := ns) (a := base.length) (by omega), drop_at (xs := ms) (a := base.length) (by omega), List.append_nil]
    rfl
  | succ m ih =>
    intro a p q r lines c h
    have ha : a < base.length := by omega
    have hc : decide ((a : Int) < (base.length : Int)) = true := by simp; omega
    rw [List.range'_succ, List.map_cons, List.foldl_cons, drop_at (xs := base) ha, drop_at (xs := ks) (a := a) (by omega), drop_at (xs := ls) (a := a) (by omega), drop_at (xs := ns) (a := a) (by omega), drop_at (xs := ms) (a := a) (by omega), mgR]
    have st : l__law_merged_1 base [ks, ls] [ns, ms] ([p, q, r], lines, c) (a : Int) = if (getI ks (a : Int) && getI ls (a : Int)) = true then ([[], [], []], lines ++ (m__law_decided p (q ++ getI ns (a : Int)) (r ++ getI ms (a : Int))).1 ++ [getI base (a : Int)], c + (m__law_decided p (q ++ getI ns (a : Int)) (r ++ getI ms (a : Int))).2) else ([p ++ [getI base (a : Int)], q ++ getI ns (a : Int) ++ (if getI ks (a : Int) = true then [getI base (a : Int)] else []), r ++ getI ms (a : Int) ++ (if getI ls (a : Int) = true then [getI base (a : Int)] else [])], lines, c) := by
      have ec : cutG base (some (a : Int)) (some ((a : Int) + 1)) = [getI base (a : Int)] := by
        rw [cutG1 ha, cutN_one ha, getI_at (List.getElem?_eq_getElem ha)]
      unfold l__law_merged_1
      simp only [hc, Bool.true_and, g0, g1, g2, g3, t0, t1, t2, u0, u1, u2, ec]
      by_cases w : (getI ks (a : Int) && getI ls (a : Int)) = true
      · rw [if_pos w, if_neg (by rw [w]; simp)]
      · rw [if_neg w, if_pos (by cases e1 : getI ks (a : Int) <;> cases e2 : getI ls (a : Int) <;> simp_all), r2, List.foldl_cons, List.foldl_cons, List.foldl_nil]
        unfold l__law_merged_2
        have z1 : (0 : Int) + 1 = 1 := by decide
        have z2 : (1 : Int) + 1 = 2 := by decide
        simp only [g0, g1, z1, z2, t1, t2, u1, u2]
        cases getI ks (a : Int) <;> cases getI ls (a : Int) <;> simp_all
    rw [st]
    by_cases w : (getI ks (a : Int) && getI ls (a : Int)) = true
    · rw [if_pos w, if_pos w, ih (a + 1) _ _ _ _ _ (by omega)]
      simp only [List.append_assoc, Prod.mk.injEq, true_and]
      omega
    · rw [if_neg w, if_neg w, ih (a + 1) _ _ _ _ _ (by omega)]
theorem law_merged_is {base : List Str} {ks ls : List Bool} {ns ms : List (List Str)} (hk : ks.length = base.length) (hl : ls.length = base.length) (hn : ns.length = base.length + 1) (hm : ms.length = base.length + 1) : m__law_merged base [ks, ls] [ns, ms] = mgR base ks ls ns ms [] [] [] := by
  have h := law_merged_fold hk hl hn hm base.length 0 [] [] [] [] 0 (by omega)
  have er : rng 0 ((base.length : Int) + 1) = (List.range' 0 (base.length + 1)).map fun (k : Nat) => (k : Int) := by
    rw [← rng_r]; rfl
  have e : m__law_merged base [ks, ls] [ns, ms] = (List.foldl (l__law_merged_1 base [ks, ls] [ns, ms]) ([([] : List Str), [], []], ([] : List Str), (0 : Int)) (rng 0 ((base.length : Int) + 1))).2 := rfl
  rw [e, er, h]
  simp
theorem merge_sides {fr : Str → Prop} {base : List Str} {ks ls : List Bool} {ns ms : List (List Str)} (hk : ks.length = base.length) (hl : ls.length = base.length) (hn : ns.length = base.length + 1) (hm : ms.length = base.length + 1) (hd : base.Nodup) (hb : ∀ x ∈ base, ¬ fr x) (hf : ∀ n ∈ ns, ∀ v ∈ n, fr v) (hg : ∀ n ∈ ms, ∀ v ∈ n, fr v) :
    m_merge_texts base (m__law_side base ks ns) (m__law_side base ls ms) = m__law_merged base [ks, ls] [ns, ms] := by
  rw [side_is hk hn, side_is hl hm, law_merged_is hk hl hn hm]
  obtain ⟨e1, h1⟩ := matched_side hk hn hd hb hf
  obtain ⟨e2, h2⟩ := matched_side hl hm hd hb hg
  obtain ⟨r1, r2⟩ := look_ch h2
  have hu : Up base (sideR base ks ns) (sideR base ls ms) (0, 0, 0) (stab (prs ks ns 0 0) (prs ls ms 0 0)) := stab_up (fun i k h => ⟨(r1 i k h).2.2.2.1, (r1 i k h).2.2.2.2⟩) r2 _ 0 0 0 h1 (Nat.zero_le _) (fun _ _ _ _ => Nat.zero_le _)
  have ht := text_all hu (stab_is e1 e2 (ch_asc h2))
  have a1 : m_merge_texts base (sideR base ks ns) (sideR base ls ms) = List.foldl l_merge_texts_1 ([], 0) (m_text_chunks base (sideR base ks ns) (sideR base ls ms)) := rfl
  rw [a1, ht, merge_G, stab_prs ks ls ns ms 0 0 0 (by omega) (by omega) (by omega)]
  have := FR_mg (b := base) (o := sideR base ks ns) (t := sideR base ls ms) base ks ls ns ms 0 0 0 (0, 0, 0) hk hl hn hm (Nat.le_refl _) (Nat.le_refl _) (Nat.le_refl _) (Nat.zero_le _) (Nat.zero_le _) (Nat.zero_le _) rfl rfl rfl
  rw [this]
  simp only [cutN_self]
  simp

end K3
namespace K3
open PySem PySem.Spec PyProof.Rows L2 HL
open Evl (Ex)
section
variable {P : Program} {w : World} {K : PySem.W.Frag} {mg : Str → Option Value} {base : Heap}

def m__law_holds (base_ : (List Str)) (kept_ : (List (List Bool))) (new_ : (List (List (List Str)))) : Bool :=
  (if ((!(m__law_same ((eT2 (eL eS) eI) ((m_merge_texts (base_) ((m__law_side (base_) ((getI kept_ (0 : Int))) ((getI new_ (0 : Int))))) ((m__law_side (base_) ((getI kept_ (1 : Int))) ((getI new_ (1 : Int)))))).1, (m_merge_texts (base_) ((m__law_side (base_) ((getI kept_ (0 : Int))) ((getI new_ (0 : Int))))) ((m__law_side (base_) ((getI kept_ (1 : Int))) ((getI new_ (1 : Int)))))).2)) ((eT2 (eL eS) eI) (m__law_merged (base_) (kept_) (new_))))) || (!decide ((base_, (m__law_side (base_) ((getI kept_ (0 : Int))) ((getI new_ (0 : Int)))), (m__law_side (base_) ((getI kept_ (1 : Int))) ((getI new_ (1 : Int))))) = (base_, (m__law_side (base_) ((getI kept_ (0 : Int))) ((getI new_ (0 : Int)))), (m__law_side (base_) ((getI kept_ (1 : Int))) ((getI new_ (1 : Int)))))))) = true then false else (if (!(m__law_same ((eT2 (eL eS) eI) ((m_merge_texts (base_) ((m__law_side (base_) ((getI kept_ (0 : Int))) ((getI new_ (0 : Int))))) ((m__law_side (base_) ((getI kept_ (1 : Int))) ((getI new_ (1 : Int)))))).1, (m_merge_texts (base_) ((m__law_side (base_) ((getI kept_ (0 : Int))) ((getI new_ (0 : Int))))) ((m__law_side (base_) ((getI kept_ (1 : Int))) ((getI new_ (1 : Int)))))).2)) ((eT2 (eL eS) eI) (m__law_merged (base_) (kept_) (new_))))) = true then false else (m__law_same ((eT2 (eL eS) eI) (m_merge_texts (base_) ((m__law_side (base_) ((getI kept_ (0 : Int))) ((getI new_ (0 : Int))))) ((m__law_side (base_) ((getI kept_ (1 : Int))) ((getI new_ (1 : Int))))))) ((eT2 (eL eS) eI) (m__law_merged (base_) (kept_) (new_))))))

theorem depMR (x : List Str × Int) : (eT2 (eL eS) eI x).depth < 5 := by
  have h : ∀ xs : List Str, PyData.depthAll (xs.map eS) ≤ 1 := fun xs => by
    induction xs with
    | nil => simp [PyData.depthAll]
    | cons x xs ih => simp [PyData.depthAll, PyData.depth]; omega
  have h1 := h x.1
  simp [PyData.depth, PyData.depthAll]
  omega

abbrev s__law_holds : Stmt := topS 22

abbrev N__law_holds : List Str := ["base", "kept", "new", "due", "ours", "theirs", "passed", "told"]

theorem sc__law_holds : FnScope N__law_holds ["base", "kept", "new"] (defScope s__law_holds) := ⟨rfl, rfl, rfl, by decide +kernel, rfl, by decide +kernel, by decide +kernel⟩

def r__law_holds : List PyData → PyData → Prop := fun ds d => ∃ (base_ : (List Str)) (kept_ : (List (List Bool))) (new_ : (List (List (List Str)))), ds = [(eL eS) base_, (eL (eL eB)) kept_, (eL (eL (eL eS))) new_] ∧ (base_.length ≤ 8) ∧ (∀ x ∈ base_, PyData.strOk x = true) ∧ (kept_.length = 2) ∧ (∀ r ∈ kept_, r.length = base_.length) ∧ (new_.length = 2) ∧ (∀ r ∈ new_, r.length = base_.length + 1 ∧ ∀ x ∈ r, x.length ≤ 2 ∧ ∀ y ∈ x, PyData.strOk y = true) ∧ (m_merge_texts base_ (m__law_side base_ (getI kept_ 0) (getI new_ 0)) (m__law_side base_ (getI kept_ 1) (getI new_ 1)) = (m__law_merged base_ kept_ new_)) ∧ (okD (eT2 (eL eS) eI (m__law_merged base_ kept_ new_)) = true) ∧ ((m__law_merged base_ kept_ new_).1.length ≤ 5000) ∧ ((m__law_side base_ (getI kept_ 0) (getI new_ 0)).length ≤ 24) ∧ ((m__law_side base_ (getI kept_ 1) (getI new_ 1)).length ≤ 24) ∧ (∀ x ∈ (m__law_side base_ (getI kept_ 0) (getI new_ 0)), PyData.strOk x = true) ∧ (∀ x ∈ (m__law_side base_ (getI kept_ 1) (getI new_ 1)), PyData.strOk x = true) ∧ d = eB (m__law_holds base_ kept_ new_)

set_option maxHeartbeats 8000000 in
theorem ok__law_holds {f : Addr} {fd : FuncData} {k : Nat} (F : Fun K "_law_holds" "_law_holds" s__law_holds f fd) {f__law_merged : Addr} {fd__law_merged : FuncData} {k__law_merged : Nat} (F__law_merged : Fun K "_law_merged" "_law_merged" s__law_merged f__law_merged fd__law_merged) (b__law_merged : Binds K fd__law_merged ["base", "kept", "new"] []) (g__law_merged : mg "_law_merged" = some (.ref f__law_merged)) (G__law_merged : FnOk P w K mg base CX0 k__law_merged f__law_merged fd__law_merged ["base", "kept", "new"] (SpF r__law_merged)) (k__law_merged_ : k__law_merged ≤ k) {f__law_side : Addr} {fd__law_side : FuncData} {k__law_side : Nat} (F__law_side : Fun K "_law_side" "_law_side" s__law_side f__law_side fd__law_side) (b__law_side : Binds K fd__law_side ["base", "kept", "new"] []) (g__law_side : mg "_law_side" = some (.ref f__law_side)) (G__law_side : FnOk P w K mg base CX0 k__law_side f__law_side fd__law_side ["base", "kept", "new"] (SpF r__law_side)) (k__law_side_ : k__law_side ≤ k) {f_merge_texts : Addr} {fd_merge_texts : FuncData} {k_merge_texts : Nat} (F_merge_texts : Fun K "merge_texts" "merge_texts" s_merge_texts f_merge_texts fd_merge_texts) (b_merge_texts : Binds K fd_merge_texts ["base", "ours", "theirs"] []) (g_merge_texts : mg "merge_texts" = some (.ref f_merge_texts)) (G_merge_texts : FnOk P w K mg base CX0 k_merge_texts f_merge_texts fd_merge_texts ["base", "ours", "theirs"] (SpF r_merge_texts)) (k_merge_texts_ : k_merge_texts ≤ k) {f__law_same : Addr} {fd__law_same : FuncData} {k__law_same : Nat} (F__law_same : Fun K "_law_same" "_law_same" s__law_same f__law_same fd__law_same) (b__law_same : Binds K fd__law_same ["told", "due"] []) (g__law_same : mg "_law_same" = some (.ref f__law_same)) (G__law_same : FnOk P w K mg base CX0 k__law_same f__law_same fd__law_same ["told", "due"] (SpF r__law_same)) (k__law_same_ : k__law_same ≤ k) (m_list : mg "list" = none) : FnOk P w K mg base CX0 (k + 1) f fd ["base", "kept", "new"] (SpF r__law_holds) := by
  refine F.ok sc__law_holds (fun vs H Q E h => ?_) (fun cdv A outer s H vs Q E hr h => ?_)
  · obtain ⟨ds, d, hd, ⟨base_, kept_, new_, rfl, h1, h2, h3, h4, h5, h6, h7, h8, h9, h10, h11, h12, h13, rfl⟩, _⟩ := h
    exact hd.length
  · obtain ⟨ds, d, hd, ⟨base_, kept_, new_, rfl, h1, h2, h3, h4, h5, h6, h7, h8, h9, h10, h11, h12, h13, rfl⟩, q⟩ := h
    refine ⟨_, (pss_cons (ps_set (i := 3) sc__law_holds.nd rfl (Or.inl rfl) (pe_call G__law_merged (hr.mono k__law_merged_) (by rfl) g__law_merged F__law_merged.kp b__law_merged .nil pass0 (pa_cons (pv 0) (pa_cons (pv 1) (pa_cons (pv 2) pa_nil))))) (pss_cons (ps_set (i := 4) sc__law_holds.nd rfl (Or.inl rfl) (pe_call G__law_side (hr.mono k__law_side_) (by rfl) g__law_side F__law_side.kp b__law_side .nil pass0 (pa_cons (pv 0) (pa_cons (pe_ix (r := rIxL K) ix_list (pv 1) pe_int (fun _ _ => rfl)) (pa_cons (pe_ix (r := rIxL K) ix_list (pv 2) pe_int (fun _ _ => rfl)) pa_nil))))) (pss_cons (ps_set (i := 5) sc__law_holds.nd rfl (Or.inl rfl) (pe_call G__law_side (hr.mono k__law_side_) (by rfl) g__law_side F__law_side.kp b__law_side .nil pass0 (pa_cons (pv 0) (pa_cons (pe_ix (r := rIxL K) ix_list (pv 1) pe_int (fun _ _ => rfl)) (pa_cons (pe_ix (r := rIxL K) ix_list (pv 2) pe_int (fun _ _ => rfl)) pa_nil))))) (pss_cons (ps_set (i := 6) sc__law_holds.nd rfl (Or.inl rfl) (pe_lst (pa_cons (pe_callTy (r := rListOfK K) call_list_of (by rfl) m_list (by decide +kernel) (pa_cons (pv 0) pa_nil)) (pa_cons (pe_callTy (r := rListOfK K) call_list_of (by rfl) m_list (by decide +kernel) (pa_cons (pv 4) pa_nil)) (pa_cons (pe_callTy (r := rListOfK K) call_list_of (by rfl) m_list (by decide +kernel) (pa_cons (pv 5) pa_nil)) pa_nil))))) (pss_cons (ps_set (i := 7) sc__law_holds.nd rfl (Or.inl rfl) (pe_call G_merge_texts (hr.mono k_merge_texts_) (by rfl) g_merge_texts F_merge_texts.kp b_merge_texts .nil pass0 (pa_cons (pe_ix (r := rIxL K) ix_list (pv 6) pe_int (fun _ _ => rfl)) (pa_cons (pe_ix (r := rIxL K) ix_list (pv 6) pe_int (fun _ _ => rfl)) (pa_cons (pe_ix (r := rIxL K) ix_list (pv 6) pe_int (fun _ _ => rfl)) pa_nil))))) (pss_cons (ps_if (PW.pt (pw_or (pt_not (pt_val (pe_call G__law_same (hr.mono k__law_same_) (by rfl) g__law_same F__law_same.kp b__law_same .nil pass0 (pa_cons (pv 7) (pa_cons (pv 3) pa_nil))))) (pw_or1 (pt_cmpR (r := rNeD K) (op_neD hr.units) (pv 6) (pe_lst (pa_cons (pv 0) (pa_cons (pv 4) (pa_cons (pv 5) pa_nil)))) (nomark _))))) (pss_cons (ps_ret pe_bl) pss_nil) pss_nil) (pss_cons (ps_expr (pe_bm PySem.F.plainAttrs_list PySem.F.slot_list_append PySem.F.type_list_append mt_append (pe_ix (r := rIxL K) ix_list (pv 6) pe_int (fun _ _ => rfl)) (pa_cons pe_str pa_nil))) (pss_cons (ps_expr (pe_bm0 PySem.F.plainAttrs_list PySem.F.slot_list_clear PySem.F.type_list_clear mt_clear (pe_ix (r := rIxL K) ix_list (pv 6) pe_int (fun _ _ => rfl)))) (pss_cons (ps_expr (pe_bm PySem.F.plainAttrs_list PySem.F.slot_list_insert PySem.F.type_list_insert mt_insert (pe_ix (r := rIxL K) ix_list (pv 6) pe_int (fun _ _ => rfl)) (pa_cons pe_int (pa_cons pe_str pa_nil)))) (pss_cons (ps_if (pt_not (pt_val (pe_call G__law_same (hr.mono k__law_same_) (by rfl) g__law_same F__law_same.kp b__law_same .nil pass0 (pa_cons (pv 7) (pa_cons (pv 3) pa_nil))))) (pss_cons (ps_ret pe_bl) pss_nil) pss_nil) (pss_cons (ps_expr (pe_bm PySem.F.plainAttrs_list PySem.F.slot_list_append PySem.F.type_list_append mt_append (pe_ix (r := rIxT K) ix_tup (pv 7) pe_int (fun _ _ => rfl)) (pa_cons pe_str pa_nil))) (pss_cons (ps_ret (pe_call G__law_same (hr.mono k__law_same_) (by rfl) g__law_same F__law_same.kp b__law_same .nil pass0 (pa_cons (pe_call G_merge_texts (hr.mono k_merge_texts_) (by rfl) g_merge_texts F_merge_texts.kp b_merge_texts .nil pass0 (pa_cons (pe_callTy (r := rListOfK K) call_list_of (by rfl) m_list (by decide +kernel) (pa_cons (pv 0) pa_nil)) (pa_cons (pe_callTy (r := rListOfK K) call_list_of (by rfl) m_list (by decide +kernel) (pa_cons (pv 4) pa_nil)) (pa_cons (pe_callTy (r := rListOfK K) call_list_of (by rfl) m_list (by decide +kernel) (pa_cons (pv 5) pa_nil)) pa_nil)))) (pa_cons (pv 3) pa_nil)))) pss_nil)))))))))))), ?_⟩
    have e0 : Ex H H := Ex.refl H
    have B := bs_F hd (N := N__law_holds) (by rw [hd.length]; exact Nat.le_of_ble_eq_true rfl)
    have B : Bs _ _ _ [.va false ((eL eS) base_), .va false ((eL (eL eB)) kept_), .va false ((eL (eL (eL eS))) new_), .no, .no, .no, .no, .no] := B
    have hk : m__law_holds base_ kept_ new_ = (if ((!(m__law_same ((eT2 (eL eS) eI) ((m_merge_texts (base_) ((m__law_side (base_) ((getI kept_ (0 : Int))) ((getI new_ (0 : Int))))) ((m__law_side (base_) ((getI kept_ (1 : Int))) ((getI new_ (1 : Int)))))).1, (m_merge_texts (base_) ((m__law_side (base_) ((getI kept_ (0 : Int))) ((getI new_ (0 : Int))))) ((m__law_side (base_) ((getI kept_ (1 : Int))) ((getI new_ (1 : Int)))))).2)) ((eT2 (eL eS) eI) (m__law_merged (base_) (kept_) (new_))))) || (!decide ((base_, (m__law_side (base_) ((getI kept_ (0 : Int))) ((getI new_ (0 : Int)))), (m__law_side (base_) ((getI kept_ (1 : Int))) ((getI new_ (1 : Int))))) = (base_, (m__law_side (base_) ((getI kept_ (0 : Int))) ((getI new_ (0 : Int)))), (m__law_side (base_) ((getI kept_ (1 : Int))) ((getI new_ (1 : Int)))))))) = true then false else (if (!(m__law_same ((eT2 (eL eS) eI) ((m_merge_texts (base_) ((m__law_side (base_) ((getI kept_ (0 : Int))) ((getI new_ (0 : Int))))) ((m__law_side (base_) ((getI kept_ (1 : Int))) ((getI new_ (1 : Int)))))).1, (m_merge_texts (base_) ((m__law_side (base_) ((getI kept_ (0 : Int))) ((getI new_ (0 : Int))))) ((m__law_side (base_) ((getI kept_ (1 : Int))) ((getI new_ (1 : Int)))))).2)) ((eT2 (eL eS) eI) (m__law_merged (base_) (kept_) (new_))))) = true then false else (m__law_same ((eT2 (eL eS) eI) (m_merge_texts (base_) ((m__law_side (base_) ((getI kept_ (0 : Int))) ((getI new_ (0 : Int))))) ((m__law_side (base_) ((getI kept_ (1 : Int))) ((getI new_ (1 : Int))))))) ((eT2 (eL eS) eI) (m__law_merged (base_) (kept_) (new_)))))) := rfl
    have kk : ∀ m : Int, 0 ≤ m → m < 2 → (getI kept_ m).length = base_.length := fun m a b => h4 _ (getI_mem (by unfold inB; omega))
    have n0 := h6 _ (getI_mem (xs := new_) (m := 0) (by unfold inB; omega))
    have n1 := h6 _ (getI_mem (xs := new_) (m := 1) (by unfold inB; omega))
    have k0 := kk 0 (by omega) (by omega)
    have k1 := kk 1 (by omega) (by omega)
    refine q_asg (f := true) B (ev_callF (B.live true) (ea_cons ((ev_va B rfl).w0) (ea_cons ((ev_va B rfl).w0) (ea_cons ((ev_va B rfl).w0) ea_nil))) ⟨base_, kept_, new_, rfl, h1, h2, h3, h4, h5, h6, rfl⟩) fun σ1 H1 B => ?_
    have B : Bs _ _ _ [.va false ((eL eS) base_), .va false ((eL (eL eB)) kept_), .va false ((eL (eL (eL eS))) new_), .va true ((eT2 (eL eS) eI) (m__law_merged (base_) (kept_) (new_))), .no, .no, .no, .no] := B
    refine q_asg (f := true) B (ev_callF (B.live true) (ea_cons ((ev_va B rfl).w0) (ea_cons (ev_ixM (em := (eL eB)) (xs := kept_) ((ev_va B rfl).w0) ev_int (show inB kept_ (0 : Int) from by first | assumption | (unfold inB; first | omega | (simp; omega) | (simp at *; omega)))) (ea_cons (ev_ixM (em := (eL (eL eS))) (xs := new_) ((ev_va B rfl).w0) ev_int (show inB new_ (0 : Int) from by first | assumption | (unfold inB; first | omega | (simp; omega) | (simp at *; omega)))) ea_nil))) ⟨base_, (getI kept_ (0 : Int)), (getI new_ (0 : Int)), rfl, k0, n0.1, h1, fun x hx => (n0.2 x hx).1, rfl⟩) fun σ1 H1 B => ?_
    have B : Bs _ _ _ [.va false ((eL eS) base_), .va false ((eL (eL eB)) kept_), .va false ((eL (eL (eL eS))) new_), .va true ((eT2 (eL eS) eI) (m__law_merged (base_) (kept_) (new_))), .va true ((eL eS) (m__law_side (base_) ((getI kept_ (0 : Int))) ((getI new_ (0 : Int))))), .no, .no, .no] := B
    refine q_asg (f := true) B (ev_callF (B.live true) (ea_cons ((ev_va B rfl).w0) (ea_cons (ev_ixM (em := (eL eB)) (xs := kept_) ((ev_va B rfl).w0) ev_int (show inB kept_ (1 : Int) from by first | assumption | (unfold inB; first | omega | (simp; omega) | (simp at *; omega)))) (ea_cons (ev_ixM (em := (eL (eL eS))) (xs := new_) ((ev_va B rfl).w0) ev_int (show inB new_ (1 : Int) from by first | assumption | (unfold inB; first | omega | (simp; omega) | (simp at *; omega)))) ea_nil))) ⟨base_, (getI kept_ (1 : Int)), (getI new_ (1 : Int)), rfl, k1, n1.1, h1, fun x hx => (n1.2 x hx).1, rfl⟩) fun σ1 H1 B => ?_
    have B : Bs _ _ _ [.va false ((eL eS) base_), .va false ((eL (eL eB)) kept_), .va false ((eL (eL (eL eS))) new_), .va true ((eT2 (eL eS) eI) (m__law_merged (base_) (kept_) (new_))), .va true ((eL eS) (m__law_side (base_) ((getI kept_ (0 : Int))) ((getI new_ (0 : Int))))), .va true ((eL eS) (m__law_side (base_) ((getI kept_ (1 : Int))) ((getI new_ (1 : Int))))), .no, .no] := B
    refine q_pass3 (ds := base_.map eS) (es := (m__law_side (base_) ((getI kept_ (0 : Int))) ((getI new_ (0 : Int)))).map eS) (fs := (m__law_side (base_) ((getI kept_ (1 : Int))) ((getI new_ (1 : Int)))).map eS) B rfl (ev_va B rfl) (fun _ _ B => ((ev_va B rfl).weak hd_ft)) (fun _ _ B => ((ev_va B rfl).weak hd_ft)) (fun p0_1 p1_1 p2_1 pp1 vs0_1 vs1_1 vs2_1 c1 σ1 H1 ec1 np0_1 np1_1 np2_1 ne1_01 ne1_02 ne1_12 nea1_0 nea1_1 nea1_2 hO1 hk0_1 hk1_1 hk2_1 B1 => ?_)
    have np0_1 := none_back e0 B np0_1
    have np1_1 := none_back e0 B np1_1
    have np2_1 := none_back e0 B np2_1
    have e0 := e0.trans ec1
    have B : Bs _ _ _ [.va false ((eL eS) base_), .va false ((eL (eL eB)) kept_), .va false ((eL (eL (eL eS))) new_), .va true ((eT2 (eL eS) eI) (m__law_merged (base_) (kept_) (new_))), .va true ((eL eS) (m__law_side (base_) ((getI kept_ (0 : Int))) ((getI new_ (0 : Int))))), .va true ((eL eS) (m__law_side (base_) ((getI kept_ (1 : Int))) ((getI new_ (1 : Int))))), .rw (.ref pp1), .no] := B1
    refine q_told2 (es := ((m_merge_texts (base_) ((m__law_side (base_) ((getI kept_ (0 : Int))) ((getI new_ (0 : Int))))) ((m__law_side (base_) ((getI kept_ (1 : Int))) ((getI new_ (1 : Int)))))).1).map eS) (d2 := eI ((m_merge_texts (base_) ((m__law_side (base_) ((getI kept_ (0 : Int))) ((getI new_ (0 : Int))))) ((m__law_side (base_) ((getI kept_ (1 : Int))) ((getI new_ (1 : Int)))))).2)) B (ea_cons (ev_raIx B rfl hO1 (atI_nat (j := 0) rfl) hk0_1) (ea_cons (ev_raIx B rfl hO1 (atI_nat (j := 1) rfl) hk1_1) (ea_cons (ev_raIx B rfl hO1 (atI_nat (j := 2) rfl) hk2_1) ea_nil))) ⟨base_, (m__law_side (base_) ((getI kept_ (0 : Int))) ((getI new_ (0 : Int)))), (m__law_side (base_) ((getI kept_ (1 : Int))) ((getI new_ (1 : Int)))), rfl, h1, h10, h11, h2, h12, h13, rfl⟩ (.int _) (sc_map (fun _ => (.str _)) _) (fun p2 pp2 vs2 w2 c2 σ1 H1 ec2 hN2 np2 npp2 nep2 hT2 hw2 hk2 B1 => ?_)
    have nt2_0 := PK.ne B hk0_1 np2
    have nu2_0 := PK.ne B hk0_1 npp2
    have nt2_1 := PK.ne B hk1_1 np2
    have nu2_1 := PK.ne B hk1_1 npp2
    have nt2_2 := PK.ne B hk2_1 np2
    have nu2_2 := PK.ne B hk2_1 npp2
    have np2 := none_back e0 B np2
    have hO2 := PO.grow hO1 hN2 ec2
    have hk0_2 := PK.grow hk0_1 hN2 ec2 (sc_map (fun _ => (.str _)) _)
    have hk1_2 := PK.grow hk1_1 hN2 ec2 (sc_map (fun _ => (.str _)) _)
    have hk2_2 := PK.grow hk2_1 hN2 ec2 (sc_map (fun _ => (.str _)) _)
    have e0 := e0.trans ec2
    have B : Bs _ _ _ [.va false ((eL eS) base_), .va false ((eL (eL eB)) kept_), .va false ((eL (eL (eL eS))) new_), .va true ((eT2 (eL eS) eI) (m__law_merged (base_) (kept_) (new_))), .va true ((eL eS) (m__law_side (base_) ((getI kept_ (0 : Int))) ((getI new_ (0 : Int))))), .va true ((eL eS) (m__law_side (base_) ((getI kept_ (1 : Int))) ((getI new_ (1 : Int))))), .rw (.ref pp1), .rw (.ref pp2)] := B1
    refine q_if B (et_or (et_not (et_B ((ev_callF (B.live true) (ea_cons (ev_raT B rfl hT2 hw2 hk2) (ea_cons ((ev_va B rfl).w0) ea_nil)) ⟨(eT2 (eL eS) eI) ((m_merge_texts (base_) ((m__law_side (base_) ((getI kept_ (0 : Int))) ((getI new_ (0 : Int))))) ((m__law_side (base_) ((getI kept_ (1 : Int))) ((getI new_ (1 : Int)))))).1, (m_merge_texts (base_) ((m__law_side (base_) ((getI kept_ (0 : Int))) ((getI new_ (0 : Int))))) ((m__law_side (base_) ((getI kept_ (1 : Int))) ((getI new_ (1 : Int)))))).2), (eT2 (eL eS) eI) (m__law_merged (base_) (kept_) (new_)), rfl, by exact congrArg (eT2 (eL eS) eI) h7, h8, depMR _, rfl⟩).sc (.bl _)))) fun hc => (et_test (ev_neM (a := (base_, (m__law_side (base_) ((getI kept_ (0 : Int))) ((getI new_ (0 : Int)))), (m__law_side (base_) ((getI kept_ (1 : Int))) ((getI new_ (1 : Int)))))) (b := (base_, (m__law_side (base_) ((getI kept_ (0 : Int))) ((getI new_ (0 : Int)))), (m__law_side (base_) ((getI kept_ (1 : Int))) ((getI new_ (1 : Int)))))) (emP3 (emL emS) (emL emS) (emL emS)) (ev_ra3 B rfl hO2 hk0_2 hk1_2 hk2_2) ((en_lst (ea_cons ((ev_va B rfl).w0) (ea_cons ((ev_va B rfl).w0) (ea_cons ((ev_va B rfl).w0) ea_nil))) (by simp)).ev0) ⟨h2, h12, h13⟩ ⟨h2, h12, h13⟩))) (fun hc3 H1 B => ?_) (fun hc3 H1 B => ?_)
    · rw [if_pos hc3] at hk
      have hc3_f := hc3
      try simp only [Bool.and_eq_true, Bool.or_eq_true, Bool.not_eq_true', Bool.and_eq_false_imp, Bool.or_eq_false_iff, Bool.not_eq_false', decide_eq_true_eq, decide_eq_false_iff_not] at hc3_f
      refine q_ret (f := true) B ev_bl fun v H1 x hv => q v H1 (e0.trans x) ?_
      rw [hk]; exact Dn.sc (.bl _) hv
    · rw [if_neg (show ¬ ((!(m__law_same ((eT2 (eL eS) eI) ((m_merge_texts (base_) ((m__law_side (base_) ((getI kept_ (0 : Int))) ((getI new_ (0 : Int))))) ((m__law_side (base_) ((getI kept_ (1 : Int))) ((getI new_ (1 : Int)))))).1, (m_merge_texts (base_) ((m__law_side (base_) ((getI kept_ (0 : Int))) ((getI new_ (0 : Int))))) ((m__law_side (base_) ((getI kept_ (1 : Int))) ((getI new_ (1 : Int)))))).2)) ((eT2 (eL eS) eI) (m__law_merged (base_) (kept_) (new_))))) || (!decide ((base_, (m__law_side (base_) ((getI kept_ (0 : Int))) ((getI new_ (0 : Int)))), (m__law_side (base_) ((getI kept_ (1 : Int))) ((getI new_ (1 : Int))))) = (base_, (m__law_side (base_) ((getI kept_ (0 : Int))) ((getI new_ (0 : Int)))), (m__law_side (base_) ((getI kept_ (1 : Int))) ((getI new_ (1 : Int)))))))) = true from by rw [hc3]; exact Bool.false_ne_true)] at hk
      have hc3_f := hc3
      try simp only [Bool.and_eq_true, Bool.or_eq_true, Bool.not_eq_true', Bool.and_eq_false_imp, Bool.or_eq_false_iff, Bool.not_eq_false', decide_eq_true_eq, decide_eq_false_iff_not] at hc3_f
      dsimp only [tNext]
      refine q_raApp B rfl hO2 (atI_nat (j := 0) rfl) hk0_2 ev_str (by (try simp only [List.length_map]); omega) (fun w4 H1 hk0_4 B => ?_) (.str _)
      have hk0_4 := PK.is (es := (base_ ++ [("c" : Str)]).map eS) hk0_4 (by first | (simp only [List.map_append, List.map_cons, List.map_nil]; done) | rfl)
      have hk1_4 := PK.put (u := .lst (vs0_1 ++ [w4])) hk0_2.1 (by first | exact ne1_01 | exact Ne.symm ne1_01) hk1_2
      have hk2_4 := PK.put (u := .lst (vs0_1 ++ [w4])) hk0_2.1 (by first | exact ne1_02 | exact Ne.symm ne1_02) hk2_2
      have hT4 := POt.put (u := .lst (vs0_1 ++ [w4])) nu2_0 hT2
      have hkt4 := PK.put (u := .lst (vs0_1 ++ [w4])) hk0_2.1 nt2_0 hk2
      have hO4 := PO.put (u := .lst (vs0_1 ++ [w4])) nea1_0 hO2
      have e0 := exPut (u := .lst (vs0_1 ++ [w4])) e0 np0_1
      refine q_raClr B rfl hO4 (atI_nat (j := 1) rfl) hk1_4 (fun H1 hk1_5 B => ?_)
      have hk0_5 := PK.put (u := .lst []) hk1_4.1 (by first | exact ne1_01 | exact Ne.symm ne1_01) hk0_4
      have hk1_5 := PK.is (es := ([] : (List Str)).map eS) hk1_5 (by first | (simp only [List.map_append, List.map_cons, List.map_nil]; done) | rfl)
      have hk2_5 := PK.put (u := .lst []) hk1_4.1 (by first | exact ne1_12 | exact Ne.symm ne1_12) hk2_4
      have hT5 := POt.put (u := .lst []) nu2_1 hT4
      have hkt5 := PK.put (u := .lst []) hk1_4.1 nt2_1 hkt4
      have hO5 := PO.put (u := .lst []) nea1_1 hO4
      have e0 := exPut (u := .lst []) e0 np1_1
      refine q_raIns (z := 0) B rfl hO5 (atI_nat (j := 2) rfl) hk2_5 ev_int ev_str (by (try simp only [List.length_map]); omega) (by omega) (fun w6 H1 hk2_6 B => ?_) (.str _)
      have hk0_6 := PK.put (u := .lst (w6 :: vs2_1)) hk2_5.1 (by first | exact ne1_02 | exact Ne.symm ne1_02) hk0_5
      have hk1_6 := PK.put (u := .lst (w6 :: vs2_1)) hk2_5.1 (by first | exact ne1_12 | exact Ne.symm ne1_12) hk1_5
      have hk2_6 := PK.is (es := (("c" : Str) :: (m__law_side (base_) ((getI kept_ (1 : Int))) ((getI new_ (1 : Int))))).map eS) hk2_6 (by first | (simp only [List.map_append, List.map_cons, List.map_nil]; done) | rfl)
      have hT6 := POt.put (u := .lst (w6 :: vs2_1)) nu2_2 hT5
      have hkt6 := PK.put (u := .lst (w6 :: vs2_1)) hk2_5.1 nt2_2 hkt5
      have hO6 := PO.put (u := .lst (w6 :: vs2_1)) nea1_2 hO5
      have e0 := exPut (u := .lst (w6 :: vs2_1)) e0 np2_1
      refine q_if B (et_not (et_B ((ev_callF (B.live true) (ea_cons (ev_raT B rfl hT6 hw2 hkt6) (ea_cons ((ev_va B rfl).w0) ea_nil)) ⟨(eT2 (eL eS) eI) ((m_merge_texts (base_) ((m__law_side (base_) ((getI kept_ (0 : Int))) ((getI new_ (0 : Int))))) ((m__law_side (base_) ((getI kept_ (1 : Int))) ((getI new_ (1 : Int)))))).1, (m_merge_texts (base_) ((m__law_side (base_) ((getI kept_ (0 : Int))) ((getI new_ (0 : Int))))) ((m__law_side (base_) ((getI kept_ (1 : Int))) ((getI new_ (1 : Int)))))).2), (eT2 (eL eS) eI) (m__law_merged (base_) (kept_) (new_)), rfl, by exact congrArg (eT2 (eL eS) eI) h7, h8, depMR _, rfl⟩).sc (.bl _)))) (fun hc7 H1 B => ?_) (fun hc7 H1 B => ?_)
      · rw [if_pos hc7] at hk
        have hc7_f := hc7
        try simp only [Bool.and_eq_true, Bool.or_eq_true, Bool.not_eq_true', Bool.and_eq_false_imp, Bool.or_eq_false_iff, Bool.not_eq_false', decide_eq_true_eq, decide_eq_false_iff_not] at hc7_f
        refine q_ret (f := true) B ev_bl fun v H1 x hv => q v H1 (e0.trans x) ?_
        rw [hk]; exact Dn.sc (.bl _) hv
      · rw [if_neg (show ¬ (!(m__law_same ((eT2 (eL eS) eI) ((m_merge_texts (base_) ((m__law_side (base_) ((getI kept_ (0 : Int))) ((getI new_ (0 : Int))))) ((m__law_side (base_) ((getI kept_ (1 : Int))) ((getI new_ (1 : Int)))))).1, (m_merge_texts (base_) ((m__law_side (base_) ((getI kept_ (0 : Int))) ((getI new_ (0 : Int))))) ((m__law_side (base_) ((getI kept_ (1 : Int))) ((getI new_ (1 : Int)))))).2)) ((eT2 (eL eS) eI) (m__law_merged (base_) (kept_) (new_))))) = true from by rw [hc7]; exact Bool.false_ne_true)] at hk
        have hc7_f := hc7
        try simp only [Bool.and_eq_true, Bool.or_eq_true, Bool.not_eq_true', Bool.and_eq_false_imp, Bool.or_eq_false_iff, Bool.not_eq_false', decide_eq_true_eq, decide_eq_false_iff_not] at hc7_f
        dsimp only [tNext]
        refine q_raAppT B rfl hT6 rfl hkt6 ev_str (by rw [List.length_map, h7]; omega) (fun w8 H1 hk8 B => ?_) (.str _)
        have e0 := exPut (u := .lst (vs2 ++ [w8])) e0 np2
        have hT8 := POt.put (u := .lst (vs2 ++ [w8])) nep2 hT6
        have hk8 := PK.is (es := ((m_merge_texts (base_) ((m__law_side (base_) ((getI kept_ (0 : Int))) ((getI new_ (0 : Int))))) ((m__law_side (base_) ((getI kept_ (1 : Int))) ((getI new_ (1 : Int)))))).1 ++ [("c" : Str)]).map eS) hk8 (by first | (simp only [List.map_append, List.map_cons, List.map_nil]; done) | rfl)
        have B : Bs _ _ _ [.va false ((eL eS) base_), .va false ((eL (eL eB)) kept_), .va false ((eL (eL (eL eS))) new_), .va true ((eT2 (eL eS) eI) (m__law_merged (base_) (kept_) (new_))), .va true ((eL eS) (m__law_side (base_) ((getI kept_ (0 : Int))) ((getI new_ (0 : Int))))), .va true ((eL eS) (m__law_side (base_) ((getI kept_ (1 : Int))) ((getI new_ (1 : Int))))), .no, .rw (.ref pp2)] := B.le (.cons (.refl _) (.cons (.refl _) (.cons (.refl _) (.cons (.refl _) (.cons (.refl _) (.cons (.refl _) (.cons (.no _) (.cons (.refl _) .nil))))))))
        refine q_ret (f := true) B ((ev_callF (B.live true) (ea_cons (ev_callF live0 (ea_cons (((en_listM ((ev_va B rfl).w0)).scL (fun _ => (.str _))).ev live0) (ea_cons (((en_listM ((ev_va B rfl).w0)).scL (fun _ => (.str _))).ev live0) (ea_cons (((en_listM ((ev_va B rfl).w0)).scL (fun _ => (.str _))).ev live0) ea_nil))) ⟨base_, (m__law_side (base_) ((getI kept_ (0 : Int))) ((getI new_ (0 : Int)))), (m__law_side (base_) ((getI kept_ (1 : Int))) ((getI new_ (1 : Int)))), rfl, h1, h10, h11, h2, h12, h13, rfl⟩) (ea_cons ((ev_va B rfl).w0) ea_nil)) ⟨(eT2 (eL eS) eI) (m_merge_texts (base_) ((m__law_side (base_) ((getI kept_ (0 : Int))) ((getI new_ (0 : Int))))) ((m__law_side (base_) ((getI kept_ (1 : Int))) ((getI new_ (1 : Int)))))), (eT2 (eL eS) eI) (m__law_merged (base_) (kept_) (new_)), rfl, by exact congrArg (eT2 (eL eS) eI) h7, h8, depMR _, rfl⟩).sc (.bl _)) fun v H1 x hv => q v H1 (e0.trans x) ?_
        rw [hk]; exact Dn.sc (.bl _) hv

end
end K3
namespace K3
open PySem PySem.Spec PyProof.Rows L2 HL
open Evl (Ex)
section
variable {P : Program} {w : World} {K : PySem.W.Frag} {mg : Str → Option Value} {base : Heap}

def n_law_1 (cells_g1 : (List (List Int))) (k_c : Int) : Int × (List (List Int)) :=
  ((Int.fmod (((m__law_next cells_g1 (6 : Int)).1) + k_c) (6 : Int)), (m__law_next cells_g1 (6 : Int)).2)

def n_law_2 (cells_g2 : (List (List Int))) (k_c : Int) : (List Str) × (List (List Int)) :=
  ((getI ([([] : (List Str)), ([] : (List Str)), [("x" : Str)], ([] : (List Str)), [("x " : Str)], [("x" : Str), ("c" : Str)]]) (Int.fmod (((m__law_next cells_g2 (6 : Int)).1) + ((2 : Int) * k_c)) (6 : Int))), (m__law_next cells_g2 (6 : Int)).2)

def n_law_3 (cells_g3 : (List (List Int))) (k_c : Int) : (List Str) × (List (List Int)) :=
  ((getI ([([] : (List Str)), ([] : (List Str)), [("x" : Str)], ([] : (List Str)), [("x " : Str)], [("x" : Str), ("c" : Str)]]) (Int.fmod (((m__law_next cells_g3 (6 : Int)).1) + ((5 : Int) * k_c)) (6 : Int))), (m__law_next cells_g3 (6 : Int)).2)

def m_law (ns : List Int) : Bool :=
  (match (List.foldl (stepE (n_law_1)) ([], (m__law_next ((m__law_next (m__law_feed ns) (7 : Int)).2) (16 : Int)).2) (rng 0 (Int.fmod (((m__law_next (m__law_feed ns) (7 : Int)).1) + (4 : Int)) (7 : Int)))) with | (fates_y1, cells_y1) => (match (List.foldl (stepE (n_law_2)) ([], cells_y1) (rng 0 ((Int.fmod (((m__law_next (m__law_feed ns) (7 : Int)).1) + (4 : Int)) (7 : Int)) + (1 : Int)))) with | (ours_y2, cells_y2) => (match (List.foldl (stepE (n_law_3)) ([], cells_y2) (rng 0 ((Int.fmod (((m__law_next (m__law_feed ns) (7 : Int)).1) + (4 : Int)) (7 : Int)) + (1 : Int)))) with | (theirs_y3, cells_y3) => (if (!(m__law_holds (((rng 0 (Int.fmod (((m__law_next (m__law_feed ns) (7 : Int)).1) + (4 : Int)) (7 : Int))).map fun (k_c : Int) => (m__law_menu ((((m__law_next ((m__law_next (m__law_feed ns) (7 : Int)).2) (16 : Int)).1) + ((5 : Int) * k_c)))))) (([(fates_y1.map fun (fate_c : Int) => (!decide (fate_c ∈ ([(3 : Int), (5 : Int)]))))] ++ [(fates_y1.map fun (fate_c : Int) => (!decide (fate_c ∈ ([(4 : Int), (5 : Int)]))))])) ([ours_y2, theirs_y3]))) = true then false else (m__law_holds (((rng 0 (Int.fmod (((m__law_next (m__law_feed ns) (7 : Int)).1) + (4 : Int)) (7 : Int))).map fun (k_c : Int) => (m__law_menu ((((m__law_next ((m__law_next (m__law_feed ns) (7 : Int)).2) (16 : Int)).1) + ((5 : Int) * k_c)))))) ([(getI ([(fates_y1.map fun (fate_c : Int) => (!decide (fate_c ∈ ([(3 : Int), (5 : Int)]))))] ++ [(fates_y1.map fun (fate_c : Int) => (!decide (fate_c ∈ ([(4 : Int), (5 : Int)]))))]) (1 : Int)), (getI ([(fates_y1.map fun (fate_c : Int) => (!decide (fate_c ∈ ([(3 : Int), (5 : Int)]))))] ++ [(fates_y1.map fun (fate_c : Int) => (!decide (fate_c ∈ ([(4 : Int), (5 : Int)]))))]) (0 : Int))]) ([theirs_y3, ours_y2]))))))

theorem next_J {cells : List (List Int)} {many : Int} (h : ∀ r ∈ cells, r.length = 2) : ∀ r ∈ (m__law_next cells many).2, r.length = 2 := by
  have hs : ∀ a b : Int, ∀ r ∈ setI cells 0 [a, b], r.length = 2 := fun a b r hr => by
    unfold setI at hr
    split at hr
    · rcases List.mem_or_eq_of_mem_set hr with hr | hr
      · exact h r hr
      · rw [hr]; rfl
    · exact h r hr
  unfold m__law_next
  split
  · exact h
  · split
    · intro r hr; exact hs _ _ r (List.mem_of_mem_tail hr)
    · exact hs _ _
theorem fold_E {β γ : Type} {nx : List γ → Int → β × List γ} : ∀ (l : List Int) (p : List β × List γ), ((l.foldl (stepE nx) p).1.length = p.1.length + l.length) ∧ ∀ y ∈ (l.foldl (stepE nx) p).1, y ∈ p.1 ∨ ∃ gs k, k ∈ l ∧ y = (nx gs k).1
  | [], p => ⟨by simp, fun y hy => .inl hy⟩
  | k :: l, p => by
    obtain ⟨h1, h2⟩ := fold_E l (stepE nx p k)
    rw [List.foldl_cons]
    refine ⟨by rw [h1]; simp [stepE]; omega, fun y hy => ?_⟩
    rcases h2 y hy with h | ⟨gs, k', hk, e⟩
    · simp only [stepE] at h
      rcases List.mem_append.mp h with h | h
      · exact .inl h
      · simp at h; exact .inr ⟨p.2, k, by simp, h⟩
    · exact .inr ⟨gs, k', by simp [hk], e⟩
theorem fold_E0 {β γ : Type} {nx : List γ → Int → β × List γ} {l : List Int} {ys : List β} {gs gs' : List γ} (h : (ys, gs') = l.foldl (stepE nx) ([], gs)) : ys.length = l.length ∧ ∀ y ∈ ys, ∃ gs k, k ∈ l ∧ y = (nx gs k).1 := by
  obtain ⟨h1, h2⟩ := fold_E (nx := nx) l ([], gs)
  rw [← h] at h1 h2
  refine ⟨by simpa using h1, fun y hy => ?_⟩
  rcases h2 y hy with h | h
  · simp at h
  · exact h
theorem feed_J (ns : List Int) : ∀ r ∈ m__law_feed ns, r.length = 2 := fun r hr => by
  obtain ⟨c, _, rfl⟩ := List.mem_map.mp hr
  rfl
theorem getI_all {α : Type} [Inhabited α] {p : α → Prop} {xs : List α} {m : Int} (h : ∀ x ∈ xs, p x) (hd : p default) : p (getI xs m) := by
  unfold getI atI
  cases ixN xs.length m with
  | none => exact hd
  | some n =>
    show p ((xs[n]?).getD default)
    cases q : xs[n]? with
    | none => exact hd
    | some x => exact h x (List.mem_of_getElem? q)
theorem ok_def : PyData.strOk (default : Str) = true := by decide +kernel
theorem menu_ok (p : Int) : PyData.strOk (m__law_menu p) = true := by
  unfold m__law_menu
  exact getI_all (p := fun x => PyData.strOk x = true) (by decide +kernel) ok_def
def MENU : List Str := ([("a" : Str), ("b" : Str), ("" : Str), ("ab" : Str), ("ba" : Str), ("aa" : Str), (" " : Str), ("a " : Str), ("<<<<<<<" : Str), ("=======" : Str), ("|||||||" : Str), (">>>>>>>" : Str)]) ++ ([("-" : Str), ("0" : Str), ("aaaaaaaaaaaaaaaaaaaa" : Str), ("aaaaaaaaaaaaaaaaaaab" : Str)])
def FRESH : List Str := [("x" : Str), ("x " : Str), ("c" : Str)]
def NEW : List (List Str) := [([] : List Str), ([] : List Str), [("x" : Str)], ([] : List Str), [("x " : Str)], [("x" : Str), ("c" : Str)]]
theorem menu_get (p : Int) : m__law_menu p = MENU.getD (Int.fmod p 16).toNat default := by
  have b := fmod_b (x := p) (m := 16) (by omega)
  have e : Int.fmod p 16 = (((Int.fmod p 16).toNat : Nat) : Int) := by omega
  have e0 : m__law_menu p = getI MENU (Int.fmod p 16) := rfl
  have e1 : getI MENU (((Int.fmod p 16).toNat : Nat) : Int) = MENU.getD (Int.fmod p 16).toNat default := getI_nat
  rw [← e1, ← e, e0]
theorem menu_tbl : ∀ a < 16, ∀ b < 16, MENU.getD a default = MENU.getD b default → a = b := by decide +kernel
theorem menu_old : ∀ a < 16, MENU.getD a default ∉ FRESH := by decide +kernel
theorem menu_inj {p q : Int} (h : m__law_menu p = m__law_menu q) : Int.fmod p 16 = Int.fmod q 16 := by
  rw [menu_get, menu_get] at h
  have b := fmod_b (x := p) (m := 16) (by omega)
  have c := fmod_b (x := q) (m := 16) (by omega)
  have := menu_tbl _ (by omega) _ (by omega) h
  omega
theorem menu_fresh (p : Int) : m__law_menu p ∉ FRESH := by
  rw [menu_get]
  have b := fmod_b (x := p) (m := 16) (by omega)
  exact menu_old _ (by omega)
theorem fmod_diff {p q : Int} (h : Int.fmod p 16 = Int.fmod q 16) : ∃ k : Int, p - q = 16 * k := by
  rw [Int.fmod_eq_emod_of_nonneg _ (by omega), Int.fmod_eq_emod_of_nonneg _ (by omega)] at h
  exact ⟨p / 16 - q / 16, by omega⟩
theorem base_nodup {start size : Int} (hs : size < 7) : ((rng 0 size).map fun (k_c : Int) => m__law_menu (start + ((5 : Int) * k_c))).Nodup := by
  unfold List.Nodup
  rw [List.pairwise_map]
  have hp : List.Pairwise (fun (a b : Int) => a < b) (rng 0 size) := by
    unfold rng
    rw [List.pairwise_map]
    exact List.Pairwise.imp (fun h => by omega) List.pairwise_lt_range
  refine List.Pairwise.imp_of_mem (fun {a b} ha hb hab he => ?_) hp
  have ha := rng_mem.mp ha
  have hb := rng_mem.mp hb
  obtain ⟨k, hk⟩ := fmod_diff (menu_inj he)
  omega
theorem new_tbl : ∀ n ∈ NEW, n.length ≤ 2 ∧ (∀ v ∈ n, v ∈ FRESH) ∧ ∀ v ∈ n, PyData.strOk v = true := by decide +kernel
theorem side_le : ∀ {b : List Str} {ks : List Bool} {ns : List (List Str)}, (∀ n ∈ ns, n.length ≤ 2) → (sideR b ks ns).length ≤ 3 * b.length + 2
  | x :: b, k :: ks, n :: ns, h => by
    have ih := side_le (b := b) (ks := ks) (ns := ns) (fun n hn => h n (List.mem_cons_of_mem _ hn))
    have := h n List.mem_cons_self
    rw [sideR, List.length_append, List.length_cons]
    split
    · rw [List.length_cons]; omega
    · omega
  | [], ks, n :: ns, h => by
    have := h n List.mem_cons_self
    simp [sideR]; omega
  | x :: b, [], n :: ns, h => by
    have := h n List.mem_cons_self
    simp [sideR]; omega
  | [], ks, [], h => by simp [sideR]
  | x :: b, ks, [], h => by simp [sideR]
theorem ok_mark {x : Str} (h : x ∈ [("<<<<<<<" : Str), ("|||||||" : Str), ("=======" : Str), (">>>>>>>" : Str)]) : PyData.strOk x = true := by
  have : ∀ x ∈ [("<<<<<<<" : Str), ("|||||||" : Str), ("=======" : Str), (">>>>>>>" : Str)], PyData.strOk x = true := by decide +kernel
  exact this x h
theorem decided_ok {a b c : List Str} (h1 : ∀ x ∈ a, PyData.strOk x = true) (h2 : ∀ x ∈ b, PyData.strOk x = true) (h3 : ∀ x ∈ c, PyData.strOk x = true) : ∀ x ∈ (m__law_decided a b c).1, PyData.strOk x = true := by
  unfold m__law_decided
  split
  · exact h2
  · split
    · exact h3
    · intro x hx
      simp only [List.mem_append, List.mem_cons, List.not_mem_nil, or_false] at hx
      rcases hx with (((((rfl | z) | rfl) | z) | rfl) | z) | rfl
      · exact ok_mark (by simp)
      · exact h2 x z
      · exact ok_mark (by simp)
      · exact h1 x z
      · exact ok_mark (by simp)
      · exact h3 x z
      · exact ok_mark (by simp)
theorem okMR {x : List Str × Int} (h : x.1.length ≤ 5000) (hs : ∀ y ∈ x.1, PyData.strOk y = true) : okD (eT2 (eL eS) eI x) = true := by
  have a := okLs (xs := x.1) (by omega) hs
  simp [okD, okDs] at a ⊢
  exact a
def OKs (xs : List Str) : Prop := ∀ x ∈ xs, PyData.strOk x = true
theorem OKs.app {a b : List Str} (h : OKs a) (g : OKs b) : OKs (a ++ b) := fun x hx => by
  rcases List.mem_append.mp hx with z | z
  · exact h x z
  · exact g x z
theorem OKs.one {x : Str} (h : PyData.strOk x = true) : OKs [x] := fun y hy => by rw [List.mem_singleton.mp hy]; exact h
theorem OKs.nil : OKs [] := fun x hx => by simp at hx
theorem mg_le : ∀ (b : List Str) (ks ls : List Bool) (ns ms : List (List Str)) (p q r : List Str), (∀ n ∈ ns, n.length ≤ 2 ∧ OKs n) → (∀ n ∈ ms, n.length ≤ 2 ∧ OKs n) → OKs b → OKs p → OKs q → OKs r → (mgR b ks ls ns ms p q r).1.length ≤ p.length + q.length + r.length + 9 * (b.length + 1) ∧ OKs (mgR b ks ls ns ms p q r).1 := by
  intro b
  induction b with
  | nil =>
    intro ks ls ns ms p q r h1 h2 hb hp hq hr
    cases ns with
    | nil => simp [mgR, OKs]
    | cons n ns =>
      cases ms with
      | nil => simp [mgR, OKs]
      | cons m ms =>
        have a := h1 n List.mem_cons_self
        have c := h2 m List.mem_cons_self
        have d := decided_le p (q ++ n) (r ++ m)
        have e : mgR [] ks ls (n :: ns) (m :: ms) p q r = m__law_decided p (q ++ n) (r ++ m) := by simp [mgR]
        rw [e]
        simp only [List.length_append, List.length_nil] at d ⊢
        exact ⟨by omega, decided_ok hp (hq.app a.2) (hr.app c.2)⟩
  | cons x b ih =>
    intro ks ls ns ms p q r h1 h2 hb hp hq hr
    have hx : PyData.strOk x = true := hb x List.mem_cons_self
    have hb' : OKs b := fun y hy => hb y (List.mem_cons_of_mem _ hy)
    cases ns with
    | nil => simp [mgR, OKs]
    | cons n ns =>
      cases ms with
      | nil => simp [mgR, OKs]
      | cons m ms =>
        have a := h1 n List.mem_cons_self
        have c := h2 m List.mem_cons_self
        have d := decided_le p (q ++ n) (r ++ m)
        have h1' : ∀ n ∈ ns, n.length ≤ 2 ∧ OKs n := fun y hy => h1 y (List.mem_cons_of_mem _ hy)
        have h2' : ∀ n ∈ ms, n.length ≤ 2 ∧ OKs n := fun y hy => h2 y (List.mem_cons_of_mem _ hy)
        have dk := decided_ok hp (hq.app a.2) (hr.app c.2)
        simp only [List.length_append] at d
        cases ks with
        | nil =>
          have e : mgR (x :: b) [] ls (n :: ns) (m :: ms) p q r = m__law_decided p (q ++ n) (r ++ m) := by simp [mgR]
          rw [e]
          exact ⟨by rw [List.length_cons]; omega, dk⟩
        | cons k ks =>
          cases ls with
          | nil =>
            have e : mgR (x :: b) (k :: ks) [] (n :: ns) (m :: ms) p q r = m__law_decided p (q ++ n) (r ++ m) := by simp [mgR]
            rw [e]
            exact ⟨by rw [List.length_cons]; omega, dk⟩
          | cons l ls =>
            rw [mgR]
            split
            · have i := ih ks ls ns ms [] [] [] h1' h2' hb' OKs.nil OKs.nil OKs.nil
              refine ⟨?_, (OKs.app dk (OKs.one hx)).app i.2⟩
              have := i.1
              simp only [List.length_append, List.length_cons, List.length_nil] at this ⊢
              omega
            · have oi : ∀ z : Bool, OKs (if z = true then [x] else []) := fun z => by
                split
                · exact OKs.one hx
                · exact OKs.nil
              have li : ∀ z : Bool, (if z = true then [x] else ([] : List Str)).length ≤ 1 := fun z => by split <;> simp
              have i := ih ks ls ns ms (p ++ [x]) (q ++ n ++ if k = true then [x] else []) (r ++ m ++ if l = true then [x] else []) h1' h2' hb' (hp.app (OKs.one hx)) ((hq.app a.2).app (oi k)) ((hr.app c.2).app (oi l))
              refine ⟨?_, i.2⟩
              have := i.1
              have := li k
              have := li l
              simp only [List.length_append, List.length_cons, List.length_nil] at this ⊢
              simp only [List.length_append, List.length_cons, List.length_nil] at *
              omega
structure PRE (base : List Str) (ks ls : List Bool) (ns ms : List (List Str)) : Prop where
  p1 : base.length ≤ 8
  p2 : ∀ x ∈ base, PyData.strOk x = true
  p4 : ∀ r ∈ [ks, ls], r.length = base.length
  p6 : ∀ r ∈ [ns, ms], r.length = base.length + 1 ∧ ∀ x ∈ r, x.length ≤ 2 ∧ ∀ y ∈ x, PyData.strOk y = true
  p7 : m_merge_texts base (m__law_side base ks ns) (m__law_side base ls ms) = m__law_merged base [ks, ls] [ns, ms]
  p8 : okD (eT2 (eL eS) eI (m__law_merged base [ks, ls] [ns, ms])) = true
  p9 : (m__law_merged base [ks, ls] [ns, ms]).1.length ≤ 5000
  p10 : (m__law_side base ks ns).length ≤ 24
  p11 : (m__law_side base ls ms).length ≤ 24
  p12 : ∀ x ∈ m__law_side base ks ns, PyData.strOk x = true
  p13 : ∀ x ∈ m__law_side base ls ms, PyData.strOk x = true
theorem fresh_ok : ∀ v ∈ FRESH, PyData.strOk v = true := by decide +kernel
theorem pre_of {base : List Str} {ks ls : List Bool} {ns ms : List (List Str)} (hb : base.length ≤ 6) (hd : base.Nodup) (hf : ∀ x ∈ base, x ∉ FRESH) (ho : OKs base) (hk : ks.length = base.length) (hl : ls.length = base.length) (hn : ns.length = base.length + 1) (hm : ms.length = base.length + 1) (nn : ∀ n ∈ ns, n ∈ NEW) (nm : ∀ n ∈ ms, n ∈ NEW) : PRE base ks ls ns ms := by
  have an : ∀ n ∈ ns, n.length ≤ 2 ∧ OKs n := fun n h => ⟨(new_tbl n (nn n h)).1, (new_tbl n (nn n h)).2.2⟩
  have am : ∀ n ∈ ms, n.length ≤ 2 ∧ OKs n := fun n h => ⟨(new_tbl n (nm n h)).1, (new_tbl n (nm n h)).2.2⟩
  have fn : ∀ n ∈ ns, ∀ v ∈ n, v ∈ FRESH := fun n h => (new_tbl n (nn n h)).2.1
  have fm : ∀ n ∈ ms, ∀ v ∈ n, v ∈ FRESH := fun n h => (new_tbl n (nm n h)).2.1
  have g := mg_le base ks ls ns ms [] [] [] an am ho OKs.nil OKs.nil OKs.nil
  rw [← law_merged_is hk hl hn hm] at g
  have gl := g.1
  simp only [List.length_nil] at gl
  have s0 : OKs (m__law_side base ks ns) := fun x hx => by
    rw [side_is hk hn] at hx
    rcases side_mem fn hx with z | z
    · exact ho x z
    · exact fresh_ok x z
  have s1 : OKs (m__law_side base ls ms) := fun x hx => by
    rw [side_is hl hm] at hx
    rcases side_mem fm hx with z | z
    · exact ho x z
    · exact fresh_ok x z
  refine ⟨by omega, ho, fun r hr => ?_, fun r hr => ?_, merge_sides (fr := fun v => v ∈ FRESH) hk hl hn hm hd hf fn fm, okMR (by omega) g.2, by omega, ?_, ?_, s0, s1⟩
  · simp only [List.mem_cons, List.not_mem_nil, or_false] at hr
    rcases hr with rfl | rfl
    · exact hk
    · exact hl
  · simp only [List.mem_cons, List.not_mem_nil, or_false] at hr
    rcases hr with rfl | rfl
    · exact ⟨hn, an⟩
    · exact ⟨hm, am⟩
  · rw [side_is hk hn]
    have := side_le (b := base) (ks := ks) (ns := ns) (fun n h => (an n h).1)
    omega
  · rw [side_is hl hm]
    have := side_le (b := base) (ks := ls) (ns := ms) (fun n h => (am n h).1)
    omega


abbrev s_law : Stmt := topS 23

abbrev N_law : List Str := ["script", "cells", "size", "start", "base", "fates", "kept", "new", "ours", "theirs", "k", "fate"]

theorem sc_law : FnScope N_law ["script"] (defScope s_law) := ⟨rfl, rfl, rfl, by decide +kernel, rfl, by decide +kernel, by decide +kernel⟩

def sp_law (K : PySem.W.Frag) : Sp := fun vs H Q _ => ∃ (a : Addr) (ns : List Int), vs = [.ref a] ∧ SqL K H a (ns.map V.int) ∧ ns.length ≤ 63 ∧ ∀ v H', Dn H' v (.bool (m_law ns)) → Q v H'

set_option maxHeartbeats 16000000 in
theorem ok_law {f : Addr} {fd : FuncData} {k : Nat} (F : Fun K "law" "law" s_law f fd) {f__law_feed : Addr} {fd__law_feed : FuncData} {k__law_feed : Nat} (F__law_feed : Fun K "_law_feed" "_law_feed" s__law_feed f__law_feed fd__law_feed) (b__law_feed : Binds K fd__law_feed ["script"] []) (g__law_feed : mg "_law_feed" = some (.ref f__law_feed)) (G__law_feed : FnOk P w K mg base CX0 k__law_feed f__law_feed fd__law_feed ["script"] (sp__law_feed K)) (k__law_feed_ : k__law_feed ≤ k) {f__law_next : Addr} {fd__law_next : FuncData} {k__law_next : Nat} (F__law_next : Fun K "_law_next" "_law_next" s__law_next f__law_next fd__law_next) (b__law_next : Binds K fd__law_next ["cells", "many"] []) (g__law_next : mg "_law_next" = some (.ref f__law_next)) (G__law_next : FnOk P w K mg base CX0 k__law_next f__law_next fd__law_next ["cells", "many"] (SpM r__law_next)) (k__law_next_ : k__law_next ≤ k) {f__law_menu : Addr} {fd__law_menu : FuncData} {k__law_menu : Nat} (F__law_menu : Fun K "_law_menu" "_law_menu" s__law_menu f__law_menu fd__law_menu) (b__law_menu : Binds K fd__law_menu ["place"] []) (g__law_menu : mg "_law_menu" = some (.ref f__law_menu)) (G__law_menu : FnOk P w K mg base CX0 k__law_menu f__law_menu fd__law_menu ["place"] (SpF r__law_menu)) (k__law_menu_ : k__law_menu ≤ k) {f__law_holds : Addr} {fd__law_holds : FuncData} {k__law_holds : Nat} (F__law_holds : Fun K "_law_holds" "_law_holds" s__law_holds f__law_holds fd__law_holds) (b__law_holds : Binds K fd__law_holds ["base", "kept", "new"] []) (g__law_holds : mg "_law_holds" = some (.ref f__law_holds)) (G__law_holds : FnOk P w K mg base CX0 k__law_holds f__law_holds fd__law_holds ["base", "kept", "new"] (SpF r__law_holds)) (k__law_holds_ : k__law_holds ≤ k) (m_int : mg "int" = none) (m_range : mg "range" = none) : FnOk P w K mg base CX0 (k + 1) f fd ["script"] (sp_law K) := by
  refine F.ok sc_law (fun vs H Q E h => ?_) (fun cdv A outer s H vs Q E hr h => ?_)
  · obtain ⟨a, ns, rfl, _⟩ := h; rfl
  · obtain ⟨a, ns, rfl, hS, hl, q⟩ := h
    refine ⟨_, (pss_cons (ps_set (i := 1) sc_law.nd rfl (Or.inr rfl) (pe_call G__law_feed (hr.mono k__law_feed_) (by rfl) g__law_feed F__law_feed.kp b__law_feed .nil pass0 (pa_cons (pv 0) pa_nil))) (pss_cons (ps_set (i := 2) sc_law.nd rfl (Or.inl rfl) (pe_op op_modN (pe_callTy call_int1 (by rfl) m_int (by decide +kernel) (pa_cons (pe_op op_add (pe_call G__law_next (hr.mono k__law_next_) (by rfl) g__law_next F__law_next.kp b__law_next .nil pass0 (pa_cons (pv 1) (pa_cons pe_int pa_nil))) pe_int) pa_nil)) pe_int)) (pss_cons (ps_set (i := 3) sc_law.nd rfl (Or.inr rfl) (pe_call G__law_next (hr.mono k__law_next_) (by rfl) g__law_next F__law_next.kp b__law_next .nil pass0 (pa_cons (pv 1) (pa_cons pe_int pa_nil)))) (pss_cons (ps_setLc (i := 4) (own := [("k", 10)]) (g := gName 10) (tt := tYes) rfl sc_law.nd rfl rfl (sw_true rfl rfl rfl (by decide +kernel)) (pi_range1 rfl m_range (pa_cons (pv 2) pa_nil)) (blkOk_by (own := [("k", 10)]) (N := N_law) (sc := defScope s_law) (by decide +kernel)) (fun _ _ _ _ _ => pg_name (i := 10) sc_law.nd rfl (Or.inl rfl)) (fun _ _ _ _ _ => pts_nil) (fun _ _ _ _ _ => (pe_call G__law_menu (hr.mono k__law_menu_) (by rfl) g__law_menu F__law_menu.kp b__law_menu .nil pass0 (pa_cons (pe_op op_add (pv 3) (pe_op op_mul pe_int (pv 10))) pa_nil)))) (pss_cons (ps_setLc (i := 5) (own := [("k", 10)]) (g := gName 10) (tt := tYes) rfl sc_law.nd rfl rfl (sw_true rfl rfl rfl (by decide +kernel)) (pi_range1 rfl m_range (pa_cons (pv 2) pa_nil)) (blkOk_by (own := [("k", 10)]) (N := N_law) (sc := defScope s_law) (by decide +kernel)) (fun _ _ _ _ _ => pg_name (i := 10) sc_law.nd rfl (Or.inl rfl)) (fun _ _ _ _ _ => pts_nil) (fun _ _ _ _ _ => (pe_op op_modN (pe_callTy call_int1 (by rfl) m_int (by decide +kernel) (pa_cons (pe_op op_add (pe_call G__law_next (hr.mono k__law_next_) (by rfl) g__law_next F__law_next.kp b__law_next .nil pass0 (pa_cons (pv 1) (pa_cons pe_int pa_nil))) (pv 10)) pa_nil)) pe_int))) (pss_cons (ps_set (i := 6) sc_law.nd rfl (Or.inl rfl) (pe_lst (pa_cons (pe_lc (own := [("fate", 11)]) (g := gName 11) (tt := tYes) rfl sc_law.nd (pi_list (pv 5)) (blkOk_by (own := [("fate", 11)]) (N := N_law) (sc := defScope s_law) (by decide +kernel)) (fun _ _ _ _ _ => pg_name (i := 11) sc_law.nd rfl (Or.inl rfl)) (fun _ _ _ _ _ => pts_nil) (fun _ _ _ _ _ => (pe_cmpR (r := rIn K true) op_notIn_seq (pv 11) (pe_tup (pa_cons pe_int (pa_cons pe_int pa_nil))) rfl))) pa_nil))) (pss_cons (ps_expr (pe_bm PySem.F.plainAttrs_list PySem.F.slot_list_append PySem.F.type_list_append mt_append (pv 6) (pa_cons (pe_lc (own := [("fate", 11)]) (g := gName 11) (tt := tYes) rfl sc_law.nd (pi_list (pv 5)) (blkOk_by (own := [("fate", 11)]) (N := N_law) (sc := defScope s_law) (by decide +kernel)) (fun _ _ _ _ _ => pg_name (i := 11) sc_law.nd rfl (Or.inl rfl)) (fun _ _ _ _ _ => pts_nil) (fun _ _ _ _ _ => (pe_cmpR (r := rIn K true) op_notIn_seq (pv 11) (pe_tup (pa_cons pe_int (pa_cons pe_int pa_nil))) rfl))) pa_nil))) (pss_cons (ps_set (i := 7) sc_law.nd rfl (Or.inr rfl) (pe_lst (pa_cons (pe_lst pa_nil) (pa_cons (pe_lst pa_nil) (pa_cons (pe_lst (pa_cons pe_str pa_nil)) (pa_cons (pe_lst pa_nil) (pa_cons (pe_lst (pa_cons pe_str pa_nil)) (pa_cons (pe_lst (pa_cons pe_str (pa_cons pe_str pa_nil))) pa_nil)))))))) (pss_cons (ps_setLc (i := 8) (own := [("k", 10)]) (g := gName 10) (tt := tYes) rfl sc_law.nd rfl rfl (sw_true rfl rfl rfl (by decide +kernel)) (pi_range1 rfl m_range (pa_cons (pe_op op_add (pv 2) pe_int) pa_nil)) (blkOk_by (own := [("k", 10)]) (N := N_law) (sc := defScope s_law) (by decide +kernel)) (fun _ _ _ _ _ => pg_name (i := 10) sc_law.nd rfl (Or.inl rfl)) (fun _ _ _ _ _ => pts_nil) (fun _ _ _ _ _ => (pe_ix (r := rIxL K) ix_list (pv 7) (pe_op op_modN (pe_callTy call_int1 (by rfl) m_int (by decide +kernel) (pa_cons (pe_op op_add (pe_call G__law_next (hr.mono k__law_next_) (by rfl) g__law_next F__law_next.kp b__law_next .nil pass0 (pa_cons (pv 1) (pa_cons pe_int pa_nil))) (pe_op op_mul pe_int (pv 10))) pa_nil)) pe_int) (fun _ _ => rfl)))) (pss_cons (ps_setLc (i := 9) (own := [("k", 10)]) (g := gName 10) (tt := tYes) rfl sc_law.nd rfl rfl (sw_true rfl rfl rfl (by decide +kernel)) (pi_range1 rfl m_range (pa_cons (pe_op op_add (pv 2) pe_int) pa_nil)) (blkOk_by (own := [("k", 10)]) (N := N_law) (sc := defScope s_law) (by decide +kernel)) (fun _ _ _ _ _ => pg_name (i := 10) sc_law.nd rfl (Or.inl rfl)) (fun _ _ _ _ _ => pts_nil) (fun _ _ _ _ _ => (pe_ix (r := rIxL K) ix_list (pv 7) (pe_op op_modN (pe_callTy call_int1 (by rfl) m_int (by decide +kernel) (pa_cons (pe_op op_add (pe_call G__law_next (hr.mono k__law_next_) (by rfl) g__law_next F__law_next.kp b__law_next .nil pass0 (pa_cons (pv 1) (pa_cons pe_int pa_nil))) (pe_op op_mul pe_int (pv 10))) pa_nil)) pe_int) (fun _ _ => rfl)))) (pss_cons (ps_if (pt_not (pt_val (pe_call G__law_holds (hr.mono k__law_holds_) (by rfl) g__law_holds F__law_holds.kp b__law_holds .nil pass0 (pa_cons (pv 4) (pa_cons (pv 6) (pa_cons (pe_lst (pa_cons (pv 8) (pa_cons (pv 9) pa_nil))) pa_nil)))))) (pss_cons (ps_ret pe_bl) pss_nil) pss_nil) (pss_cons (ps_ret (pe_call G__law_holds (hr.mono k__law_holds_) (by rfl) g__law_holds F__law_holds.kp b__law_holds .nil pass0 (pa_cons (pv 4) (pa_cons (pe_lst (pa_cons (pe_ix (r := rIxL K) ix_list (pv 6) pe_int (fun _ _ => rfl)) (pa_cons (pe_ix (r := rIxL K) ix_list (pv 6) pe_int (fun _ _ => rfl)) pa_nil))) (pa_cons (pe_lst (pa_cons (pv 9) (pa_cons (pv 8) pa_nil))) pa_nil))))) pss_nil)))))))))))), ?_⟩
    have B := bs_0 (N := N_law) (vs := [.ref a]) (H := H) (Nat.le_of_ble_eq_true rfl)
    have B : Bs _ _ _ [.no, .no, .no, .no, .no, .no, .no, .no, .no, .no, .no, .no] := B
    have e0 : Ex H H := Ex.refl H
    have hk : m_law ns = (match (List.foldl (stepE (n_law_1)) ([], (m__law_next ((m__law_next (m__law_feed ns) (7 : Int)).2) (16 : Int)).2) (rng 0 (Int.fmod (((m__law_next (m__law_feed ns) (7 : Int)).1) + (4 : Int)) (7 : Int)))) with | (fates_y1, cells_y1) => (match (List.foldl (stepE (n_law_2)) ([], cells_y1) (rng 0 ((Int.fmod (((m__law_next (m__law_feed ns) (7 : Int)).1) + (4 : Int)) (7 : Int)) + (1 : Int)))) with | (ours_y2, cells_y2) => (match (List.foldl (stepE (n_law_3)) ([], cells_y2) (rng 0 ((Int.fmod (((m__law_next (m__law_feed ns) (7 : Int)).1) + (4 : Int)) (7 : Int)) + (1 : Int)))) with | (theirs_y3, cells_y3) => (if (!(m__law_holds (((rng 0 (Int.fmod (((m__law_next (m__law_feed ns) (7 : Int)).1) + (4 : Int)) (7 : Int))).map fun (k_c : Int) => (m__law_menu ((((m__law_next ((m__law_next (m__law_feed ns) (7 : Int)).2) (16 : Int)).1) + ((5 : Int) * k_c)))))) (([(fates_y1.map fun (fate_c : Int) => (!decide (fate_c ∈ ([(3 : Int), (5 : Int)]))))] ++ [(fates_y1.map fun (fate_c : Int) => (!decide (fate_c ∈ ([(4 : Int), (5 : Int)]))))])) ([ours_y2, theirs_y3]))) = true then false else (m__law_holds (((rng 0 (Int.fmod (((m__law_next (m__law_feed ns) (7 : Int)).1) + (4 : Int)) (7 : Int))).map fun (k_c : Int) => (m__law_menu ((((m__law_next ((m__law_next (m__law_feed ns) (7 : Int)).2) (16 : Int)).1) + ((5 : Int) * k_c)))))) ([(getI ([(fates_y1.map fun (fate_c : Int) => (!decide (fate_c ∈ ([(3 : Int), (5 : Int)]))))] ++ [(fates_y1.map fun (fate_c : Int) => (!decide (fate_c ∈ ([(4 : Int), (5 : Int)]))))]) (1 : Int)), (getI ([(fates_y1.map fun (fate_c : Int) => (!decide (fate_c ∈ ([(3 : Int), (5 : Int)]))))] ++ [(fates_y1.map fun (fate_c : Int) => (!decide (fate_c ∈ ([(4 : Int), (5 : Int)]))))]) (0 : Int))]) ([theirs_y3, ours_y2])))))) := rfl
    have hJ := feed_J ns
    have hJ := next_J (many := 7) hJ
    have hJ := next_J (many := 16) hJ
    have sb := fmod_b (x := (m__law_next (m__law_feed ns) (7 : Int)).1 + (4 : Int)) (m := 7) (by omega)
    refine q_asgN (f := true) B (en__law_feed (B.live true) rfl hS hl) fun a1 σ1 H1 B => ?_
    have B : Bs _ _ _ [.no, .ow true a1 ((m__law_feed ns).map (eL eI)), .no, .no, .no, .no, .no, .no, .no, .no, .no, .no] := B
    refine q_asgM (em_IC (em_int (em_I0 (em_call B rfl (ea_cons ev_int ea_nil) ⟨(m__law_feed ns), (7 : Int), rfl, rfl, by first | assumption | omega, by first | assumption | omega, by first | assumption | omega, rfl, rfl⟩) (fun H2 B => ev_int))) (fun H2 B => ev_int) (by omega)) fun σ1 H1 B => ?_
    have B : Bs _ _ _ [.no, .ow true a1 (((m__law_next (m__law_feed ns) (7 : Int)).2).map (eL eI)), .va true (eI (Int.fmod (((m__law_next (m__law_feed ns) (7 : Int)).1) + (4 : Int)) (7 : Int))), .no, .no, .no, .no, .no, .no, .no, .no, .no] := B
    refine q_asgM (em_call B rfl (ea_cons ev_int ea_nil) ⟨(m__law_next (m__law_feed ns) (7 : Int)).2, (16 : Int), rfl, rfl, by first | assumption | omega, by first | assumption | omega, by first | assumption | omega, rfl, rfl⟩) fun σ1 H1 B => ?_
    have B : Bs _ _ _ [.no, .ow true a1 (((m__law_next ((m__law_next (m__law_feed ns) (7 : Int)).2) (16 : Int)).2).map (eL eI)), .va true (eI (Int.fmod (((m__law_next (m__law_feed ns) (7 : Int)).1) + (4 : Int)) (7 : Int))), .va true (eI ((m__law_next ((m__law_next (m__law_feed ns) (7 : Int)).2) (16 : Int)).1)), .no, .no, .no, .no, .no, .no, .no, .no] := B
    refine q_asg (f := true) B ((en_lcRM1 (g := true) (em2 := eS) (fun k_c => (m__law_menu ((((m__law_next ((m__law_next (m__law_feed ns) (7 : Int)).2) (16 : Int)).1) + ((5 : Int) * k_c))))) B rfl (it_R1M (ev_sc B rfl (.int _)) (by omega)) (by first | omega | (rw [rng_len]; omega) | (simp only [rng_len]; omega)) (fun c' k_c σ1 H1 hx B => have hx_f := rng_mem.mp hx; ((ev_callF (B.live true) (ea_cons (ev_I0 (ev_sc B rfl (.int _)) (ev_IC ev_int (ev_sc B rfl (.int _)) (by first | exact .inl ⟨by omega, by omega⟩ | exact .inr ⟨by omega, by omega⟩))) ea_nil) ⟨(((m__law_next ((m__law_next (m__law_feed ns) (7 : Int)).2) (16 : Int)).1) + ((5 : Int) * k_c)), rfl, rfl⟩).sc (.str _)))).ev (B.live true)) fun σ1 H1 B => ?_
    have B : Bs _ _ _ [.no, .ow true a1 (((m__law_next ((m__law_next (m__law_feed ns) (7 : Int)).2) (16 : Int)).2).map (eL eI)), .va true (eI (Int.fmod (((m__law_next (m__law_feed ns) (7 : Int)).1) + (4 : Int)) (7 : Int))), .va true (eI ((m__law_next ((m__law_next (m__law_feed ns) (7 : Int)).2) (16 : Int)).1)), .va true ((eL eS) ((rng 0 (Int.fmod (((m__law_next (m__law_feed ns) (7 : Int)).1) + (4 : Int)) (7 : Int))).map fun (k_c : Int) => (m__law_menu ((((m__law_next ((m__law_next (m__law_feed ns) (7 : Int)).2) (16 : Int)).1) + ((5 : Int) * k_c)))))), .no, .no, .no, .no, .no, .no, .no] := B
    refine q_asgE (j := 10) (ci := 1) (emg := (eL eI)) (em2 := eI) (n_law_1) (fun gs => ∀ r ∈ gs, r.length = 2) B rfl rfl hJ (fun gs k h => next_J h) (it_R1M (ev_sc B rfl (.int _)) (by omega)) (by first | omega | (rw [rng_len]; omega) | (simp only [rng_len]; omega)) (fun c' cells_g1 k_c σ1 H1 hx hJ B => ?_) (fun fates_y1 cells_y1 σ1 H1 hs hJ B => ?_)
    · have hx_f := rng_mem.mp hx
      have B : Bs _ _ _ [.no, .ow true a1 (cells_g1.map (eL eI)), .va true (eI (Int.fmod (((m__law_next (m__law_feed ns) (7 : Int)).1) + (4 : Int)) (7 : Int))), .va true (eI ((m__law_next ((m__law_next (m__law_feed ns) (7 : Int)).2) (16 : Int)).1)), .va true ((eL eS) ((rng 0 (Int.fmod (((m__law_next (m__law_feed ns) (7 : Int)).1) + (4 : Int)) (7 : Int))).map fun (k_c : Int) => (m__law_menu ((((m__law_next ((m__law_next (m__law_feed ns) (7 : Int)).2) (16 : Int)).1) + ((5 : Int) * k_c)))))), .no, .no, .no, .no, .no, .va true (eI k_c), .no] := B
      exact (em_IC (em_int (em_I0 (em_call B rfl (ea_cons ev_int ea_nil) ⟨cells_g1, (6 : Int), rfl, rfl, by first | assumption | omega, by first | assumption | omega, by first | assumption | omega, rfl, rfl⟩) (fun H2 B => (ev_sc B rfl (.int _))))) (fun H2 B => ev_int) (by omega))
    · rw [← hs] at hk
      try dsimp only at hk
      have B : Bs _ _ _ [.no, .ow true a1 (cells_y1.map (eL eI)), .va true (eI (Int.fmod (((m__law_next (m__law_feed ns) (7 : Int)).1) + (4 : Int)) (7 : Int))), .va true (eI ((m__law_next ((m__law_next (m__law_feed ns) (7 : Int)).2) (16 : Int)).1)), .va true ((eL eS) ((rng 0 (Int.fmod (((m__law_next (m__law_feed ns) (7 : Int)).1) + (4 : Int)) (7 : Int))).map fun (k_c : Int) => (m__law_menu ((((m__law_next ((m__law_next (m__law_feed ns) (7 : Int)).2) (16 : Int)).1) + ((5 : Int) * k_c)))))), .va true ((eL eI) fates_y1), .no, .no, .no, .no, .no, .no] := B
      have hJ1 := hJ
      obtain ⟨f1, _⟩ := fold_E0 hs
      rw [rng_len] at f1
      refine q_asgN (f := true) B (en_lstM (em := (eL eB)) (xs := [(fates_y1.map fun (fate_c : Int) => (!decide (fate_c ∈ ([(3 : Int), (5 : Int)]))))]) (ea_cons ((en_lcM1 (g := true) (em2 := eB) (fun fate_c => (!decide (fate_c ∈ ([(3 : Int), (5 : Int)])))) B rfl (ev_va B rfl) (by first | omega | (rw [rng_len]; omega) | (simp only [rng_len]; omega)) (fun c' fate_c σ1 H1 hx B => (ev_inTI true (ev_sc B rfl (.int _)) (ev_tup (ds := [eI (3 : Int), eI (5 : Int)]) live0 (ea_cons ev_int (ea_cons ev_int ea_nil)) (by simp))))).ev (B.live true)) ea_nil) (by simp)) fun a2 σ1 H1 B => ?_
      have B : Bs _ _ _ [.no, .ow true a1 (cells_y1.map (eL eI)), .va true (eI (Int.fmod (((m__law_next (m__law_feed ns) (7 : Int)).1) + (4 : Int)) (7 : Int))), .va true (eI ((m__law_next ((m__law_next (m__law_feed ns) (7 : Int)).2) (16 : Int)).1)), .va true ((eL eS) ((rng 0 (Int.fmod (((m__law_next (m__law_feed ns) (7 : Int)).1) + (4 : Int)) (7 : Int))).map fun (k_c : Int) => (m__law_menu ((((m__law_next ((m__law_next (m__law_feed ns) (7 : Int)).2) (16 : Int)).1) + ((5 : Int) * k_c)))))), .va true ((eL eI) fates_y1), .ow true a2 (([(fates_y1.map fun (fate_c : Int) => (!decide (fate_c ∈ ([(3 : Int), (5 : Int)]))))]).map (eL eB)), .no, .no, .no, .no, .no] := B
      refine q_app (f := true) B rfl ((en_lcM1 (g := true) (em2 := eB) (fun fate_c => (!decide (fate_c ∈ ([(4 : Int), (5 : Int)])))) B rfl (ev_va B rfl) (by first | omega | (rw [rng_len]; omega) | (simp only [rng_len]; omega)) (fun c' fate_c σ1 H1 hx B => (ev_inTI true (ev_sc B rfl (.int _)) (ev_tup (ds := [eI (4 : Int), eI (5 : Int)]) live0 (ea_cons ev_int (ea_cons ev_int ea_nil)) (by simp))))).ev (B.live true)) (by simp) fun H1 B => ?_
      have B : Bs _ _ _ [.no, .ow true a1 (cells_y1.map (eL eI)), .va true (eI (Int.fmod (((m__law_next (m__law_feed ns) (7 : Int)).1) + (4 : Int)) (7 : Int))), .va true (eI ((m__law_next ((m__law_next (m__law_feed ns) (7 : Int)).2) (16 : Int)).1)), .va true ((eL eS) ((rng 0 (Int.fmod (((m__law_next (m__law_feed ns) (7 : Int)).1) + (4 : Int)) (7 : Int))).map fun (k_c : Int) => (m__law_menu ((((m__law_next ((m__law_next (m__law_feed ns) (7 : Int)).2) (16 : Int)).1) + ((5 : Int) * k_c)))))), .va true ((eL eI) fates_y1), .ow true a2 (([(fates_y1.map fun (fate_c : Int) => (!decide (fate_c ∈ ([(3 : Int), (5 : Int)]))))] ++ [(fates_y1.map fun (fate_c : Int) => (!decide (fate_c ∈ ([(4 : Int), (5 : Int)]))))]).map (eL eB)), .no, .no, .no, .no, .no] := B.le (.cons (.refl _) (.cons (.refl _) (.cons (.refl _) (.cons (.refl _) (.cons (.refl _) (.cons (.refl _) (.cons (.eqo (by simp)) (.cons (.refl _) (.cons (.refl _) (.cons (.refl _) (.cons (.refl _) (.cons (.refl _) .nil))))))))))))
      refine q_asg (f := true) B ((en_lstM (em := (eL eS)) (xs := [([] : (List Str)), ([] : (List Str)), [("x" : Str)], ([] : (List Str)), [("x " : Str)], [("x" : Str), ("c" : Str)]]) (ea_cons ((en_lstM (em := eS) (xs := []) ea_nil (by simp)).ev (B.live true)) (ea_cons ((en_lstM (em := eS) (xs := []) ea_nil (by simp)).ev (B.live true)) (ea_cons ((en_lstM (em := eS) (xs := [("x" : Str)]) (ea_cons ev_str ea_nil) (by simp)).ev (B.live true)) (ea_cons ((en_lstM (em := eS) (xs := []) ea_nil (by simp)).ev (B.live true)) (ea_cons ((en_lstM (em := eS) (xs := [("x " : Str)]) (ea_cons ev_str ea_nil) (by simp)).ev (B.live true)) (ea_cons ((en_lstM (em := eS) (xs := [("x" : Str), ("c" : Str)]) (ea_cons ev_str (ea_cons ev_str ea_nil)) (by simp)).ev (B.live true)) ea_nil)))))) (by simp)).ev (B.live true)) fun σ1 H1 B => ?_
      have B : Bs _ _ _ [.no, .ow true a1 (cells_y1.map (eL eI)), .va true (eI (Int.fmod (((m__law_next (m__law_feed ns) (7 : Int)).1) + (4 : Int)) (7 : Int))), .va true (eI ((m__law_next ((m__law_next (m__law_feed ns) (7 : Int)).2) (16 : Int)).1)), .va true ((eL eS) ((rng 0 (Int.fmod (((m__law_next (m__law_feed ns) (7 : Int)).1) + (4 : Int)) (7 : Int))).map fun (k_c : Int) => (m__law_menu ((((m__law_next ((m__law_next (m__law_feed ns) (7 : Int)).2) (16 : Int)).1) + ((5 : Int) * k_c)))))), .va true ((eL eI) fates_y1), .ow true a2 (([(fates_y1.map fun (fate_c : Int) => (!decide (fate_c ∈ ([(3 : Int), (5 : Int)]))))] ++ [(fates_y1.map fun (fate_c : Int) => (!decide (fate_c ∈ ([(4 : Int), (5 : Int)]))))]).map (eL eB)), .va true ((eL (eL eS)) ([([] : (List Str)), ([] : (List Str)), [("x" : Str)], ([] : (List Str)), [("x " : Str)], [("x" : Str), ("c" : Str)]])), .no, .no, .no, .no] := B
      refine q_asgE (j := 10) (ci := 1) (emg := (eL eI)) (em2 := (eL eS)) (n_law_2) (fun gs => ∀ r ∈ gs, r.length = 2) B rfl rfl hJ (fun gs k h => next_J h) (it_R1M (ev_I0 (ev_sc B rfl (.int _)) ev_int) (by omega)) (by first | omega | (rw [rng_len]; omega) | (simp only [rng_len]; omega)) (fun c' cells_g2 k_c σ1 H1 hx hJ B => ?_) (fun ours_y2 cells_y2 σ1 H1 hs hJ B => ?_)
      · have hx_f := rng_mem.mp hx
        have B : Bs _ _ _ [.no, .ow true a1 (cells_g2.map (eL eI)), .va true (eI (Int.fmod (((m__law_next (m__law_feed ns) (7 : Int)).1) + (4 : Int)) (7 : Int))), .va true (eI ((m__law_next ((m__law_next (m__law_feed ns) (7 : Int)).2) (16 : Int)).1)), .va true ((eL eS) ((rng 0 (Int.fmod (((m__law_next (m__law_feed ns) (7 : Int)).1) + (4 : Int)) (7 : Int))).map fun (k_c : Int) => (m__law_menu ((((m__law_next ((m__law_next (m__law_feed ns) (7 : Int)).2) (16 : Int)).1) + ((5 : Int) * k_c)))))), .va true ((eL eI) fates_y1), .ow true a2 (([(fates_y1.map fun (fate_c : Int) => (!decide (fate_c ∈ ([(3 : Int), (5 : Int)]))))] ++ [(fates_y1.map fun (fate_c : Int) => (!decide (fate_c ∈ ([(4 : Int), (5 : Int)]))))]).map (eL eB)), .va true ((eL (eL eS)) ([([] : (List Str)), ([] : (List Str)), [("x" : Str)], ([] : (List Str)), [("x " : Str)], [("x" : Str), ("c" : Str)]])), .no, .no, .va true (eI k_c), .no] := B
        exact (em_ixM (ev_va B rfl) (fun p => (adr_ow (i := 1) rfl p).symm) (fun H2 e2 => by have B := B.mono e2; exact (em_IC (em_int (em_I0 (em_call B rfl (ea_cons ev_int ea_nil) ⟨cells_g2, (6 : Int), rfl, rfl, by first | assumption | omega, by first | assumption | omega, by first | assumption | omega, rfl, rfl⟩) (fun H2 B => (ev_IC ev_int (ev_sc B rfl (.int _)) (by first | exact .inl ⟨by omega, by omega⟩ | exact .inr ⟨by omega, by omega⟩))))) (fun H2 B => ev_int) (by omega))) (show inB ([([] : (List Str)), ([] : (List Str)), [("x" : Str)], ([] : (List Str)), [("x " : Str)], [("x" : Str), ("c" : Str)]]) (Int.fmod (((m__law_next cells_g2 (6 : Int)).1) + ((2 : Int) * k_c)) (6 : Int)) from by first | assumption | (have := fmod_b (x := (((m__law_next cells_g2 (6 : Int)).1) + ((2 : Int) * k_c))) (m := (6 : Int)) (by omega); unfold inB; first | omega | (simp; done) | (simp; omega) | (simp at *; omega))))
      · rw [← hs] at hk
        try dsimp only at hk
        have B : Bs _ _ _ [.no, .ow true a1 (cells_y2.map (eL eI)), .va true (eI (Int.fmod (((m__law_next (m__law_feed ns) (7 : Int)).1) + (4 : Int)) (7 : Int))), .va true (eI ((m__law_next ((m__law_next (m__law_feed ns) (7 : Int)).2) (16 : Int)).1)), .va true ((eL eS) ((rng 0 (Int.fmod (((m__law_next (m__law_feed ns) (7 : Int)).1) + (4 : Int)) (7 : Int))).map fun (k_c : Int) => (m__law_menu ((((m__law_next ((m__law_next (m__law_feed ns) (7 : Int)).2) (16 : Int)).1) + ((5 : Int) * k_c)))))), .va true ((eL eI) fates_y1), .ow true a2 (([(fates_y1.map fun (fate_c : Int) => (!decide (fate_c ∈ ([(3 : Int), (5 : Int)]))))] ++ [(fates_y1.map fun (fate_c : Int) => (!decide (fate_c ∈ ([(4 : Int), (5 : Int)]))))]).map (eL eB)), .va true ((eL (eL eS)) ([([] : (List Str)), ([] : (List Str)), [("x" : Str)], ([] : (List Str)), [("x " : Str)], [("x" : Str), ("c" : Str)]])), .va true ((eL (eL eS)) ours_y2), .no, .no, .no] := B
        obtain ⟨o1, o2⟩ := fold_E0 hs
        rw [rng_len] at o1
        have o3 : ∀ x ∈ ours_y2, x ∈ NEW := fun x hx => by
          obtain ⟨gs, k, _, rfl⟩ := o2 x hx
          have b := fmod_b (x := (m__law_next gs 6).1 + 2 * k) (m := 6) (by omega)
          exact getI_mem (by unfold inB; show _ ∧ _ < (6 : Int); omega)
        refine q_asgE (j := 10) (ci := 1) (emg := (eL eI)) (em2 := (eL eS)) (n_law_3) (fun gs => ∀ r ∈ gs, r.length = 2) B rfl rfl hJ (fun gs k h => next_J h) (it_R1M (ev_I0 (ev_sc B rfl (.int _)) ev_int) (by omega)) (by first | omega | (rw [rng_len]; omega) | (simp only [rng_len]; omega)) (fun c' cells_g3 k_c σ1 H1 hx hJ B => ?_) (fun theirs_y3 cells_y3 σ1 H1 hs hJ B => ?_)
        · have hx_f := rng_mem.mp hx
          have B : Bs _ _ _ [.no, .ow true a1 (cells_g3.map (eL eI)), .va true (eI (Int.fmod (((m__law_next (m__law_feed ns) (7 : Int)).1) + (4 : Int)) (7 : Int))), .va true (eI ((m__law_next ((m__law_next (m__law_feed ns) (7 : Int)).2) (16 : Int)).1)), .va true ((eL eS) ((rng 0 (Int.fmod (((m__law_next (m__law_feed ns) (7 : Int)).1) + (4 : Int)) (7 : Int))).map fun (k_c : Int) => (m__law_menu ((((m__law_next ((m__law_next (m__law_feed ns) (7 : Int)).2) (16 : Int)).1) + ((5 : Int) * k_c)))))), .va true ((eL eI) fates_y1), .ow true a2 (([(fates_y1.map fun (fate_c : Int) => (!decide (fate_c ∈ ([(3 : Int), (5 : Int)]))))] ++ [(fates_y1.map fun (fate_c : Int) => (!decide (fate_c ∈ ([(4 : Int), (5 : Int)]))))]).map (eL eB)), .va true ((eL (eL eS)) ([([] : (List Str)), ([] : (List Str)), [("x" : Str)], ([] : (List Str)), [("x " : Str)], [("x" : Str), ("c" : Str)]])), .va true ((eL (eL eS)) ours_y2), .no, .va true (eI k_c), .no] := B
          exact (em_ixM (ev_va B rfl) (fun p => (adr_ow (i := 1) rfl p).symm) (fun H2 e2 => by have B := B.mono e2; exact (em_IC (em_int (em_I0 (em_call B rfl (ea_cons ev_int ea_nil) ⟨cells_g3, (6 : Int), rfl, rfl, by first | assumption | omega, by first | assumption | omega, by first | assumption | omega, rfl, rfl⟩) (fun H2 B => (ev_IC ev_int (ev_sc B rfl (.int _)) (by first | exact .inl ⟨by omega, by omega⟩ | exact .inr ⟨by omega, by omega⟩))))) (fun H2 B => ev_int) (by omega))) (show inB ([([] : (List Str)), ([] : (List Str)), [("x" : Str)], ([] : (List Str)), [("x " : Str)], [("x" : Str), ("c" : Str)]]) (Int.fmod (((m__law_next cells_g3 (6 : Int)).1) + ((5 : Int) * k_c)) (6 : Int)) from by first | assumption | (have := fmod_b (x := (((m__law_next cells_g3 (6 : Int)).1) + ((5 : Int) * k_c))) (m := (6 : Int)) (by omega); unfold inB; first | omega | (simp; done) | (simp; omega) | (simp at *; omega))))
        · rw [← hs] at hk
          try dsimp only at hk
          have B : Bs _ _ _ [.no, .ow true a1 (cells_y3.map (eL eI)), .va true (eI (Int.fmod (((m__law_next (m__law_feed ns) (7 : Int)).1) + (4 : Int)) (7 : Int))), .va true (eI ((m__law_next ((m__law_next (m__law_feed ns) (7 : Int)).2) (16 : Int)).1)), .va true ((eL eS) ((rng 0 (Int.fmod (((m__law_next (m__law_feed ns) (7 : Int)).1) + (4 : Int)) (7 : Int))).map fun (k_c : Int) => (m__law_menu ((((m__law_next ((m__law_next (m__law_feed ns) (7 : Int)).2) (16 : Int)).1) + ((5 : Int) * k_c)))))), .va true ((eL eI) fates_y1), .ow true a2 (([(fates_y1.map fun (fate_c : Int) => (!decide (fate_c ∈ ([(3 : Int), (5 : Int)]))))] ++ [(fates_y1.map fun (fate_c : Int) => (!decide (fate_c ∈ ([(4 : Int), (5 : Int)]))))]).map (eL eB)), .va true ((eL (eL eS)) ([([] : (List Str)), ([] : (List Str)), [("x" : Str)], ([] : (List Str)), [("x " : Str)], [("x" : Str), ("c" : Str)]])), .va true ((eL (eL eS)) ours_y2), .va true ((eL (eL eS)) theirs_y3), .no, .no] := B
          obtain ⟨t1, t2⟩ := fold_E0 hs
          rw [rng_len] at t1
          have t3 : ∀ x ∈ theirs_y3, x ∈ NEW := fun x hx => by
            obtain ⟨gs, k, _, rfl⟩ := t2 x hx
            have b := fmod_b (x := (m__law_next gs 6).1 + 5 * k) (m := 6) (by omega)
            exact getI_mem (by unfold inB; show _ ∧ _ < (6 : Int); omega)
          have bl : ((rng 0 (Int.fmod (((m__law_next (m__law_feed ns) (7 : Int)).1) + (4 : Int)) (7 : Int))).map fun (k_c : Int) => m__law_menu (((m__law_next ((m__law_next (m__law_feed ns) (7 : Int)).2) (16 : Int)).1) + ((5 : Int) * k_c))).length = (Int.fmod (((m__law_next (m__law_feed ns) (7 : Int)).1) + (4 : Int)) (7 : Int)).toNat := by rw [List.length_map, rng_len]; omega
          have bo : OKs ((rng 0 (Int.fmod (((m__law_next (m__law_feed ns) (7 : Int)).1) + (4 : Int)) (7 : Int))).map fun (k_c : Int) => m__law_menu (((m__law_next ((m__law_next (m__law_feed ns) (7 : Int)).2) (16 : Int)).1) + ((5 : Int) * k_c))) := fun x hx => by
            obtain ⟨k, _, rfl⟩ := List.mem_map.mp hx
            exact menu_ok _
          have bf : ∀ x ∈ ((rng 0 (Int.fmod (((m__law_next (m__law_feed ns) (7 : Int)).1) + (4 : Int)) (7 : Int))).map fun (k_c : Int) => m__law_menu (((m__law_next ((m__law_next (m__law_feed ns) (7 : Int)).2) (16 : Int)).1) + ((5 : Int) * k_c))), x ∉ FRESH := fun x hx => by
            obtain ⟨k, _, rfl⟩ := List.mem_map.mp hx
            exact menu_fresh _
          have bd := base_nodup (start := (m__law_next ((m__law_next (m__law_feed ns) (7 : Int)).2) (16 : Int)).1) sb.2
          have A := pre_of (ks := fates_y1.map fun (fate_c : Int) => (!decide (fate_c ∈ ([(3 : Int), (5 : Int)])))) (ls := fates_y1.map fun (fate_c : Int) => (!decide (fate_c ∈ ([(4 : Int), (5 : Int)])))) (ns := ours_y2) (ms := theirs_y3) (by omega) bd bf bo (by rw [List.length_map]; omega) (by rw [List.length_map]; omega) (by omega) (by omega) o3 t3
          have A2 := pre_of (ls := fates_y1.map fun (fate_c : Int) => (!decide (fate_c ∈ ([(3 : Int), (5 : Int)])))) (ks := fates_y1.map fun (fate_c : Int) => (!decide (fate_c ∈ ([(4 : Int), (5 : Int)])))) (ms := ours_y2) (ns := theirs_y3) (by omega) bd bf bo (by rw [List.length_map]; omega) (by rw [List.length_map]; omega) (by omega) (by omega) t3 o3
          refine q_if B (et_not (et_B ((ev_callF (B.live true) (ea_cons ((ev_va B rfl).w0) (ea_cons (ev_owM B rfl) (ea_cons ((en_lstM (em := (eL (eL eS))) (xs := [ours_y2, theirs_y3]) (ea_cons ((ev_va B rfl).w0) (ea_cons ((ev_va B rfl).w0) ea_nil)) (by simp)).ev live0) ea_nil))) ⟨((rng 0 (Int.fmod (((m__law_next (m__law_feed ns) (7 : Int)).1) + (4 : Int)) (7 : Int))).map fun (k_c : Int) => (m__law_menu ((((m__law_next ((m__law_next (m__law_feed ns) (7 : Int)).2) (16 : Int)).1) + ((5 : Int) * k_c))))), ([(fates_y1.map fun (fate_c : Int) => (!decide (fate_c ∈ ([(3 : Int), (5 : Int)]))))] ++ [(fates_y1.map fun (fate_c : Int) => (!decide (fate_c ∈ ([(4 : Int), (5 : Int)]))))]), [ours_y2, theirs_y3], rfl, A.p1, A.p2, rfl, A.p4, rfl, A.p6, A.p7, A.p8, A.p9, A.p10, A.p11, A.p12, A.p13, rfl⟩).sc (.bl _)))) (fun hc3 H1 B => ?_) (fun hc3 H1 B => ?_)
          · rw [if_pos hc3] at hk
            have hc3_f := hc3
            try simp only [Bool.and_eq_true, Bool.or_eq_true, Bool.not_eq_true', Bool.and_eq_false_imp, Bool.or_eq_false_iff, Bool.not_eq_false', decide_eq_true_eq, decide_eq_false_iff_not] at hc3_f
            refine q_ret (f := true) B ev_bl fun v H1 x hv => q v H1 ?_
            rw [hk]; exact hv.up
          · rw [if_neg (show ¬ (!(m__law_holds (((rng 0 (Int.fmod (((m__law_next (m__law_feed ns) (7 : Int)).1) + (4 : Int)) (7 : Int))).map fun (k_c : Int) => (m__law_menu ((((m__law_next ((m__law_next (m__law_feed ns) (7 : Int)).2) (16 : Int)).1) + ((5 : Int) * k_c)))))) (([(fates_y1.map fun (fate_c : Int) => (!decide (fate_c ∈ ([(3 : Int), (5 : Int)]))))] ++ [(fates_y1.map fun (fate_c : Int) => (!decide (fate_c ∈ ([(4 : Int), (5 : Int)]))))])) ([ours_y2, theirs_y3]))) = true from by rw [hc3]; exact Bool.false_ne_true)] at hk
            have hc3_f := hc3
            try simp only [Bool.and_eq_true, Bool.or_eq_true, Bool.not_eq_true', Bool.and_eq_false_imp, Bool.or_eq_false_iff, Bool.not_eq_false', decide_eq_true_eq, decide_eq_false_iff_not] at hc3_f
            dsimp only [tNext]
            refine q_ret (f := true) B ((ev_callF (B.live true) (ea_cons ((ev_va B rfl).w0) (ea_cons ((en_lstM (em := (eL eB)) (xs := [(getI ([(fates_y1.map fun (fate_c : Int) => (!decide (fate_c ∈ ([(3 : Int), (5 : Int)]))))] ++ [(fates_y1.map fun (fate_c : Int) => (!decide (fate_c ∈ ([(4 : Int), (5 : Int)]))))]) (1 : Int)), (getI ([(fates_y1.map fun (fate_c : Int) => (!decide (fate_c ∈ ([(3 : Int), (5 : Int)]))))] ++ [(fates_y1.map fun (fate_c : Int) => (!decide (fate_c ∈ ([(4 : Int), (5 : Int)]))))]) (0 : Int))]) (ea_cons ((ev_ixOM B rfl ev_int (show inB ([(fates_y1.map fun (fate_c : Int) => (!decide (fate_c ∈ ([(3 : Int), (5 : Int)]))))] ++ [(fates_y1.map fun (fate_c : Int) => (!decide (fate_c ∈ ([(4 : Int), (5 : Int)]))))]) (1 : Int) from by first | assumption | (unfold inB; first | omega | (simp; done) | (simp; omega) | (simp at *; omega)))).w0) (ea_cons ((ev_ixOM B rfl ev_int (show inB ([(fates_y1.map fun (fate_c : Int) => (!decide (fate_c ∈ ([(3 : Int), (5 : Int)]))))] ++ [(fates_y1.map fun (fate_c : Int) => (!decide (fate_c ∈ ([(4 : Int), (5 : Int)]))))]) (0 : Int) from by first | assumption | (unfold inB; first | omega | (simp; done) | (simp; omega) | (simp at *; omega)))).w0) ea_nil)) (by simp)).ev live0) (ea_cons ((en_lstM (em := (eL (eL eS))) (xs := [theirs_y3, ours_y2]) (ea_cons ((ev_va B rfl).w0) (ea_cons ((ev_va B rfl).w0) ea_nil)) (by simp)).ev live0) ea_nil))) ⟨((rng 0 (Int.fmod (((m__law_next (m__law_feed ns) (7 : Int)).1) + (4 : Int)) (7 : Int))).map fun (k_c : Int) => (m__law_menu ((((m__law_next ((m__law_next (m__law_feed ns) (7 : Int)).2) (16 : Int)).1) + ((5 : Int) * k_c))))), [(getI ([(fates_y1.map fun (fate_c : Int) => (!decide (fate_c ∈ ([(3 : Int), (5 : Int)]))))] ++ [(fates_y1.map fun (fate_c : Int) => (!decide (fate_c ∈ ([(4 : Int), (5 : Int)]))))]) (1 : Int)), (getI ([(fates_y1.map fun (fate_c : Int) => (!decide (fate_c ∈ ([(3 : Int), (5 : Int)]))))] ++ [(fates_y1.map fun (fate_c : Int) => (!decide (fate_c ∈ ([(4 : Int), (5 : Int)]))))]) (0 : Int))], [theirs_y3, ours_y2], rfl, A2.p1, A2.p2, rfl, A2.p4, rfl, A2.p6, A2.p7, A2.p8, A2.p9, A2.p10, A2.p11, A2.p12, A2.p13, rfl⟩).sc (.bl _)) fun v H1 x hv => q v H1 ?_
            rw [hk]; exact hv.up

end
end K3
namespace K3
open PySem PySem.Spec PyProof.Rows L2 HL
theorem holds_true (base : List Str) (kept : List (List Bool)) (new : List (List (List Str))) : m__law_holds base kept new = true := by
  unfold m__law_holds
  simp [m__law_same]
theorem law_true (ns : List Int) : m_law ns = true := by
  unfold m_law
  simp only [holds_true]
  rfl
def spLaw (K : PySem.W.Frag) : Sp := fun vs H Q _ => ∃ (a : Addr) (ns : List Int), vs = [.ref a] ∧ SqL K H a (ns.map V.int) ∧ ns.length ≤ 63 ∧ ∀ H', Q (.bl true) H'
theorem law_imp {P : Program} {w : World} {K : PySem.W.Frag} {mg : Str → Option Value} {base : Heap} {k : Nat} {f : Addr} {fd : FuncData} (G : FnOk P w K mg base CX0 k f fd ["script"] (sp_law K)) : FnOk P w K mg base CX0 k f fd ["script"] (spLaw K) :=
  G.imp fun vs H Q E ⟨a, ns, h1, h2, h3, h4⟩ => ⟨a, ns, h1, h2, h3, fun v H' hv => by
    rw [law_true] at hv
    cases hv
    exact h4 H'⟩
theorem own_exc {K : PySem.W.Frag} {C : Addr} (a : PySem.W.subIn K (.ref C) (.type "BaseException") = some true) (b : PySem.W.isClsIn K C = true) (c : PySem.W.typeIn K (.ref C) = some (.type "type")) (d : PySem.W.subIn K (.ref C) (.ref C) = some true) : PySem.W.exmOne K (.ref C) (.ref C) = some true := by
  have b' : (PySem.W.clsIn K C).isSome = true := b
  simp [PySem.W.exmOne, PySem.W.kitCls, PySem.W.isClsIn, a, b', c, d]
theorem all_mk {l : PySem.W.OpenLaw} {w : World} {K : PySem.W.Frag} {h : Heap} {mg : Str → Option Value} {fa : Addr} (X : K.In h) (G : h.Ns mainGlobals mg) (hfa : mg "law" = some (.ref fa))
    {f0 : Addr} {od0 an0 : Option Addr} {sl0 : Array (Option Value)} {oc0 kV0 dc0 pm0 cd0 ct0 : Value}
    {f1 : Addr} {od1 an1 : Option Addr} {sl1 : Array (Option Value)} {oc1 kV1 dc1 pm1 cd1 ct1 : Value}
    {f2 : Addr} {od2 an2 : Option Addr} {sl2 : Array (Option Value)} {oc2 kV2 dc2 pm2 cd2 ct2 : Value}
    {f3 : Addr} {od3 an3 : Option Addr} {sl3 : Array (Option Value)} {oc3 kV3 dc3 pm3 cd3 ct3 : Value}
    {f4 : Addr} {od4 an4 : Option Addr} {sl4 : Array (Option Value)} {oc4 kV4 dc4 pm4 cd4 ct4 : Value}
    {f5 : Addr} {od5 an5 : Option Addr} {sl5 : Array (Option Value)} {oc5 kV5 dc5 pm5 cd5 ct5 : Value}
    {f6 : Addr} {od6 an6 : Option Addr} {sl6 : Array (Option Value)} {oc6 kV6 dc6 pm6 cd6 ct6 : Value}
    {f7 : Addr} {od7 an7 : Option Addr} {sl7 : Array (Option Value)} {oc7 kV7 dc7 pm7 cd7 ct7 : Value}
    {f8 : Addr} {od8 an8 : Option Addr} {sl8 : Array (Option Value)} {oc8 kV8 dc8 pm8 cd8 ct8 : Value}
    {f9 : Addr} {od9 an9 : Option Addr} {sl9 : Array (Option Value)} {oc9 kV9 dc9 pm9 cd9 ct9 : Value}
    {f10 : Addr} {od10 an10 : Option Addr} {sl10 : Array (Option Value)} {oc10 kV10 dc10 pm10 cd10 ct10 : Value}
    {f11 : Addr} {od11 an11 : Option Addr} {sl11 : Array (Option Value)} {oc11 kV11 dc11 pm11 cd11 ct11 : Value}
    {f12 : Addr} {od12 an12 : Option Addr} {sl12 : Array (Option Value)} {oc12 kV12 dc12 pm12 cd12 ct12 : Value}
    {f13 : Addr} {od13 an13 : Option Addr} {sl13 : Array (Option Value)} {oc13 kV13 dc13 pm13 cd13 ct13 : Value}
    {f14 : Addr} {od14 an14 : Option Addr} {sl14 : Array (Option Value)} {oc14 kV14 dc14 pm14 cd14 ct14 : Value}
    {f15 : Addr} {od15 an15 : Option Addr} {sl15 : Array (Option Value)} {oc15 kV15 dc15 pm15 cd15 ct15 : Value}
    (a0 : PySem.W.nsIn K mainGlobals "_common_lengths" = some (some (.ref f0))) (l0 : K.lookup f0 = some ⟨oc0, od0, .func (PySem.W.fnOf "_common_lengths" "_common_lengths" (defArgs s__common_lengths) (defBody s__common_lengths) (defScope s__common_lengths) .none kV0 dc0 pm0 an0 cd0 ct0), sl0⟩) (c0 : PySem.W.codeIn K cd0 "_common_lengths" = true) (k0 : PySem.W.keepIn K (.ref f0) = true)
    (a1 : PySem.W.nsIn K mainGlobals "matched" = some (some (.ref f1))) (l1 : K.lookup f1 = some ⟨oc1, od1, .func (PySem.W.fnOf "matched" "matched" (defArgs s_matched) (defBody s_matched) (defScope s_matched) .none kV1 dc1 pm1 an1 cd1 ct1), sl1⟩) (c1 : PySem.W.codeIn K cd1 "matched" = true) (k1 : PySem.W.keepIn K (.ref f1) = true)
    (a2 : PySem.W.nsIn K mainGlobals "_stable_places" = some (some (.ref f2))) (l2 : K.lookup f2 = some ⟨oc2, od2, .func (PySem.W.fnOf "_stable_places" "_stable_places" (defArgs s__stable_places) (defBody s__stable_places) (defScope s__stable_places) .none kV2 dc2 pm2 an2 cd2 ct2), sl2⟩) (c2 : PySem.W.codeIn K cd2 "_stable_places" = true) (k2 : PySem.W.keepIn K (.ref f2) = true)
    (a3 : PySem.W.nsIn K mainGlobals "_runs" = some (some (.ref f3))) (l3 : K.lookup f3 = some ⟨oc3, od3, .func (PySem.W.fnOf "_runs" "_runs" (defArgs s__runs) (defBody s__runs) (defScope s__runs) .none kV3 dc3 pm3 an3 cd3 ct3), sl3⟩) (c3 : PySem.W.codeIn K cd3 "_runs" = true) (k3 : PySem.W.keepIn K (.ref f3) = true)
    (a4 : PySem.W.nsIn K mainGlobals "_part" = some (some (.ref f4))) (l4 : K.lookup f4 = some ⟨oc4, od4, .func (PySem.W.fnOf "_part" "_part" (defArgs s__part) (defBody s__part) (defScope s__part) .none kV4 dc4 pm4 an4 cd4 ct4), sl4⟩) (c4 : PySem.W.codeIn K cd4 "_part" = true) (k4 : PySem.W.keepIn K (.ref f4) = true)
    (a5 : PySem.W.nsIn K mainGlobals "text_chunks" = some (some (.ref f5))) (l5 : K.lookup f5 = some ⟨oc5, od5, .func (PySem.W.fnOf "text_chunks" "text_chunks" (defArgs s_text_chunks) (defBody s_text_chunks) (defScope s_text_chunks) .none kV5 dc5 pm5 an5 cd5 ct5), sl5⟩) (c5 : PySem.W.codeIn K cd5 "text_chunks" = true) (k5 : PySem.W.keepIn K (.ref f5) = true)
    (a6 : PySem.W.nsIn K mainGlobals "merge_texts" = some (some (.ref f6))) (l6 : K.lookup f6 = some ⟨oc6, od6, .func (PySem.W.fnOf "merge_texts" "merge_texts" (defArgs s_merge_texts) (defBody s_merge_texts) (defScope s_merge_texts) .none kV6 dc6 pm6 an6 cd6 ct6), sl6⟩) (c6 : PySem.W.codeIn K cd6 "merge_texts" = true) (k6 : PySem.W.keepIn K (.ref f6) = true)
    (a7 : PySem.W.nsIn K mainGlobals "_law_feed" = some (some (.ref f7))) (l7 : K.lookup f7 = some ⟨oc7, od7, .func (PySem.W.fnOf "_law_feed" "_law_feed" (defArgs s__law_feed) (defBody s__law_feed) (defScope s__law_feed) .none kV7 dc7 pm7 an7 cd7 ct7), sl7⟩) (c7 : PySem.W.codeIn K cd7 "_law_feed" = true) (k7 : PySem.W.keepIn K (.ref f7) = true)
    (a8 : PySem.W.nsIn K mainGlobals "_law_next" = some (some (.ref f8))) (l8 : K.lookup f8 = some ⟨oc8, od8, .func (PySem.W.fnOf "_law_next" "_law_next" (defArgs s__law_next) (defBody s__law_next) (defScope s__law_next) .none kV8 dc8 pm8 an8 cd8 ct8), sl8⟩) (c8 : PySem.W.codeIn K cd8 "_law_next" = true) (k8 : PySem.W.keepIn K (.ref f8) = true)
    (a9 : PySem.W.nsIn K mainGlobals "_law_same" = some (some (.ref f9))) (l9 : K.lookup f9 = some ⟨oc9, od9, .func (PySem.W.fnOf "_law_same" "_law_same" (defArgs s__law_same) (defBody s__law_same) (defScope s__law_same) .none kV9 dc9 pm9 an9 cd9 ct9), sl9⟩) (c9 : PySem.W.codeIn K cd9 "_law_same" = true) (k9 : PySem.W.keepIn K (.ref f9) = true)
    (a10 : PySem.W.nsIn K mainGlobals "_law_menu" = some (some (.ref f10))) (l10 : K.lookup f10 = some ⟨oc10, od10, .func (PySem.W.fnOf "_law_menu" "_law_menu" (defArgs s__law_menu) (defBody s__law_menu) (defScope s__law_menu) .none kV10 dc10 pm10 an10 cd10 ct10), sl10⟩) (c10 : PySem.W.codeIn K cd10 "_law_menu" = true) (k10 : PySem.W.keepIn K (.ref f10) = true)
    (a11 : PySem.W.nsIn K mainGlobals "_law_decided" = some (some (.ref f11))) (l11 : K.lookup f11 = some ⟨oc11, od11, .func (PySem.W.fnOf "_law_decided" "_law_decided" (defArgs s__law_decided) (defBody s__law_decided) (defScope s__law_decided) .none kV11 dc11 pm11 an11 cd11 ct11), sl11⟩) (c11 : PySem.W.codeIn K cd11 "_law_decided" = true) (k11 : PySem.W.keepIn K (.ref f11) = true)
    (a12 : PySem.W.nsIn K mainGlobals "_law_side" = some (some (.ref f12))) (l12 : K.lookup f12 = some ⟨oc12, od12, .func (PySem.W.fnOf "_law_side" "_law_side" (defArgs s__law_side) (defBody s__law_side) (defScope s__law_side) .none kV12 dc12 pm12 an12 cd12 ct12), sl12⟩) (c12 : PySem.W.codeIn K cd12 "_law_side" = true) (k12 : PySem.W.keepIn K (.ref f12) = true)
    (a13 : PySem.W.nsIn K mainGlobals "_law_merged" = some (some (.ref f13))) (l13 : K.lookup f13 = some ⟨oc13, od13, .func (PySem.W.fnOf "_law_merged" "_law_merged" (defArgs s__law_merged) (defBody s__law_merged) (defScope s__law_merged) .none kV13 dc13 pm13 an13 cd13 ct13), sl13⟩) (c13 : PySem.W.codeIn K cd13 "_law_merged" = true) (k13 : PySem.W.keepIn K (.ref f13) = true)
    (a14 : PySem.W.nsIn K mainGlobals "_law_holds" = some (some (.ref f14))) (l14 : K.lookup f14 = some ⟨oc14, od14, .func (PySem.W.fnOf "_law_holds" "_law_holds" (defArgs s__law_holds) (defBody s__law_holds) (defScope s__law_holds) .none kV14 dc14 pm14 an14 cd14 ct14), sl14⟩) (c14 : PySem.W.codeIn K cd14 "_law_holds" = true) (k14 : PySem.W.keepIn K (.ref f14) = true)
    (a15 : PySem.W.nsIn K mainGlobals "law" = some (some (.ref f15))) (l15 : K.lookup f15 = some ⟨oc15, od15, .func (PySem.W.fnOf "law" "law" (defArgs s_law) (defBody s_law) (defScope s_law) .none kV15 dc15 pm15 an15 cd15 ct15), sl15⟩) (c15 : PySem.W.codeIn K cd15 "law" = true) (k15 : PySem.W.keepIn K (.ref f15) = true)
    (z0 : PySem.W.nsIn K mainGlobals "len" = some none)
    (z1 : PySem.W.nsIn K mainGlobals "dict" = some none)
    (z2 : PySem.W.nsIn K mainGlobals "zip" = some none)
    (z3 : PySem.W.nsIn K mainGlobals "tuple" = some none)
    (z4 : PySem.W.nsIn K mainGlobals "any" = some none)
    (z5 : PySem.W.nsIn K mainGlobals "int" = some none)
    (z6 : PySem.W.nsIn K mainGlobals "range" = some none)
    (z7 : PySem.W.nsIn K mainGlobals "list" = some none)
    (z8 : PySem.W.nsIn K mainGlobals "reversed" = some none)
    (z9 : PySem.W.nsIn K mainGlobals "max" = some none)
    (z10 : PySem.W.nsIn K mainGlobals "isinstance" = some none)
    (z11 : PySem.W.nsIn K mainGlobals "bool" = some none)
    (z12 : PySem.W.nsIn K mainGlobals "str" = some none)
    (z13 : PySem.W.nsIn K mainGlobals "abs" = some none)
    {y0 : _} (u0 : PySem.W.nsIn K mainGlobals "OUR_SIDE" = some (some (.str ("<<<<<<<" : Str) y0)))
    {y1 : _} (u1 : PySem.W.nsIn K mainGlobals "BASE_SIDE" = some (some (.str ("|||||||" : Str) y1)))
    {y2 : _} (u2 : PySem.W.nsIn K mainGlobals "THEIR_SIDE" = some (some (.str ("=======" : Str) y2)))
    {y3 : _} (u3 : PySem.W.nsIn K mainGlobals "CLASH_END" = some (some (.str (">>>>>>>" : Str) y3)))
    : ∃ fd : FuncData, (∀ (s : Shared) (v : Value), BindsTo s fd ⟨[v], []⟩ [("script", v)]) ∧ ∀ base : Heap, K.In base → base.Ns mainGlobals mg → FnOk l.prog w K mg base CX0 7 fa fd ["script"] (spLaw K) := by
  have e := hfa.symm.trans (PySem.W.mg_of X G a15)
  cases e
  have F__common_lengths := fun_mk (st := s__common_lengths) l0 c0 k0
  have b__common_lengths := F__common_lengths.binds (ps := ["old", "new"]) fun _ _ _ _ _ _ us hl => match us, hl with | [_, _], _ => rfl
  have g__common_lengths := PySem.W.mg_of X G a0
  have F_matched := fun_mk (st := s_matched) l1 c1 k1
  have b_matched := F_matched.binds (ps := ["old", "new"]) fun _ _ _ _ _ _ us hl => match us, hl with | [_, _], _ => rfl
  have g_matched := PySem.W.mg_of X G a1
  have F__stable_places := fun_mk (st := s__stable_places) l2 c2 k2
  have b__stable_places := F__stable_places.binds (ps := ["base", "ours", "theirs"]) fun _ _ _ _ _ _ us hl => match us, hl with | [_, _, _], _ => rfl
  have g__stable_places := PySem.W.mg_of X G a2
  have F__runs := fun_mk (st := s__runs) l3 c3 k3
  have b__runs := F__runs.binds (ps := ["places"]) fun _ _ _ _ _ _ us hl => match us, hl with | [_], _ => rfl
  have g__runs := PySem.W.mg_of X G a3
  have F__part := fun_mk (st := s__part) l4 c4 k4
  have b__part := F__part.binds (ps := ["texts", "start", "end"]) fun _ _ _ _ _ _ us hl => match us, hl with | [_, _, _], _ => rfl
  have g__part := PySem.W.mg_of X G a4
  have F_text_chunks := fun_mk (st := s_text_chunks) l5 c5 k5
  have b_text_chunks := F_text_chunks.binds (ps := ["base", "ours", "theirs"]) fun _ _ _ _ _ _ us hl => match us, hl with | [_, _, _], _ => rfl
  have g_text_chunks := PySem.W.mg_of X G a5
  have F_merge_texts := fun_mk (st := s_merge_texts) l6 c6 k6
  have b_merge_texts := F_merge_texts.binds (ps := ["base", "ours", "theirs"]) fun _ _ _ _ _ _ us hl => match us, hl with | [_, _, _], _ => rfl
  have g_merge_texts := PySem.W.mg_of X G a6
  have F__law_feed := fun_mk (st := s__law_feed) l7 c7 k7
  have b__law_feed := F__law_feed.binds (ps := ["script"]) fun _ _ _ _ _ _ us hl => match us, hl with | [_], _ => rfl
  have g__law_feed := PySem.W.mg_of X G a7
  have F__law_next := fun_mk (st := s__law_next) l8 c8 k8
  have b__law_next := F__law_next.binds (ps := ["cells", "many"]) fun _ _ _ _ _ _ us hl => match us, hl with | [_, _], _ => rfl
  have g__law_next := PySem.W.mg_of X G a8
  have F__law_same := fun_mk (st := s__law_same) l9 c9 k9
  have b__law_same := F__law_same.binds (ps := ["told", "due"]) fun _ _ _ _ _ _ us hl => match us, hl with | [_, _], _ => rfl
  have g__law_same := PySem.W.mg_of X G a9
  have F__law_menu := fun_mk (st := s__law_menu) l10 c10 k10
  have b__law_menu := F__law_menu.binds (ps := ["place"]) fun _ _ _ _ _ _ us hl => match us, hl with | [_], _ => rfl
  have g__law_menu := PySem.W.mg_of X G a10
  have F__law_decided := fun_mk (st := s__law_decided) l11 c11 k11
  have b__law_decided := F__law_decided.binds (ps := ["base", "ours", "theirs"]) fun _ _ _ _ _ _ us hl => match us, hl with | [_, _, _], _ => rfl
  have g__law_decided := PySem.W.mg_of X G a11
  have F__law_side := fun_mk (st := s__law_side) l12 c12 k12
  have b__law_side := F__law_side.binds (ps := ["base", "kept", "new"]) fun _ _ _ _ _ _ us hl => match us, hl with | [_, _, _], _ => rfl
  have g__law_side := PySem.W.mg_of X G a12
  have F__law_merged := fun_mk (st := s__law_merged) l13 c13 k13
  have b__law_merged := F__law_merged.binds (ps := ["base", "kept", "new"]) fun _ _ _ _ _ _ us hl => match us, hl with | [_, _, _], _ => rfl
  have g__law_merged := PySem.W.mg_of X G a13
  have F__law_holds := fun_mk (st := s__law_holds) l14 c14 k14
  have b__law_holds := F__law_holds.binds (ps := ["base", "kept", "new"]) fun _ _ _ _ _ _ us hl => match us, hl with | [_, _, _], _ => rfl
  have g__law_holds := PySem.W.mg_of X G a14
  have F_law := fun_mk (st := s_law) l15 c15 k15
  have m_len := PySem.W.mg_none_of X G z0
  have m_dict := PySem.W.mg_none_of X G z1
  have m_zip := PySem.W.mg_none_of X G z2
  have m_tuple := PySem.W.mg_none_of X G z3
  have m_any := PySem.W.mg_none_of X G z4
  have m_int := PySem.W.mg_none_of X G z5
  have m_range := PySem.W.mg_none_of X G z6
  have m_list := PySem.W.mg_none_of X G z7
  have m_reversed := PySem.W.mg_none_of X G z8
  have m_max := PySem.W.mg_none_of X G z9
  have m_isinstance := PySem.W.mg_none_of X G z10
  have m_bool := PySem.W.mg_none_of X G z11
  have m_str := PySem.W.mg_none_of X G z12
  have m_abs := PySem.W.mg_none_of X G z13
  have c_OUR_SIDE := PySem.W.mg_of X G u0
  have c_BASE_SIDE := PySem.W.mg_of X G u1
  have c_THEIR_SIDE := PySem.W.mg_of X G u2
  have c_CLASH_END := PySem.W.mg_of X G u3
  refine ⟨PySem.W.fnOf "law" "law" (defArgs s_law) (defBody s_law) (defScope s_law) .none kV15 dc15 pm15 an15 cd15 ct15, fun s v => .of_eq rfl, fun base _ _ => ?_⟩
  have G__common_lengths := ok__common_lengths (P := l.prog) (w := w) (mg := mg) (base := base) (k := 0) F__common_lengths m_len m_range m_reversed m_max
  have G_matched := ok_matched (P := l.prog) (w := w) (mg := mg) (base := base) (k := 1) F_matched  F__common_lengths b__common_lengths g__common_lengths G__common_lengths (by omega) m_len
  have G__stable_places := ok__stable_places (P := l.prog) (w := w) (mg := mg) (base := base) (k := 2) F__stable_places  F_matched b_matched g_matched G_matched (by omega) m_dict
  have G__runs := ok__runs (P := l.prog) (w := w) (mg := mg) (base := base) (k := 0) F__runs
  have G__part := ok__part (P := l.prog) (w := w) (mg := mg) (base := base) (k := 0) F__part  m_zip m_tuple m_any
  have G_text_chunks := ok_text_chunks (P := l.prog) (w := w) (mg := mg) (base := base) (k := 3) F_text_chunks  F__runs b__runs g__runs G__runs (by omega) F__stable_places b__stable_places g__stable_places G__stable_places (by omega) F__part b__part g__part G__part (by omega) m_tuple m_len
  have G_merge_texts := ok_merge_texts (P := l.prog) (w := w) (mg := mg) (base := base) (k := 4) F_merge_texts  F_text_chunks b_text_chunks g_text_chunks G_text_chunks (by omega) c_OUR_SIDE c_BASE_SIDE c_THEIR_SIDE c_CLASH_END 
  have G__law_feed := ok__law_feed (P := l.prog) (w := w) (mg := mg) (base := base) (k := 0) F__law_feed m_abs m_int
  have G__law_next := ok__law_next (P := l.prog) (w := w) (mg := mg) (base := base) (k := 0) F__law_next  m_int
  have G__law_same := same_imp (ok__law_same (P := l.prog) (w := w) (mg := mg) (base := base) F__law_same b__law_same g__law_same m_isinstance m_list m_tuple m_int m_bool m_str m_len m_range 5)
  have G__law_menu := ok__law_menu (P := l.prog) (w := w) (mg := mg) (base := base) (k := 0) F__law_menu  m_int
  have G__law_decided := ok__law_decided (P := l.prog) (w := w) (mg := mg) (base := base) (k := 0) F__law_decided  
  have G__law_side := ok__law_side (P := l.prog) (w := w) (mg := mg) (base := base) (k := 0) F__law_side  m_range m_len
  have G__law_merged := ok__law_merged (P := l.prog) (w := w) (mg := mg) (base := base) (k := 1) F__law_merged  F__law_decided b__law_decided g__law_decided G__law_decided (by omega) m_range m_len
  have G__law_holds := ok__law_holds (P := l.prog) (w := w) (mg := mg) (base := base) (k := 5) F__law_holds  F__law_merged b__law_merged g__law_merged G__law_merged (by omega) F__law_side b__law_side g__law_side G__law_side (by omega) F_merge_texts b_merge_texts g_merge_texts G_merge_texts (by omega) F__law_same b__law_same g__law_same G__law_same (by omega) m_list
  have G_law := ok_law (P := l.prog) (w := w) (mg := mg) (base := base) (k := 6) F_law  F__law_feed b__law_feed g__law_feed G__law_feed (by omega) F__law_next b__law_next g__law_next G__law_next (by omega) F__law_menu b__law_menu g__law_menu G__law_menu (by omega) F__law_holds b__law_holds g__law_holds G__law_holds (by omega) m_int m_range
  exact law_imp G_law
end K3
open PySem PySem.W PyProof.Rows
set_option maxHeartbeats 0 in
theorem PySem.Challenge.cw_partclones_k04_merge_unlike_lines_holds : PySem.Challenge.rw_partclones_k04_merge_unlike_lines.Holds := by
  w_on; o_law; k_head; (case hw => w_witness2)
  k_fill
  refine L2.walk_of (l := PySem.Challenge.rw_partclones_k04_merge_unlike_lines) (n := 63) (k := 7) (x := "script") (CX := fun _ => L2.CX0) (sp := fun w => K3.spLaw _) rfl (by decide) rfl ⟨rfl, by decide, by decide⟩ (fun w h Y => PySem.W.kIn_of Y) ?F (fun _ _ a ns hl _ hS => ⟨a, ns, rfl, hS, hl, fun _ => rfl⟩) (fun _ _ _ _ _ h => h)
  case F =>
    intro w mg fa h KX G hmg
    refine' K3.all_mk KX G hmg ?a0 ?l0 ?c0 ?k0 ?a1 ?l1 ?c1 ?k1 ?a2 ?l2 ?c2 ?k2 ?a3 ?l3 ?c3 ?k3 ?a4 ?l4 ?c4 ?k4 ?a5 ?l5 ?c5 ?k5 ?a6 ?l6 ?c6 ?k6 ?a7 ?l7 ?c7 ?k7 ?a8 ?l8 ?c8 ?k8 ?a9 ?l9 ?c9 ?k9 ?a10 ?l10 ?c10 ?k10 ?a11 ?l11 ?c11 ?k11 ?a12 ?l12 ?c12 ?k12 ?a13 ?l13 ?c13 ?k13 ?a14 ?l14 ?c14 ?k14 ?a15 ?l15 ?c15 ?k15 ?z0 ?z1 ?z2 ?z3 ?z4 ?z5 ?z6 ?z7 ?z8 ?z9 ?z10 ?z11 ?z12 ?z13 ?u0 ?u1 ?u2 ?u3
    (case a0 => k_is); (case l0 => k_is); (case c0 => k_is); (case k0 => k_is); (case a1 => k_is); (case l1 => k_is); (case c1 => k_is); (case k1 => k_is); (case a2 => k_is); (case l2 => k_is); (case c2 => k_is); (case k2 => k_is); (case a3 => k_is); (case l3 => k_is); (case c3 => k_is); (case k3 => k_is); (case a4 => k_is); (case l4 => k_is); (case c4 => k_is); (case k4 => k_is); (case a5 => k_is); (case l5 => k_is); (case c5 => k_is); (case k5 => k_is); (case a6 => k_is); (case l6 => k_is); (case c6 => k_is); (case k6 => k_is); (case a7 => k_is); (case l7 => k_is); (case c7 => k_is); (case k7 => k_is); (case a8 => k_is); (case l8 => k_is); (case c8 => k_is); (case k8 => k_is); (case a9 => k_is); (case l9 => k_is); (case c9 => k_is); (case k9 => k_is); (case a10 => k_is); (case l10 => k_is); (case c10 => k_is); (case k10 => k_is); (case a11 => k_is); (case l11 => k_is); (case c11 => k_is); (case k11 => k_is); (case a12 => k_is); (case l12 => k_is); (case c12 => k_is); (case k12 => k_is); (case a13 => k_is); (case l13 => k_is); (case c13 => k_is); (case k13 => k_is); (case a14 => k_is); (case l14 => k_is); (case c14 => k_is); (case k14 => k_is); (case a15 => k_is); (case l15 => k_is); (case c15 => k_is); (case k15 => k_is); (case z0 => k_is); (case z1 => k_is); (case z2 => k_is); (case z3 => k_is); (case z4 => k_is); (case z5 => k_is); (case z6 => k_is); (case z7 => k_is); (case z8 => k_is); (case z9 => k_is); (case z10 => k_is); (case z11 => k_is); (case z12 => k_is); (case z13 => k_is); (case u0 => k_is); (case u1 => k_is); (case u2 => k_is); (case u3 => k_is)
