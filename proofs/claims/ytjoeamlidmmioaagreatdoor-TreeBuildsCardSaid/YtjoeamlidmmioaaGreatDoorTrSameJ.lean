import Derived.Test.YtjoeamlidmmioaaGreatDoorMq3J
import Derived.Test.YtjoeamlidmmioaaGreatDoorXmJcJ
import Derived.Test.YtjoeamlidmmioaaGreatDoorTrEndJ
/-
  LAYER 12 (tree), THE LAWS' OWN HELPERS: the document's trees in memory; same.
-/
namespace Go.Proofs.YtjoeamlidmmioaaGreatDoor
open Go.RowKit
set_option linter.unusedVariables false
set_option maxRecDepth 100000

theorem many_kid {n : List UInt8} {la : List AtX} {t : List UInt8} {ks : List Tr} {i : Nat} {u : Tr} (h : ks[i]? = some u) : manyT u < manyT (.nd n la t ks) := by
  have : ∀ (l : List Tr) (i : Nat), l[i]? = some u → manyT u ≤ manysT l := by
    intro l
    induction l with
    | nil => intro i h; simp at h
    | cons x r ih =>
      intro i h
      unfold manysT
      cases i with
      | zero => simp at h; subst h; omega
      | succ i => have := ih i (by simpa using h); omega
  have := this ks i h
  show manyT u < manysT ks + 1
  omega
/-- How far the loops of same have come. -/
def SmRel {α : Type} (W0 : World) (A B : List α) (i : Value) (wr : World) : Prop := ∃ k, k ≤ A.length ∧ i = .int .i64 (k : Nat) ∧ Below W0.heap.size W0 wr ∧ Hid (A.take k = B.take k)
def SamePost (w : World) (t u : Tr) (e : Ending) (w' : World) : Prop := ∃ r : Bool, e = .returned (.bool r) ∧ (r = true ↔ t = u) ∧ Below w.heap.size w w'
theorem take_next {α : Type} {A B : List α} {k : Nat} {x : α} (h : A.take k = B.take k) (ha : A[k]? = some x) (hb : B[k]? = some x) : A.take (k + 1) = B.take (k + 1) := by
  rw [List.take_add_one, List.take_add_one, h, ha, hb]
/-- The one is the other, but perhaps cut short: where as many attributes, the same ones. -/
inductive Trunc : Tr → Tr → Prop where
  | nd {n : List UInt8} {la lb : List AtX} {t : List UInt8} {ks us : List Tr} (ha : la.length = lb.length → la = lb) (hk : ∀ (i : Nat) (k u : Tr), ks[i]? = some k → us[i]? = some u → Trunc k u) : Trunc (.nd n la t ks) (.nd n lb t us)
theorem trunc_refl : ∀ (m : Nat) (t : Tr), manyT t ≤ m → Trunc t t
  | 0, t, h => by have := many_pos t; omega
  | m + 1, .nd n la t ks, h => .nd (fun _ => rfl) (fun i k u hk hu => by
      rw [hk] at hu; cases hu
      exact trunc_refl m k (by have := many_kid (n := n) (la := la) (t := t) hk; omega))
theorem trunc_same (t : Tr) : Trunc t t := trunc_refl _ t (Nat.le_refl _)
set_option maxHeartbeats 8000000 in
theorem same_len3 {w : World} {x y : NdV} {tn tt : List UInt8} {ta ua : List AtX} {tk uk : List Tr} (hx : NdAt w x (.nd tn ta tt tk)) (hy : RnAt w y (.nd tn ua tt uk)) (h3 : ta.length ≠ ua.length) :
    Calls Tryz.prog 10 #[.agg #[.string (mk x.n), .slice x.a x.am x.ac, .string (mk x.t), .slice x.k x.km x.kc], .agg #[.string (mk y.n), .slice y.a y.am y.ac, .string (mk y.t), .slice y.k y.km y.kc]] w (SamePost w (.nd tn ta tt tk) (.nd tn ua tt uk)) := by
  obtain ⟨a1, c1, k1, d1, rfl, r1, _, v1, q1⟩ := nd_open atTy_ok ndTy_ok rfl rfl hx
  obtain ⟨a2, c2, k2, d2, rfl, r2, _, _, q2⟩ := nd_open raTy_ok rdTy_ok rfl rfl hy
  simp only
  have hb0 : Below w.heap.size w ((w.alloc (.cells #[.string (mk tn), .slice a1 ta.length c1, .string (mk tt), .slice k1 tk.length d1] 30)).alloc (.cells #[.string (mk tn), .slice a2 ua.length c2, .string (mk tt), .slice k2 uk.length d2] 37)) := ((Below.refl _ _).alloc (Nat.le_refl _) _).alloc (by simp) _
  have hz1 : (w.alloc (.cells #[.string (mk tn), .slice a1 ta.length c1, .string (mk tt), .slice k1 tk.length d1] 30)).heap.size = w.heap.size + 1 := by simp
  have o1 : own ((w.alloc (.cells #[.string (mk tn), .slice a1 ta.length c1, .string (mk tt), .slice k1 tk.length d1] 30)).alloc (.cells #[.string (mk tn), .slice a2 ua.length c2, .string (mk tt), .slice k2 uk.length d2] 37)) w.heap.size #[.string (mk tn), .slice a1 ta.length c1, .string (mk tt), .slice k1 tk.length d1] 30 := own.same (own.new w _ _) (Below.heap_alloc _ _ _ (by rw [hz1]; omega))
  have o2 : own ((w.alloc (.cells #[.string (mk tn), .slice a1 ta.length c1, .string (mk tt), .slice k1 tk.length d1] 30)).alloc (.cells #[.string (mk tn), .slice a2 ua.length c2, .string (mk tt), .slice k2 uk.length d2] 37)) (w.heap.size + 1) #[.string (mk tn), .slice a2 ua.length c2, .string (mk tt), .slice k2 uk.length d2] 37 := by rw [← hz1]; exact own.new _ _ _
  have e1 : ((mk tn).toList == (mk tn).toList) = true := beq_self_eq_true _
  have e2 : ((mk tt).toList == (mk tt).toList) = true := beq_self_eq_true _
  have e3 : ((ta.length : Int) == (ua.length : Int)) = false := beq_eq_false_iff_ne.2 (by omega)
  have HF : Hid (((false = true) ↔ Tr.nd tn ta tt tk = .nd tn ua tt uk)) := hid ⟨(fun h => by cases h), fun h => absurd (by cases h; rfl) h3⟩
  have z0 := o1.cell 0
  have z1 := o1.cell 1
  have z2 := o1.cell 2
  have z3 := o1.cell 3
  have y0 := o2.cell 0
  have y1 := o2.cell 1
  have y2 := o2.cell 2
  have y3 := o2.cell 3
  simp only [List.getElem?_toArray, List.getElem?_cons_zero, List.getElem?_cons_succ] at z0 z1 z2 z3 y0 y1 y2 y3
  have HB := hid hb0
  clear o1 o2 r1 r2 q1 q2 hx hy hb0
  as_aux_lemma =>
  go_enter Tryz.func10, Tryz.ntmps10
  go_wp2
  go_ret
  exact ⟨false, rfl, HF.out, HB.out⟩
set_option maxHeartbeats 8000000 in
theorem same_len4 {w : World} {x y : NdV} {tn tt : List UInt8} {ta ua : List AtX} {tk uk : List Tr} (hx : NdAt w x (.nd tn ta tt tk)) (hy : RnAt w y (.nd tn ua tt uk)) (h3 : ta = ua) (h4 : tk.length ≠ uk.length) :
    Calls Tryz.prog 10 #[.agg #[.string (mk x.n), .slice x.a x.am x.ac, .string (mk x.t), .slice x.k x.km x.kc], .agg #[.string (mk y.n), .slice y.a y.am y.ac, .string (mk y.t), .slice y.k y.km y.kc]] w (SamePost w (.nd tn ta tt tk) (.nd tn ua tt uk)) := by
  subst h3
  obtain ⟨a1, c1, k1, d1, rfl, r1, _, v1, q1⟩ := nd_open atTy_ok ndTy_ok rfl rfl hx
  obtain ⟨a2, c2, k2, d2, rfl, r2, _, _, q2⟩ := nd_open raTy_ok rdTy_ok rfl rfl hy
  simp only
  have hb0 : Below w.heap.size w ((w.alloc (.cells #[.string (mk tn), .slice a1 ta.length c1, .string (mk tt), .slice k1 tk.length d1] 30)).alloc (.cells #[.string (mk tn), .slice a2 ta.length c2, .string (mk tt), .slice k2 uk.length d2] 37)) := ((Below.refl _ _).alloc (Nat.le_refl _) _).alloc (by simp) _
  have hz1 : (w.alloc (.cells #[.string (mk tn), .slice a1 ta.length c1, .string (mk tt), .slice k1 tk.length d1] 30)).heap.size = w.heap.size + 1 := by simp
  have o1 : own ((w.alloc (.cells #[.string (mk tn), .slice a1 ta.length c1, .string (mk tt), .slice k1 tk.length d1] 30)).alloc (.cells #[.string (mk tn), .slice a2 ta.length c2, .string (mk tt), .slice k2 uk.length d2] 37)) w.heap.size #[.string (mk tn), .slice a1 ta.length c1, .string (mk tt), .slice k1 tk.length d1] 30 := own.same (own.new w _ _) (Below.heap_alloc _ _ _ (by rw [hz1]; omega))
  have o2 : own ((w.alloc (.cells #[.string (mk tn), .slice a1 ta.length c1, .string (mk tt), .slice k1 tk.length d1] 30)).alloc (.cells #[.string (mk tn), .slice a2 ta.length c2, .string (mk tt), .slice k2 uk.length d2] 37)) (w.heap.size + 1) #[.string (mk tn), .slice a2 ta.length c2, .string (mk tt), .slice k2 uk.length d2] 37 := by rw [← hz1]; exact own.new _ _ _
  have e1 : ((mk tn).toList == (mk tn).toList) = true := beq_self_eq_true _
  have e2 : ((mk tt).toList == (mk tt).toList) = true := beq_self_eq_true _
  have e3 : ((ta.length : Int) == (ta.length : Int)) = true := beq_self_eq_true _
  have e4 : ((tk.length : Int) == (uk.length : Int)) = false := beq_eq_false_iff_ne.2 (by omega)
  have HF : Hid (((false = true) ↔ Tr.nd tn ta tt tk = .nd tn ta tt uk)) := hid ⟨(fun h => by cases h), fun h => absurd (by cases h; rfl) h4⟩
  have z0 := o1.cell 0
  have z1 := o1.cell 1
  have z2 := o1.cell 2
  have z3 := o1.cell 3
  have y0 := o2.cell 0
  have y1 := o2.cell 1
  have y2 := o2.cell 2
  have y3 := o2.cell 3
  simp only [List.getElem?_toArray, List.getElem?_cons_zero, List.getElem?_cons_succ] at z0 z1 z2 z3 y0 y1 y2 y3
  have HB := hid hb0
  clear o1 o2 r1 r2 q1 q2 hx hy hb0
  as_aux_lemma =>
  go_enter Tryz.func10, Tryz.ntmps10
  go_wp2
  go_ret
  exact ⟨false, rfl, HF.out, HB.out⟩
end Go.Proofs.YtjoeamlidmmioaaGreatDoor

