import Derived.Test.YtjoeamlidmmioaaGreatDoorTrNodeJ
import Derived.Deep.RegionLaw
import Derived.Laws.ResultCell
/-
  LAYER 12 (tree), THE LAWS' OWN HELPERS: node, walked.
-/
namespace Go.Proofs.YtjoeamlidmmioaaGreatDoor
open Go.RowKit
set_option linter.unusedVariables false
set_option maxRecDepth 100000

/-- Few attributes, everywhere. -/
inductive SmallT : Tr → Prop where
  | nd {n : List UInt8} {la : List AtX} {t : List UInt8} {ks : List Tr} (ha : la.length ≤ 30) (hk : ∀ (i : Nat) (u : Tr), ks[i]? = some u → SmallT u) : SmallT (.nd n la t ks)
theorem manys_app (a : List Tr) (u : Tr) : manysT (a ++ [u]) = manysT a + manyT u := by
  induction a with
  | nil => simp [manysT]
  | cons x r ih => simp [manysT, ih]; omega
theorem manys_len : ∀ (a : List Tr), a.length ≤ manysT a
  | [] => by simp
  | x :: r => by have := manys_len r; have := many_pos x; simp [manysT]; omega
/-- What node answers. -/
def NodePost (w : World) (lb : Nat) (lc : Int) (t : Tr) (e : Ending) (w' : World) : Prop := ∃ (y : NdV) (u : Tr), e = .returned (.agg #[.string (mk y.n), .slice y.a y.am y.ac, .string (mk y.t), .slice y.k y.km y.kc]) ∧ Trunc t u ∧ SmallT u ∧ NdIn raTy rdTy w' (fun g => w.heap.size ≤ g) y u ∧ Chg (fun g => g = lb) w w' ∧ own w' lb #[.int .i64 (lc - manyT u)] 3 ∧ (manyT u : Int) ≤ lc
def resW (w : World) (rb : Nat) (y : NdV) : World := (((w.setCell ⟨rb, 0, none⟩ (.string (mk y.n))).setCell ⟨rb, 1, none⟩ (.slice y.a y.am y.ac)).setCell ⟨rb, 2, none⟩ (.string (mk y.t))).setCell ⟨rb, 3, none⟩ (.slice y.k y.km y.kc)
/-- The end: out is laid in the result. -/
theorem nm_end {w1 wr : World} {ρ : Nat → Nat} {ob rb lb : Nat} {n t : List UInt8} {A : List AtX} {U : List Tr} {lc : Int} {aa : Option Addr} {ac : Nat} {ka : Option Addr} {kc : Nat} {KV : List NdV} (h : NmIs w1 wr ρ ob rb lb n t A U lc aa ac ka kc KV) :
    own (resW wr rb ⟨n, aa, A.length, ac, t, ka, U.length, kc⟩) rb #[.string (mk n), .slice aa A.length ac, .string (mk t), .slice ka U.length kc] 37 ∧ NdIn raTy rdTy (resW wr rb ⟨n, aa, A.length, ac, t, ka, U.length, kc⟩) (fun g => w1.heap.size ≤ g) ⟨n, aa, A.length, ac, t, ka, U.length, kc⟩ (.nd n A t U) ∧
      Chg (fun g => g = lb) w1 (resW wr rb ⟨n, aa, A.length, ac, t, ka, U.length, kc⟩) ∧ own (resW wr rb ⟨n, aa, A.length, ac, t, ka, U.length, kc⟩) lb #[.int .i64 lc] 3 := by
  have hz : (resW wr rb ⟨n, aa, A.length, ac, t, ka, U.length, kc⟩).heap.size = wr.heap.size := by unfold resW; simp only [setCell_size]
  have hoth : ∀ x, x ≠ rb → (resW wr rb ⟨n, aa, A.length, ac, t, ka, U.length, kc⟩).heap[x]? = wr.heap[x]? := fun x hx => by
    unfold resW
    rw [Below.heap_setCell _ _ _ _ hx, Below.heap_setCell _ _ _ _ hx, Below.heap_setCell _ _ _ _ hx, Below.heap_setCell _ _ _ _ hx]
  have hrn : ∀ g k, ρ g = k → k ≠ 5 → g ≠ rb := fun g k hg hk q => hk (by rw [← hg, q]; exact h.r5)
  have hlb : lb ≠ rb := fun q => by have := (h.new rb (by rw [h.r5]; decide)).1; have := h.llt; omega
  refine ⟨?_, ?_, ?_, h.lft.same (hoth lb hlb)⟩
  · have := (((h.rbx.set 0 (.string (mk n))).set 1 (.slice aa A.length ac)).set 2 (.string (mk t))).set 3 (.slice ka U.length kc)
    simpa [resW] using this
  · refine .at _ _ KV rfl rfl (h.ats.same (fun g hg => hoth g (hrn g 3 (h.r3 g hg) (by decide)))).rAt (fun _ g hg => (h.new g (by rw [h.r3 g hg]; decide)).1) ?_ (fun _ g hg => (h.new g (by rw [h.r4 g hg]; decide)).1) h.len (fun i y u hy hu => ndIn_same (h.kid i y u hy hu) (fun g hg _ => hoth g (hrn g 1 hg (by decide))) (fun g hg => (h.new g (by rw [hg]; decide)).1) (by rw [hz]; exact Nat.le_refl _))
    exact (h.kds.same (fun g hg => hoth g (hrn g 4 (h.r4 g hg) (by decide)))).rAt
  · have hrb := (h.new rb (by rw [h.r5]; decide)).1
    unfold resW
    exact (((h.chg.trans (Chg.setCell wr ⟨rb, 0, none⟩ _) (fun x q => .inr (by rw [show x = rb from q]; exact hrb))).trans (Chg.setCell _ ⟨rb, 1, none⟩ _) (fun x q => .inr (by rw [show x = rb from q]; exact hrb))).trans (Chg.setCell _ ⟨rb, 2, none⟩ _) (fun x q => .inr (by rw [show x = rb from q]; exact hrb))).trans (Chg.setCell _ ⟨rb, 3, none⟩ _) (fun x q => .inr (by rw [show x = rb from q]; exact hrb))
/-- The beginning: three boxes, and the counter turned. -/
def begW (w : World) (n : List UInt8) (a1 : Option Addr) (l1 c1 : Nat) (t : List UInt8) (k1 : Option Addr) (l2 d1 lb : Nat) (lc : Int) : World :=
  (((w.alloc (.cells #[.string (mk n), .slice a1 l1 c1, .string (mk t), .slice k1 l2 d1] 30)).alloc (.cells #[.string ⟨#[]⟩, .slice none 0 0, .string ⟨#[]⟩, .slice none 0 0] 37)).alloc (.cells #[.string (mk n), .slice none 0 0, .string (mk t), .slice none 0 0] 37)).setCell ⟨lb, 0, none⟩ (.int .i64 lc)
theorem nm_beg {w : World} {lb : Nat} {lc : Int} (hl : own w lb #[.int .i64 lc] 3) (n : List UInt8) (a1 : Option Addr) (l1 c1 : Nat) (t : List UInt8) (k1 : Option Addr) (l2 d1 : Nat) (lc' : Int) :
    NmHas (w.alloc (.cells #[.string (mk n), .slice a1 l1 c1, .string (mk t), .slice k1 l2 d1] 30)) (begW w n a1 l1 c1 t k1 l2 d1 lb lc') (w.heap.size + 1 + 1) (w.heap.size + 1) lb n t [] [] lc' := by
  have hlt := hl.lt
  generalize hW1 : w.alloc (.cells #[.string (mk n), .slice a1 l1 c1, .string (mk t), .slice k1 l2 d1] 30) = W1
  have hz1 : W1.heap.size = w.heap.size + 1 := by rw [← hW1]; simp
  have hl1 : own W1 lb #[.int .i64 lc] 3 := by rw [← hW1]; exact hl.same (Below.heap_alloc _ _ _ hlt)
  have hz2 : (W1.alloc (.cells #[.string ⟨#[]⟩, .slice none 0 0, .string ⟨#[]⟩, .slice none 0 0] 37)).heap.size = w.heap.size + 1 + 1 := by simp [hz1]
  have hz3 : ((W1.alloc (.cells #[.string ⟨#[]⟩, .slice none 0 0, .string ⟨#[]⟩, .slice none 0 0] 37)).alloc (.cells #[.string (mk n), .slice none 0 0, .string (mk t), .slice none 0 0] 37)).heap.size = w.heap.size + 1 + 1 + 1 := by simp [hz1]
  have o1 : own ((W1.alloc (.cells #[.string ⟨#[]⟩, .slice none 0 0, .string ⟨#[]⟩, .slice none 0 0] 37)).alloc (.cells #[.string (mk n), .slice none 0 0, .string (mk t), .slice none 0 0] 37)) (w.heap.size + 1) #[.string ⟨#[]⟩, .slice none 0 0, .string ⟨#[]⟩, .slice none 0 0] 37 := by
    rw [← hz1]; exact own.same (own.new W1 _ _) (Below.heap_alloc _ _ _ (by rw [hz2, hz1]; omega))
  have o2 : own ((W1.alloc (.cells #[.string ⟨#[]⟩, .slice none 0 0, .string ⟨#[]⟩, .slice none 0 0] 37)).alloc (.cells #[.string (mk n), .slice none 0 0, .string (mk t), .slice none 0 0] 37)) (w.heap.size + 1 + 1) #[.string (mk n), .slice none 0 0, .string (mk t), .slice none 0 0] 37 := by
    rw [← hz2]; exact own.new _ _ _
  have o3 : own ((W1.alloc (.cells #[.string ⟨#[]⟩, .slice none 0 0, .string ⟨#[]⟩, .slice none 0 0] 37)).alloc (.cells #[.string (mk n), .slice none 0 0, .string (mk t), .slice none 0 0] 37)) lb #[.int .i64 lc] 3 := (hl1.same (Below.heap_alloc _ _ _ hl1.lt)).same (Below.heap_alloc _ _ _ (by rw [hz2]; omega))
  have hc : Chg (fun g => g = lb) W1 (((W1.alloc (.cells #[.string ⟨#[]⟩, .slice none 0 0, .string ⟨#[]⟩, .slice none 0 0] 37)).alloc (.cells #[.string (mk n), .slice none 0 0, .string (mk t), .slice none 0 0] 37)).setCell ⟨lb, 0, none⟩ (.int .i64 lc')) :=
    ((Chg.alloc (fun g => g = lb) W1 _).trans (Chg.alloc (fun g => g = lb) _ _) (fun x e => .inl e)).trans (Chg.setCell _ ⟨lb, 0, none⟩ _) (fun x e => .inl e)
  unfold begW
  rw [hW1]
  refine ⟨fun g => if g = w.heap.size + 1 + 1 then 2 else if g = w.heap.size + 1 then 5 else 0, none, 0, none, 0, [], o2.other (by show w.heap.size + 1 + 1 ≠ lb; omega) _, o1.other (by show w.heap.size + 1 ≠ lb; omega) _, by have := o3.set 0 (.int .i64 lc'); simpa using this, rOwn_nil _, rOwn_nil _, rfl, fun i y u hy => by simp at hy, if_pos rfl, ?_, fun g hg => by simp [Value.ownBlock] at hg, fun g hg => by simp [Value.ownBlock] at hg, fun g hg => ?_, hc, by rw [hz1]; omega⟩
  · show (if _ then _ else _) = _
    rw [if_neg (by omega), if_pos rfl]
  · rw [setCell_size, hz3, hz1]
    by_cases e1 : g = w.heap.size + 1 + 1
    · omega
    · by_cases e2 : g = w.heap.size + 1
      · omega
      · exact absurd (by show (if _ then _ else _) = _; rw [if_neg e1, if_neg e2]) hg
end Go.Proofs.YtjoeamlidmmioaaGreatDoor

