import Derived.Test.YtjoeamlidmmioaaGreatDoorMq3J
import Derived.Test.YtjoeamlidmmioaaGreatDoorTrEndJ
import Derived.Laws.ResultCell
import Derived.Deep.RegionHeldLaw
import Derived.Deep.RegionLaw
import Derived.Deep.AppendLies
/-
  LAYER 12 (tree), THE DOCUMENT's: Build.
-/
namespace Go.Proofs.YtjoeamlidmmioaaGreatDoor
open Go.RowKit
set_option linter.unusedVariables false
set_option maxRecDepth 100000

/-- Few, and not too long. -/
structure RbS (k : Nat) (s : BdX) : Prop where
  h20 : s.op.length ≤ 20
  hw : ∀ e ∈ s.op, e.ws.flatten.length ≤ 100000 * k ∧ e.ks.length ≤ k
  hrt : s.root.isSome = true → s.op = []
def RbRel (B : Nat) (W : World) (L : List TkX) (v isv i : Value) (wr : World) : Prop := ∃ (k n cap : Nat) (s : BdX) (ao : Option Addr) (V : List NdV) (rx : NdV), k ≤ L.length ∧ i = .int .i64 k ∧ v = .slice ao n cap ∧ isv = .bool s.root.isSome ∧ n = s.op.length ∧ Hid (RbIs B W wr s ao n cap V rx) ∧ Hid (foldX bdX0 L = foldX s (L.drop k)) ∧ Hid (RbS k s)
def RbPost (w : World) (T : Tr × Int) (e : Ending) (w' : World) : Prop := ∃ x : NdV, e = .returned (.tuple #[.agg #[.string (mk x.n), .slice x.a x.am x.ac, .string (mk x.t), .slice x.k x.km x.kc], .int .i64 T.2]) ∧ NdIn raTy rdTy w' (fun g => g < w.heap.size → Two w g) x T.1 ∧ Below w.heap.size w w'
/-- The kids of the last but one, and one more. -/
theorem rb_kids {B : Nat} {W wr : World} {s : BdX} {ao : Option Addr} {n cap : Nat} {V : List NdV} {rx : NdV} (h : RbIs B W wr s ao n cap V rx) {d : OpX} {st : List OpX} (hs : s.op = d :: st) :
    ∃ y K, V[st.length]? = some y ∧ y.n = d.n ∧ y.km = d.ks.length ∧ RAt rdTy wr (.slice y.k y.km y.kc) K ∧ K.length = d.ks.length ∧ ∀ (x : NdV) (u : Tr) (w2 : World) (a2 : Option Addr) (n2 c2 : Nat), NdIn raTy rdTy wr (RbF W B wr (.slice ao n cap)) x u → RMid rdTy wr w2 (.slice a2 n2 c2) (K ++ [x]) → n2 = K.length + 1 →
      ∃ g, ao = some ⟨g, 0, none⟩ ∧ w2.cell? ⟨g, st.length * 4 + 3, none⟩ = some (.slice y.k y.km y.kc) ∧ w2.frozen? ⟨g, st.length * 4 + 3, none⟩ = false ∧ RbIs B W (w2.setCell ⟨g, st.length * 4 + 3, none⟩ (.slice a2 n2 c2)) ⟨{ d with ks := d.ks ++ [u] } :: st, s.root⟩ ao n cap (V.set st.length { y with k := a2, km := n2, kc := c2 }) rx := by
  obtain ⟨y, hy, hd⟩ := rb_last h hs
  obtain ⟨a, ac, k, kc, hye, ra, hfa, ⟨K, rk, hKl, hfk, hKs⟩, _⟩ := nd_open raTy_ok rdTy_ok rfl rfl hd
  refine ⟨y, K, hy, by rw [hye], by rw [hye], by rw [hye]; exact rk, hKl, fun x u w2 a2 n2 c2 hx hm hn2 => ?_⟩
  have hb := hm.below
  have hz := hb.size
  have h2 := rbIs_later h hb
  obtain ⟨g, hao, hc, hf, hR⟩ := rb_put (op' := { d with ks := d.ks ++ [u] } :: st) (y' := { y with k := a2, km := n2, kc := c2 }) (j := 3) (u := .slice a2 n2 c2) h2 hy (by decide) rfl (by rw [hs]; rfl) (fun i e hi he => by
    rw [hs]
    rw [List.reverse_cons] at he ⊢
    rcases Nat.lt_or_ge i st.length with q | q
    · rw [List.getElem?_append_left (by simp; exact q)] at he ⊢
      exact he
    · have := (List.getElem?_eq_some_iff.1 he).1
      simp at this
      omega) (fun e he => by
    rw [List.reverse_cons] at he
    simp at he
    subst he
    have hlast := hx
    have hF : ∀ b, RbF W B wr (.slice ao n cap) b → RbF W B w2 (.slice ao n cap) b := rbF_later hz
    refine .at _ _ (K ++ [x]) (by rw [hye]; rfl) (by rw [hye]; rfl) ?_ ?_ hm.row.rAt (fun _ g hg => ⟨hm.row.lt g hg, .inr ?_, fun q => ?_⟩) ?_ ?_
    · rw [hye]; exact (ra.below hb)
    · rw [hye]; exact fun hne g hg => hF g (hfa hne g hg)
    · have := hm.new g hg
      have := h.done.lt
      omega
    · have h1 := hm.new g hg
      have h3 := h.row.lt g q
      omega
    · show (K ++ [x]).length = (d.ks ++ [u]).length
      rw [List.length_append, List.length_append, hKl]; rfl
    · intro i y' u' hy' hu'
      have hu2 : (d.ks ++ [u])[i]? = some u' := hu'
      rcases Nat.lt_or_ge i K.length with q | q
      · rw [List.getElem?_append_left q] at hy'
        rw [List.getElem?_append_left (by rw [← hKl]; exact q)] at hu2
        exact ndIn_same (hKs i y' u' hy' hu2) (fun b hb2 _ => hb.block b hb2.1) hF hz
      · have hq : i = K.length := by
          have := (List.getElem?_eq_some_iff.1 hy').1
          simp at this; omega
        subst hq
        simp at hy'
        rw [hKl] at hu2
        simp at hu2
        subst hy' hu2
        exact ndIn_same hx (fun b hb2 _ => hb.block b hb2.1) hF hz)
  refine ⟨g, hao, ?_, hf, hR⟩
  rw [hc]; rfl
end Go.Proofs.YtjoeamlidmmioaaGreatDoor

