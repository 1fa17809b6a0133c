import Derived.Test.YtjoeamlidmmioaaGreatDoorTrSam2J
/-
  LAYER 12 (tree), THE LAWS' OWN HELPERS: node: what lies in memory while a tree is copied, up to some depth.
-/
namespace Go.Proofs.YtjoeamlidmmioaaGreatDoor
open Go.RowKit
set_option linter.unusedVariables false
set_option maxRecDepth 100000

/-- As ndIn_same, where the blocks that lie there are what F' is told of. -/
theorem ndIn_lt {A : RowTy AtX} {N : RowTy NdV} {w w' : World} {F F' : Nat → Prop} {x : NdV} {t : Tr} (h : NdIn A N w F x t) (hs : ∀ b, F b → b < w.heap.size → w'.heap[b]? = w.heap[b]?) (hF : ∀ b, F b → b < w.heap.size → F' b) (hz : w.heap.size ≤ w'.heap.size) : NdIn A N w' F' x t := by
  induction h with
  | «at» x t V hn ht ha hfa hk hfk hl hv ih =>
    refine .at x t V hn ht (rAt_same2 ha (fun hne b hb => hs b (hfa hne b hb)) hz) (fun hne g hg => hF g (hfa hne g hg) ?_) (rAt_same2 hk (fun hne b hb => hs b (hfk hne b hb)) hz) (fun hne g hg => hF g (hfk hne g hg) ?_) hl (fun i y u hy hu => ih i y u hy hu)
    · obtain ⟨_, _, e, _, _, _, h4⟩ := ha
      obtain ⟨sb, so, e2, hlt, _⟩ := h4 hne
      simp only [Value.slice.injEq] at e
      rw [e.1, e2] at hg
      simp [Value.ownBlock] at hg
      omega
    · obtain ⟨_, _, e, _, _, _, h4⟩ := hk
      obtain ⟨sb, so, e2, hlt, _⟩ := h4 hne
      simp only [Value.slice.injEq] at e
      rw [e.1, e2] at hg
      simp [Value.ownBlock] at hg
      omega
/-- ρ tells what part a block plays: 0 none, 1 a kid's, 2 out, 3 the attributes' row, 4 the kids' row, 5 the result. -/
structure NmIs (w wr : World) (ρ : Nat → Nat) (ob rb lb : Nat) (n t : List UInt8) (A : List AtX) (U : List Tr) (lc : Int) (aa : Option Addr) (ac : Nat) (ka : Option Addr) (kc : Nat) (KV : List NdV) : Prop where
  obx : own wr ob #[.string (mk n), .slice aa A.length ac, .string (mk t), .slice ka U.length kc] 37
  rbx : own wr rb #[.string ⟨#[]⟩, .slice none 0 0, .string ⟨#[]⟩, .slice none 0 0] 37
  lft : own wr lb #[.int .i64 lc] 3
  ats : ROwn raTy wr (.slice aa A.length ac) A
  kds : ROwn rdTy wr (.slice ka U.length kc) KV
  len : KV.length = U.length
  kid : ∀ (i : Nat) y u, KV[i]? = some y → U[i]? = some u → NdIn raTy rdTy wr (fun g => ρ g = 1) y u
  r2 : ρ ob = 2
  r5 : ρ rb = 5
  r3 : ∀ g, (Value.slice aa A.length ac).ownBlock = some g → ρ g = 3
  r4 : ∀ g, (Value.slice ka U.length kc).ownBlock = some g → ρ g = 4
  new : ∀ g, ρ g ≠ 0 → w.heap.size ≤ g ∧ g < wr.heap.size
  chg : Chg (fun g => g = lb) w wr
  llt : lb < w.heap.size
def NmHas (w wr : World) (ob rb lb : Nat) (n t : List UInt8) (A : List AtX) (U : List Tr) (lc : Int) : Prop := ∃ ρ aa ac ka kc KV, NmIs w wr ρ ob rb lb n t A U lc aa ac ka kc KV
section
variable {w wr w' : World} {ρ : Nat → Nat} {ob rb lb : Nat} {n t : List UInt8} {A : List AtX} {U : List Tr} {lc lc' : Int} {aa : Option Addr} {ac : Nat} {ka : Option Addr} {kc : Nat} {KV : List NdV}
/-- Only what plays no part has turned, the counter too. -/
theorem nm_keep (h : NmIs w wr ρ ob rb lb n t A U lc aa ac ka kc KV) (hk : ∀ g, ρ g ≠ 0 → w'.heap[g]? = wr.heap[g]?) (hz : wr.heap.size ≤ w'.heap.size) (hl : own w' lb #[.int .i64 lc'] 3) (hc : Chg (fun g => g = lb) w w') : NmIs w w' ρ ob rb lb n t A U lc' aa ac ka kc KV :=
  ⟨h.obx.same (hk ob (by rw [h.r2]; decide)), h.rbx.same (hk rb (by rw [h.r5]; decide)), hl, h.ats.same (fun g hg => hk g (by rw [h.r3 g hg]; decide)), h.kds.same (fun g hg => hk g (by rw [h.r4 g hg]; decide)), h.len,
    fun i y u hy hu => ndIn_same (h.kid i y u hy hu) (fun g hg _ => hk g (by rw [hg]; decide)) (fun g hg => hg) hz, h.r2, h.r5, h.r3, h.r4, fun g hg => ⟨(h.new g hg).1, by have := (h.new g hg).2; omega⟩, hc, h.llt⟩
theorem nm_later (h : NmIs w wr ρ ob rb lb n t A U lc aa ac ka kc KV) (hb : Below wr.heap.size wr w') : NmIs w w' ρ ob rb lb n t A U lc aa ac ka kc KV :=
  nm_keep h (fun g hg => hb.block g (h.new g hg).2) hb.size (h.lft.same (hb.block lb h.lft.lt)) (h.chg.trans (Chg.of_below (S := fun g => g = lb) hb) (fun x e => .inl e))
/-- A call that turned the counter alone. -/
theorem nm_call (h : NmIs w wr ρ ob rb lb n t A U lc aa ac ka kc KV) (hc : Chg (fun g => g = lb) wr w') (hl : own w' lb #[.int .i64 lc'] 3) : NmIs w w' ρ ob rb lb n t A U lc' aa ac ka kc KV :=
  nm_keep h (fun g hg => hc.block g (h.new g hg).2 (fun e => by have := (h.new g hg).1; have := h.llt; omega)) hc.size hl (h.chg.trans hc (fun x e => .inl e))
theorem nm_out (h : NmIs w wr ρ ob rb lb n t A U lc aa ac ka kc KV) : ∀ g, wr.heap.size ≤ g → ρ g = 0 := fun g hg2 => by
  by_cases h0 : ρ g = 0
  · exact h0
  · have := (h.new g h0).2; omega
/-- One attribute more. -/
theorem nm_attr (h : NmIs w wr ρ ob rb lb n t A U lc aa ac ka kc KV) (x : AtX) {gb : Nat} {cs : Array Value} {T : TypeId} (hob : own wr gb cs T) (hc : cs.toList = raTy.cs x) (hl : A.length ≤ 1000) :
    ∃ a c w5, (Builtin.append_ #[34, 34] 34 #[.slice aa A.length ac, .slice (some ⟨gb, 0, none⟩) 1 1]).run Tryz.prog wr = .ok (.slice a (A.length + 1) c) w5 ∧ w5.cell? ⟨ob, 1, none⟩ = some (.slice aa A.length ac) ∧ w5.frozen? ⟨ob, 1, none⟩ = false ∧ (∀ x, ρ x = 0 → x < wr.heap.size → w5.heap[x]? = wr.heap[x]?) ∧
      NmHas w (w5.setCell ⟨ob, 1, none⟩ (.slice a (A.length + 1) c)) ob rb lb n t (A ++ [x]) U lc := by
  obtain ⟨a, c, w5, ee, hro, hgr, hat⟩ := run_app raTy_ok wr 34 _ _ A [x] h.ats (rAt_box raTy_ok hob hc) (by simp; omega)
  simp only [List.length_singleton] at ee hro hat
  have hcg := Chg.of_grown hgr
  have hzz := hcg.size
  have hout := nm_out h
  have hk : ∀ g, ρ g ≠ 0 → ρ g ≠ 3 → w5.heap[g]? = wr.heap[g]? := fun g h0 h3 => hcg.block g (h.new g h0).2 (fun q => h3 (h.r3 g q))
  have hat2 : ∀ g, (Value.slice a (A.length + 1) c).ownBlock = some g → ρ g = 3 ∨ g = wr.heap.size := fun g hg2 => by
    rcases hat with q | q
    · rw [q] at hg2; exact .inl (h.r3 g hg2)
    · rw [q] at hg2; cases hg2; exact .inr rfl
  let ρ' : Nat → Nat := fun g => if (Value.slice a (A.length + 1) c).ownBlock = some g then 3 else ρ g
  have hrs : ∀ g, ρ g ≠ 0 → ρ g ≠ 3 → ρ' g = ρ g := fun g h0 h3 => by
    show (if _ then _ else _) = _
    rw [if_neg (fun q => by
      rcases hat2 g q with k | k
      · exact h3 k
      · exact h0 (hout g (by omega)))]
  have hkeep : ∀ g, ρ g ≠ 0 → ρ g ≠ 3 → ρ g ≠ 2 → (w5.setCell ⟨ob, 1, none⟩ (.slice a (A.length + 1) c)).heap[g]? = wr.heap[g]? := fun g h0 h3 h2 => by
    rw [Below.heap_setCell _ _ _ _ (fun q => h2 (by rw [show g = ob from q]; exact h.r2))]
    exact hk g h0 h3
  have hlb : ρ lb = 0 := by
    by_cases h0 : ρ lb = 0
    · exact h0
    · have := (h.new lb h0).1; have := h.llt; omega
  have hl5 : w5.heap[lb]? = wr.heap[lb]? := hcg.block lb h.lft.lt (fun q => by rw [h.r3 lb q] at hlb; cases hlb)
  have hlo : lb ≠ ob := fun q => by rw [q, h.r2] at hlb; cases hlb
  have ho5 := h.obx.same (hk ob (by rw [h.r2]; decide) (by rw [h.r2]; decide))
  have hne : ∀ g, (Value.slice a (A.length + 1) c).ownBlock = some g → g ≠ ob := fun g hg q => by
    subst q
    rcases hat2 g hg with k | k
    · rw [h.r2] at k; cases k
    · have := h.obx.lt; omega
  have hwz := h.chg.size
  refine ⟨a, c, w5, ee, by rw [ho5.cell]; rfl, ho5.frozen 1, fun x h0 hx => hcg.block x hx (fun q => by rw [h.r3 x q] at h0; cases h0), ρ', a, c, ka, kc, KV, ?_, h.rbx.same (hkeep rb (by rw [h.r5]; decide) (by rw [h.r5]; decide) (by rw [h.r5]; decide)), ?_, ?_, h.kds.same (fun g hg => hkeep g (by rw [h.r4 g hg]; decide) (by rw [h.r4 g hg]; decide) (by rw [h.r4 g hg]; decide)), h.len, ?_, ?_, ?_, ?_, ?_, ?_, ?_, h.llt⟩
  · rw [List.length_append, List.length_singleton]
    have := ho5.set 1 (.slice a (A.length + 1) c); simpa using this
  · exact (h.lft.same hl5).other hlo _
  · rw [List.length_append, List.length_singleton]
    exact hro.same (fun g hg => by rw [Below.heap_setCell _ _ _ _ (hne g hg)])
  · exact fun i y u hy hu => ndIn_same (h.kid i y u hy hu) (fun g hg _ => hkeep g (by omega) (by omega) (by omega)) (fun g hg => by rw [hrs g (by omega) (by omega)]; exact hg) (by rw [setCell_size]; exact hzz)
  · rw [hrs ob (by rw [h.r2]; decide) (by rw [h.r2]; decide)]; exact h.r2
  · rw [hrs rb (by rw [h.r5]; decide) (by rw [h.r5]; decide)]; exact h.r5
  · intro g hg
    rw [List.length_append, List.length_singleton] at hg
    exact if_pos hg
  · intro g hg
    rw [hrs g (by rw [h.r4 g hg]; decide) (by rw [h.r4 g hg]; decide)]; exact h.r4 g hg
  · intro g hg
    rw [setCell_size]
    by_cases q : (Value.slice a (A.length + 1) c).ownBlock = some g
    · have := hro.lt g q
      refine ⟨?_, by omega⟩
      rcases hat2 g q with k | k
      · exact (h.new g (by omega)).1
      · omega
    · have e1 : ρ' g = ρ g := if_neg q
      rw [e1] at hg
      have := h.new g hg
      omega
  · refine (h.chg.trans hcg (fun x q => ?_)).trans (Chg.setCell w5 ⟨ob, 1, none⟩ _) (fun x q => ?_)
    · have := (h.new x (by rw [h.r3 x q]; decide)).1; omega
    · have := (h.new ob (by rw [h.r2]; decide)).1
      have : x = ob := q
      omega
/-- One kid more: it was made behind the world w1. -/
theorem nm_kid (h : NmIs w wr ρ ob rb lb n t A U lc aa ac ka kc KV) {y : NdV} {u : Tr} {F : Nat → Prop} (hz : NdIn raTy rdTy wr F y u) (hF : ∀ g, F g → ρ g = 0 ∧ w.heap.size ≤ g) {gb : Nat} {cs : Array Value} {T : TypeId} (hob : own wr gb cs T) (hc : cs.toList = ndCs y) (hl : U.length ≤ 1000) :
    ∃ a c w5, (Builtin.append_ #[35, 35] 35 #[.slice ka U.length kc, .slice (some ⟨gb, 0, none⟩) 1 1]).run Tryz.prog wr = .ok (.slice a (U.length + 1) c) w5 ∧ w5.cell? ⟨ob, 3, none⟩ = some (.slice ka U.length kc) ∧ w5.frozen? ⟨ob, 3, none⟩ = false ∧ (∀ x, ρ x = 0 → x < wr.heap.size → w5.heap[x]? = wr.heap[x]?) ∧
      NmHas w (w5.setCell ⟨ob, 3, none⟩ (.slice a (U.length + 1) c)) ob rb lb n t A (U ++ [u]) lc := by
  obtain ⟨a, c, w5, ee, hro, hgr, hat⟩ := run_app rdTy_ok wr 35 _ _ KV [y] h.kds (rAt_box rdTy_ok hob hc) (by have := h.len; simp; omega)
  simp only [List.length_singleton, h.len] at ee hro hat
  have hcg := Chg.of_grown hgr
  have hzz := hcg.size
  have hout := nm_out h
  have hk : ∀ g, ρ g ≠ 0 → ρ g ≠ 4 → w5.heap[g]? = wr.heap[g]? := fun g h0 h3 => hcg.block g (h.new g h0).2 (fun q => h3 (h.r4 g q))
  have hat2 : ∀ g, (Value.slice a (U.length + 1) c).ownBlock = some g → ρ g = 4 ∨ g = wr.heap.size := fun g hg2 => by
    rcases hat with q | q
    · rw [q] at hg2; exact .inl (h.r4 g hg2)
    · rw [q] at hg2; cases hg2; exact .inr rfl
  have hFD : ∀ g, F g → g < wr.heap.size → (Value.slice a (U.length + 1) c).ownBlock ≠ some g := fun g hg hlt q => by
    rcases hat2 g q with k | k
    · rw [(hF g hg).1] at k; cases k
    · omega
  classical
  let ρ' : Nat → Nat := fun g => if (Value.slice a (U.length + 1) c).ownBlock = some g then 4 else if F g ∧ g < wr.heap.size then 1 else ρ g
  have hrs : ∀ g, ρ g ≠ 0 → ρ g ≠ 4 → ρ' g = ρ g := fun g h0 h3 => by
    show (if _ then _ else _) = _
    rw [if_neg (fun q => by
      rcases hat2 g q with k | k
      · exact h3 k
      · exact h0 (hout g (by omega))), if_neg (fun q => h0 (hF g q.1).1)]
  have hkeep : ∀ g, ρ g ≠ 0 → ρ g ≠ 4 → ρ g ≠ 2 → (w5.setCell ⟨ob, 3, none⟩ (.slice a (U.length + 1) c)).heap[g]? = wr.heap[g]? := fun g h0 h3 h2 => by
    rw [Below.heap_setCell _ _ _ _ (fun q => h2 (by rw [show g = ob from q]; exact h.r2))]
    exact hk g h0 h3
  have hkF : ∀ g, F g → g < wr.heap.size → (w5.setCell ⟨ob, 3, none⟩ (.slice a (U.length + 1) c)).heap[g]? = wr.heap[g]? := fun g hg hlt => by
    have h0 := (hF g hg).1
    rw [Below.heap_setCell _ _ _ _ (fun q => by rw [show g = ob from q, h.r2] at h0; cases h0)]
    exact hcg.block g hlt (fun q => by rw [h.r4 g q] at h0; cases h0)
  have hlb : ρ lb = 0 := by
    by_cases h0 : ρ lb = 0
    · exact h0
    · have := (h.new lb h0).1; have := h.llt; omega
  have hl5 : w5.heap[lb]? = wr.heap[lb]? := hcg.block lb h.lft.lt (fun q => by rw [h.r4 lb q] at hlb; cases hlb)
  have hlo : lb ≠ ob := fun q => by rw [q, h.r2] at hlb; cases hlb
  have ho5 := h.obx.same (hk ob (by rw [h.r2]; decide) (by rw [h.r2]; decide))
  have hne : ∀ g, (Value.slice a (U.length + 1) c).ownBlock = some g → g ≠ ob := fun g hg q => by
    subst q
    rcases hat2 g hg with k | k
    · rw [h.r2] at k; cases k
    · have := h.obx.lt; omega
  have hwz := h.chg.size
  refine ⟨a, c, w5, ee, by rw [ho5.cell]; rfl, ho5.frozen 3, fun x h0 hx => hcg.block x hx (fun q => by rw [h.r4 x q] at h0; cases h0), ρ', aa, ac, a, c, KV ++ [y], ?_, h.rbx.same (hkeep rb (by rw [h.r5]; decide) (by rw [h.r5]; decide) (by rw [h.r5]; decide)), ?_, h.ats.same (fun g hg => hkeep g (by rw [h.r3 g hg]; decide) (by rw [h.r3 g hg]; decide) (by rw [h.r3 g hg]; decide)), ?_, by simp [h.len], ?_, ?_, ?_, ?_, ?_, ?_, ?_, h.llt⟩
  · rw [List.length_append, List.length_singleton]
    have := ho5.set 3 (.slice a (U.length + 1) c); simpa using this
  · exact (h.lft.same hl5).other hlo _
  · rw [List.length_append, List.length_singleton]
    exact hro.same (fun g hg => by rw [Below.heap_setCell _ _ _ _ (hne g hg)])
  · intro i z v hz2 hv
    by_cases hi : i < KV.length
    · rw [List.getElem?_append_left hi] at hz2
      rw [List.getElem?_append_left (by rw [← h.len]; exact hi)] at hv
      exact ndIn_same (h.kid i z v hz2 hv) (fun g hg _ => hkeep g (by omega) (by omega) (by omega)) (fun g hg => by rw [hrs g (by omega) (by omega)]; exact hg) (by rw [setCell_size]; exact hzz)
    · have hi2 : i = KV.length := by
        have := (List.getElem?_eq_some_iff.1 hz2).1
        simp at this; omega
      subst hi2
      simp at hz2
      rw [h.len] at hv
      simp at hv
      subst hz2 hv
      refine ndIn_lt hz (fun g hg hlt => hkF g hg hlt) (fun g hg hlt => ?_) (by rw [setCell_size]; exact hzz)
      show (if _ then _ else _) = _
      rw [if_neg (hFD g hg hlt), if_pos ⟨hg, hlt⟩]
  · rw [hrs ob (by rw [h.r2]; decide) (by rw [h.r2]; decide)]; exact h.r2
  · rw [hrs rb (by rw [h.r5]; decide) (by rw [h.r5]; decide)]; exact h.r5
  · intro g hg
    rw [hrs g (by rw [h.r3 g hg]; decide) (by rw [h.r3 g hg]; decide)]; exact h.r3 g hg
  · intro g hg
    rw [List.length_append, List.length_singleton] at hg
    exact if_pos hg
  · intro g hg
    rw [setCell_size]
    by_cases q : (Value.slice a (U.length + 1) c).ownBlock = some g
    · have := hro.lt g q
      refine ⟨?_, by omega⟩
      rcases hat2 g q with k | k
      · exact (h.new g (by omega)).1
      · omega
    · by_cases q2 : F g ∧ g < wr.heap.size
      · exact ⟨(hF g q2.1).2, by omega⟩
      · have e1 : ρ' g = ρ g := by
          show (if _ then _ else _) = _
          rw [if_neg q, if_neg q2]
        rw [e1] at hg
        have := h.new g hg
        omega
  · refine (h.chg.trans hcg (fun x q => ?_)).trans (Chg.setCell w5 ⟨ob, 3, none⟩ _) (fun x q => ?_)
    · have := (h.new x (by rw [h.r4 x q]; decide)).1; omega
    · have := (h.new ob (by rw [h.r2]; decide)).1
      have : x = ob := q
      omega
end
end Go.Proofs.YtjoeamlidmmioaaGreatDoor

