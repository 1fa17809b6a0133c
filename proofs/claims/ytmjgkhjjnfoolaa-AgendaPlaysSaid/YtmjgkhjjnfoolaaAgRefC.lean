/-
  LAYER 5 (agenda), THE DOCUMENT's ANSWER: Put.
-/
import Derived.Test.YtmjgkhjjnfoolaaAgRefB
namespace Go.Proofs.Ytmjgkhjjnfoolaa
open Go.RowKit Go.Maps
set_option linter.unusedVariables false
set_option maxRecDepth 100000

theorem ThMid.app {w wx : World} {v u : Value} {L M : List It} (h : ThMid w wx v L) (hu : ThAt wx u M) (hl : L.length + M.length ≤ 10000) :
    ∃ ao cap w5, (Builtin.append_ #[26, 26] 26 #[v, u]).run Try.prog wx = .ok (.slice ao (L.length + M.length) cap) w5 ∧ ThMid w w5 (.slice ao (L.length + M.length) cap) (L ++ M) ∧ (∀ b, b < wx.heap.size → v.ownBlock ≠ some b → w5.heap[b]? = wx.heap[b]?) := by
  have hw := h.below.size
  obtain ⟨ao, cap, w5, hr, hrow, hg, hat⟩ := run_th wx 26 v u L M h.row hu hl
  refine ⟨ao, cap, w5, hr, ⟨hrow, fun b e => ?_, h.below.grown hg hw h.new⟩, fun b hb hne => (Chg.of_grown hg).block b hb hne⟩
  rcases hat with k | k
  · exact h.new b (by rw [← k]; exact e)
  · rw [k] at e; cases e; omega
theorem insS_at {M : List It} {x : It} {k : Nat} (hk : k ≤ M.length) (hb : ∀ y ∈ M.take k, bf y x = true) (hn : ∀ y r, M.drop k = y :: r → bf y x = false) : insS x M = M.take k ++ [x] ++ M.drop k := by
  induction M generalizing k with
  | nil => simp [insS]
  | cons y r ih =>
    cases k with
    | zero =>
      have := hn y r rfl
      simp [insS, this]
    | succ k =>
      have h1 := hb y (by simp)
      have h2 := ih (k := k) (by simpa using hk) (fun z hz => hb z (by simp [hz])) (fun z q e => hn z q e)
      simp [insS, h1, h2]
abbrev boxT (x y : Int) : Obj := .cells #[.int .i64 x, .int .i64 y] 44
abbrev box0 : Obj := .cells #[] 44
theorem mid0 {w wx : World} {g : Nat} (hb : Below w.heap.size w wx) (hg : wx.heap[g]? = some (.cells #[] 44 (0, 0))) (h : w.heap.size ≤ g) : ThMid w wx (.slice (some ⟨g, 0, none⟩) 0 0) [] :=
  ⟨⟨rfl, .inr ⟨g, 0, #[], rfl, Nat.zero_le _, hg, Nat.le_refl _, Nat.zero_le _, rfl, rfl⟩⟩, fun b e => by cases e; exact h, hb⟩
set_option maxHeartbeats 8000000 in
/-- The last statement: the row made anew, with the thing at its place. -/
theorem put_three {w : World} {ao : Option Addr} {cap : Nat} {M : List It} (hv : ThAt w (.slice ao M.length cap) M) (hl : M.length ≤ 1000) {k : Nat} (hk : k ≤ M.length) (x : It) :
    (∀ wx g0, ThMid w wx (.slice (some ⟨g0, 0, none⟩) 0 0) [] → ∃ a1 b1 wy, (Builtin.append_ #[26, 26] 26 #[.slice (some ⟨g0, 0, none⟩) 0 0, .slice ao k cap]).run Try.prog wx = .ok (.slice a1 k b1) wy ∧ ThMid w wy (.slice a1 k b1) (M.take k) ∧ (∀ b, b < wx.heap.size → b ≠ g0 → wy.heap[b]? = wx.heap[b]?)) ∧
    (∀ wx a1 b1 gF, ThMid w wx (.slice a1 k b1) (M.take k) → own wx gF #[.int .i64 x.1, .int .i64 x.2] 44 → ∃ a2 b2 wy2 a3 b3 wy3,
      (Builtin.append_ #[26, 26] 26 #[.slice a1 k b1, .slice (some ⟨gF, 0, none⟩) 1 1]).run Try.prog wx = .ok (.slice a2 (k + 1) b2) wy2 ∧
      (Builtin.append_ #[26, 26] 26 #[.slice a2 (k + 1) b2, fromV ao M.length cap k]).run Try.prog wy2 = .ok (.slice a3 (M.length + 1) b3) wy3 ∧ Hid (ThMid w wy3 (.slice a3 (M.length + 1) b3) (M.take k ++ [x] ++ M.drop k))) := by
  have hlen1 : (M.take k).length = k := by rw [List.length_take]; omega
  have hlen2 : (M.drop k).length = M.length - k := List.length_drop
  constructor
  · intro wx g0 h
    obtain ⟨a1, b1, wy, e, hm, hk2⟩ := h.app ((hv.take hk).below h.below) (by rw [hlen1]; simp; omega)
    rw [hlen1] at e hm
    rw [List.nil_append] at hm
    have hz : ([] : List It).length + k = k := by simp
    rw [hz] at e hm
    exact ⟨a1, b1, wy, e, hm, fun b hb hne => hk2 b hb (fun e => hne (by cases e; rfl))⟩
  · intro wx a1 b1 gF h ho
    obtain ⟨a2, b2, wy2, e2, m2, _⟩ := h.app (thAt_box ho) (by rw [hlen1]; simp; omega)
    rw [hlen1] at e2 m2
    have hl2 : (M.take k ++ [x]).length = k + 1 := by rw [List.length_append, hlen1]; rfl
    obtain ⟨a3, b3, wy3, e3, m3, _⟩ := m2.app (((hv.drop hk).1).below m2.below) (by rw [hl2, hlen2]; omega)
    rw [hl2, hlen2] at e3 m3
    have hz : k + 1 + (M.length - k) = M.length + 1 := by omega
    rw [hz] at e3 m3
    exact ⟨a2, b2, wy2, a3, b3, wy3, e2, e3, hid m3⟩
set_option maxHeartbeats 8000000 in
theorem refPut_any (w : World) (v : Value) (M : List It) (at_ id : Int) (hv : ThAt w v M) (hl : M.length + 1 ≤ 1000) :
    Calls Try.prog 17 #[v, .int .i64 at_, .int .i64 id] w fun e w' => ∃ v', e = .returned v' ∧ ThNew w w' v' (insS (at_, id) (delS id M)) := by
  have HDrop := hid (refDrop_any w v M id hv (by omega))
  have hl2 : (delS id M).length ≤ M.length := List.length_filter_le _ _
  clear hv
  go_enter Try.func17, Try.ntmps17
  go_wp2_with (go_at_call 12; (with_reducible refine HDrop.out.mono ?_); rintro e w1 ⟨v1, rfl, hN⟩)
  obtain ⟨N, hNM⟩ : ∃ N, delS id M = N := ⟨_, rfl⟩
  have HNM := hid hNM
  rw [hNM] at hN hl2
  rw [hNM]
  clear hNM
  obtain ⟨ao, cap, hve, hcap, hat⟩ := hN.row.at
  subst hve
  have HN := hid hN
  have HA := hid hat
  have HNo : Hid (ao = none → cap = 0) := hid (by obtain ⟨_, _, e, _, hn, _⟩ := hN.row; cases e; exact hn)
  have hN0 : N.length ≤ 999 := by omega
  clear hN hat HDrop hl2 hl
  go_loop [7] (fun i => ∃ k : Nat, k ≤ N.length ∧ i = .int .i64 (k : Int) ∧ Hid (∀ y ∈ N.take k, bf y (at_, id) = true)) (fun i => N.length - (intOf i).toNat)
  case atStart => exact ⟨0, Nat.zero_le _, rfl, hid (by simp)⟩
  case round =>
    obtain ⟨k, hk, rfl, hT⟩ := hrel
    by_cases hkl : k < N.length
    · obtain ⟨sb, so, rfl, hlt, c1, c2⟩ := HA.out k hkl
      have hkI : (k : Int) < (N.length : Int) := by omega
      have HS := hid (take_snoc_gt hkl)
      have HG : Hid (N.drop k = gt N k :: N.drop (k + 1)) := hid (by rw [gt_of hkl, List.drop_eq_getElem_cons hkl])
      have hbf := bf_iff (x := gt N k) (y := (at_, id))
      simp only at hbf
      by_cases h1 : (gt N k).1 < at_
      · have HB := hid (hbf.2 (.inl h1))
        clear hbf HG
        generalize gt N k = y at *
        go_wp2
        go_round
        case rel => exact ⟨k + 1, by omega, by go_num, hid (fun z hz => by
          rw [HS.out] at hz
          rcases List.mem_append.1 hz with hz | hz
          · exact hT.out z hz
          · simp at hz; subst hz; exact HB.out)⟩
        case measure => simp [intOf]; omega
      · by_cases h2 : (gt N k).1 = at_
        · have hq : ((gt N k).1 == at_) = true := by rw [h2]; simp
          by_cases h3 : (gt N k).2 < id
          · have HB := hid (hbf.2 (.inr ⟨h2, h3⟩))
            clear hbf HG h2
            generalize gt N k = y at *
            go_wp2
            go_round
            case rel => exact ⟨k + 1, by omega, by go_num, hid (fun z hz => by
              rw [HS.out] at hz
              rcases List.mem_append.1 hz with hz | hz
              · exact hT.out z hz
              · simp at hz; subst hz; exact HB.out)⟩
            case measure => simp [intOf]; omega
          · have HF : Hid (∀ y r, N.drop k = y :: r → bf y (at_, id) = false) := hid (fun y r e => by
              rw [HG.out] at e; cases e
              rw [bf_false]; simp only; omega)
            clear hbf HG h2 HS
            generalize gt N k = y at *
            obtain ⟨hA, hB⟩ := put_three HN.out.row (by omega) hk (at_, id)
            have l1 := fun wx => ths_to wx (some ⟨sb, so, none⟩) N.length cap k (by omega) HNo.out
            have l2 := fun wx => ths_from wx (some ⟨sb, so, none⟩) N.length cap k hk hcap
            have z0 : (w1.alloc box0).heap.size = w1.heap.size + 1 := by simp
            have z1 : (w1.alloc (boxT at_ id)).heap.size = w1.heap.size + 1 := by simp
            have B0 : Below w1.heap.size w1 (w1.alloc box0).drew := (Below.alloc (Below.refl _ _) (Nat.le_refl _) _).drew
            have B01 : Below w1.heap.size w1 ((w1.alloc box0).alloc (boxT at_ id)).drew := (Below.alloc (Below.alloc (Below.refl _ _) (Nat.le_refl _) _) (by simp) _).drew
            have B10 : Below w1.heap.size w1 ((w1.alloc (boxT at_ id)).alloc box0).drew := (Below.alloc (Below.alloc (Below.refl _ _) (Nat.le_refl _) _) (by simp) _).drew
            have R0 := mid0 B0 (heap_alloc_new w1 box0) (Nat.le_refl _)
            have R01 := mid0 (g := w1.heap.size) B01 (((Below.alloc (Below.refl _ _) (Nat.le_refl _) (boxT at_ id)).block _ (by rw [z0]; omega)).trans (heap_alloc_new w1 box0)) (Nat.le_refl _)
            have R10 := mid0 (g := w1.heap.size + 1) B10 (by rw [← z1]; exact heap_alloc_new (w1.alloc (boxT at_ id)) box0) (by omega)
            have O01 : own ((w1.alloc box0).alloc (boxT at_ id)).drew (w1.heap.size + 1) #[.int .i64 at_, .int .i64 id] 44 := by rw [← z0]; exact heap_alloc_new (w1.alloc box0) _
            have O10 : own ((w1.alloc (boxT at_ id)).alloc box0).drew w1.heap.size #[.int .i64 at_, .int .i64 id] 44 := ((Below.alloc (Below.refl _ _) (Nat.le_refl _) box0).block _ (by rw [z1]; omega)).trans (heap_alloc_new w1 (boxT at_ id))
            obtain ⟨aA, bA, wA, eA, mA, sA⟩ := hA _ _ R01
            obtain ⟨aB, bB, wB, eB, mB, sB⟩ := hA _ _ R10
            obtain ⟨aC, bC, wC, eC, mC, sC⟩ := hA _ _ R0
            have OA := own.same O01 (sA _ O01.lt (by omega))
            have OB := own.same O10 (sB _ O10.lt (by omega))
            have OC : own (wC.alloc (boxT at_ id)) wC.heap.size #[.int .i64 at_, .int .i64 id] 44 := heap_alloc_new wC _
            have bC1 : Below wC.heap.size wC (wC.alloc (boxT at_ id)) := Below.alloc (Below.refl _ _) (Nat.le_refl _) _
            have mC1 : ThMid w1 (wC.alloc (boxT at_ id)) (.slice aC k bC) (N.take k) := ⟨mC.row.same (fun b e => bC1.block b (mC.row.lt b e)), mC.new, mC.below.trans (bC1.mono mC.below.size)⟩
            obtain ⟨aA2, bA2, wA2, aA3, bA3, wA3, fA, gA, FA⟩ := hB _ _ _ _ mA OA
            obtain ⟨aB2, bB2, wB2, aB3, bB3, wB3, fB, gB, FB⟩ := hB _ _ _ _ mB OB
            obtain ⟨aC2, bC2, wC2, aC3, bC3, wC3, fC, gC, FC⟩ := hB _ _ _ _ mC1 OC
            have HEnd : Hid (∀ wy vy, ThMid w1 wy vy (N.take k ++ [(at_, id)] ++ N.drop k) → ThNew w wy vy (insS (at_, id) (delS id M))) := hid (fun wy vy hm => by
              rw [HNM.out, insS_at hk hT.out HF.out]
              have hf := hm.fin
              exact ⟨hf.row, fun b e => ⟨by have := HN.out.below.size; have := (hf.new b e).1; omega, (hf.new b e).2⟩, HN.out.below.trans (hf.below.mono HN.out.below.size)⟩)
            clear hA hB z0 z1 B0 B01 B10 R0 R01 R10 O01 O10 mA sA mB sB mC sC OA OB OC bC1 mC1 HF
            generalize fromV (some ⟨sb, so, none⟩) N.length cap k = vf at *
            have eA := hid eA
            have fA := hid fA
            have gA := hid gA
            have eB := hid eB
            have fB := hid fB
            have gB := hid gB
            have eC := hid eC
            have fC := hid fC
            have gC := hid gC
            go_wp2
            go_region_law (first
              | (refine step_append_at eA.out (by with_reducible rfl) rfl _ _ rfl rfl rfl rfl ?_)
              | (refine step_append_at fA.out (by with_reducible rfl) rfl _ _ rfl rfl rfl rfl ?_)
              | (refine step_append_at gA.out (by with_reducible rfl) rfl _ _ rfl rfl rfl rfl ?_)
              | (refine step_append_at eB.out (by with_reducible rfl) rfl _ _ rfl rfl rfl rfl ?_)
              | (refine step_append_at fB.out (by with_reducible rfl) rfl _ _ rfl rfl rfl rfl ?_)
              | (refine step_append_at gB.out (by with_reducible rfl) rfl _ _ rfl rfl rfl rfl ?_)
              | (refine step_append_at eC.out (by with_reducible rfl) rfl _ _ rfl rfl rfl rfl ?_)
              | (refine step_append_at fC.out (by with_reducible rfl) rfl _ _ rfl rfl rfl rfl ?_)
              | (refine step_append_at gC.out (by with_reducible rfl) rfl _ _ rfl rfl rfl rfl ?_))
            all_goals
              go_wp2
              go_ret
              first
                | exact ⟨_, rfl, HEnd.out _ _ FA.out⟩
                | exact ⟨_, rfl, HEnd.out _ _ FB.out⟩
                | exact ⟨_, rfl, HEnd.out _ _ FC.out⟩
        · have hq : ((gt N k).1 == at_) = false := beq_eq_false_iff_ne.2 h2
          have HF : Hid (∀ y r, N.drop k = y :: r → bf y (at_, id) = false) := hid (fun y r e => by
            rw [HG.out] at e; cases e
            rw [bf_false]; simp only; omega)
          clear hbf HG h2 HS
          generalize gt N k = y at *
          obtain ⟨hA, hB⟩ := put_three HN.out.row (by omega) hk (at_, id)
          have l1 := fun wx => ths_to wx (some ⟨sb, so, none⟩) N.length cap k (by omega) HNo.out
          have l2 := fun wx => ths_from wx (some ⟨sb, so, none⟩) N.length cap k hk hcap
          have z0 : (w1.alloc box0).heap.size = w1.heap.size + 1 := by simp
          have z1 : (w1.alloc (boxT at_ id)).heap.size = w1.heap.size + 1 := by simp
          have B0 : Below w1.heap.size w1 (w1.alloc box0).drew := (Below.alloc (Below.refl _ _) (Nat.le_refl _) _).drew
          have B01 : Below w1.heap.size w1 ((w1.alloc box0).alloc (boxT at_ id)).drew := (Below.alloc (Below.alloc (Below.refl _ _) (Nat.le_refl _) _) (by simp) _).drew
          have B10 : Below w1.heap.size w1 ((w1.alloc (boxT at_ id)).alloc box0).drew := (Below.alloc (Below.alloc (Below.refl _ _) (Nat.le_refl _) _) (by simp) _).drew
          have R0 := mid0 B0 (heap_alloc_new w1 box0) (Nat.le_refl _)
          have R01 := mid0 (g := w1.heap.size) B01 (((Below.alloc (Below.refl _ _) (Nat.le_refl _) (boxT at_ id)).block _ (by rw [z0]; omega)).trans (heap_alloc_new w1 box0)) (Nat.le_refl _)
          have R10 := mid0 (g := w1.heap.size + 1) B10 (by rw [← z1]; exact heap_alloc_new (w1.alloc (boxT at_ id)) box0) (by omega)
          have O01 : own ((w1.alloc box0).alloc (boxT at_ id)).drew (w1.heap.size + 1) #[.int .i64 at_, .int .i64 id] 44 := by rw [← z0]; exact heap_alloc_new (w1.alloc box0) _
          have O10 : own ((w1.alloc (boxT at_ id)).alloc box0).drew w1.heap.size #[.int .i64 at_, .int .i64 id] 44 := ((Below.alloc (Below.refl _ _) (Nat.le_refl _) box0).block _ (by rw [z1]; omega)).trans (heap_alloc_new w1 (boxT at_ id))
          obtain ⟨aA, bA, wA, eA, mA, sA⟩ := hA _ _ R01
          obtain ⟨aB, bB, wB, eB, mB, sB⟩ := hA _ _ R10
          obtain ⟨aC, bC, wC, eC, mC, sC⟩ := hA _ _ R0
          have OA := own.same O01 (sA _ O01.lt (by omega))
          have OB := own.same O10 (sB _ O10.lt (by omega))
          have OC : own (wC.alloc (boxT at_ id)) wC.heap.size #[.int .i64 at_, .int .i64 id] 44 := heap_alloc_new wC _
          have bC1 : Below wC.heap.size wC (wC.alloc (boxT at_ id)) := Below.alloc (Below.refl _ _) (Nat.le_refl _) _
          have mC1 : ThMid w1 (wC.alloc (boxT at_ id)) (.slice aC k bC) (N.take k) := ⟨mC.row.same (fun b e => bC1.block b (mC.row.lt b e)), mC.new, mC.below.trans (bC1.mono mC.below.size)⟩
          obtain ⟨aA2, bA2, wA2, aA3, bA3, wA3, fA, gA, FA⟩ := hB _ _ _ _ mA OA
          obtain ⟨aB2, bB2, wB2, aB3, bB3, wB3, fB, gB, FB⟩ := hB _ _ _ _ mB OB
          obtain ⟨aC2, bC2, wC2, aC3, bC3, wC3, fC, gC, FC⟩ := hB _ _ _ _ mC1 OC
          have HEnd : Hid (∀ wy vy, ThMid w1 wy vy (N.take k ++ [(at_, id)] ++ N.drop k) → ThNew w wy vy (insS (at_, id) (delS id M))) := hid (fun wy vy hm => by
            rw [HNM.out, insS_at hk hT.out HF.out]
            have hf := hm.fin
            exact ⟨hf.row, fun b e => ⟨by have := HN.out.below.size; have := (hf.new b e).1; omega, (hf.new b e).2⟩, HN.out.below.trans (hf.below.mono HN.out.below.size)⟩)
          clear hA hB z0 z1 B0 B01 B10 R0 R01 R10 O01 O10 mA sA mB sB mC sC OA OB OC bC1 mC1 HF
          generalize fromV (some ⟨sb, so, none⟩) N.length cap k = vf at *
          have eA := hid eA
          have fA := hid fA
          have gA := hid gA
          have eB := hid eB
          have fB := hid fB
          have gB := hid gB
          have eC := hid eC
          have fC := hid fC
          have gC := hid gC
          go_wp2
          go_region_law (first
            | (refine step_append_at eA.out (by with_reducible rfl) rfl _ _ rfl rfl rfl rfl ?_)
            | (refine step_append_at fA.out (by with_reducible rfl) rfl _ _ rfl rfl rfl rfl ?_)
            | (refine step_append_at gA.out (by with_reducible rfl) rfl _ _ rfl rfl rfl rfl ?_)
            | (refine step_append_at eB.out (by with_reducible rfl) rfl _ _ rfl rfl rfl rfl ?_)
            | (refine step_append_at fB.out (by with_reducible rfl) rfl _ _ rfl rfl rfl rfl ?_)
            | (refine step_append_at gB.out (by with_reducible rfl) rfl _ _ rfl rfl rfl rfl ?_)
            | (refine step_append_at eC.out (by with_reducible rfl) rfl _ _ rfl rfl rfl rfl ?_)
            | (refine step_append_at fC.out (by with_reducible rfl) rfl _ _ rfl rfl rfl rfl ?_)
            | (refine step_append_at gC.out (by with_reducible rfl) rfl _ _ rfl rfl rfl rfl ?_))
          all_goals
            go_wp2
            go_ret
            first
              | exact ⟨_, rfl, HEnd.out _ _ FA.out⟩
              | exact ⟨_, rfl, HEnd.out _ _ FB.out⟩
              | exact ⟨_, rfl, HEnd.out _ _ FC.out⟩
    · obtain rfl : k = N.length := by omega
      have HF : Hid (∀ y r, N.drop N.length = y :: r → bf y (at_, id) = false) := hid (fun y r e => by rw [List.drop_length] at e; cases e)
      obtain ⟨hA, hB⟩ := put_three HN.out.row (by omega) (Nat.le_refl _) (at_, id)
      have l1 := fun wx => ths_to wx ao N.length cap N.length (by omega) HNo.out
      have l2 := fun wx => ths_from wx ao N.length cap N.length (Nat.le_refl _) hcap
      have z0 : (w1.alloc box0).heap.size = w1.heap.size + 1 := by simp
      have z1 : (w1.alloc (boxT at_ id)).heap.size = w1.heap.size + 1 := by simp
      have B0 : Below w1.heap.size w1 (w1.alloc box0).drew := (Below.alloc (Below.refl _ _) (Nat.le_refl _) _).drew
      have B01 : Below w1.heap.size w1 ((w1.alloc box0).alloc (boxT at_ id)).drew := (Below.alloc (Below.alloc (Below.refl _ _) (Nat.le_refl _) _) (by simp) _).drew
      have B10 : Below w1.heap.size w1 ((w1.alloc (boxT at_ id)).alloc box0).drew := (Below.alloc (Below.alloc (Below.refl _ _) (Nat.le_refl _) _) (by simp) _).drew
      have R0 := mid0 B0 (heap_alloc_new w1 box0) (Nat.le_refl _)
      have R01 := mid0 (g := w1.heap.size) B01 (((Below.alloc (Below.refl _ _) (Nat.le_refl _) (boxT at_ id)).block _ (by rw [z0]; omega)).trans (heap_alloc_new w1 box0)) (Nat.le_refl _)
      have R10 := mid0 (g := w1.heap.size + 1) B10 (by rw [← z1]; exact heap_alloc_new (w1.alloc (boxT at_ id)) box0) (by omega)
      have O01 : own ((w1.alloc box0).alloc (boxT at_ id)).drew (w1.heap.size + 1) #[.int .i64 at_, .int .i64 id] 44 := by rw [← z0]; exact heap_alloc_new (w1.alloc box0) _
      have O10 : own ((w1.alloc (boxT at_ id)).alloc box0).drew w1.heap.size #[.int .i64 at_, .int .i64 id] 44 := ((Below.alloc (Below.refl _ _) (Nat.le_refl _) box0).block _ (by rw [z1]; omega)).trans (heap_alloc_new w1 (boxT at_ id))
      obtain ⟨aA, bA, wA, eA, mA, sA⟩ := hA _ _ R01
      obtain ⟨aB, bB, wB, eB, mB, sB⟩ := hA _ _ R10
      obtain ⟨aC, bC, wC, eC, mC, sC⟩ := hA _ _ R0
      have OA := own.same O01 (sA _ O01.lt (by omega))
      have OB := own.same O10 (sB _ O10.lt (by omega))
      have OC : own (wC.alloc (boxT at_ id)) wC.heap.size #[.int .i64 at_, .int .i64 id] 44 := heap_alloc_new wC _
      have bC1 : Below wC.heap.size wC (wC.alloc (boxT at_ id)) := Below.alloc (Below.refl _ _) (Nat.le_refl _) _
      have mC1 : ThMid w1 (wC.alloc (boxT at_ id)) (.slice aC N.length bC) (N.take N.length) := ⟨mC.row.same (fun b e => bC1.block b (mC.row.lt b e)), mC.new, mC.below.trans (bC1.mono mC.below.size)⟩
      obtain ⟨aA2, bA2, wA2, aA3, bA3, wA3, fA, gA, FA⟩ := hB _ _ _ _ mA OA
      obtain ⟨aB2, bB2, wB2, aB3, bB3, wB3, fB, gB, FB⟩ := hB _ _ _ _ mB OB
      obtain ⟨aC2, bC2, wC2, aC3, bC3, wC3, fC, gC, FC⟩ := hB _ _ _ _ mC1 OC
      have HEnd : Hid (∀ wy vy, ThMid w1 wy vy (N.take N.length ++ [(at_, id)] ++ N.drop N.length) → ThNew w wy vy (insS (at_, id) (delS id M))) := hid (fun wy vy hm => by
        rw [HNM.out, insS_at (Nat.le_refl _) hT.out HF.out]
        have hf := hm.fin
        exact ⟨hf.row, fun b e => ⟨by have := HN.out.below.size; have := (hf.new b e).1; omega, (hf.new b e).2⟩, HN.out.below.trans (hf.below.mono HN.out.below.size)⟩)
      clear hA hB z0 z1 B0 B01 B10 R0 R01 R10 O01 O10 mA sA mB sB mC sC OA OB OC bC1 mC1 HF
      generalize fromV ao N.length cap N.length = vf at *
      have eA := hid eA
      have fA := hid fA
      have gA := hid gA
      have eB := hid eB
      have fB := hid fB
      have gB := hid gB
      have eC := hid eC
      have fC := hid fC
      have gC := hid gC
      go_wp2
      go_region_law (first
        | (refine step_append_at eA.out (by with_reducible rfl) rfl _ _ rfl rfl rfl rfl ?_)
        | (refine step_append_at fA.out (by with_reducible rfl) rfl _ _ rfl rfl rfl rfl ?_)
        | (refine step_append_at gA.out (by with_reducible rfl) rfl _ _ rfl rfl rfl rfl ?_)
        | (refine step_append_at eB.out (by with_reducible rfl) rfl _ _ rfl rfl rfl rfl ?_)
        | (refine step_append_at fB.out (by with_reducible rfl) rfl _ _ rfl rfl rfl rfl ?_)
        | (refine step_append_at gB.out (by with_reducible rfl) rfl _ _ rfl rfl rfl rfl ?_)
        | (refine step_append_at eC.out (by with_reducible rfl) rfl _ _ rfl rfl rfl rfl ?_)
        | (refine step_append_at fC.out (by with_reducible rfl) rfl _ _ rfl rfl rfl rfl ?_)
        | (refine step_append_at gC.out (by with_reducible rfl) rfl _ _ rfl rfl rfl rfl ?_))
      all_goals
        go_wp2
        go_ret
        first
          | exact ⟨_, rfl, HEnd.out _ _ FA.out⟩
          | exact ⟨_, rfl, HEnd.out _ _ FB.out⟩
          | exact ⟨_, rfl, HEnd.out _ _ FC.out⟩
end Go.Proofs.Ytmjgkhjjnfoolaa
