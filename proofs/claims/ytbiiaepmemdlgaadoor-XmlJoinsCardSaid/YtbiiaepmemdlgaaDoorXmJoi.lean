/-
  LAYER 11 (xml): XmlJoins: rows of tokens put behind one another.
-/
import Derived.Test.YtbiiaepmemdlgaaDoorXmSilW
namespace Go.Proofs.YtbiiaepmemdlgaaDoor
open Go.RowKit
set_option linter.unusedVariables false
set_option maxRecDepth 100000

/-- Two rows of tokens copied into one. -/
theorem tok_both {w W : World} {a1 a2 : Option Addr} {n1 n2 c1 c2 : Nat} {L1 L2 : List TkX} (hb : Below w.heap.size w W) (h1 : TokAt W (.slice a1 n1 c1) L1) (h2 : TokAt W (.slice a2 n2 c2) L2) (hl1 : L1.length ≤ 1000000) (hl2 : L2.length ≤ 1000000) (ty : TypeId) :
    ∃ ao1 cap1 W2 ao2 cap2 W3, (Builtin.append_ #[23, 23] ty #[.slice (some ⟨W.heap.size, 0, none⟩) 0 0, .slice a1 n1 c1]).run Tryd.prog (W.alloc (.cells #[] 36)) = .ok (.slice ao1 L1.length cap1) W2 ∧
      (Builtin.append_ #[23, 23] ty #[.slice ao1 L1.length cap1, .slice a2 n2 c2]).run Tryd.prog W2 = .ok (.slice ao2 (L1.length + L2.length) cap2) W3 ∧ TokAt W3 (.slice ao2 (L1.length + L2.length) cap2) (L1 ++ L2) ∧ Below W.heap.size W W3 := by
  have hba : Below W.heap.size W (W.alloc (.cells #[] 36)) := (Below.refl _ _).alloc (Nat.le_refl _) _
  obtain ⟨V1, r1, e1, k1⟩ := h1
  obtain ⟨V2, r2, e2, k2⟩ := h2
  have m0 : RMid tkTy W (W.alloc (.cells #[] 36)) (.slice (some ⟨W.heap.size, 0, none⟩) 0 0) [] := rMid_empty hba (own.new W #[] 36) (Nat.le_refl _)
  obtain ⟨ao1, cap1, W2, hr1, m1, _⟩ := m0.app tkTy_ok ty (r1.below hba) (by simp; omega)
  have m1b := m1.below
  obtain ⟨ao2, cap2, W3, hr2, m2, _⟩ := m1.app tkTy_ok ty (r2.below m1b) (by simp; omega)
  simp only [List.length_nil, Nat.zero_add, List.nil_append] at hr1 hr2 m1 m2
  rw [e1] at hr1 hr2 m2
  rw [e2] at hr2 m2
  refine ⟨ao1, cap1, W2, ao2, cap2, W3, hr1, hr2, ⟨V1 ++ V2, m2.row.rAt, by simp [e1, e2], fun i x t hx ht => ?_⟩, m2.below⟩
  rcases Nat.lt_or_ge i V1.length with hi | hi
  · rw [List.getElem?_append_left hi] at hx
    rw [List.getElem?_append_left (by omega)] at ht
    exact (k1 i x t hx ht).same (fun b _ hl => m2.below.block b hl) m2.below.size
  · rw [List.getElem?_append_right hi] at hx
    rw [List.getElem?_append_right (by omega), ← e1] at ht
    exact (k2 _ x t hx ht).same (fun b _ hl => m2.below.block b hl) m2.below.size
theorem tok_drop {w : World} {a : Option Addr} {n c k : Nat} {M : List TkX} (h : TokAt w (.slice a n c) M) (hk : k ≤ M.length) : TokAt w (tkTy.from a n c k) (M.drop k) := by
  obtain ⟨V, h1, h2, h3⟩ := h
  refine ⟨V.drop k, (h1.drop tkTy_ok (by rw [h2]; exact hk)).1, by simp [h2], fun i x t hx ht => ?_⟩
  rw [List.getElem?_drop] at hx ht
  exact h3 _ x t hx ht
/-- The tag between. -/
theorem join_at {w : World} {a : Option Addr} {n c : Nat} {L M : List TkX} (h : TokAt w (.slice a n c) (L ++ qq ++ M)) : ∃ sb so, a = some ⟨sb, so, none⟩ ∧ ∀ wx, Below w.heap.size w wx → wx.cell? ⟨sb, so + L.length * 4 + 1, none⟩ = some (.string ⟨#[113]⟩) ∧ wx.cell? ⟨sb, so + (L.length + 1) * 4, none⟩ = some (.int .i64 2) := by
  obtain ⟨a', c', e, hat⟩ := tks_at h
  cases e
  obtain ⟨sb, so, _, _, e0, -, f0⟩ := hat L.length (openT [113] []) (by simp [qq])
  obtain ⟨sb1, so1, _, _, e1, -, f1⟩ := hat (L.length + 1) (closeT [113]) (by simp [qq])
  subst e0
  cases e1
  exact ⟨sb, so, rfl, fun wx hb => ⟨(f0 wx hb).2.1, (f1 wx hb).1⟩⟩
theorem join_cut {w : World} {a : Option Addr} {n c : Nat} {L M : List TkX} (h : TokAt w (.slice a n c) (L ++ qq ++ M)) : TokAt w (.slice a L.length c) L ∧ ∃ a6 c6, tkTy.from a n c (L.length + 2) = .slice a6 M.length c6 ∧ TokAt w (.slice a6 M.length c6) M ∧ n ≤ c ∧ n = L.length + 2 + M.length ∧ (a = none → c = 0) := by
  have hq : qq.length = 2 := rfl
  obtain ⟨t1, t2, t3⟩ := tok_take h (k := L.length) (by simp)
  have t4 := tok_drop h (k := L.length + 2) (by simp [hq])
  rw [List.append_assoc, List.take_left] at t1
  rw [show L.length + 2 = (L ++ qq).length by simp [hq], List.drop_left] at t4
  obtain ⟨a', c', e, _⟩ := tks_at h
  simp only [Value.slice.injEq] at e
  obtain ⟨a6, c6, e6, _⟩ := tks_at t4
  rw [show (L ++ qq).length = L.length + 2 by simp [hq]] at e6 t4
  rw [e6] at t4
  have hn : n = L.length + 2 + M.length := by rw [e.2.1]; simp [hq]; omega
  obtain ⟨s1, s2, _⟩ := tok_take h (k := n) (by rw [e.2.1]; exact Nat.le_refl _)
  exact ⟨t1, a6, c6, e6, t4, s2, hn, t3⟩
theorem partX_two {s : List UInt8} {L : List TkX} {r : List UInt8} (h : partX s = some (.tags L, r)) : L.length ≤ 2 := by
  have hend : ∀ y, (endX y).map (fun x => (PtX.tags x.1, x.2)) = some (.tags L, r) → L.length ≤ 2 := by
    intro y hy
    obtain ⟨x, hx, e⟩ := Option.map_eq_some_iff.1 hy
    unfold endX at hx
    split at hx
    · cases hx
    · split at hx
      · cases hx; cases e; simp
      · cases hx
  have htag : ∀ y, (tagX y).map (fun x => (PtX.tags x.1, x.2)) = some (.tags L, r) → L.length ≤ 2 := by
    intro y hy
    obtain ⟨x, hx, e⟩ := Option.map_eq_some_iff.1 hy
    unfold tagX at hx
    split at hx
    · cases hx
    · obtain ⟨z, _, e2⟩ := Option.map_eq_some_iff.1 hx
      subst e2
      cases e
      split <;> simp
  unfold partX at h
  split at h
  · obtain ⟨x, _, e⟩ := Option.map_eq_some_iff.1 h; cases e
  split at h
  · obtain ⟨x, _, e⟩ := Option.map_eq_some_iff.1 h; cases e
  split at h
  · obtain ⟨x, _, e⟩ := Option.bind_eq_some_iff.1 h
    split at e <;> cases e
  split at h
  · obtain ⟨x, _, e⟩ := Option.map_eq_some_iff.1 h; cases e
  split at h
  · exact hend _ h
  split at h
  · exact htag _ h
  split at h
  · obtain ⟨x, _, e⟩ := Option.map_eq_some_iff.1 h; cases e
  split at h
  · cases h
  · cases h
theorem parts_few : ∀ (n : Nat) {s : List UInt8}, s.length ≤ n → ∀ w, (tokX w (partsX s).1).length ≤ 3 * s.length + 1
  | 0, s, h, w => by
    obtain rfl : s = [] := List.length_eq_zero_iff.1 (by omega)
    rw [partsX_nil]
    simp only [tokX]
    unfold endW
    split <;> simp
  | n + 1, s, h, w => by
    rcases hp : partX s with _ | ⟨p, r⟩
    · by_cases h0 : s = []
      · subst h0; rw [partsX_nil]; simp only [tokX]; unfold endW; split <;> simp
      · rw [partsX_bad h0 hp]; simp only [tokX]; unfold endW; split <;> simp
    · have hlt := partX_lt hp
      rw [partsX_some hp]
      cases p with
      | txt t =>
        simp only [tokX]
        have := parts_few n (s := r) (by omega) (w ++ t)
        omega
      | tags T =>
        simp only [tokX, List.length_append]
        have := parts_few n (s := r) (by omega) []
        have h2 := partX_two hp
        have : (endW w).length ≤ 1 := by unfold endW; split <;> simp
        omega
theorem read_few {s : List UInt8} {L : List TkX} {n : Nat} (h : readX s = (some L, n)) : L.length ≤ 3 * s.length + 1 := by
  obtain ⟨_, rfl, _⟩ := read_parts h
  exact parts_few s.length (Nat.le_refl _) []
set_option maxHeartbeats 16000000 in
theorem xmlJoins_any {w : World} (hG : Gb w.heap.size w) (s t : ByteArray) : Calls Tryd.prog 7 #[.string s, .string t] w fun e w' => e = .returned (.bool true) ∧ Below w.heap.size w w' := by
  have HS := hid (shown_any hG)
  by_cases hl : 3000 < s.size
  · have hlI : (3000 : Int) < (s.size : Int) := by omega
    clear hG
    go_enter Tryd.func7, Tryd.ntmps7
    go_wp2_with (go_at_call 8; (with_reducible refine HS.out.mono ?_); rintro e w1 ⟨rfl, hb1⟩)
    go_ret
    exact ⟨rfl, hb1⟩
  by_cases hc : 3000 < t.size
  · have hcI : (3000 : Int) < (t.size : Int) := by omega
    clear hG
    go_enter Tryd.func7, Tryd.ntmps7
    go_wp2_with (go_at_call 8; (with_reducible refine HS.out.mono ?_); rintro e w1 ⟨rfl, hb1⟩)
    go_ret
    exact ⟨rfl, hb1⟩
  have hlI : ¬ (3000 : Int) < (s.size : Int) := by omega
  have hcI : ¬ (3000 : Int) < (t.size : Int) := by omega
  have hsl : s.data.toList.length = s.size := str_len s
  have hcl : t.data.toList.length = t.size := str_len t
  have z1 : ¬ (9223372036854775807 < s.size + 4) := by omega
  have z2 : ¬ (9223372036854775807 < s.size + 4 + t.size) := by omega
  have hd : (s ++ ⟨#[60, 113, 47, 62]⟩ ++ t : ByteArray).data.toList = s.data.toList ++ [60, 113, 47, 62] ++ t.data.toList := by
    simp only [ByteArray.data_append, Array.toList_append]
  have hdl : (s ++ ⟨#[60, 113, 47, 62]⟩ ++ t : ByteArray).data.toList.length ≤ 20000 := by rw [hd]; simp; omega
  have hds : (s ++ ⟨#[60, 113, 47, 62]⟩ ++ t : ByteArray).size ≤ 1000000 := by rw [← str_len]; omega
  rcases read_cases (l := s.data.toList) (by omega) with ⟨L, n, h1, hR⟩ | ⟨n, h1, hR⟩
  · rcases read_cases (l := t.data.toList) (by omega) with ⟨M, m, h2, hR2⟩ | ⟨m, h2, hR2⟩
    · have R1 := hid (kRead hG s (by omega) _ hR)
      have R2 := hid (kRead hG t (by omega) _ hR2)
      have R3 := hid (kRead hG _ hds (L ++ qq ++ M, 0, 0) (readR_of hdl (by rw [hd]; exact read_join h1 h2)))
      have hqq : qq.length = 2 := rfl
      have hLl : Hid (L.length ≤ 1000000) := hid (by have := read_few h1; omega)
      have hMl : Hid (M.length ≤ 1000000) := hid (by have := read_few h2; omega)
      clear hG h1 h2 hR hR2 hd hdl hds
      go_enter Tryd.func7, Tryd.ntmps7
      go_wp2_with (first
        | (go_at_call 8; (with_reducible refine HS.out.mono ?_); rintro e w1 ⟨rfl, hb1⟩)
        | (go_at_call 9; first
          | ((with_reducible refine (R1.out _ hb1).mono ?_); rintro e w2 ⟨a2, c2, rfl, t2, hb2, _⟩)
          | ((with_reducible refine (R2.out _ hb2).mono ?_); rintro e w3 ⟨a3, c3, rfl, t3, hb3, bb3⟩)
          | ((with_reducible refine (R3.out _ hb3).mono ?_); rintro e w4 ⟨a4, c4, rfl, t4, hb4, bb4⟩; obtain ⟨ao1, cap1, W2, ao2, cap2, W3, g1, g2, tB, bB⟩ := tok_both hb4 ((t2.below bb3).below bb4) (t3.below bb4) hLl.out hMl.out 23; (have HAs := hid (as_any tB)); (have HT4 := hid t4); clear t4 tB))
        | (at_builtin; first
          | (refine wpList_append_at g1 rfl rfl _ _ rfl rfl rfl rfl ?_)
          | (refine wpList_append_at g2 rfl rfl _ _ rfl rfl rfl rfl ?_))
        | (go_at_call 11; (with_reducible refine HAs.out.mono ?_)))
      rintro e w5 ⟨hb5, rfl | ⟨a5, c5, rfl, k5, l5, m5⟩⟩
      · go_wp2
        go_ret
        exact ⟨rfl, hb4.trans ((bB.trans (hb5.mono bB.size)).mono hb4.size)⟩
      · obtain ⟨tL, a6, c6, e6, tM, hnc, hnn, hao⟩ := join_cut HT4.out
        obtain ⟨sb, so, rfl, hf⟩ := join_at HT4.out
        have hw5 := bB.trans (hb5.mono bB.size)
        have hw5d : Below w4.heap.size w4 w5.drew := Below.drew hw5
        obtain ⟨ao3, cap3, W4, ao4, cap4, W5, g3, g4, tC, bC⟩ := tok_both (W := w5.drew) (Below.drew (hb4.trans (hw5.mono hb4.size))) (tL.below hw5d) (tM.below hw5d) hLl.out hMl.out 23
        have g5 : (Builtin.append_ #[23, 23] 23 #[.slice (some ⟨w5.heap.size, 0, none⟩) 0 0, .slice (some ⟨sb, so, none⟩) L.length c4]).run Tryd.prog (w5.alloc (.cells #[] 36)).drew = .ok (.slice ao3 L.length cap3) W4 := g3
        clear g3
        have bK : Below w5.heap.size w5 W5 := (Below.drew (Below.refl _ _)).trans bC
        rw [List.length_append] at k5
        have HAl := hid (alike_same tC (k5.below bK) (by omega) (fun t ht => by have := m5 t ht; omega))
        have xs : ∀ wx : World, (Instr.slice 23 (.slice (some ⟨sb, so, none⟩) (L.length + (2 + M.length)) c4) none (some (.int .i64 (L.length : Nat))) none).run Tryd.prog wx = .ok (.slice (some ⟨sb, so, none⟩) L.length c4) wx := fun wx => run_to tkTy_ok wx (some ⟨sb, so, none⟩) (L.length + (2 + M.length)) c4 L.length (by omega) (fun h => by cases h)
        have xr : ∀ wx : World, (Instr.slice 23 (.slice (some ⟨sb, so, none⟩) (L.length + (2 + M.length)) c4) (some (.int .i64 ((L.length : Int) + 2))) none none).run Tryd.prog wx = .ok (.slice a6 M.length c6) wx := fun wx => by
          have := run_from tkTy_ok wx (some ⟨sb, so, none⟩) (L.length + (2 + M.length)) c4 (L.length + 2) (by omega) (by omega)
          rw [hnn, Nat.add_assoc] at e6
          rw [e6] at this
          exact this
        obtain ⟨x0, x1⟩ := hf _ hw5
        have HFin : Hid (∀ w9, Below W5.heap.size W5 w9 → Below w.heap.size w w9) := hid (fun w9 h9 => hb4.trans ((hw5.trans ((bK.trans (h9.mono bK.size)).mono hw5.size)).mono hb4.size))
        have hll : L.length ≤ 1000000 := hLl.out
        have hml : M.length ≤ 1000000 := hMl.out
        have hwr : IntKind.i64.wrap ((L.length : Int) + 2) = (L.length : Int) + 2 := by simp [IntKind.wrap, IntKind.signed, IntKind.bits]; omega
        clear tL tM tC hf e6 hao k5 m5 bK bC hw5d
        go_wp2
        go_region_law (first
          | (refine step_append_at g5 (by with_reducible rfl) rfl _ _ rfl rfl rfl rfl ?_)
          | (refine step_append_at g4 (by with_reducible rfl) rfl _ _ rfl rfl rfl rfl ?_)
          | (go_simp; go_wp2_with (go_at_call 12; (with_reducible refine HAl.out.mono ?_); rintro e w7 ⟨rfl, hb7⟩; (have HQ := hid (HFin.out _ hb7)); clear hb7)))
        all_goals
          go_wp2
          go_ret
          exact ⟨rfl, HQ.out⟩
    · have R1 := hid (kRead hG s (by omega) _ hR)
      have R2 := hid (kRead hG t (by omega) _ hR2)
      have R3 := hid (kRead hG _ hds ([], 8, (s.size : Int) + 4 + (m : Int)) (readR_bad hdl (by rw [hd]; exact read_join_bad h1 h2) _ (by rw [hsl]; simp)))
      have hm : m ≤ 3000 := by
        obtain ⟨r, _, e⟩ := read_parts_bad h2
        omega
      clear hG h1 h2 hR hR2 hd hdl hds
      go_enter Tryd.func7, Tryd.ntmps7
      go_wp2_with (first
        | (go_at_call 8; (with_reducible refine HS.out.mono ?_); rintro e w1 ⟨rfl, hb1⟩)
        | (go_at_call 9; first
          | ((with_reducible refine (R1.out _ hb1).mono ?_); rintro e w2 ⟨a2, c2, rfl, t2, hb2, _⟩)
          | ((with_reducible refine (R2.out _ hb2).mono ?_); rintro e w3 ⟨a3, c3, rfl, t3, hb3, _⟩)
          | ((with_reducible refine (R3.out _ hb3).mono ?_); rintro e w4 ⟨a4, c4, rfl, t4, hb4, _⟩)))
      go_ret
      exact ⟨rfl, hb4⟩
  · have R1 := hid (kRead hG s (by omega) _ hR)
    have R2 := hid (kRead hG t (by omega) _ rfl)
    rcases read_cases hdl with ⟨K, k, h3, hR3⟩ | ⟨k, h3, hR3⟩
    all_goals
      have R3 := hid (kRead hG _ hds _ hR3)
      clear hG h1 h3 hR hR3 hd hdl hds
      go_enter Tryd.func7, Tryd.ntmps7
      go_wp2_with (first
        | (go_at_call 8; (with_reducible refine HS.out.mono ?_); rintro e w1 ⟨rfl, hb1⟩)
        | (go_at_call 9; first
          | ((with_reducible refine (R1.out _ hb1).mono ?_); rintro e w2 ⟨a2, c2, rfl, t2, hb2, _⟩)
          | ((with_reducible refine (R2.out _ hb2).mono ?_); rintro e w3 ⟨a3, c3, rfl, t3, hb3, _⟩)
          | ((with_reducible refine (R3.out _ hb3).mono ?_); rintro e w4 ⟨a4, c4, rfl, t4, hb4, _⟩)))
      go_ret
      exact ⟨rfl, hb4⟩
end Go.Proofs.YtbiiaepmemdlgaaDoor
