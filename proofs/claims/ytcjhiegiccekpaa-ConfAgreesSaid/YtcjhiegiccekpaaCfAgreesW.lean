/-
  LAYER 9 (conf), the law ConfAgrees: its walk.
-/
import Derived.Test.YtcjhiegiccekpaaCfTurnsW
namespace Go.Proofs.Ytcjhiegiccekpaa
open Go.RowKit
set_option linter.unusedVariables false
set_option maxRecDepth 100000

theorem gt_more {ms : List Int} {k : Nat} (c : Int) (hk : k < ms.length) : gtC (ms.take (k + 1)) c = gtC (ms.take k) c + (if decide (c < ms.getD k 0) = true then 1 else 0) := by
  unfold gtC
  rw [take_more hk, List.countP_append, List.countP_singleton]
theorem has_more {ms : List Int} {k : Nat} (c : Int) (hk : k < ms.length) : hasC (ms.take (k + 1)) c = (hasC (ms.take k) c || decide (ms.getD k 0 = c)) := by
  unfold hasC
  rw [take_more hk]
  by_cases h1 : c ∈ ms.take k
  · rw [decide_eq_true h1, decide_eq_true (List.mem_append_left _ h1)]; rfl
  · by_cases h2 : ms.getD k 0 = c
    · rw [decide_eq_false h1, decide_eq_true h2, decide_eq_true (List.mem_append_right _ (by rw [h2]; exact List.mem_singleton.2 rfl))]; rfl
    · rw [decide_eq_false h1, decide_eq_false h2, decide_eq_false (fun e => by
        rcases List.mem_append.1 e with e | e
        · exact h1 e
        · exact h2 (List.mem_singleton.1 e).symm)]; rfl
theorem ge_set : ∀ (l : List Int) (k : Nat) (c x : Int), l.getD k 0 ≤ x → geC l c ≤ geC (l.set k x) c
  | [], k, c, x, h => by simp [geC]
  | y :: r, 0, c, x, h => by
    have h1 : y ≤ x := by simpa using h
    unfold geC
    rw [List.set_cons_zero, List.countP_cons, List.countP_cons]
    by_cases hc : c ≤ y
    · rw [if_pos (by simpa using hc), if_pos (by simp; omega)]; exact Nat.le_refl _
    · rw [if_neg (by simpa using hc)]; split <;> omega
  | y :: r, k + 1, c, x, h => by
    have ih := ge_set r k c x (by simpa using h)
    unfold geC at *
    rw [List.set_cons_succ, List.countP_cons, List.countP_cons]
    omega
def AlRel (ms : List Int) (n : Int) (w : World) (u9 u10 u11 u12 : Value) (wr : World) : Prop := ∃ (i c d : Nat) (b : Bool), i ≤ ms.length ∧ c ≤ i ∧ d ≤ i ∧ u9 = .bool b ∧ u10 = .int .i64 (c : Int) ∧ u11 = .int .i64 (d : Int) ∧ u12 = .int .i64 (i : Int) ∧ Below w.heap.size w wr ∧ Hid (b = hasC (ms.take i) n ∧ c = geC (ms.take i) n ∧ d = gtC (ms.take i) n)
set_option maxHeartbeats 16000000 in
theorem confAgrees_main (HP : CfProg) {w : World} {v : Value} {ms : List Int} (at_ more : Int) (ha : I64c at_) (hm : I64c more) (hv : NumIn w v ms) (hl : ms.length ≤ 40) (h0 : 0 < ms.length) : Calls Try.prog 6 #[v, .int .i64 at_, .int .i64 more] w (ShownPost9 w) := by
  have HS := hid (shown_any9 HP w)
  have K1 := hid (k_agreed HP hv)
  have HPh := hid HP
  have HV := hid hv
  have HMo := hid hm
  have hne : ms ≠ [] := fun e => by rw [e] at h0; simp at h0
  have HAg := hid (agreed_is hne)
  have HNe := hid hne
  have HPk := hid (fun wx => pick9_any at_ ms.length wx (by omega) (by omega) ha.1 ha.2)
  have hpr := pick9_range at_ ms.length (by omega)
  obtain ⟨ao, cap, rfl, hat⟩ := nums_in hv.row
  have HAt := hid hat
  have hlI : (ms.length : Int) ≤ 40 := by omega
  have h0I : (0 : Int) < (ms.length : Int) := by omega
  have q0 : ((ms.length : Int) == 0) = false := beq_false_of_ne (by omega)
  obtain ⟨A, hA⟩ : ∃ A, agreedC ms = A := ⟨_, rfl⟩
  rw [hA] at K1 HAg
  have HA := hid hA
  obtain ⟨k, hk⟩ : ∃ k : Nat, (k : Int) = pick9 at_ ms.length := ⟨(pick9 at_ ms.length).toNat, by omega⟩
  rw [← hk] at HPk hpr
  have hb : Below w.heap.size w w := Below.refl _ _
  clear hat hv hm ha HP hne hA hk
  obtain ⟨n, hn⟩ : ∃ n, ms.length = n := ⟨_, rfl⟩
  rw [hn] at HAt hl hlI h0I HV K1 HPk hpr h0 q0
  rw [hn]
  have HN := hid hn
  obtain ⟨hk0, hkn⟩ := hpr
  have hknN : k < n := by omega
  clear hn
  go_enter Try.func6, Try.ntmps6
  go_upto_region 9 with (first
    | (go_at_call 10; (with_reducible refine HS.out.mono ?_); rintro e w1 ⟨rfl, hb⟩)
    | (go_at_call 24; (with_reducible refine (K1.out _ hb).mono ?_); rintro e w2 ⟨rfl, hb⟩))
  clear HS K1
  go_loopw [9, 10, 11, 12] (AlRel ms A w) (fun _ _ _ i _ => n - (intOf i).toNat)
  case atStart => exact ⟨0, 0, 0, false, Nat.zero_le _, Nat.le_refl _, Nat.le_refl _, rfl, rfl, rfl, rfl, hb, hid ⟨by simp [hasC], by simp [geC], by simp [gtC]⟩⟩
  case round =>
    clear hb
    obtain ⟨i, c, d, b, hi, hci, hdi, rfl, rfl, rfl, rfl, hbw, hq⟩ := hrel
    by_cases hin : i < n
    · have hiI : (i : Int) < (n : Int) := by omega
      obtain ⟨sb, so, rfl, c0⟩ := HAt.out _ hbw i hin
      have hil : i < ms.length := by rw [HN.out]; exact hin
      obtain ⟨q1, q2, q3⟩ := hq.out
      have m1 := has_more A hil
      have m2 := ge_more A hil
      have m3 := gt_more A hil
      rw [← q1] at m1
      rw [← q2] at m2
      rw [← q3] at m3
      have HI : Hid (i + 1 ≤ ms.length) := hid hil
      generalize ms.getD i 0 = y at *
      clear q1 q2 q3 hil hi hq
      rcases Int.lt_trichotomy y A with h | h | h
      · have e1 : (y == A) = false := beq_false_of_ne (by omega)
        rw [decide_eq_false (by omega : ¬ y = A), Bool.or_false] at m1
        rw [decide_eq_false (by omega : ¬ A ≤ y)] at m2
        rw [decide_eq_false (by omega : ¬ A < y)] at m3
        have HQ : Hid (b = hasC (ms.take (i + 1)) A ∧ c = geC (ms.take (i + 1)) A ∧ d = gtC (ms.take (i + 1)) A) := hid ⟨m1.symm, m2.symm, m3.symm⟩
        clear m1 m2 m3
        cases b
        all_goals
          go_wp2
          go_roundw
          case rel => exact ⟨i + 1, c, d, _, HI.out, by omega, by omega, rfl, by go_num, by go_num, by go_num, hbw, HQ⟩
          case measure => simp [intOf]; omega
      · have e1 : (y == A) = true := by rw [h]; exact beq_self_eq_true _
        rw [decide_eq_true h, Bool.or_true] at m1
        rw [decide_eq_true (by omega : A ≤ y)] at m2
        rw [decide_eq_false (by omega : ¬ A < y)] at m3
        have HQ : Hid (true = hasC (ms.take (i + 1)) A ∧ c + 1 = geC (ms.take (i + 1)) A ∧ d = gtC (ms.take (i + 1)) A) := hid ⟨m1.symm, m2.symm, m3.symm⟩
        have hA1 : A ≤ y := by omega
        have hA2 : y ≤ A := by omega
        clear m1 m2 m3 h
        cases b
        all_goals
          go_wp2
          go_roundw
          case rel => exact ⟨i + 1, c + 1, d, _, HI.out, by omega, by omega, rfl, by go_num, by go_num, by go_num, hbw, HQ⟩
          case measure => simp [intOf]; omega
      · have e1 : (y == A) = false := beq_false_of_ne (by omega)
        rw [decide_eq_false (by omega : ¬ y = A), Bool.or_false] at m1
        rw [decide_eq_true (by omega : A ≤ y)] at m2
        rw [decide_eq_true h] at m3
        have HQ : Hid (b = hasC (ms.take (i + 1)) A ∧ c + 1 = geC (ms.take (i + 1)) A ∧ d + 1 = gtC (ms.take (i + 1)) A) := hid ⟨m1.symm, m2.symm, m3.symm⟩
        clear m1 m2 m3
        cases b
        all_goals
          go_wp2
          go_roundw
          case rel => exact ⟨i + 1, c + 1, d + 1, _, HI.out, by omega, by omega, rfl, by go_num, by go_num, by go_num, hbw, HQ⟩
          case measure => simp [intOf]; omega
    · have hiI : (n : Int) ≤ (i : Int) := by omega
      have hi2 : i ≤ n := by have := HN.out; omega
      obtain ⟨q1, q2, q3⟩ := hq.out
      rw [List.take_of_length_le (by have := HN.out; omega)] at q1 q2 q3
      obtain rfl : b = true := q1.trans (decide_eq_true HAg.out.mem)
      have g1 : n < 2 * c := by have := HAg.out.least; rw [← q2, HN.out] at this; exact this
      have g2 : 2 * d ≤ n := by have := HAg.out.above; rw [← q3, HN.out] at this; exact this
      have g1I : (n : Int) < 2 * (c : Int) := by omega
      have g2I : 2 * (d : Int) ≤ (n : Int) := by omega
      have hV2 := HV.out.below hbw
      have R0 : RMid numTy wr (wr.alloc (.cells #[] 3)) (.slice (some ⟨wr.heap.size, 0, none⟩) 0 0) [] := rMid_empty (below_lit wr _) (own.new wr #[] _) (Nat.le_refl _)
      obtain ⟨a3, b3, w3, e3, m3, -⟩ := R0.app numTy_ok 22 (hV2.row.below (below_lit wr _)) (by have := HN.out; simp; omega)
      rw [List.nil_append] at m3
      have z3 : ([] : List Int).length + ms.length = n := by have := HN.out; simp; omega
      rw [z3] at e3 m3
      have E3 : Hid ((Builtin.append_ #[22, 22] 22 #[.slice (some ⟨wr.heap.size, 0, none⟩) 0 0, .slice ao n cap]).run Try.prog (wr.alloc (.cells #[] 3)) = .ok (.slice a3 n b3) w3) := hid e3
      obtain ⟨g, rfl, hg, hcs, hfr⟩ := m3.row.at numTy_ok (by rw [HN.out]; exact h0)
      have hkl : k < ms.length := by rw [HN.out]; exact hknN
      obtain ⟨x, hx⟩ : ∃ x, ms[k]? = some x := ⟨_, List.getElem?_eq_getElem hkl⟩
      have hxd : ms.getD k 0 = x := by simp [List.getD, hx]
      have ck := hcs k x hx 0 (.int .i64 x) rfl
      rw [show k * numTy.n + 0 = k by show k * 1 + 0 = k; omega] at ck
      have fk := hfr k
      have HEnd : Hid (∀ x', x ≤ x' → I64c x' → NumIn (w3.setCell ⟨g, k, none⟩ (.int .i64 x')) (.slice (some ⟨g, 0, none⟩) n b3) (ms.set k x') ∧ A ≤ agreedC (ms.set k x') ∧ Below w.heap.size w (w3.setCell ⟨g, k, none⟩ (.int .i64 x'))) := hid (fun x' hx' hi' => by
        have h1 := m3.row.put numTy_ok (k := k) (j := 0) (x' := x') (u := .int .i64 x') hx (by show 0 < 1; omega) rfl
        rw [show k * numTy.n + 0 = k by show k * 1 + 0 = k; omega] at h1
        have hgw : wr.heap.size ≤ g := m3.new g rfl
        refine ⟨⟨h1.rAt, by rw [List.length_set]; have := HN.out; omega, fun z hz => ?_⟩, ?_, ?_⟩
        · rcases List.mem_or_eq_of_mem_set hz with e | e
          · exact HV.out.num z e
          · rw [e]; exact hi'
        · rw [← HA.out]
          exact agreed_more HNe.out (by rw [List.length_set]) (ge_set ms k _ x' (by rw [hxd]; exact hx'))
        · exact (hbw.trans (m3.below.mono hbw.size)).setCell (by show w.heap.size ≤ g; have := hbw.size; omega) _)
      have hxi : I64c x := HV.out.num x (List.mem_of_getElem? hx)
      have hxi1 := hxi.1
      have hxi2 := hxi.2
      have hmo1 := HMo.out.1
      have hmo2 := HMo.out.2
      have HXi := hid hxi
      clear R0 e3 m3 z3 hg hcs hfr hkl hx hxd hV2 hbw q1 q2 q3 hq hi HNe HA HAg HAt HV hxi
      by_cases hxm : x < more
      · obtain ⟨h1, h2, h3⟩ := HEnd.out more (by omega) HMo.out
        have K2 := hid (k_agreed HPh.out h1 _ (Below.refl _ _))
        have HB3 := hid h3
        obtain ⟨A2, hA2⟩ : ∃ q, agreedC (ms.set k more) = q := ⟨_, rfl⟩
        rw [hA2] at K2 h2
        clear h1 h3 HEnd hA2
        have hmax : max x more = more := by omega
        go_wp2_with (first
          | (at_builtin; refine wpList_append_at E3.out (by with_reducible rfl) rfl _ _ rfl rfl rfl rfl ?_)
          | (go_at_call 27; (with_reducible refine (HPk.out _).mono ?_); rintro e w5 ⟨rfl, rfl⟩)
          | (go_at_call 24; (with_reducible refine K2.out.mono ?_); rintro e w6 ⟨rfl, hb6⟩))
        go_ret
        exact ⟨by first | rfl | simp, HB3.out.trans (hb6.mono HB3.out.size)⟩
      · have hmx : more ≤ x := by omega
        obtain ⟨h1, h2, h3⟩ := HEnd.out x (Int.le_refl _) HXi.out
        have K2 := hid (k_agreed HPh.out h1 _ (Below.refl _ _))
        have HB3 := hid h3
        obtain ⟨A2, hA2⟩ : ∃ q, agreedC (ms.set k x) = q := ⟨_, rfl⟩
        rw [hA2] at K2 h2
        clear h1 h3 HEnd hA2 hxm
        have hmax : max x more = x := by omega
        go_wp2_with (first
          | (at_builtin; refine wpList_append_at E3.out (by with_reducible rfl) rfl _ _ rfl rfl rfl rfl ?_)
          | (go_at_call 27; (with_reducible refine (HPk.out _).mono ?_); rintro e w5 ⟨rfl, rfl⟩)
          | (go_at_call 24; (with_reducible refine K2.out.mono ?_); rintro e w6 ⟨rfl, hb6⟩))
        go_ret
        exact ⟨by first | rfl | simp, HB3.out.trans (hb6.mono HB3.out.size)⟩
set_option maxHeartbeats 4000000 in
theorem confAgrees_walk (HP : CfProg) {w : World} {v : Value} {ms : List Int} (at_ more : Int) (ha : I64c at_) (hm : I64c more) (hv : RAt numTy w v ms) (hvn : ∀ n ∈ ms, I64c n) : Calls Try.prog 6 #[v, .int .i64 at_, .int .i64 more] w (ShownPost9 w) := by
  by_cases hs : ms.length ≤ 40 ∧ 0 < ms.length
  · exact confAgrees_main HP at_ more ha hm ⟨hv, by omega, hvn⟩ hs.1 hs.2
  have HS := hid (shown_any9 HP w)
  obtain ⟨ao, cap, rfl, -⟩ := nums_in hv
  clear HP hv hvn
  by_cases h1 : ms.length ≤ 40
  · have h2 : ms.length = 0 := by omega
    rw [h2]
    clear hs h1 h2
    go_enter Try.func6, Try.ntmps6
    go_wp2_with (go_at_call 10; (with_reducible refine HS.out.mono ?_); rintro e w1 ⟨rfl, hb⟩)
    go_ret
    exact ⟨rfl, hb⟩
  · have hlI : (40 : Int) < (ms.length : Int) := by omega
    clear hs h1
    go_enter Try.func6, Try.ntmps6
    go_wp2_with (go_at_call 10; (with_reducible refine HS.out.mono ?_); rintro e w1 ⟨rfl, hb⟩)
    go_ret
    exact ⟨rfl, hb⟩
end Go.Proofs.Ytcjhiegiccekpaa
