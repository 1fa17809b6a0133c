/-
  LAYER 9 (conf), the laws ConfRows and ConfMost: their walks.
-/
import Derived.Test.YtcjhiegiccekpaaCfCalls
namespace Go.Proofs.Ytcjhiegiccekpaa
open Go.RowKit
set_option linter.unusedVariables false
set_option maxRecDepth 100000

set_option maxHeartbeats 8000000 in
theorem confRows_main (HP : CfProg) {w : World} {v u : Value} {l m : List Int} (x : Int) (hx : I64c x) (hv : NumIn w v l) (hu : NumIn w u m) (hl : l.length ≤ 60) (hm : m.length ≤ 60) : Calls Try.prog 3 #[v, u, .int .i64 x] w (ShownPost9 w) := by
  have HS := hid (shown_any9 HP w)
  have K1 := hid (k_right HP hv)
  have K2 := hid (d_right hv)
  have K3 := hid (k_next HP hv hu)
  have K4 := hid (d_next hv hu)
  have K5 := hid (k_has HP hv x hx)
  have K6 := hid (d_has hv x)
  have K7 := hid (k_with HP hv x hx)
  have K8 := hid (d_with hv x)
  have K9 := hid (k_without HP hv x hx)
  have K10 := hid (d_without hv x)
  have HLw := hid (with_len l x)
  have HLo := hid (without_len l x)
  obtain ⟨b1, h1⟩ : ∃ b, rightC l = b := ⟨_, rfl⟩
  obtain ⟨b2, h2⟩ : ∃ b, nextC l m = b := ⟨_, rfl⟩
  obtain ⟨b3, h3⟩ : ∃ b, hasC l x = b := ⟨_, rfl⟩
  rw [h1] at K1 K2
  rw [h2] at K3 K4
  rw [h3] at K5 K6
  obtain ⟨ao, cap, rfl, -⟩ := nums_in hv.row
  obtain ⟨bo, cap2, rfl, -⟩ := nums_in hu.row
  have hlI : (l.length : Int) ≤ 60 := by omega
  have hmI : (m.length : Int) ≤ 60 := by omega
  have HH := hid hl
  obtain ⟨A, hA⟩ : ∃ A, withC l x = A := ⟨_, rfl⟩
  obtain ⟨B, hB⟩ : ∃ B, withoutC l x = B := ⟨_, rfl⟩
  rw [hA] at K7 K8 HLw
  rw [hB] at K9 K10 HLo
  have q1 : (b1 == b1) = true := beq_self_eq_true _
  have q2 : (b2 == b2) = true := beq_self_eq_true _
  have q3 : (b3 == b3) = true := beq_self_eq_true _
  have hb : Below w.heap.size w w := Below.refl _ _
  clear HP hv hu h1 h2 h3 hA hB hl hm
  go_enter Try.func3, Try.ntmps3
  go_wp2_with (first
    | (go_at_call 10; (with_reducible refine HS.out.mono ?_); rintro e w1 ⟨rfl, hb⟩)
    | (go_at_call 11; (with_reducible refine (K1.out _ hb).mono ?_); rintro e w2 ⟨rfl, hb⟩)
    | (go_at_call 12; (with_reducible refine (K2.out _ hb).mono ?_); rintro e w3 ⟨rfl, hb⟩)
    | (go_at_call 13; (with_reducible refine (K3.out _ hb).mono ?_); rintro e w4 ⟨rfl, hb⟩)
    | (go_at_call 14; (with_reducible refine (K4.out _ hb).mono ?_); rintro e w5 ⟨rfl, hb⟩)
    | (go_at_call 15; (with_reducible refine (K5.out _ hb).mono ?_); rintro e w6 ⟨rfl, hb⟩)
    | (go_at_call 16; (with_reducible refine (K6.out _ hb).mono ?_); rintro e w7 ⟨rfl, hb⟩)
    | (go_at_call 18; (with_reducible refine (K7.out _ hb).mono ?_); rintro e w8 ⟨a8, _, c8, rfl, rfl, h8, hb⟩)
    | (go_at_call 19; (with_reducible refine (K8.out _ _ _ h8.out hb).mono ?_); rintro e w9 ⟨a9, _, c9, rfl, rfl, h9, hb⟩; have C1 := hid (k_same hb h9.out.2 h9.out.1 (by have := HLw.out; have := HH.out; omega)))
    | (go_at_call 17; (with_reducible refine C1.out.mono ?_); rintro e w10 ⟨rfl, hb⟩)
    | (go_at_call 20; (with_reducible refine (K9.out _ hb).mono ?_); rintro e w11 ⟨a11, _, c11, rfl, rfl, h11, hb⟩)
    | (go_at_call 21; (with_reducible refine (K10.out _ _ _ h11.out hb).mono ?_); rintro e w12 ⟨a12, _, c12, rfl, rfl, h12, hb⟩; have C2 := hid (k_same hb h12.out.2 h12.out.1 (by have := HLo.out; have := HH.out; omega)))
    | (go_at_call 17; (with_reducible refine C2.out.mono ?_); rintro e w13 ⟨rfl, hb⟩))
  go_ret
  exact ⟨by first | rfl | simp, hb⟩
set_option maxHeartbeats 4000000 in
theorem confRows_walk (HP : CfProg) {w : World} {v u : Value} {l m : List Int} (x : Int) (hx : I64c x) (hv : RAt numTy w v l) (hvn : ∀ n ∈ l, I64c n) (hu : RAt numTy w u m) (hun : ∀ n ∈ m, I64c n) : Calls Try.prog 3 #[v, u, .int .i64 x] w (ShownPost9 w) := by
  by_cases hs : l.length ≤ 60 ∧ m.length ≤ 60
  · exact confRows_main HP x hx ⟨hv, by omega, hvn⟩ ⟨hu, by omega, hun⟩ hs.1 hs.2
  have HS := hid (shown_any9 HP w)
  obtain ⟨ao, cap, rfl, -⟩ := nums_in hv
  obtain ⟨bo, cap2, rfl, -⟩ := nums_in hu
  clear HP hv hu hvn hun
  by_cases h1 : l.length ≤ 60
  · have hlI : (l.length : Int) ≤ 60 := by omega
    have hmI : (60 : Int) < (m.length : Int) := by omega
    clear hs h1
    go_enter Try.func3, Try.ntmps3
    go_wp2_with (go_at_call 10; (with_reducible refine HS.out.mono ?_); rintro e w1 ⟨rfl, hb⟩)
    go_ret
    exact ⟨rfl, hb⟩
  · have hlI : (60 : Int) < (l.length : Int) := by omega
    clear hs h1
    go_enter Try.func3, Try.ntmps3
    go_wp2_with (go_at_call 10; (with_reducible refine HS.out.mono ?_); rintro e w1 ⟨rfl, hb⟩)
    go_ret
    exact ⟨rfl, hb⟩
set_option maxHeartbeats 8000000 in
theorem confMost_main (HP : CfProg) {w : World} {v u t : Value} {l m k : List Int} (hv : NumIn w v l) (hu : NumIn w u m) (ht : NumIn w t k) (hl : l.length ≤ 60) (hm : m.length ≤ 60) (hk : k.length ≤ 60) : Calls Try.prog 4 #[v, u, t] w (ShownPost9 w) := by
  have HS := hid (shown_any9 HP w)
  have K1 := hid (k_most HP hv hu)
  have K2 := hid (d_most hv hu)
  have K3 := hid (k_agreed HP ht)
  have K4 := hid (d_agreed ht)
  obtain ⟨b1, h1⟩ : ∃ b, mostC l m = b := ⟨_, rfl⟩
  obtain ⟨b2, h2⟩ : ∃ b, agreedC k = b := ⟨_, rfl⟩
  rw [h1] at K1 K2
  rw [h2] at K3 K4
  obtain ⟨ao, cap, rfl, -⟩ := nums_in hv.row
  obtain ⟨bo, cap2, rfl, -⟩ := nums_in hu.row
  obtain ⟨co, cap3, rfl, -⟩ := nums_in ht.row
  have hlI : (l.length : Int) ≤ 60 := by omega
  have hmI : (m.length : Int) ≤ 60 := by omega
  have hkI : (k.length : Int) ≤ 60 := by omega
  have q1 : (b1 == b1) = true := beq_self_eq_true _
  have q2 : (b2 == b2) = true := beq_self_eq_true _
  have hb : Below w.heap.size w w := Below.refl _ _
  clear HP hv hu ht h1 h2 hl hm hk
  go_enter Try.func4, Try.ntmps4
  go_wp2_with (first
    | (go_at_call 10; (with_reducible refine HS.out.mono ?_); rintro e w1 ⟨rfl, hb⟩)
    | (go_at_call 22; (with_reducible refine (K1.out _ hb).mono ?_); rintro e w2 ⟨rfl, hb⟩)
    | (go_at_call 23; (with_reducible refine (K2.out _ hb).mono ?_); rintro e w3 ⟨rfl, hb⟩)
    | (go_at_call 24; (with_reducible refine (K3.out _ hb).mono ?_); rintro e w4 ⟨rfl, hb⟩)
    | (go_at_call 25; (with_reducible refine (K4.out _ hb).mono ?_); rintro e w5 ⟨rfl, hb⟩))
  go_ret
  exact ⟨by first | rfl | simp, hb⟩
set_option maxHeartbeats 4000000 in
theorem confMost_walk (HP : CfProg) {w : World} {v u t : Value} {l m k : List Int} (hv : RAt numTy w v l) (hvn : ∀ n ∈ l, I64c n) (hu : RAt numTy w u m) (hun : ∀ n ∈ m, I64c n) (ht : RAt numTy w t k) (htn : ∀ n ∈ k, I64c n) : Calls Try.prog 4 #[v, u, t] w (ShownPost9 w) := by
  by_cases hs : l.length ≤ 60 ∧ m.length ≤ 60 ∧ k.length ≤ 60
  · exact confMost_main HP ⟨hv, by omega, hvn⟩ ⟨hu, by omega, hun⟩ ⟨ht, by omega, htn⟩ hs.1 hs.2.1 hs.2.2
  have HS := hid (shown_any9 HP w)
  obtain ⟨ao, cap, rfl, -⟩ := nums_in hv
  obtain ⟨bo, cap2, rfl, -⟩ := nums_in hu
  obtain ⟨co, cap3, rfl, -⟩ := nums_in ht
  clear HP hv hu hvn hun ht htn
  by_cases h1 : l.length ≤ 60
  · have hlI : (l.length : Int) ≤ 60 := by omega
    by_cases h2 : m.length ≤ 60
    · have hmI : (m.length : Int) ≤ 60 := by omega
      have hkI : (60 : Int) < (k.length : Int) := by omega
      clear hs h1 h2
      go_enter Try.func4, Try.ntmps4
      go_wp2_with (go_at_call 10; (with_reducible refine HS.out.mono ?_); rintro e w1 ⟨rfl, hb⟩)
      go_ret
      exact ⟨rfl, hb⟩
    · have hmI : (60 : Int) < (m.length : Int) := by omega
      clear hs h1 h2
      go_enter Try.func4, Try.ntmps4
      go_wp2_with (go_at_call 10; (with_reducible refine HS.out.mono ?_); rintro e w1 ⟨rfl, hb⟩)
      go_ret
      exact ⟨rfl, hb⟩
  · have hlI : (60 : Int) < (l.length : Int) := by omega
    clear hs h1
    go_enter Try.func4, Try.ntmps4
    go_wp2_with (go_at_call 10; (with_reducible refine HS.out.mono ?_); rintro e w1 ⟨rfl, hb⟩)
    go_ret
    exact ⟨rfl, hb⟩
end Go.Proofs.Ytcjhiegiccekpaa
