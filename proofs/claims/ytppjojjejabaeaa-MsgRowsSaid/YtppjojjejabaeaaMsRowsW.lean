/-
  LAYER 7 (msg): MsgRows: its walk.
-/
import Derived.Test.YtppjojjejabaeaaMsReads
import Derived.Test.YtppjojjejabaeaaMsEndsW
import Derived.Test.YtppjojjejabaeaaMsTen
namespace Go.Proofs.Ytppjojjejabaeaa
open Go.RowKit
set_option linter.unusedVariables false
set_option maxRecDepth 100000

theorem eV_short {xs : List Int} (hx : ∀ x ∈ xs, I64' x) (hl : xs.length ≤ 20) : (mk (eV xs)).size ≤ 210 := by
  have h1 := encs_length xs (fun x h => hx x h)
  have h2 := eI_short (n := (xs.length : Int)) ⟨by omega, by omega⟩
  show (eV xs).length ≤ _
  unfold eV
  rw [List.length_append]
  omega
/-- ToVoters of voters with something behind them. -/
theorem tv_front (HP : MsProg) {xs : List Int} (hx : ∀ x ∈ xs, I64' x) (hl : xs.length ≤ 9) (r t : ByteArray) (hr : mk (eV xs) ++ t = r) (hm : r.size ≤ maxLen) (w : World) : Calls Try.prog 21 #[.string r] w fun e w' => ∃ a cap, e = .returned (.tuple #[.slice a xs.length cap, .string t, .bool true]) ∧ Below w.heap.size w w' ∧ RAt numTy w' (.slice a xs.length cap) xs := by
  have h1 := HP.toVoters r.data.toList w (by rw [str_len]; exact hm)
  rw [mk_of, ← hr, append_data, mk_data, dV_eV (fun x h => hx x h) hl] at h1
  rw [← hr]
  refine h1.mono fun e w' ht => ?_
  obtain ⟨a, cap, he, hb, hr⟩ := tvP_of ht
  exact ⟨a, cap, by rw [he]; rfl, hb, hr⟩
theorem tv_many (HP : MsProg) {xs : List Int} (hl : 9 < xs.length) (hm : xs.length ≤ 20) (hx : ∀ x ∈ xs, I64' x) (w : World) : Calls Try.prog 21 #[.string (mk (eV xs))] w fun e w' => e = .returned (.tuple #[.slice none 0 0, .string ⟨#[]⟩, .bool false]) ∧ Below w.heap.size w w' := by
  have h0 := eV_short hx hm
  have h1 := HP.toVoters (eV xs) w (by rw [mk_size] at h0; unfold maxLen; omega)
  rw [← List.append_nil (eV xs), dV_many hl (by omega), List.append_nil] at h1
  exact h1
theorem ten_in {xs : List Int} (hx : ∀ x ∈ xs, I64' x) : ∀ x ∈ xs ++ ten0, I64' x := by
  intro x h
  rcases List.mem_append.1 h with h | h
  · exact hx x h
  · obtain ⟨_, rfl⟩ := List.mem_replicate.1 h
    exact ⟨by omega, by omega⟩
set_option maxHeartbeats 8000000 in
theorem msgRows_main (HP : MsProg) (v0 v1 : Value) (xs ys : List Int) (s : ByteArray) (w : World) (hx : RAt numTy w v0 xs) (hxi : ∀ x ∈ xs, I64' x) (hy : RAt numTy w v1 ys) (hyi : ∀ x ∈ ys, I64' x) (hl : xs.length ≤ 9) (hl2 : ys.length ≤ 9) (hl3 : s.size ≤ 300) :
    Calls Try.prog 7 #[v0, v1, .string s] w (ShownPost w) := by
  have HPoss : Hid (∀ wx, Below w.heap.size w wx → ShownPost w (.returned (.bool true)) wx) := hid (fun wx h => ⟨rfl, h⟩)
  have HS := hid (shown_any HP w)
  have z1 := eV_short hxi (by omega)
  have z2 := eV_short hyi (by omega)
  obtain ⟨V, hV⟩ : ∃ V, mk (eV xs) = V := ⟨_, rfl⟩
  obtain ⟨U, hU⟩ : ∃ U, mk (eV ys) = U := ⟨_, rfl⟩
  rw [hV] at z1
  rw [hU] at z2
  have q1 : ¬ 9223372036854775807 < V.size + U.size := by omega
  have q2 : ¬ 9223372036854775807 < (V ++ U).size + s.size := by rw [ByteArray.size_append]; omega
  have q3 : ¬ 9223372036854775807 < V.size + U.size + s.size := by omega
  have K1 : Hid (∀ wx, Below w.heap.size w wx → Calls Try.prog 15 #[v0] wx fun e w' => e = .returned (.string V) ∧ Below wx.heap.size wx w') := hid (fun wx h => (HP.voters (hx.below h) hxi (by omega)).mono fun e w' ⟨he, hb⟩ => ⟨by rw [he, hV], hb⟩)
  have K2 : Hid (∀ wx, Below w.heap.size w wx → Calls Try.prog 15 #[v1] wx fun e w' => e = .returned (.string U) ∧ Below wx.heap.size wx w') := hid (fun wx h => (HP.voters (hy.below h) hyi (by omega)).mono fun e w' ⟨he, hb⟩ => ⟨by rw [he, hU], hb⟩)
  have K3 : Hid (∀ wx, Calls Try.prog 21 #[.string (V ++ U ++ s)] wx fun e w' => ∃ a cap, e = .returned (.tuple #[.slice a xs.length cap, .string (U ++ s), .bool true]) ∧ Below wx.heap.size wx w' ∧ RAt numTy w' (.slice a xs.length cap) xs) := hid (fun wx => (tv_front HP hxi hl (V ++ U ++ s) (U ++ s) (by rw [hV, ByteArray.append_assoc]) (by rw [ByteArray.size_append, ByteArray.size_append]; unfold maxLen; omega) wx).mono fun e w' ⟨a, cap, he, hb, hr⟩ => ⟨a, cap, he, hb, hr⟩)
  have K4 : Hid (∀ wx, Calls Try.prog 21 #[.string (U ++ s)] wx fun e w' => ∃ a cap, e = .returned (.tuple #[.slice a ys.length cap, .string s, .bool true]) ∧ Below wx.heap.size wx w' ∧ RAt numTy w' (.slice a ys.length cap) ys) := hid (fun wx => (tv_front HP hyi hl2 (U ++ s) s (by rw [hU]) (by rw [ByteArray.size_append]; unfold maxLen; omega) wx).mono fun e w' ⟨a, cap, he, hb, hr⟩ => ⟨a, cap, he, hb, hr⟩)
  have HL : (xs ++ ten0).length = xs.length + 10 := List.length_append
  have K5 : Hid (∀ wy wx a cap, RMid numTy wy wx (.slice a (xs.length + 10) cap) (xs ++ ten0) → Calls Try.prog 15 #[.slice a (xs.length + 10) cap] wx fun e w' => e = .returned (.string (mk (eV (xs ++ ten0)))) ∧ Below wx.heap.size wx w') := hid (fun wy wx a cap h => (HP.voters h.row.rAt (ten_in hxi) (by omega)).mono fun e w' ⟨he, hb⟩ => ⟨he, hb⟩)
  have K6 : Hid (∀ wx, Calls Try.prog 21 #[.string (mk (eV (xs ++ ten0)))] wx fun e w' => e = .returned (.tuple #[.slice none 0 0, .string ⟨#[]⟩, .bool false]) ∧ Below wx.heap.size wx w') := hid (fun wx => (tv_many HP (xs := xs ++ ten0) (by omega) (by omega) (ten_in hxi) wx).mono fun e w' ⟨he, hb⟩ => ⟨he, hb⟩)
  have hmid : Hid (∀ wx, Below w.heap.size w wx → ∃ a cap w1, (Builtin.append_ #[23, 23] 23 #[.slice (some ⟨wx.heap.size, 0, none⟩) 0 0, v0]).run Try.prog (wx.alloc (.cells #[] 3)) = .ok (.slice a xs.length cap) w1 ∧
      ∃ a2 cap2 w2, (Builtin.append_ #[23, 3] 23 #[.slice a xs.length cap, .int .i64 10]).run Try.prog w1 = .ok (.slice a2 (xs.length + 10) cap2) w2 ∧ RMid numTy wx w2 (.slice a2 (xs.length + 10) cap2) (xs ++ ten0)) := hid (fun wx h => by
    have h0 : RMid numTy wx (wx.alloc (.cells #[] 3)) (.slice (some ⟨wx.heap.size, 0, none⟩) 0 0) [] := rMid_empty ((Below.refl _ wx).alloc (Nat.le_refl _) _) (own.new wx #[] 3) (Nat.le_refl _)
    obtain ⟨a, cap, w1, hr, hm, _⟩ := h0.app numTy_ok 23 ((hx.below h).below h0.below) (by simp; omega)
    simp only [List.length_nil, Nat.zero_add, List.nil_append] at hr hm
    obtain ⟨a2, cap2, w2, hr2, hm2⟩ := hm.ten 23 (by omega)
    exact ⟨a, cap, w1, hr, a2, cap2, w2, hr2, hm2⟩)
  obtain ⟨xa, xc, rfl, _⟩ := nums_at hx
  obtain ⟨ya, yc, rfl, _⟩ := nums_at hy
  have HSx : Hid (∀ va wx, Below w.heap.size w wx → RAt numTy wx va xs → Calls Try.prog 22 #[va, .slice xa xs.length xc] wx fun e w' => e = .returned (.bool true) ∧ Below wx.heap.size wx w') := hid (fun va wx h hr => (sameInts_same hr (hx.below h) (by unfold maxLen; omega)).mono fun e w' ⟨he, hb⟩ => ⟨he, hb⟩)
  have HSy : Hid (∀ va wx, Below w.heap.size w wx → RAt numTy wx va ys → Calls Try.prog 22 #[va, .slice ya ys.length yc] wx fun e w' => e = .returned (.bool true) ∧ Below wx.heap.size wx w') := hid (fun va wx h hr => (sameInts_same hr (hy.below h) (by unfold maxLen; omega)).mono fun e w' ⟨he, hb⟩ => ⟨he, hb⟩)
  have g1 : (xs.length : Int) ≤ 9 := by omega
  have g2 : (ys.length : Int) ≤ 9 := by omega
  have g3 : (s.size : Int) ≤ 300 := by omega
  have qs2 : (s.toList == s.toList) = true := beq_self_eq_true _
  obtain ⟨T, hT⟩ : ∃ T, mk (eV (xs ++ ten0)) = T := ⟨_, rfl⟩
  rw [hT] at K5 K6
  clear HP hx hy hxi hyi hV hU hT HL z1 z2 hl hl2 hl3
  go_enter Try.func7, Try.ntmps7
  go_wp2_with (first
      | (go_at_call 9; (with_reducible refine HS.out.mono ?_); rintro e w1 ⟨rfl, hb1⟩)
      | (go_at_call 15; (with_reducible refine (K1.out _ hb1).mono ?_); rintro e w2 ⟨rfl, hb⟩; have hb2 := hb1.trans (hb.mono hb1.size); clear hb)
      | (go_at_call 15; (with_reducible refine (K2.out _ hb2).mono ?_); rintro e w3 ⟨rfl, hb⟩; have hb3 := hb2.trans (hb.mono hb2.size); clear hb)
      | (go_at_call 21; (with_reducible refine (K3.out _).mono ?_); rintro e w4 ⟨pa, pc, rfl, hb, hr4⟩; have hb4 := hb3.trans (hb.mono hb3.size); have HR4 := hid hr4; clear hr4 hb)
      | (go_at_call 21; (with_reducible refine (K4.out _).mono ?_); rintro e w5 ⟨ra, rc, rfl, hk5, hr5⟩; have hb5 := hb4.trans (hk5.mono hb4.size); obtain ⟨a6, c6, w6, hq6, a7, c7, w7, hq7, hm7⟩ := hmid.out _ hb5; have hk7 := hk5.trans (hm7.below.mono hk5.size); have hb7 := hb4.trans (hk7.mono hb4.size); have hj7 := hm7.below; have HR5 := hid hr5; have HQ6 := hid hq6; have HQ7 := hid hq7; have HM7 := hid hm7; clear hr5 hq6 hq7 hm7)
      | (at_builtin; refine wpList_append_at HQ6.out (by with_reducible rfl) rfl _ _ rfl rfl rfl rfl ?_)
      | (at_builtin; refine wpList_append_at HQ7.out (by with_reducible rfl) rfl _ _ rfl rfl rfl rfl ?_)
      | (go_at_call 15; (with_reducible refine (K5.out _ _ _ _ HM7.out).mono ?_); rintro e w8 ⟨rfl, hb⟩; have hk8 := hk7.trans (hb.mono hk7.size); have hb8 := hb7.trans (hb.mono hb7.size); have hj8 := hj7.trans (hb.mono hj7.size); clear hb)
      | (go_at_call 21; (with_reducible refine (K6.out _).mono ?_); rintro e w9 ⟨rfl, hb⟩; have hk9 := hk8.trans (hb.mono hk8.size); have hb9 := hb8.trans (hb.mono hb8.size); have hj9 := hj8.trans (hb.mono hj8.size); clear hb; have J1 := hid (HSx.out _ _ hb9 (HR4.out.below hk9)))
      | (go_at_call 22; (with_reducible refine J1.out.mono ?_); rintro e w10 ⟨rfl, hb⟩; have hb10 := hb9.trans (hb.mono hb9.size); have hj10 := hj9.trans (hb.mono hj9.size); clear hb; have J2 := hid (HSy.out _ _ hb10 (HR5.out.below hj10)))
      | (go_at_call 22; (with_reducible refine J2.out.mono ?_); rintro e w11 ⟨rfl, hb⟩; have hb11 := hb10.trans (hb.mono hb10.size); clear hb))
  go_ret
  exact HPoss.out _ hb11
set_option maxHeartbeats 8000000 in
theorem msgRows_walk (HP : MsProg) (v0 v1 : Value) (xs ys : List Int) (s : ByteArray) (w : World) (hx : RAt numTy w v0 xs) (hxi : ∀ x ∈ xs, I64' x) (hxl : xs.length ≤ maxLen) (hy : RAt numTy w v1 ys) (hyi : ∀ x ∈ ys, I64' x) (hyl : ys.length ≤ maxLen) (hsz : s.size ≤ maxLen) :
    Calls Try.prog 7 #[v0, v1, .string s] w (ShownPost w) := by
  by_cases hl : xs.length ≤ 9
  case neg =>
    have HS := hid (shown_any HP w)
    obtain ⟨xa, xc, rfl, _⟩ := nums_at hx
    have g1 : (9 : Int) < (xs.length : Int) := by omega
    clear HP hx hy hxi hyi hxl hyl hsz hl
    go_enter Try.func7, Try.ntmps7
    go_wp2_with (go_at_call 9; (with_reducible refine HS.out.mono ?_); rintro e w1 ⟨rfl, hb1⟩)
    go_ret
    exact ⟨rfl, hb1⟩
  by_cases hl2 : ys.length ≤ 9
  case neg =>
    have HS := hid (shown_any HP w)
    obtain ⟨xa, xc, rfl, _⟩ := nums_at hx
    obtain ⟨ya, yc, rfl, _⟩ := nums_at hy
    have g1 : (xs.length : Int) ≤ 9 := by omega
    have g2 : (9 : Int) < (ys.length : Int) := by omega
    clear HP hx hy hxi hyi hxl hyl hsz hl hl2
    go_enter Try.func7, Try.ntmps7
    go_wp2_with (go_at_call 9; (with_reducible refine HS.out.mono ?_); rintro e w1 ⟨rfl, hb1⟩)
    go_ret
    exact ⟨rfl, hb1⟩
  by_cases hl3 : s.size ≤ 300
  case neg =>
    have HS := hid (shown_any HP w)
    obtain ⟨xa, xc, rfl, _⟩ := nums_at hx
    obtain ⟨ya, yc, rfl, _⟩ := nums_at hy
    have g1 : (xs.length : Int) ≤ 9 := by omega
    have g2 : (ys.length : Int) ≤ 9 := by omega
    have g3 : (300 : Int) < (s.size : Int) := by omega
    clear HP hx hy hxi hyi hxl hyl hsz hl hl2 hl3
    go_enter Try.func7, Try.ntmps7
    go_wp2_with (go_at_call 9; (with_reducible refine HS.out.mono ?_); rintro e w1 ⟨rfl, hb1⟩)
    go_ret
    exact ⟨rfl, hb1⟩
  exact msgRows_main HP v0 v1 xs ys s w hx hxi hy hyi hl hl2 hl3
end Go.Proofs.Ytppjojjejabaeaa
