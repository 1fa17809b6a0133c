/-
  LAYER 11 (xml), THE LAWS' OWN HELPERS: wrong, shown.
-/
import Derived.Test.YtaefdknaidbplaaGreatDoorXmLk
namespace Go.Proofs.YtaefdknaidbplaaGreatDoor
open Go.RowKit
set_option linter.unusedVariables false
set_option maxRecDepth 100000

theorem gb_at {w wx : World} (hG : Gb w.heap.size w) (hb : Below w.heap.size w wx) : Gb wx.heap.size wx := (hG.below hb).more hb.size
/-- Read at any world since. -/
theorem kRead {w : World} (hG : Gb w.heap.size w) (s : ByteArray) (hs : s.size ≤ 1000000) (R : List TkX × Int × Int) (hR : readR s.data.toList = R) (wx : World) (hb : Below w.heap.size w wx) :
    Calls Tryz.prog 6 #[.string s] wx fun e w' => ∃ a c, e = .returned (.tuple #[.slice a R.1.length c, .int .i64 R.2.1, .int .i64 R.2.2]) ∧ TokAt w' (.slice a R.1.length c) R.1 ∧ Below w.heap.size w w' ∧ Below wx.heap.size wx w' :=
  (read_any (gb_at hG hb) s (by omega)).mono fun e w' ⟨a, c, h1, h2, h3⟩ => by
    rw [hR] at h1 h2
    exact ⟨a, c, h1, h2, hb.trans (h3.mono hb.size), h3⟩
theorem kEscape {w : World} (hG : Gb w.heap.size w) (s : ByteArray) (hs : s.size ≤ 800000) (r : List UInt8) (hr : escX s.data.toList = r) (wx : World) (hb : Below w.heap.size w wx) :
    Calls Tryz.prog 12 #[.string s] wx fun e w' => e = .returned (.string (mk r)) ∧ Below w.heap.size w w' ∧ Below wx.heap.size wx w' :=
  (Escape_any (gb_at hG hb) (Nat.le_refl _) s hs).mono fun e w' ⟨h1, h3⟩ => by
    rw [← hr]
    exact ⟨h1, hb.trans (h3.mono hb.size), h3⟩
theorem readR_of {l : List UInt8} {L : List TkX} (hl : l.length ≤ 20000) {n : Nat} (h : readX l = (some L, n)) : readR l = (L, 0, 0) := by
  unfold readR; rw [if_neg (by omega), h]
theorem readR_bad {l : List UInt8} (hl : l.length ≤ 20000) {n : Nat} (h : readX l = (none, n)) (q : Int) (hq : (n : Int) = q) : readR l = ([], 8, q) := by
  subst hq
  unfold readR; rw [if_neg (by omega), h]
theorem wrong_any {w : World} (hG : Gb w.heap.size w) (s : ByteArray) (hs : s.size ≤ 1000000) (n : Int) (hR : readR s.data.toList = ([], 8, n)) (wx : World) (hb : Below w.heap.size w wx) :
    Calls Tryz.prog 14 #[.string s, .int .i64 n] wx fun e w' => e = .returned (.bool true) ∧ Below w.heap.size w w' := by
  have HR := hid (kRead hG s hs _ hR wx hb)
  clear hG hR hb hs
  go_enter Tryz.func14, Tryz.ntmps14
  go_wp2_with (go_at_call 6; (with_reducible refine HR.out.mono ?_); rintro e w1 ⟨a, c, rfl, h1, h2, h3⟩)
  have q0 : (n == n) = true := beq_self_eq_true _
  go_ret
  exact ⟨rfl, h2⟩
theorem rdl_1 : readR (⟨#[60, 97, 32, 98, 61, 34, 49, 38, 97, 109, 112, 59, 50, 34, 62, 120, 60, 33, 45, 45, 32, 121, 32, 45, 45, 62, 60, 33, 91, 67, 68, 65, 84, 65, 91, 60, 122, 62, 93, 93, 62, 60, 47, 97, 62]⟩ : ByteArray).data.toList = ([openT [97] [⟨[98], [49, 38, 50]⟩], wordsT [120, 60, 122, 62], closeT [97]], 0, 0) := readR_of (by decide) ex_read1
theorem rdl_2 : readR (⟨#[60, 97, 47, 62]⟩ : ByteArray).data.toList = ([openT [97] [], closeT [97]], 0, 0) := readR_of (by decide) ex_read2
theorem rdl_3 : readR (⟨#[60, 97, 32, 98, 61, 49, 62]⟩ : ByteArray).data.toList = ([], 8, 0) := readR_bad (by decide) ex_read3 0 rfl
theorem rdl_4 : readR (⟨#[120, 38, 121, 59]⟩ : ByteArray).data.toList = ([], 8, 1) := readR_bad (by decide) ex_read4 1 rfl
theorem rdl_5 : readR (⟨#[60, 97, 32, 98, 61, 34, 49, 34, 32, 98, 61, 34, 50, 34, 62]⟩ : ByteArray).data.toList = ([], 8, 0) := readR_bad (by decide) ex_read5 0 rfl
theorem rdl_6 : readR (⟨#[60, 97]⟩ : ByteArray).data.toList = ([], 8, 0) := readR_bad (by decide) ex_read6 0 rfl
/-- The world behind the three literal tokens. -/
def litW (w : World) : World := (w.alloc (.cells #[.string ⟨#[98]⟩, .string ⟨#[49, 38, 50]⟩] 39)).alloc (.cells #[.int .i64 1, .string ⟨#[97]⟩, .slice (some ⟨w.heap.size, 0, none⟩) 1 1, .string ⟨#[]⟩, .int .i64 3, .string ⟨#[]⟩, .slice none 0 0, .string ⟨#[120, 60, 122, 62]⟩, .int .i64 2, .string ⟨#[97]⟩, .slice none 0 0, .string ⟨#[]⟩] 42)
theorem lit_same {w : World} {a : Option Addr} {c : Nat} (h : TokAt w (.slice a 3 c) [openT [97] [⟨[98], [49, 38, 50]⟩], wordsT [120, 60, 122, 62], closeT [97]]) :
    Calls Tryz.prog 8 #[.slice a 3 c, .slice (some ⟨w.heap.size + 1, 0, none⟩) 3 3] (litW w) fun e w' => e = .returned (.bool true) ∧ Below w.heap.size w w' := by
  have z1 : (w.alloc (.cells #[.string ⟨#[98]⟩, .string ⟨#[49, 38, 50]⟩] 39)).heap.size = w.heap.size + 1 := by simp
  have hb : Below w.heap.size w (litW w) := ((Below.refl _ _).alloc (Nat.le_refl _) _).alloc (by rw [z1]; omega) _
  have o1 : own (litW w) w.heap.size #[.string ⟨#[98]⟩, .string ⟨#[49, 38, 50]⟩] 39 := own.same (own.new w _ _) (Below.heap_alloc _ _ _ (by rw [z1]; omega))
  have o2 : own (litW w) (w.heap.size + 1) #[.int .i64 1, .string ⟨#[97]⟩, .slice (some ⟨w.heap.size, 0, none⟩) 1 1, .string ⟨#[]⟩, .int .i64 3, .string ⟨#[]⟩, .slice none 0 0, .string ⟨#[120, 60, 122, 62]⟩, .int .i64 2, .string ⟨#[97]⟩, .slice none 0 0, .string ⟨#[]⟩] 42 := by
    unfold litW; rw [← z1]; exact own.new _ _ _
  have hr : RAt raTy (litW w) (.slice (some ⟨w.heap.size, 0, none⟩) 1 1) [⟨[98], [49, 38, 50]⟩] := rAt_own raTy_ok o1 rfl 1 rfl (by decide)
  have hk : RokAt (litW w) (.slice (some ⟨w.heap.size + 1, 0, none⟩) 3 3) [openT [97] [⟨[98], [49, 38, 50]⟩], wordsT [120, 60, 122, 62], closeT [97]] := by
    refine ⟨[⟨1, [97], some ⟨w.heap.size, 0, none⟩, 1, 1, []⟩, ⟨3, [], none, 0, 0, [120, 60, 122, 62]⟩, ⟨2, [97], none, 0, 0, []⟩], rAt_own rkTy_ok o2 rfl 3 rfl (by decide), rfl, fun i x t hx ht => ?_⟩
    match i, hx, ht with
    | 0, hx, ht => cases hx; cases ht; exact ⟨rfl, rfl, rfl, hr⟩
    | 1, hx, ht => cases hx; cases ht; exact ⟨rfl, rfl, rfl, rAt_nil _⟩
    | 2, hx, ht => cases hx; cases ht; exact ⟨rfl, rfl, rfl, rAt_nil _⟩
    | n + 3, hx, ht => simp at hx
  refine (alike_same (h.below hb) hk (by decide) (fun t ht => ?_)).mono fun e w' ⟨he, h2⟩ => ⟨he, hb.trans (h2.mono hb.size)⟩
  simp [openT, wordsT, closeT] at ht
  rcases ht with rfl | rfl | rfl <;> simp
set_option maxHeartbeats 8000000 in
theorem shown_any {w : World} (hG : Gb w.heap.size w) : Calls Tryz.prog 5 #[] w fun e w' => e = .returned (.bool true) ∧ Below w.heap.size w w' := by
  have R1 := hid (kRead hG _ (by decide) _ rdl_1)
  have R2 := hid (kRead hG _ (by decide) _ rdl_2)
  have W3 := hid (wrong_any hG _ (by decide) _ rdl_3)
  have W4 := hid (wrong_any hG _ (by decide) _ rdl_4)
  have W5 := hid (wrong_any hG _ (by decide) _ rdl_5)
  have W6 := hid (wrong_any hG _ (by decide) _ rdl_6)
  have E1 := hid (kEscape hG ⟨#[97, 38, 39]⟩ (by decide) _ ex_esc)
  have hb0 := Below.refl w.heap.size w
  clear hG
  go_enter Tryz.func5, Tryz.ntmps5
  go_wp2_with (first
    | (go_at_call 6; first
      | ((with_reducible refine (R1.out _ hb0).mono ?_); rintro e w1 ⟨a, c, rfl, h1, hb1, _⟩; (have HL := hid (lit_same h1)); (unfold litW at HL); clear h1)
      | ((with_reducible refine (R2.out _ hb2).mono ?_); rintro e w3 ⟨a2, c2, rfl, _, hb3, _⟩))
    | (go_at_call 8; (with_reducible refine HL.out.mono ?_); rintro e w2 ⟨rfl, hb⟩; (have hb2 := hb1.trans (hb.mono hb1.size)))
    | (go_at_call 14; first
      | ((with_reducible refine (W3.out _ hb3).mono ?_); rintro e w4 ⟨rfl, hb4⟩)
      | ((with_reducible refine (W4.out _ hb4).mono ?_); rintro e w5 ⟨rfl, hb5⟩)
      | ((with_reducible refine (W5.out _ hb5).mono ?_); rintro e w6 ⟨rfl, hb6⟩)
      | ((with_reducible refine (W6.out _ hb6).mono ?_); rintro e w7 ⟨rfl, hb7⟩))
    | (go_at_call 12; (with_reducible refine (E1.out _ hb7).mono ?_); rintro e w8 ⟨rfl, hb8, _⟩))
  go_ret
  exact ⟨ret_bool (by rw [Lib.toList_data]; decide), hb8⟩
end Go.Proofs.YtaefdknaidbplaaGreatDoor
