import Derived.Test.YtjoeamlidmmioaaGreatDoorMq7J
import Derived.Test.YtjoeamlidmmioaaGreatDoorTrSam2J
/-
  LAYER 12 (tree), THE LAWS' OWN HELPERS: the chapter's examples (shown).
-/
namespace Go.Proofs.YtjoeamlidmmioaaGreatDoor
open Go.RowKit
set_option linter.unusedVariables false
set_option maxRecDepth 100000

def exT : Tr := .nd [97] [⟨[120], [49]⟩] [112, 113] [.nd [98] [] [] [], .nd [98] [] [114] []]
theorem trR0 : readX [60, 97, 32, 120, 61, 34, 49, 34, 62, 112, 60, 98, 47, 62, 113, 60, 98, 62, 114, 60, 47, 98, 62, 60, 47, 97, 62] = (some [openT [97] [⟨[120], [49]⟩], wordsT [112], openT [98] [], closeT [98], wordsT [113], openT [98] [], wordsT [114], closeT [98], closeT [97]], 0) := by decide +kernel
theorem trB0 : buildX [openT [97] [⟨[120], [49]⟩], wordsT [112], openT [98] [], closeT [98], wordsT [113], openT [98] [], wordsT [114], closeT [98], closeT [97]] = (exT, 0) := by rfl
theorem trP0 {w : World} (hG : Gb w.heap.size w) (wx : World) (hb : Below w.heap.size w wx) : Calls Tryz.prog 8 #[.string ⟨#[60, 97, 32, 120, 61, 34, 49, 34, 62, 112, 60, 98, 47, 62, 113, 60, 98, 62, 114, 60, 47, 98, 62, 60, 47, 97, 62]⟩] wx (ParsePost wx (exT, 0)) := by
  have h := parse_any (gb_at hG hb) ⟨#[60, 97, 32, 120, 61, 34, 49, 34, 62, 112, 60, 98, 47, 62, 113, 60, 98, 62, 114, 60, 47, 98, 62, 60, 47, 97, 62]⟩ (by decide) _ (readR_of (by decide) trR0) (fun _ => okF_few _ (by decide) (by decide) (by decide)) (by decide)
  have e : parseX ([openT [97] [⟨[120], [49]⟩], wordsT [112], openT [98] [], closeT [98], wordsT [113], openT [98] [], wordsT [114], closeT [98], closeT [97]], 0, 0) = (exT, 0) := (if_pos rfl).trans trB0
  rw [e] at h
  exact h
theorem trR1 : readX [60, 97, 62, 60, 98, 62, 60, 47, 97, 62] = (some [openT [97] [], openT [98] [], closeT [97]], 0) := by decide +kernel
theorem trB1 : buildX [openT [97] [], openT [98] [], closeT [97]] = (tr0, 8) := by rfl
theorem trP1 {w : World} (hG : Gb w.heap.size w) (wx : World) (hb : Below w.heap.size w wx) : Calls Tryz.prog 8 #[.string ⟨#[60, 97, 62, 60, 98, 62, 60, 47, 97, 62]⟩] wx (ParsePost wx (tr0, 8)) := by
  have h := parse_any (gb_at hG hb) ⟨#[60, 97, 62, 60, 98, 62, 60, 47, 97, 62]⟩ (by decide) _ (readR_of (by decide) trR1) (fun _ => okF_few _ (by decide) (by decide) (by decide)) (by decide)
  have e : parseX ([openT [97] [], openT [98] [], closeT [97]], 0, 0) = (tr0, 8) := (if_pos rfl).trans trB1
  rw [e] at h
  exact h
theorem trR2 : readX [60, 97, 47, 62, 60, 98, 47, 62] = (some [openT [97] [], closeT [97], openT [98] [], closeT [98]], 0) := by decide +kernel
theorem trB2 : buildX [openT [97] [], closeT [97], openT [98] [], closeT [98]] = (tr0, 8) := by rfl
theorem trP2 {w : World} (hG : Gb w.heap.size w) (wx : World) (hb : Below w.heap.size w wx) : Calls Tryz.prog 8 #[.string ⟨#[60, 97, 47, 62, 60, 98, 47, 62]⟩] wx (ParsePost wx (tr0, 8)) := by
  have h := parse_any (gb_at hG hb) ⟨#[60, 97, 47, 62, 60, 98, 47, 62]⟩ (by decide) _ (readR_of (by decide) trR2) (fun _ => okF_few _ (by decide) (by decide) (by decide)) (by decide)
  have e : parseX ([openT [97] [], closeT [97], openT [98] [], closeT [98]], 0, 0) = (tr0, 8) := (if_pos rfl).trans trB2
  rw [e] at h
  exact h
theorem trR3 : readX [120, 60, 97, 47, 62] = (some [wordsT [120], openT [97] [], closeT [97]], 0) := by decide +kernel
theorem trB3 : buildX [wordsT [120], openT [97] [], closeT [97]] = (tr0, 8) := by rfl
theorem trP3 {w : World} (hG : Gb w.heap.size w) (wx : World) (hb : Below w.heap.size w wx) : Calls Tryz.prog 8 #[.string ⟨#[120, 60, 97, 47, 62]⟩] wx (ParsePost wx (tr0, 8)) := by
  have h := parse_any (gb_at hG hb) ⟨#[120, 60, 97, 47, 62]⟩ (by decide) _ (readR_of (by decide) trR3) (fun _ => okF_few _ (by decide) (by decide) (by decide)) (by decide)
  have e : parseX ([wordsT [120], openT [97] [], closeT [97]], 0, 0) = (tr0, 8) := (if_pos rfl).trans trB3
  rw [e] at h
  exact h
theorem trR4 : readX [] = (some [], 0) := by decide +kernel
theorem trB4 : buildX [] = (tr0, 8) := by rfl
theorem trP4 {w : World} (hG : Gb w.heap.size w) (wx : World) (hb : Below w.heap.size w wx) : Calls Tryz.prog 8 #[.string ⟨#[]⟩] wx (ParsePost wx (tr0, 8)) := by
  have h := parse_any (gb_at hG hb) ⟨#[]⟩ (by decide) _ (readR_of (by decide) trR4) (fun _ => okF_few _ (by decide) (by decide) (by decide)) (by decide)
  have e : parseX ([], 0, 0) = (tr0, 8) := (if_pos rfl).trans trB4
  rw [e] at h
  exact h
/-- The literal tree. -/
def litA (w : World) : World := w.alloc (.cells #[.string ⟨#[120]⟩, .string ⟨#[49]⟩] 45)
def litK (w : World) : World := (litA w).alloc (.cells #[.string ⟨#[98]⟩, .slice none 0 0, .string ⟨#[]⟩, .slice none 0 0, .string ⟨#[98]⟩, .slice none 0 0, .string ⟨#[114]⟩, .slice none 0 0] 37)
theorem litK_below (w : World) : Below w.heap.size w (litK w) := ((Below.refl _ _).alloc (Nat.le_refl _) _).alloc (by simp) _
theorem lit_tree (w : World) : RnAt (litK w) ⟨[97], some ⟨w.heap.size, 0, none⟩, 1, 1, [112, 113], some ⟨w.heap.size + 1, 0, none⟩, 2, 2⟩ exT := by
  have z1 : (litA w).heap.size = w.heap.size + 1 := by simp [litA]
  have o1 : own (litK w) w.heap.size #[.string ⟨#[120]⟩, .string ⟨#[49]⟩] 45 := own.same (own.new w _ _) (Below.heap_alloc _ _ _ (by show w.heap.size < (litA w).heap.size; omega))
  have o2 : own (litK w) (w.heap.size + 1) #[.string ⟨#[98]⟩, .slice none 0 0, .string ⟨#[]⟩, .slice none 0 0, .string ⟨#[98]⟩, .slice none 0 0, .string ⟨#[114]⟩, .slice none 0 0] 37 := by rw [← z1]; exact own.new _ _ _
  refine .at _ _ [⟨[98], none, 0, 0, [], none, 0, 0⟩, ⟨[98], none, 0, 0, [114], none, 0, 0⟩] rfl rfl (rAt_own raTy_ok o1 rfl 1 rfl (by decide)) (fun _ _ _ => trivial) (rAt_own rdTy_ok o2 rfl 2 rfl (by decide)) (fun _ _ _ => trivial) rfl (fun i y u hy hu => ?_)
  match i, hy, hu with
  | 0, hy, hu => cases hy; cases hu; exact .at _ _ [] rfl rfl (rAt_nil _) (fun _ _ _ => trivial) (rAt_nil _) (fun _ _ _ => trivial) rfl (fun i y u hy => by simp at hy)
  | 1, hy, hu => cases hy; cases hu; exact .at _ _ [] rfl rfl (rAt_nil _) (fun _ _ _ => trivial) (rAt_nil _) (fun _ _ _ => trivial) rfl (fun i y u hy => by simp at hy)
  | n + 2, hy, hu => simp at hy
/-- The world in which same is asked. -/
def litWt (w1 : World) (x1 : NdV) : World := ((((w1.alloc (.cells #[.string (mk x1.n), .slice x1.a x1.am x1.ac, .string (mk x1.t), .slice x1.k x1.km x1.kc] 30)).alloc (.cells #[.string ⟨#[120]⟩, .string ⟨#[49]⟩] 45)).alloc (.cells #[.string ⟨#[98]⟩, .slice none 0 0, .string ⟨#[]⟩, .slice none 0 0, .string ⟨#[98]⟩, .slice none 0 0, .string ⟨#[114]⟩, .slice none 0 0] 37)).alloc (.cells #[.string ⟨#[97]⟩, .slice (some ⟨w1.heap.size + 1, 0, none⟩) 1 1, .string ⟨#[112, 113]⟩, .slice (some ⟨w1.heap.size + 1 + 1, 0, none⟩) 2 2] 37))
theorem lit_sameT (w1 : World) (x1 : NdV) {F : Nat → Prop} (n1 : NdIn atTy ndTy w1 F x1 exT) :
    Calls Tryz.prog 10 #[.agg #[.string (mk x1.n), .slice x1.a x1.am x1.ac, .string (mk x1.t), .slice x1.k x1.km x1.kc], .agg #[.string ⟨#[97]⟩, .slice (some ⟨w1.heap.size + 1, 0, none⟩) 1 1, .string ⟨#[112, 113]⟩, .slice (some ⟨w1.heap.size + 1 + 1, 0, none⟩) 2 2]] (litWt w1 x1) fun e w' => e = .returned (.bool true) ∧ Below w1.heap.size w1 w' := by
  have hb : Below w1.heap.size w1 (litWt w1 x1) := ((((Below.refl _ _).alloc (Nat.le_refl _) _).alloc (by simp) _).alloc (by simp; omega) _).alloc (by simp; omega) _
  have hz : (w1.alloc (.cells #[.string (mk x1.n), .slice x1.a x1.am x1.ac, .string (mk x1.t), .slice x1.k x1.km x1.kc] 30)).heap.size = w1.heap.size + 1 := by simp
  have hL := lit_tree (w1.alloc (.cells #[.string (mk x1.n), .slice x1.a x1.am x1.ac, .string (mk x1.t), .slice x1.k x1.km x1.kc] 30))
  rw [hz] at hL
  have hL2 : RnAt (litWt w1 x1) ⟨[97], some ⟨w1.heap.size + 1, 0, none⟩, 1, 1, [112, 113], some ⟨w1.heap.size + 1 + 1, 0, none⟩, 2, 2⟩ exT := ndIn_below hL ((Below.refl _ _).alloc (Nat.le_refl _) _)
  exact (same_any (manyT exT) (Nat.le_refl _) (trunc_same exT) (ndIn_below (ndIn_any n1) hb) hL2).mono fun e w' ⟨r, h1, h2, h3⟩ => ⟨by rw [h1, h2.2 rfl], hb.trans (h3.mono hb.size)⟩
theorem sq_ex : sqX [32, 32, 97, 32, 10, 32, 98, 32] = [97, 32, 98] := by decide +kernel
set_option maxHeartbeats 8000000 in
theorem trShown_any {w : World} (hG : Gb w.heap.size w) : Calls Tryz.prog 4 #[] w fun e w' => e = .returned (.bool true) ∧ Below w.heap.size w w' := by
  have P0 := hid (trP0 hG)
  have P1 := hid (trP1 hG)
  have P2 := hid (trP2 hG)
  have P3 := hid (trP3 hG)
  have P4 := hid (trP4 hG)
  have HQ : Hid (∀ wx, Calls Tryz.prog 11 #[.string ⟨#[32, 32, 97, 32, 10, 32, 98, 32]⟩] wx fun e w' => e = .returned (.string ⟨#[97, 32, 98]⟩) ∧ Below wx.heap.size wx w') := hid (fun wx => (squeeze_any ⟨#[32, 32, 97, 32, 10, 32, 98, 32]⟩ (by decide) wx).mono fun e w' ⟨h1, h2⟩ => ⟨by rw [h1]; exact congrArg (fun l => Ending.returned (.string (mk l))) sq_ex, h2⟩)
  have hq : ((⟨#[97, 32, 98]⟩ : ByteArray).toList == (⟨#[97, 32, 98]⟩ : ByteArray).toList) = true := beq_self_eq_true _
  have hb0 := Below.refl w.heap.size w
  clear hG
  go_enter Tryz.func4, Tryz.ntmps4
  go_wp2_with (first
    | (go_at_call 8; first
      | ((with_reducible refine (P0.out _ hb0).mono ?_); rintro e w1 ⟨x1, rfl, n1, hb1⟩; (have hb2 := hb0.trans (hb1.mono hb0.size)); (have HL := hid (lit_sameT w1 x1 n1)); (unfold litWt at HL); (clear n1 hb1))
      | ((with_reducible refine (P1.out _ hb3).mono ?_); rintro e w3 ⟨x3, rfl, -, hb⟩; (have hb4 := (hb3.trans (hb.mono hb3.size)).alloc (o := .cells #[.string (mk x3.n), .slice x3.a x3.am x3.ac, .string (mk x3.t), .slice x3.k x3.km x3.kc] 30) (hb3.trans (hb.mono hb3.size)).size))
      | ((with_reducible refine (P2.out _ hb4).mono ?_); rintro e w4 ⟨x4, rfl, -, hb⟩; (have hb5 := (hb4.trans (hb.mono hb4.size)).alloc (o := .cells #[.string (mk x4.n), .slice x4.a x4.am x4.ac, .string (mk x4.t), .slice x4.k x4.km x4.kc] 30) (hb4.trans (hb.mono hb4.size)).size))
      | ((with_reducible refine (P3.out _ hb5).mono ?_); rintro e w5 ⟨x5, rfl, -, hb⟩; (have hb6 := (hb5.trans (hb.mono hb5.size)).alloc (o := .cells #[.string (mk x5.n), .slice x5.a x5.am x5.ac, .string (mk x5.t), .slice x5.k x5.km x5.kc] 30) (hb5.trans (hb.mono hb5.size)).size))
      | ((with_reducible refine (P4.out _ hb6).mono ?_); rintro e w6 ⟨x6, rfl, -, hb⟩; (have hb7 := (hb6.trans (hb.mono hb6.size)).alloc (o := .cells #[.string (mk x6.n), .slice x6.a x6.am x6.ac, .string (mk x6.t), .slice x6.k x6.km x6.kc] 30) (hb6.trans (hb.mono hb6.size)).size)))
    | (go_at_call 10; (with_reducible refine HL.out.mono ?_); rintro e w2 ⟨rfl, hb⟩; (have hb3 := hb2.trans (hb.mono hb2.size)))
    | (go_at_call 11; (with_reducible refine (HQ.out _).mono ?_); rintro e w8 ⟨rfl, hb⟩; (have hb8 := hb7.trans (hb.mono hb7.size))))
  go_ret
  exact ⟨rfl, hb8⟩
end Go.Proofs.YtjoeamlidmmioaaGreatDoor

