/-
  LAYER 14 (shard): WHAT THE LAWS ASK OF THE PROGRAM; shown; the walk of ShardOf.
-/
import Derived.Test.YtnbghghkahaenaaShRef
namespace Go.Proofs.Ytnbghghkahaenaa
open Go.RowKit
set_option linter.unusedVariables false
set_option maxRecDepth 100000

/-- A row of rows of texts: a slice (a, L.length, c) that holds L. -/
structure SRow where
  a : Option Addr
  c : Nat
  L : List ByteArray
def sTy : RowTy SRow := ⟨28, 27, 1, 24, fun x => [.slice x.a x.L.length x.c], .slice none 0 0⟩
theorem sTy_ok : sTy.Ok := ⟨fun _ => rfl, fun x u hu => by simp [sTy] at hu; subst hu; rfl, by decide, Try.underlying28, by kernel_rfl, by kernel_rfl, rfl, by decide⟩
/-- The eight parts lie there. -/
def PartsAt (w : World) (v : Value) (L : List ByteArray) : Prop := ∃ R : List SRow, R.length = 8 ∧ RAt sTy w v R ∧ ∀ (i : Nat) r, R[i]? = some r → r.L = partL L (i : Int) ∧ RAt strTy w (.slice r.a r.L.length r.c) r.L
theorem PartsAt.below {w w' : World} {v : Value} {L : List ByteArray} (h : PartsAt w v L) (hb : Below w.heap.size w w') : PartsAt w' v L := by
  obtain ⟨R, h1, h2, h3⟩ := h
  exact ⟨R, h1, h2.below hb, fun i r hr => ⟨(h3 i r hr).1, (h3 i r hr).2.below hb⟩⟩
structure ShProg : Prop where
  name : ∀ (w : World) (s : ByteArray), s.size ≤ 100000 → Calls Try.prog 9 #[.string s] w fun e w' => e = .returned (.bool (nameL s.data.toList)) ∧ Below w.heap.size w w'
  hash : ∀ (w : World) (s : ByteArray), s.size ≤ 100000 → Calls Try.prog 11 #[.string s] w fun e w' => e = .returned (.int .u32 (hashL s.data.toList : Nat)) ∧ Below w.heap.size w w'
  of : ∀ (w : World) (s : ByteArray), s.size ≤ 100000 → Calls Try.prog 13 #[.string s] w fun e w' => e = .returned (.int .i64 (ofL s : Nat)) ∧ Below w.heap.size w w'
  part : ∀ {w : World} {v : Value} {L : List ByteArray} (n : Int), RAt strTy w v L → L.length ≤ 1000 → (∀ s ∈ L, s.size ≤ 100000) → Calls Try.prog 17 #[v, .int .i64 n] w (StrPost14 w (partL L n))
  parts : ∀ {w : World} {v : Value} {L : List ByteArray}, RAt strTy w v L → L.length ≤ 1000 → (∀ s ∈ L, s.size ≤ 100000) → Calls Try.prog 15 #[v] w fun e w' => ∃ a c, e = .returned (.slice a 8 c) ∧ PartsAt w' (.slice a 8 c) L ∧ Below w.heap.size w w'
def ShownPost14 (w : World) (e : Ending) (w' : World) : Prop := e = .returned (.bool true) ∧ Below w.heap.size w w'
def sA : ByteArray := ⟨#[97]⟩
def sB : ByteArray := ⟨#[98]⟩
theorem part_shown : partL [sA, sB, sA] 4 = [sA, sA] := by decide +kernel
set_option maxHeartbeats 4000000 in
theorem shown14 (HP : ShProg) (w : World) : Calls Try.prog 8 #[] w (ShownPost14 w) := by
  have H1 : Hid (∀ wx, Calls Try.prog 11 #[.string ⟨#[]⟩] wx fun e w' => e = .returned (.int .u32 2166136261) ∧ Below wx.heap.size wx w') := hid (fun wx => HP.hash wx ⟨#[]⟩ (by decide))
  have H2 : Hid (∀ wx, Calls Try.prog 11 #[.string ⟨#[97]⟩] wx fun e w' => e = .returned (.int .u32 3826002220) ∧ Below wx.heap.size wx w') := hid (fun wx => by
    have := HP.hash wx ⟨#[97]⟩ (by decide)
    rw [show hashL (⟨#[97]⟩ : ByteArray).data.toList = 3826002220 by decide +kernel] at this
    exact this)
  have H3 : Hid (∀ wx, Calls Try.prog 13 #[.string ⟨#[97]⟩] wx fun e w' => e = .returned (.int .i64 4) ∧ Below wx.heap.size wx w') := hid (fun wx => by
    have := HP.of wx ⟨#[97]⟩ (by decide)
    rw [show ofL (⟨#[97]⟩ : ByteArray) = 4 by decide +kernel] at this
    exact this)
  have H4 : Hid (∀ wx, Calls Try.prog 9 #[.string ⟨#[97, 32, 98]⟩] wx fun e w' => e = .returned (.bool false) ∧ Below wx.heap.size wx w') := hid (fun wx => HP.name wx ⟨#[97, 32, 98]⟩ (by decide))
  have H5 : Hid (∀ wx, Calls Try.prog 17 #[.slice (some ⟨wx.heap.size, 0, none⟩) 3 3, .int .i64 4] (wx.alloc (.cells #[.string ⟨#[97]⟩, .string ⟨#[98]⟩, .string ⟨#[97]⟩] 9)) fun e w' => ∃ a c, e = .returned (.slice a 2 c) ∧ Hid (RAt strTy w' (.slice a 2 c) [sA, sA]) ∧ Below wx.heap.size wx w') := hid (fun wx => by
    have hb : Below wx.heap.size wx (wx.alloc (.cells #[.string ⟨#[97]⟩, .string ⟨#[98]⟩, .string ⟨#[97]⟩] 9)) := (Below.refl _ _).alloc (Nat.le_refl _) _
    have hr : RAt strTy (wx.alloc (.cells #[.string ⟨#[97]⟩, .string ⟨#[98]⟩, .string ⟨#[97]⟩] 9)) (.slice (some ⟨wx.heap.size, 0, none⟩) 3 3) [sA, sB, sA] := rAt_own strTy_ok (own.new wx _ _) rfl 3 rfl (by decide)
    refine (HP.part 4 hr (by decide) (by intro s hs; simp at hs; rcases hs with rfl | rfl | rfl <;> decide)).mono ?_
    rintro e w' ⟨a, c, rfl, h1, h2⟩
    rw [part_shown] at h1 ⊢
    exact ⟨a, c, rfl, hid h1, hb.trans (h2.mono hb.size)⟩)
  have H6 : Hid (∀ wx v, RAt strTy wx v [sA, sA] → Calls Try.prog 16 #[v, .slice (some ⟨wx.heap.size, 0, none⟩) 2 2] (wx.alloc (.cells #[.string ⟨#[97]⟩, .string ⟨#[97]⟩] 9)) fun e w' => e = .returned (.bool true) ∧ Below wx.heap.size wx w') := hid (fun wx v hv => by
    have hb : Below wx.heap.size wx (wx.alloc (.cells #[.string ⟨#[97]⟩, .string ⟨#[97]⟩] 9)) := (Below.refl _ _).alloc (Nat.le_refl _) _
    have hr : RAt strTy (wx.alloc (.cells #[.string ⟨#[97]⟩, .string ⟨#[97]⟩] 9)) (.slice (some ⟨wx.heap.size, 0, none⟩) 2 2) [sA, sA] := rAt_own strTy_ok (own.new wx _ _) rfl 2 rfl (by decide)
    exact (same14 (hv.below hb) hr (by decide)).mono fun e w' ⟨he, h⟩ => ⟨he, hb.trans (h.mono hb.size)⟩)
  have hb : Below w.heap.size w w := Below.refl _ _
  clear HP
  go_enter Try.func8, Try.ntmps8
  go_wp2_with (first
    | (go_at_call 11; (with_reducible refine (H1.out _).mono ?_); rintro e w1 ⟨rfl, h⟩; have hb := hb.trans (h.mono hb.size); clear h)
    | (go_at_call 11; (with_reducible refine (H2.out _).mono ?_); rintro e w1 ⟨rfl, h⟩; have hb := hb.trans (h.mono hb.size); clear h)
    | (go_at_call 13; (with_reducible refine (H3.out _).mono ?_); rintro e w1 ⟨rfl, h⟩; have hb := hb.trans (h.mono hb.size); clear h)
    | (go_at_call 9; (with_reducible refine (H4.out _).mono ?_); rintro e w1 ⟨rfl, h⟩; have hb := hb.trans (h.mono hb.size); clear h)
    | (go_at_call 17; (with_reducible refine (H5.out _).mono ?_); rintro e w1 ⟨a1, c1, rfl, hr1, h⟩; have hb := hb.trans (h.mono hb.size); clear h)
    | (go_at_call 16; (with_reducible refine (H6.out _ _ hr1.out).mono ?_); rintro e w1 ⟨rfl, h⟩; have hb := hb.trans (h.mono hb.size); clear h))
  go_ret
  exact ⟨rfl, hb⟩
set_option maxHeartbeats 4000000 in
theorem shardOf_walk (HP : ShProg) (w : World) (s : ByteArray) (hm : s.size ≤ maxLen) : Calls Try.prog 3 #[.string s] w (ShownPost14 w) := by
  have HS := hid (shown14 HP w)
  by_cases hs : s.size ≤ 3000
  · have hsI : (s.size : Int) ≤ 3000 := by omega
    have K1 := hid (fun wx => HP.name wx s (by omega))
    have K2 := hid (fun wx => refName_any s wx (by omega))
    have K3 := hid (fun wx => HP.hash wx s (by omega))
    have K4 := hid (fun wx => refHash_any s wx (by omega))
    have K5 := hid (fun wx => HP.of wx s (by omega))
    have K6 := hid (fun wx => refOf_any s wx (by omega))
    generalize nameL s.data.toList = b1 at *
    generalize ((hashL s.data.toList : Nat) : Int) = b2 at *
    generalize ((ofL s : Nat) : Int) = b3 at *
    have q1 : (b1 == b1) = true := beq_self_eq_true _
    have q2 : (b2 == b2) = true := beq_self_eq_true _
    have q3 : (b3 == b3) = true := beq_self_eq_true _
    clear HP hm
    go_enter Try.func3, Try.ntmps3
    go_wp2_with (first
      | (go_at_call 8; (with_reducible refine HS.out.mono ?_); rintro e w1 ⟨rfl, hb⟩)
      | (go_at_call 9; (with_reducible refine (K1.out _).mono ?_); rintro e w2 ⟨rfl, h⟩; have hb := hb.trans (h.mono hb.size); clear h)
      | (go_at_call 10; (with_reducible refine (K2.out _).mono ?_); rintro e w3 ⟨rfl, rfl⟩)
      | (go_at_call 11; (with_reducible refine (K3.out _).mono ?_); rintro e w2 ⟨rfl, h⟩; have hb := hb.trans (h.mono hb.size); clear h)
      | (go_at_call 12; (with_reducible refine (K4.out _).mono ?_); rintro e w3 ⟨rfl, rfl⟩)
      | (go_at_call 13; (with_reducible refine (K5.out _).mono ?_); rintro e w2 ⟨rfl, h⟩; have hb := hb.trans (h.mono hb.size); clear h)
      | (go_at_call 14; (with_reducible refine (K6.out _).mono ?_); rintro e w3 ⟨rfl, rfl⟩))
    go_ret
    exact ⟨by first | rfl | simp, hb⟩
  · have hsI : (3000 : Int) < (s.size : Int) := by omega
    clear HP hs hm
    go_enter Try.func3, Try.ntmps3
    go_wp2_with (go_at_call 8; (with_reducible refine HS.out.mono ?_); rintro e w1 ⟨rfl, hb⟩)
    go_ret
    exact ⟨rfl, hb⟩
end Go.Proofs.Ytnbghghkahaenaa
