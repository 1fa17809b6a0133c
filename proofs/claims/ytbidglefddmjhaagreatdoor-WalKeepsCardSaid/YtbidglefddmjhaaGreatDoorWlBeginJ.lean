import Derived.Test.YtbidglefddmjhaaGreatDoorWlRef1J
import Derived.Test.YtbidglefddmjhaaGreatDoorWlDoesJ
/-
  LAYER 3 (wal), the laws' own helpers: begin.
-/
namespace Go.Proofs.YtbidglefddmjhaaGreatDoor
open Go.RowKit Go.Maps
set_option linter.unusedVariables false
set_option maxRecDepth 100000

theorem good_new {m : Int} (h0 : 0 ≤ m) (h1 : m ≤ 10000000) : Good (newD m) := ⟨rfl, by show (-1 : Int) < 0; omega, Ok_new h0 h1, fun f hf => by simp [newD] at hf, by simp [newD]⟩
theorem rcH_len : (rcL (.hard ⟨0, 0⟩)).length ≤ 100 := by
  have := encs_length [1, 0, 0] (by intro m hm; simp at hm; rcases hm with rfl | rfl <;> exact ⟨by omega, by omega⟩)
  unfold rcL
  rw [frameL_length]
  simp only [payL]
  simp at this
  omega
theorem open0_good {m : Int} (h0 : 100 ≤ m) (h1 : m ≤ 10000000) : (open0 (newD m)).2 = 0 ∧ Good (open0 (newD m)).1 ∧ (open0 (newD m)).1.most = m := by
  have hl := rcH_len
  rcases (good_new (by omega) h1).write (n := segN 1) (isSeg_segN (n := 1) (by omega) (by omega)) (.inr (by simp [newD])) (rcL (.hard ⟨0, 0⟩)) with ⟨_, h⟩ | ⟨h2, h3, _, h5⟩
  · exfalso
    have : m - ((0 : Nat) : Int) < ((rcL (.hard ⟨0, 0⟩)).length : Int) := h
    omega
  · exact ⟨h2, h3, h5⟩
theorem segs_nil : segsL [] = [] := by
  have := (segsL_perm []).length_eq
  simp at this
  exact this
/-- What begin leaves: the pair, and the document's. -/
structure Begun (W w : World) (q a p mq r ql : Nat) (T S : Nat → Prop) (s c : Dk) : Prop where
  log : LogAt w T p a s g0
  pair : PairAt w q a p
  ref : RefIs w S r c
  rlog : RefLog w ql r ⟨0, 0⟩ (.slice none 0 0)
  model : own w mq #[.pointer (some ⟨r, 0, none⟩), .pointer (some ⟨ql, 0, none⟩)] 45
  tq : ¬ T q
  tS : ∀ b, S b → ¬ T b
  tl : ¬ T ql
  tm : ¬ T mq
  sq : ¬ S q
  sl : ¬ S ql
  sm : ¬ S mq
  ge : (∀ b, T b → W.heap.size ≤ b) ∧ (∀ b, S b → W.heap.size ≤ b) ∧ W.heap.size ≤ q ∧ W.heap.size ≤ mq ∧ W.heap.size ≤ ql
  below : Below W.heap.size W w
theorem LogAt.apart {w w' : World} {T U : Nat → Prop} {p a : Nat} {s : Dk} {g : Lg} (h : LogAt w T p a s g) (hc : Chg U w w') (hU : ∀ b, T b → ¬ U b) : LogAt w' T p a s g := by
  obtain ⟨⟨S, v, h1, h2, h3, h4, h5, h6, h7⟩, hl, ho, hn⟩ := h
  exact ⟨⟨S, v, h1.same hc.size (fun b hb => hc.block b (hl b (h5 b hb)) (hU b (h5 b hb))), h2.same (hc.block p (hl p h6) (hU p h6)) (fun b hb => hc.block b (hl b (h7 b hb)) (hU b (h7 b hb))), h3, h4, h5, h6, h7⟩, fun b hb => by have := hl b hb; have := hc.size; omega, ho, hn⟩
def BeginPost (w : World) (s : Dk) (e : Ending) (w' : World) : Prop :=
  ∃ q a p mq r ql T S, e = .returned (.tuple #[.pointer (some ⟨q, 0, none⟩), .pointer (some ⟨mq, 0, none⟩), .bool true]) ∧ Begun w w' q a p mq r ql T S s s
set_option maxHeartbeats 8000000 in
theorem begin_any (m : Int) (w : World) {B0 : Nat} (hg : Glob w B0) (hB0 : B0 ≤ w.heap.size) (h0 : 100 ≤ m) (h1 : m ≤ 10000000) :
    Calls Tryz.prog 13 #[.int .i64 m] w (BeginPost w (open0 (newD m)).1) := by
  obtain ⟨k2, _, _⟩ := open0_good h0 h1
  have HN := hid (fun wx => new_ok m wx (by omega) h1)
  have HR := hid (fun wx => refNew_ok m wx (by omega) h1)
  have HO := hid (fun wx S a (hx : Below w.heap.size w wx) (hD : DiskIs wx S a (newD m)) => open0_any hD (hg.below hx hB0) (by have := hx.size; omega) (by rw [show (newD m).L = [] from rfl, segs_nil]) k2)
  have HRO := hid (fun wx S r (hD : RefIs wx S r (newD m)) => refOpen0_any hD rfl rfl k2)
  have HGlob := hid hg
  clear hg
  generalize (open0 (newD m)).1 = s at *
  generalize newD m = s0 at *
  go_enter Tryz.func13, Tryz.ntmps13
  go_wp2_with (first
    | (go_at_call 25; (with_reducible refine (HN.out _).mono ?_); rintro e w1 ⟨a, S1, rfl, hD1, hS1, hb1⟩; have HD1 := hid hD1; have HS1 := hid hS1; clear hD1 hS1)
    | (go_at_call 26; (with_reducible refine (HR.out _).mono ?_); rintro e w2 ⟨r, S2, rfl, hR2, hS2, hb2⟩; have HR2 := hid hR2; have HS2 := hid hS2; clear hR2 hS2; have hb12 := hb1.trans (hb2.mono hb1.size); have HD2 := hid (HD1.out.below hb2))
    | (go_at_call 29; (with_reducible refine (HO.out _ _ _ hb12 HD2.out).mono ?_); rintro e w3 ⟨p, T, rfl, hL3, hT3, hc3, hp3⟩; have HL3 := hid hL3; have HT3 := hid hT3; have HC3 := hid hc3; have HP3 := hid hp3; clear hL3 hT3 hc3 hp3; have HR3 := hid (HR2.out.same HC3.out.size (fun b hb => HC3.out.block b (refIs_lt HR2.out b hb) (fun hS => by have h1 := HS2.out b hb; have h2 := diskIs_lt HD1.out b hS; omega))))
    | (go_at_call 30; (with_reducible refine (HRO.out _ _ _ HR3.out).mono ?_); rintro e w4 ⟨ql, S4, rfl, hR4, hS4, hq4, hl4, hc4, hp4⟩; have HR4 := hid hR4; have HS4 := hid hS4; have HQ4 := hid hq4; have HLl4 := hid hl4; have HC4 := hid hc4; have HP4 := hid hp4; clear hR4 hS4 hq4 hl4 hc4 hp4))
  have hfin : BeginPost w s (.returned (.tuple #[.pointer (some ⟨w4.heap.size, 0, none⟩), .pointer (some ⟨w4.heap.size + 1, 0, none⟩), .bool true])) ((w4.alloc (.cells #[.pointer (some ⟨a, 0, none⟩), .pointer (some ⟨p, 0, none⟩)] 38)).alloc (.cells #[.pointer (some ⟨r, 0, none⟩), .pointer (some ⟨ql, 0, none⟩)] 45)) := by
    have hb5 : Below w4.heap.size w4 ((w4.alloc (.cells #[.pointer (some ⟨a, 0, none⟩), .pointer (some ⟨p, 0, none⟩)] 38)).alloc (.cells #[.pointer (some ⟨r, 0, none⟩), .pointer (some ⟨ql, 0, none⟩)] 45)) := ((Below.refl _ w4).alloc (Nat.le_refl _) _).alloc (by simp) _
    have z1 := hb1.size
    have z2 := hb2.size
    have z3 := HC3.out.size
    have z4 := HC4.out.size
    have hS1 := HS1.out
    have hS2 := HS2.out
    have hT3 := HT3.out
    have hS4 := HS4.out
    have lS1 := diskIs_lt HD1.out
    have lS2 := refIs_lt HR2.out
    have lT3 := HL3.out.lt
    have lS4 := refIs_lt HR4.out
    have hp4 := HP4.out
    have hTS : ∀ b, T b → ¬ S2 b := fun b hT hS => by
      have h1 := hS2 b hS; have h2 := lS2 b hS
      rcases hT3 b hT with h | h
      · have := lS1 b h; omega
      · omega
    have hTge : ∀ b, T b → w.heap.size ≤ b := fun b hT => by
      rcases hT3 b hT with h | h
      · exact hS1 b h
      · omega
    have hSge : ∀ b, S4 b → w.heap.size ≤ b := fun b hS => by
      rcases hS4 b hS with h | h
      · have := hS2 b h; omega
      · omega
    have hb3 : Below w.heap.size w w3 := (hb12).trans (HC3.out.below (by omega) (fun b hb => by have := hS1 b hb; omega))
    have hb4 : Below w.heap.size w w4 := hb3.trans (HC4.out.below (by omega) (fun b hb => by have := hS2 b hb; omega))
    refine ⟨w4.heap.size, a, p, w4.heap.size + 1, r, ql, T, S4, rfl, ⟨(HL3.out.apart HC4.out hTS).below hb5, (own.new w4 _ _).same (Below.heap_alloc _ _ _ (by simp)), HR4.out.below hb5, (HLl4.out : own _ _ _ _).same (hb5.block _ (own.lt HLl4.out)), ?_, fun hT => by have := lT3 _ hT; omega, fun b hS hT => ?_, fun hT => by have := lT3 _ hT; omega, fun hT => by have := lT3 _ hT; omega, fun hS => by have := lS4 _ hS; omega, HQ4.out, fun hS => by have := lS4 _ hS; omega, ⟨hTge, hSge, by omega, by omega, by omega⟩, hb4.trans (hb5.mono (by omega))⟩⟩
    · exact own_new (by simp)
    · rcases hS4 b hS with h | h
      · exact hTS b hT h
      · have := lT3 b hT; omega
  have HF := hid hfin
  clear hfin
  go_ret3
  exact HF.out
end Go.Proofs.YtbidglefddmjhaaGreatDoor

