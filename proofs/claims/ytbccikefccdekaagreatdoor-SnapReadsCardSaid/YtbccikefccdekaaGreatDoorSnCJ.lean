import Derived.Test.YtbccikefccdekaaGreatDoorMq6J
import Derived.Test.YtbccikefccdekaaGreatDoorSnGIntsJ
import Derived.Test.YtbccikefccdekaaGreatDoorMq0J
/-
  LAYER 4 (snap), THE PROGRAM: frame, numbers.
-/
namespace Go.Proofs.YtbccikefccdekaaGreatDoor
open Go.RowKit
set_option linter.unusedVariables false
set_option maxRecDepth 100000

set_option maxHeartbeats 2000000 in
theorem snFrame_any (s : ByteArray) (w : World) (hs : s.size ≤ 65536) (hT : Steps w) (h0 : 0 < w.heap.size) :
    Calls Tryz.prog 46 #[.string s] w fun e w' => e = .returned (.string (mk (frameL s.data.toList))) ∧ Below w.heap.size w w' := by
  have HC := hid (frame_any s w hs hT h0)
  generalize mk (frameL s.data.toList) = fb at *
  go_enter Tryz.func46, Tryz.ntmps46
  go_wp2_with (go_at_call 74; (with_reducible refine HC.out.mono ?_); rintro e w1 ⟨rfl, hb⟩)
  go_ret
  exact ⟨rfl, hb⟩
theorem numsF_fuel : ∀ (k m : Nat) (s : List UInt8), s.length ≤ k → s.length ≤ m → numsF k s = numsF m s
  | k, m, [], _, _ => by cases k <;> cases m <;> rfl
  | 0, m, c :: s, h, _ => by simp at h
  | k + 1, 0, c :: s, _, h => by simp at h
  | k + 1, m + 1, c :: s, h1, h2 => by
    unfold numsF
    cases ht : toInt (c :: s) with
    | none => rfl
    | some p =>
      obtain ⟨v, r⟩ := p
      obtain ⟨_, hs⟩ := toInt_sound ht
      have hl : r.length < (c :: s).length := by
        rw [hs, List.length_append]
        have := enc_pos v
        omega
      show (numsF k r).map _ = (numsF m r).map _
      rw [numsF_fuel k m r (by omega) (by omega)]
theorem nums_nil : nums [] = some [] := rfl
theorem nums_none {s : List UInt8} (h0 : s ≠ []) (h : toInt s = none) : nums s = none := by
  obtain ⟨c, r, rfl⟩ := List.exists_cons_of_ne_nil h0
  show numsF (r.length + 1) (c :: r) = none
  unfold numsF
  rw [h]
theorem nums_some {s r : List UInt8} {v : Nat} (h0 : s ≠ []) (h : toInt s = some (v, r)) : nums s = (nums r).map (unz v :: ·) ∧ r.length < s.length := by
  obtain ⟨c, t, rfl⟩ := List.exists_cons_of_ne_nil h0
  obtain ⟨_, hs⟩ := toInt_sound h
  have hl : r.length < (c :: t).length := by
    rw [hs, List.length_append]
    have := enc_pos v
    omega
  refine ⟨?_, hl⟩
  show numsF (t.length + 1) (c :: t) = _
  unfold numsF
  rw [h]
  show (numsF t.length r).map _ = _
  rw [numsF_fuel t.length r.length r (by rw [List.length_cons] at hl; omega) (Nat.le_refl _)]
  rfl
def NumsPost (w : World) (S : List UInt8) (e : Ending) (w' : World) : Prop :=
  (nums S = none ∧ e = .returned (.tuple #[.slice none 0 0, .bool false]) ∧ Below w.heap.size w w') ∨
  ∃ l a cap, nums S = some l ∧ e = .returned (.tuple #[.slice a l.length cap, .bool true]) ∧ Gr.RMid Gr.numTy w w' (.slice a l.length cap) l
def NuRel (S : List UInt8) (w : World) (us ul : Value) (wr : World) : Prop := ∃ (r : List UInt8) (l : List Int) (a : Option Addr) (cap : Nat), us = .string (mk r) ∧ ul = .slice a l.length cap ∧ r.length + l.length ≤ S.length ∧ Hid (Gr.RMid Gr.numTy w wr (.slice a l.length cap) l) ∧ Hid (nums S = (nums r).map (l ++ ·))
def sLen : Value → Nat | .string s => s.size | _ => 0
set_option maxHeartbeats 8000000 in
theorem snNumbers_any (s : ByteArray) (w : World) (hs : s.size ≤ 1000000) :
    Calls Tryz.prog 53 #[.string s] w (NumsPost w s.data.toList) := by
  obtain ⟨S, hS⟩ : ∃ S, s.data.toList = S := ⟨_, rfl⟩
  have hsz : s.size = S.length := by rw [← hS, str_len]
  have hmk : s = mk S := by rw [← hS, mk_of]
  rw [hS]
  rw [hsz] at hs
  subst hmk
  clear hS hsz
  go_enter Tryz.func53, Tryz.ntmps53
  go_wp2
  go_loopw [0, 4] (NuRel S w) (fun u _ _ => sLen u)
  case atStart => exact ⟨S, [], none, 0, rfl, rfl, by simp, hid (Gr.rMid_nil w), hid (by simp)⟩
  case round =>
    obtain ⟨r, l, a, cap, rfl, rfl, hlen, hm, hq⟩ := hrel
    have HM := hid hm.out
    have HQ := hid hq.out
    clear hm hq
    by_cases h0 : r = []
    · subst h0
      have HF : Hid (NumsPost w S (.returned (.tuple #[.slice a l.length cap, .bool true])) wr) := hid (.inr ⟨l, a, cap, by rw [HQ.out, nums_nil]; simp, rfl, HM.out⟩)
      have q0 : (!(mk ([] : List UInt8)).toList.isEmpty) = false := by rw [Lib.toList_data]; rfl
      have q1 : (mk ([] : List UInt8)).toList.isEmpty = true := by rw [Lib.toList_data]; rfl
      clear HM HQ hlen
      generalize l.length = n at *
      go_wp2
      go_ret2
      exact HF.out
    · have hrl : 0 < r.length := List.length_pos_iff.2 h0
      have q1 : (mk r).toList.isEmpty = false := by
        rw [Lib.toList_data]
        obtain ⟨c, t, rfl⟩ := List.exists_cons_of_ne_nil h0
        rfl
      have q0 : (!(mk r).toList.isEmpty) = true := by rw [q1]; rfl
      have hC := toInt_any (mk r) wr (by rw [mk_size]; unfold maxLen; omega)
      rw [mk_data] at hC
      have hmb := HM.out.below
      cases ht : toInt r with
      | none =>
        rw [ht] at hC
        have HC : Hid (Calls Tryz.prog 83 #[.string (mk r)] wr fun e w' => e = .returned (.tuple #[.int .i64 0, .string ⟨#[]⟩, .bool false]) ∧ ∃ m, w' = wr.drewN m) := hid hC
        have HF : Hid (∀ m, NumsPost w S (.returned (.tuple #[.slice none 0 0, .bool false])) (wr.drewN m)) := hid (fun m => .inl ⟨by rw [HQ.out, nums_none h0 ht]; rfl, rfl, below_drew hmb m⟩)
        clear hC HM HQ hmb ht h0 hlen hrl
        generalize l.length = n at *
        generalize mk r = rb at *
        go_wp2_with (go_at_call 83; (with_reducible refine HC.out.mono ?_); rintro e w1 ⟨rfl, m, rfl⟩)
        go_ret2
        exact HF.out m
      | some p =>
        obtain ⟨v, r2⟩ := p
        rw [ht] at hC
        have HC : Hid (Calls Tryz.prog 83 #[.string (mk r)] wr fun e w' => e = .returned (.tuple #[.int .i64 (unz v), .string (mk r2), .bool true]) ∧ ∃ m, w' = wr.drewN m) := hid hC
        obtain ⟨k1, k2⟩ := nums_some h0 ht
        have HP : Hid (∀ m, ∃ ao cap2 w5, (Builtin.append_ #[22, 22] 22 #[.slice a l.length cap, .slice (some ⟨wr.heap.size, 0, none⟩) 1 1]).run Tryz.prog ((wr.drewN m).alloc (.cells #[.int .i64 (unz v)] 3)) = .ok (.slice ao (l.length + 1) cap2) w5 ∧ Hid (NuRel S w (.string (mk r2)) (.slice ao (l.length + 1) cap2) w5)) := hid (fun m => by
          have hm2 := HM.out.later (below_drew (Below.refl _ _) m)
          obtain ⟨ao, cap2, w5, e5, m5⟩ := hm2.push Gr.numTy_ok 22 3 (unz v) #[.int .i64 (unz v)] rfl (by omega)
          exact ⟨ao, cap2, w5, e5, hid ⟨r2, l ++ [unz v], ao, cap2, rfl, by rw [List.length_append]; rfl, by rw [List.length_append, List.length_singleton]; omega, hid (by rw [List.length_append, List.length_singleton]; exact m5), hid (by rw [HQ.out, k1]; cases nums r2 <;> simp)⟩⟩)
        have hr2 : (mk r2).size < (mk r).size := by rw [mk_size, mk_size]; exact k2
        have HR2 := hid hr2
        have hll : l.length ≤ 1000000 := by omega
        clear hC HM HQ hmb ht h0 hlen hrl k1 k2 hr2
        generalize l.length = n at *
        generalize unz v = x at *
        generalize mk r = rb at *
        generalize mk r2 = rb2 at *
        go_wp2_with (first
          | (go_at_call 83; (with_reducible refine HC.out.mono ?_); rintro e w1 ⟨rfl, m, rfl⟩; obtain ⟨ao, cap2, w5, e5, HN⟩ := HP.out m; have E5 := hid e5; clear e5)
          | (at_builtin; refine Gr.wpList_append_at E5.out (by with_reducible rfl) rfl _ _ rfl rfl rfl rfl ?_))
        go_roundw
        case rel => exact HN.out
        case measure => exact HR2.out
end Go.Proofs.YtbccikefccdekaaGreatDoor

