/-
  LAYER 7 (msg), THE PROGRAM: read of a bool, of texts.
-/
import Derived.Test.YtppjojjejabaeaaMsRdI
import Derived.Deep.RegionHeld3
namespace Go.Proofs.Ytppjojjejabaeaa
open Go.RowKit
set_option linter.unusedVariables false
set_option maxRecDepth 100000

/-- What a read of bool asks: I k: k takers were done and all is well; Z: something could not be read. -/
structure RdPreB (n tb rb : Nat) (G : Nat → FuncId) (pt : Nat → Value) (I : Nat → World → Prop) (Z : World → Prop) : Prop where
  en : ∀ k, k < n → Enters (G k)
  step : ∀ k wx, k < n → I k wx → ∃ s, own wx rb (rdrCells s true) 95 ∧ wx.cell? ⟨tb, k, none⟩ = some (takerV G pt k) ∧
    Calls Try.prog 68 #[.string s] wx (fun e w1 => ∃ x s' b, e = .returned (.tuple #[.bool x, .string s', .bool b]) ∧ own w1 rb (rdrCells s true) 95 ∧ (b = false → Z (rdSet w1 rb s' false)) ∧
      (b = true → Calls Try.prog (G k) #[pt k, .bool x] (rdSet w1 rb s' true) (fun e w2 => e = .returned (.tuple #[]) ∧ I (k + 1) w2)))
  bad : ∀ k wx, k < n → Z wx → wx.cell? ⟨rb, 1, none⟩ = some (.bool false) ∧ wx.cell? ⟨tb, k, none⟩ = some (takerV G pt k)
def RdBRel (n : Nat) (I : Nat → World → Prop) (Z : World → Prop) (u : Value) (wr : World) : Prop := ∃ k : Nat, k ≤ n ∧ u = .int .i64 (k : Int) ∧ Hid (I k wr ∨ Z wr)
set_option maxHeartbeats 8000000 in
theorem readB_any {n tb rb cap : Nat} {G : Nat → FuncId} {pt : Nat → Value} {I : Nat → World → Prop} {Z : World → Prop} (hp : RdPreB n tb rb G pt I Z) (hn : n ≤ 1000) (w : World) (h0 : I 0 w ∨ Z w) :
    Calls Try.prog 67 #[.pointer (some ⟨rb, 0, none⟩), .func (.func 68) #[] #[], .slice (some ⟨tb, 0, none⟩) n cap] w fun e w' => e = .returned (.tuple #[]) ∧ (I n w' ∨ Z w') := by
  have HP := hid hp
  have H0 := hid h0
  clear hp h0
  go_enter Try.func67, Try.ntmps67
  go_wp2
  go_loopw [11] (RdBRel n I Z) (fun i _ => n - (intOf i).toNat)
  case atStart => exact ⟨0, Nat.zero_le _, rfl, H0⟩
  case round =>
    clear H0
    obtain ⟨k, hk, rfl, hIZ⟩ := hrel
    by_cases hkn : k < n
    · have hkI : (k : Int) < (n : Int) := by omega
      rcases hIZ.out with hI | hZ
      · obtain ⟨s, ho, ht, hc⟩ := HP.out.step k wr hkn hI
        have eg : ∀ (args : Array Value) (w : World), (callFunc (G k) args).run Try.prog w = .ok (.enter (G k) args) w := HP.out.en k hkn
        unfold takerV at ht
        have c0 : wr.cell? ⟨rb, 0, none⟩ = some (.string s) := (ho.cell 0).trans rfl
        have c1 : wr.cell? ⟨rb, 1, none⟩ = some (.bool true) := (ho.cell 1).trans rfl
        have HC := hid hc
        clear hIZ hI ho hc
        generalize G k = g at *
        generalize pt k = p at *
        go_wp2_with (go_at_call 68; (with_reducible refine HC.out.mono ?_))
        rintro e w1 ⟨x, s', b, rfl, ho1, hz1, ht1⟩
        have d0 : w1.cell? ⟨rb, 0, none⟩ = some (.string s) := (ho1.cell 0).trans rfl
        have f0 := ho1.frozen 0
        have d1 : (w1.setCell ⟨rb, 0, none⟩ (.string s')).cell? ⟨rb, 1, none⟩ = some (.bool true) := ((ho1.set 0 (.string s')).cell 1).trans rfl
        have f1 : (w1.setCell ⟨rb, 0, none⟩ (.string s')).frozen? ⟨rb, 1, none⟩ = false := (ho1.set 0 (.string s')).frozen 1
        have HO := hid ho1
        have HT1 := hid ht1
        have HZ1 := hid hz1
        clear ho1 ht1 hz1
        have hg1 : ((w1.setCell ⟨rb, 0, none⟩ (.string s')).setCell ⟨rb, 1, none⟩ (.bool b)).cell? ⟨rb, 1, none⟩ = some (.bool b) := ((rdSet_own HO.out s' b).cell 1).trans rfl
        cases b with
        | false =>
          have HZ2 := hid (HZ1.out rfl)
          go_wp2
          go_roundw
          case rel => exact ⟨k + 1, by omega, by go_num, hid (.inr HZ2.out)⟩
          case measure => simp [intOf]; omega
        | true =>
          have HT2 := hid (HT1.out rfl)
          unfold rdSet at HT2
          go_wp2_with ((with_reducible refine HT2.out.mono ?_); rintro e w2 ⟨rfl, h2⟩; have HI2 := hid h2; clear h2)
          go_roundw
          case rel => exact ⟨k + 1, by omega, by go_num, hid (.inl HI2.out)⟩
          case measure => simp [intOf]; omega
      · obtain ⟨c1, ht⟩ := HP.out.bad k wr hkn hZ
        unfold takerV at ht
        have HZ := hid hZ
        clear hIZ hZ
        go_wp2
        refine bodyPost_ret (results_none rfl _ _ _) rfl ?_
        exact ⟨rfl, .inr HZ.out⟩
    · obtain rfl : k = n := by omega
      go_wp2
      go_end0
      exact ⟨rfl, hIZ.out⟩
/-- What a read of string asks: I k: k takers were done and all is well; Z: something could not be read. -/
structure RdPreS (n tb rb : Nat) (G : Nat → FuncId) (pt : Nat → Value) (I : Nat → World → Prop) (Z : World → Prop) : Prop where
  en : ∀ k, k < n → Enters (G k)
  step : ∀ k wx, k < n → I k wx → ∃ s, own wx rb (rdrCells s true) 95 ∧ wx.cell? ⟨tb, k, none⟩ = some (takerV G pt k) ∧
    Calls Try.prog 77 #[.string s] wx (fun e w1 => ∃ x s' b, e = .returned (.tuple #[.string x, .string s', .bool b]) ∧ own w1 rb (rdrCells s true) 95 ∧ (b = false → Z (rdSet w1 rb s' false)) ∧
      (b = true → Calls Try.prog (G k) #[pt k, .string x] (rdSet w1 rb s' true) (fun e w2 => e = .returned (.tuple #[]) ∧ I (k + 1) w2)))
  bad : ∀ k wx, k < n → Z wx → wx.cell? ⟨rb, 1, none⟩ = some (.bool false) ∧ wx.cell? ⟨tb, k, none⟩ = some (takerV G pt k)
def RdSRel (n : Nat) (I : Nat → World → Prop) (Z : World → Prop) (u : Value) (wr : World) : Prop := ∃ k : Nat, k ≤ n ∧ u = .int .i64 (k : Int) ∧ Hid (I k wr ∨ Z wr)
set_option maxHeartbeats 8000000 in
theorem readS_any {n tb rb cap : Nat} {G : Nat → FuncId} {pt : Nat → Value} {I : Nat → World → Prop} {Z : World → Prop} (hp : RdPreS n tb rb G pt I Z) (hn : n ≤ 1000) (w : World) (h0 : I 0 w ∨ Z w) :
    Calls Try.prog 76 #[.pointer (some ⟨rb, 0, none⟩), .func (.func 77) #[] #[], .slice (some ⟨tb, 0, none⟩) n cap] w fun e w' => e = .returned (.tuple #[]) ∧ (I n w' ∨ Z w') := by
  have HP := hid hp
  have H0 := hid h0
  clear hp h0
  go_enter Try.func76, Try.ntmps76
  go_wp2
  go_loopw [11] (RdSRel n I Z) (fun i _ => n - (intOf i).toNat)
  case atStart => exact ⟨0, Nat.zero_le _, rfl, H0⟩
  case round =>
    clear H0
    obtain ⟨k, hk, rfl, hIZ⟩ := hrel
    by_cases hkn : k < n
    · have hkI : (k : Int) < (n : Int) := by omega
      rcases hIZ.out with hI | hZ
      · obtain ⟨s, ho, ht, hc⟩ := HP.out.step k wr hkn hI
        have eg : ∀ (args : Array Value) (w : World), (callFunc (G k) args).run Try.prog w = .ok (.enter (G k) args) w := HP.out.en k hkn
        unfold takerV at ht
        have c0 : wr.cell? ⟨rb, 0, none⟩ = some (.string s) := (ho.cell 0).trans rfl
        have c1 : wr.cell? ⟨rb, 1, none⟩ = some (.bool true) := (ho.cell 1).trans rfl
        have HC := hid hc
        clear hIZ hI ho hc
        generalize G k = g at *
        generalize pt k = p at *
        go_wp2_with (go_at_call 77; (with_reducible refine HC.out.mono ?_))
        rintro e w1 ⟨x, s', b, rfl, ho1, hz1, ht1⟩
        have d0 : w1.cell? ⟨rb, 0, none⟩ = some (.string s) := (ho1.cell 0).trans rfl
        have f0 := ho1.frozen 0
        have d1 : (w1.setCell ⟨rb, 0, none⟩ (.string s')).cell? ⟨rb, 1, none⟩ = some (.bool true) := ((ho1.set 0 (.string s')).cell 1).trans rfl
        have f1 : (w1.setCell ⟨rb, 0, none⟩ (.string s')).frozen? ⟨rb, 1, none⟩ = false := (ho1.set 0 (.string s')).frozen 1
        have HO := hid ho1
        have HT1 := hid ht1
        have HZ1 := hid hz1
        clear ho1 ht1 hz1
        have hg1 : ((w1.setCell ⟨rb, 0, none⟩ (.string s')).setCell ⟨rb, 1, none⟩ (.bool b)).cell? ⟨rb, 1, none⟩ = some (.bool b) := ((rdSet_own HO.out s' b).cell 1).trans rfl
        cases b with
        | false =>
          have HZ2 := hid (HZ1.out rfl)
          go_wp2
          go_roundw
          case rel => exact ⟨k + 1, by omega, by go_num, hid (.inr HZ2.out)⟩
          case measure => simp [intOf]; omega
        | true =>
          have HT2 := hid (HT1.out rfl)
          unfold rdSet at HT2
          go_wp2_with ((with_reducible refine HT2.out.mono ?_); rintro e w2 ⟨rfl, h2⟩; have HI2 := hid h2; clear h2)
          go_roundw
          case rel => exact ⟨k + 1, by omega, by go_num, hid (.inl HI2.out)⟩
          case measure => simp [intOf]; omega
      · obtain ⟨c1, ht⟩ := HP.out.bad k wr hkn hZ
        unfold takerV at ht
        have HZ := hid hZ
        clear hIZ hZ
        go_wp2
        refine bodyPost_ret (results_none rfl _ _ _) rfl ?_
        exact ⟨rfl, .inr HZ.out⟩
    · obtain rfl : k = n := by omega
      go_wp2
      go_end0
      exact ⟨rfl, hIZ.out⟩
end Go.Proofs.Ytppjojjejabaeaa
