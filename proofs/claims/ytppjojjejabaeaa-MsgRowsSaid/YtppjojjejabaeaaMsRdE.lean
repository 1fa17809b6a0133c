/-
  LAYER 7 (msg), THE PROGRAM: read of an entry.
-/
import Derived.Test.YtppjojjejabaeaaMsRdI
import Derived.Deep.RegionHeld3
namespace Go.Proofs.Ytppjojjejabaeaa
open Go.RowKit
set_option linter.unusedVariables false
set_option maxRecDepth 100000

/-- x's block behind a decoder. -/
def bxSetE (w : World) (g : Nat) (x y z : Int) (d : ByteArray) : World := (((w.setCell ⟨g, 0, none⟩ (.int .i64 x)).setCell ⟨g, 1, none⟩ (.int .i64 y)).setCell ⟨g, 2, none⟩ (.int .i64 z)).setCell ⟨g, 3, none⟩ (.string d)
/-- What a read of kiosk/api.Entry asks: I k: k takers were done and all is well; Z: something could not be read. -/
structure RdPreE (n tb rb : Nat) (G : Nat → FuncId) (pt : Nat → Value) (I : Nat → World → Prop) (Z : World → Prop) : Prop where
  en : ∀ k, k < n → Enters (G k)
  step : ∀ k wx, k < n → I k wx → ∃ s, own wx rb (rdrCells s true) 95 ∧ wx.cell? ⟨tb, k, none⟩ = some (takerV G pt k) ∧
    Calls Try.prog 88 #[.string s] (wx.alloc (.cells #[.int .i64 0, .int .i64 0, .int .i64 0, .string ⟨#[]⟩] 49)) (fun e w1 => ∃ x y z d s' b, e = .returned (.tuple #[.agg #[.int .i64 x, .int .i64 y, .int .i64 z, .string d], .string s', .bool b]) ∧ (own w1 rb (rdrCells s true) 95 ∧ own w1 wx.heap.size #[.int .i64 0, .int .i64 0, .int .i64 0, .string ⟨#[]⟩] 49) ∧ (b = false → Z (rdSet (bxSetE w1 wx.heap.size x y z d) rb s' false)) ∧
      (b = true → Calls Try.prog (G k) #[pt k, .agg #[.int .i64 x, .int .i64 y, .int .i64 z, .string d]] (rdSet (bxSetE w1 wx.heap.size x y z d) rb s' true) (fun e w2 => e = .returned (.tuple #[]) ∧ I (k + 1) w2)))
  bad : ∀ k wx, k < n → Z wx → wx.cell? ⟨rb, 1, none⟩ = some (.bool false) ∧ wx.cell? ⟨tb, k, none⟩ = some (takerV G pt k)
def RdERel (n : Nat) (I : Nat → World → Prop) (Z : World → Prop) (u : Value) (wr : World) : Prop := ∃ k : Nat, k ≤ n ∧ u = .int .i64 (k : Int) ∧ Hid (I k wr ∨ Z wr)
set_option maxHeartbeats 8000000 in
theorem readE_any {n tb rb cap : Nat} {G : Nat → FuncId} {pt : Nat → Value} {I : Nat → World → Prop} {Z : World → Prop} (hp : RdPreE n tb rb G pt I Z) (hn : n ≤ 1000) (w : World) (h0 : I 0 w ∨ Z w) :
    Calls Try.prog 97 #[.pointer (some ⟨rb, 0, none⟩), .func (.func 88) #[] #[], .slice (some ⟨tb, 0, none⟩) n cap] w fun e w' => e = .returned (.tuple #[]) ∧ (I n w' ∨ Z w') := by
  have HP := hid hp
  have H0 := hid h0
  clear hp h0
  go_enter Try.func97, Try.ntmps97
  go_wp2
  go_loopw [11] (RdERel n I Z) (fun i _ => n - (intOf i).toNat)
  case atStart => exact ⟨0, Nat.zero_le _, rfl, H0⟩
  case round =>
    clear H0
    obtain ⟨k, hk, rfl, hIZ⟩ := hrel
    by_cases hkn : k < n
    · have hkI : (k : Int) < (n : Int) := by omega
      rcases hIZ.out with hI | hZ
      · obtain ⟨s, ho, ht, hc⟩ := HP.out.step k wr hkn hI
        have eg : ∀ (args : Array Value) (w : World), (callFunc (G k) args).run Try.prog w = .ok (.enter (G k) args) w := HP.out.en k hkn
        unfold takerV at ht
        have c0 : wr.cell? ⟨rb, 0, none⟩ = some (.string s) := (ho.cell 0).trans rfl
        have c1 : wr.cell? ⟨rb, 1, none⟩ = some (.bool true) := (ho.cell 1).trans rfl
        have c0a : (wr.alloc (.cells #[.int .i64 0, .int .i64 0, .int .i64 0, .string ⟨#[]⟩] 49)).cell? ⟨rb, 0, none⟩ = some (.string s) := ((ho.al _).cell 0).trans rfl
        have HLt : Hid (rb < wr.heap.size) := hid ho.lt
        have HC := hid hc
        clear hIZ hI ho hc
        generalize G k = g at *
        generalize pt k = p at *
        go_wp2_with (go_at_call 88; (with_reducible refine HC.out.mono ?_))
        rintro e w1 ⟨x, y, z, d, s', b, rfl, ⟨ho1, hx1⟩, hz1, ht1⟩
        have hne : rb ≠ wr.heap.size := fun e => by have := HLt.out; omega
        obtain ⟨g0, hg0⟩ : ∃ g0, wr.heap.size = g0 := ⟨_, rfl⟩
        rw [hg0] at hx1 hz1 ht1 hne
        have hx2 := (((hx1.set 0 (.int .i64 x)).set 1 (.int .i64 y)).set 2 (.int .i64 z)).set 3 (.string d)
        have ho2 : own (bxSetE w1 g0 x y z d) rb (rdrCells s true) 95 := (((ho1.other (p := ⟨g0, 0, none⟩) hne _).other (p := ⟨g0, 1, none⟩) hne _).other (p := ⟨g0, 2, none⟩) hne _).other (p := ⟨g0, 3, none⟩) hne _
        have p0 : w1.cell? ⟨g0, 0, none⟩ = some (.int .i64 0) := (hx1.cell 0).trans rfl
        have f0 : w1.frozen? ⟨g0, 0, none⟩ = false := hx1.frozen 0
        have p1 : (w1.setCell ⟨g0, 0, none⟩ (.int .i64 x)).cell? ⟨g0, 1, none⟩ = some (.int .i64 0) := ((hx1.set 0 (.int .i64 x)).cell 1).trans rfl
        have f1 : (w1.setCell ⟨g0, 0, none⟩ (.int .i64 x)).frozen? ⟨g0, 1, none⟩ = false := (hx1.set 0 (.int .i64 x)).frozen 1
        have p2 : ((w1.setCell ⟨g0, 0, none⟩ (.int .i64 x)).setCell ⟨g0, 1, none⟩ (.int .i64 y)).cell? ⟨g0, 2, none⟩ = some (.int .i64 0) := (((hx1.set 0 (.int .i64 x)).set 1 (.int .i64 y)).cell 2).trans rfl
        have f2 : ((w1.setCell ⟨g0, 0, none⟩ (.int .i64 x)).setCell ⟨g0, 1, none⟩ (.int .i64 y)).frozen? ⟨g0, 2, none⟩ = false := ((hx1.set 0 (.int .i64 x)).set 1 (.int .i64 y)).frozen 2
        have p3 : (((w1.setCell ⟨g0, 0, none⟩ (.int .i64 x)).setCell ⟨g0, 1, none⟩ (.int .i64 y)).setCell ⟨g0, 2, none⟩ (.int .i64 z)).cell? ⟨g0, 3, none⟩ = some (.string ⟨#[]⟩) := ((((hx1.set 0 (.int .i64 x)).set 1 (.int .i64 y)).set 2 (.int .i64 z)).cell 3).trans rfl
        have f3 : (((w1.setCell ⟨g0, 0, none⟩ (.int .i64 x)).setCell ⟨g0, 1, none⟩ (.int .i64 y)).setCell ⟨g0, 2, none⟩ (.int .i64 z)).frozen? ⟨g0, 3, none⟩ = false := (((hx1.set 0 (.int .i64 x)).set 1 (.int .i64 y)).set 2 (.int .i64 z)).frozen 3
        have d0 : ((((w1.setCell ⟨g0, 0, none⟩ (.int .i64 x)).setCell ⟨g0, 1, none⟩ (.int .i64 y)).setCell ⟨g0, 2, none⟩ (.int .i64 z)).setCell ⟨g0, 3, none⟩ (.string d)).cell? ⟨rb, 0, none⟩ = some (.string s) := (ho2.cell 0).trans rfl
        have e0 : ((((w1.setCell ⟨g0, 0, none⟩ (.int .i64 x)).setCell ⟨g0, 1, none⟩ (.int .i64 y)).setCell ⟨g0, 2, none⟩ (.int .i64 z)).setCell ⟨g0, 3, none⟩ (.string d)).frozen? ⟨rb, 0, none⟩ = false := ho2.frozen 0
        have d1 : (((((w1.setCell ⟨g0, 0, none⟩ (.int .i64 x)).setCell ⟨g0, 1, none⟩ (.int .i64 y)).setCell ⟨g0, 2, none⟩ (.int .i64 z)).setCell ⟨g0, 3, none⟩ (.string d)).setCell ⟨rb, 0, none⟩ (.string s')).cell? ⟨rb, 1, none⟩ = some (.bool true) := ((ho2.set 0 (.string s')).cell 1).trans rfl
        have e1 : (((((w1.setCell ⟨g0, 0, none⟩ (.int .i64 x)).setCell ⟨g0, 1, none⟩ (.int .i64 y)).setCell ⟨g0, 2, none⟩ (.int .i64 z)).setCell ⟨g0, 3, none⟩ (.string d)).setCell ⟨rb, 0, none⟩ (.string s')).frozen? ⟨rb, 1, none⟩ = false := (ho2.set 0 (.string s')).frozen 1
        have hg1 : ((((((w1.setCell ⟨g0, 0, none⟩ (.int .i64 x)).setCell ⟨g0, 1, none⟩ (.int .i64 y)).setCell ⟨g0, 2, none⟩ (.int .i64 z)).setCell ⟨g0, 3, none⟩ (.string d)).setCell ⟨rb, 0, none⟩ (.string s')).setCell ⟨rb, 1, none⟩ (.bool b)).cell? ⟨rb, 1, none⟩ = some (.bool b) := ((rdSet_own ho2 s' b).cell 1).trans rfl
        have hx3 : own ((((((w1.setCell ⟨g0, 0, none⟩ (.int .i64 x)).setCell ⟨g0, 1, none⟩ (.int .i64 y)).setCell ⟨g0, 2, none⟩ (.int .i64 z)).setCell ⟨g0, 3, none⟩ (.string d)).setCell ⟨rb, 0, none⟩ (.string s')).setCell ⟨rb, 1, none⟩ (.bool b)) g0 #[(.int .i64 x), (.int .i64 y), (.int .i64 z), (.string d)] 49 := rdSet_other hx2 (Ne.symm hne)
        have x0 : ((((((w1.setCell ⟨g0, 0, none⟩ (.int .i64 x)).setCell ⟨g0, 1, none⟩ (.int .i64 y)).setCell ⟨g0, 2, none⟩ (.int .i64 z)).setCell ⟨g0, 3, none⟩ (.string d)).setCell ⟨rb, 0, none⟩ (.string s')).setCell ⟨rb, 1, none⟩ (.bool b)).cell? ⟨g0, 0, none⟩ = some (.int .i64 x) := (hx3.cell 0).trans rfl
        have x1 : ((((((w1.setCell ⟨g0, 0, none⟩ (.int .i64 x)).setCell ⟨g0, 1, none⟩ (.int .i64 y)).setCell ⟨g0, 2, none⟩ (.int .i64 z)).setCell ⟨g0, 3, none⟩ (.string d)).setCell ⟨rb, 0, none⟩ (.string s')).setCell ⟨rb, 1, none⟩ (.bool b)).cell? ⟨g0, 1, none⟩ = some (.int .i64 y) := (hx3.cell 1).trans rfl
        have x2 : ((((((w1.setCell ⟨g0, 0, none⟩ (.int .i64 x)).setCell ⟨g0, 1, none⟩ (.int .i64 y)).setCell ⟨g0, 2, none⟩ (.int .i64 z)).setCell ⟨g0, 3, none⟩ (.string d)).setCell ⟨rb, 0, none⟩ (.string s')).setCell ⟨rb, 1, none⟩ (.bool b)).cell? ⟨g0, 2, none⟩ = some (.int .i64 z) := (hx3.cell 2).trans rfl
        have x3 : ((((((w1.setCell ⟨g0, 0, none⟩ (.int .i64 x)).setCell ⟨g0, 1, none⟩ (.int .i64 y)).setCell ⟨g0, 2, none⟩ (.int .i64 z)).setCell ⟨g0, 3, none⟩ (.string d)).setCell ⟨rb, 0, none⟩ (.string s')).setCell ⟨rb, 1, none⟩ (.bool b)).cell? ⟨g0, 3, none⟩ = some (.string d) := (hx3.cell 3).trans rfl
        have HG0 := hid hg0
        have HT1 := hid ht1
        have HZ1 := hid hz1
        clear ho1 ht1 hz1 hx1 hx2 ho2 hx3 hne
        cases b with
        | false =>
          have HZ2 := hid (HZ1.out rfl)
          clear HG0
          go_wp2
          go_roundw
          case rel => exact ⟨k + 1, by omega, by go_num, hid (.inr HZ2.out)⟩
          case measure => simp [intOf]; omega
        | true =>
          have HT2 := hid (HT1.out rfl)
          unfold rdSet bxSetE at HT2
          clear HG0
          go_wp2_with ((with_reducible refine HT2.out.mono ?_); rintro e w2 ⟨rfl, h2⟩; have HI2 := hid h2; clear h2)
          go_roundw
          case rel => exact ⟨k + 1, by omega, by go_num, hid (.inl HI2.out)⟩
          case measure => simp [intOf]; omega
      · obtain ⟨c1, ht⟩ := HP.out.bad k wr hkn hZ
        unfold takerV at ht
        have HZ := hid hZ
        clear hIZ hZ
        go_wp2
        refine bodyPost_ret (results_none rfl _ _ _) rfl ?_
        exact ⟨rfl, .inr HZ.out⟩
    · obtain rfl : k = n := by omega
      go_wp2
      go_end0
      exact ⟨rfl, hIZ.out⟩
end Go.Proofs.Ytppjojjejabaeaa
