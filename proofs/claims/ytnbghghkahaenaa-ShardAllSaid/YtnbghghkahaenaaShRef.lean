/-
  LAYER 14 (shard), THE DOCUMENT's ANSWER: Name, Hash, Of, Part; the law's same.
-/
import Derived.Test.YtnbghghkahaenaaShMath
import Derived.Test.YtnbghghkahaenaaGStrs
import Derived.Laws.BitsAllLaws
import Derived.BigQuiet
namespace Go.Proofs.Ytnbghghkahaenaa
open Go.RowKit
set_option linter.unusedVariables false
set_option maxRecDepth 100000

set_option maxHeartbeats 4000000 in
theorem refHash_any (s : ByteArray) (w : World) (hs : s.size ≤ 1000000000) : Calls Try.prog 12 #[.string s] w fun e w' => e = .returned (.int .u32 (hashL s.data.toList : Nat)) ∧ w = w' := by
  obtain ⟨H, hH⟩ : ∃ H, hashL s.data.toList = H := ⟨_, rfl⟩
  rw [hH]
  have HH := hid hH
  clear hH
  go_enter Try.func12, Try.ntmps12
  go_wp2
  go_loop [3, 4] (fun h i => ∃ k : Nat, k ≤ s.size ∧ i = .int .i64 k ∧ h = .int .u64 (hashL (s.data.toList.take k) : Nat)) (fun _ i => s.size - (intOf i).toNat)
  case atStart => exact ⟨0, Nat.zero_le _, rfl, rfl⟩
  case round =>
    obtain ⟨k, hk, rfl, rfl⟩ := hrel
    have hx := hashL_lt (s.data.toList.take k)
    by_cases hlt : k < s.size
    · have hst1 : hashL (s.data.toList.take (k + 1)) = hst (hashL (s.data.toList.take k)) s[k] := by rw [take_snocL s k hlt, hashL_snoc]
      generalize hashL (s.data.toList.take k) = x at hx hst1
      have hc : s[k].toNat < 256 := s[k].toNat_lt
      have hx1 : x ^^^ s[k].toNat < 4294967296 := Nat.xor_lt_two_pow (n := 32) hx (by omega)
      have e1 : bits .xor .u64 (x : Int) (s[k].toNat : Int) = ((x ^^^ s[k].toNat : Nat) : Int) := u64_xor_nat _ _ (by omega) (by omega)
      unfold hst at hst1
      generalize hr : x ^^^ s[k].toNat = r at *
      have HS : Hid (((hashL (s.data.toList.take (k + 1)) : Nat) : Int) = (r : Int) * 16777619 % 4294967296) := hid (by rw [hst1]; omega)
      clear hst1 hr
      go_wp2
      go_round
      case rel => exact ⟨k + 1, by omega, by go_num, by rw [HS.out]⟩
      case measure => simp [intOf]; omega
    · obtain rfl : k = s.size := by omega
      rw [List.take_of_length_le (by simp), HH.out] at hx ⊢
      go_wp2
      go_ret
      exact ⟨rfl, rfl⟩
set_option maxHeartbeats 4000000 in
theorem refOf_any (s : ByteArray) (w : World) (hs : s.size ≤ 1000000000) : Calls Try.prog 14 #[.string s] w fun e w' => e = .returned (.int .i64 (ofL s : Nat)) ∧ w = w' := by
  have C1 := hid (refHash_any s w hs)
  have hx := hashL_lt s.data.toList
  unfold ofL
  generalize hashL s.data.toList = x at *
  go_enter Try.func14, Try.ntmps14
  go_wp2_with (go_at_call 12; (with_reducible refine C1.out.mono ?_); rintro e w1 ⟨rfl, rfl⟩)
  go_ret
  exact ⟨by first | rfl | (push_cast; rfl), rfl⟩
theorem all_more (s : ByteArray) (k : Nat) (h : k < s.size) : (s.data.toList.take (k + 1)).all nameOk = ((s.data.toList.take k).all nameOk && nameOk s[k]) := by
  rw [take_snocL s k h, List.all_append]; simp
set_option maxHeartbeats 4000000 in
theorem refName_any (s : ByteArray) (w : World) (hs : s.size ≤ 1000000000) : Calls Try.prog 10 #[.string s] w fun e w' => e = .returned (.bool (nameL s.data.toList)) ∧ w = w' := by
  obtain ⟨b, hb⟩ : ∃ b, nameL s.data.toList = b := ⟨_, rfl⟩
  rw [hb]
  have HB : Hid (((s.data.toList.all nameOk && decide (1 ≤ s.size)) && decide (s.size ≤ 60)) = b) := hid (by rw [← hb]; unfold nameL; rw [show s.data.toList.length = s.size by simp])
  clear hb
  go_enter Try.func10, Try.ntmps10
  go_wp2
  go_loop [3] (fun i => ∃ k : Nat, k ≤ s.size ∧ i = .int .i64 k ∧ Hid ((s.data.toList.take k).all nameOk = true)) (fun i => s.size - (intOf i).toNat)
  case atStart => exact ⟨0, Nat.zero_le _, rfl, hid rfl⟩
  case round =>
    obtain ⟨k, hk, rfl, hq⟩ := hrel
    by_cases hlt : k < s.size
    · have hm := all_more s k hlt
      rw [hq.out, Bool.true_and] at hm
      have hnn : (s.data.toList.all nameOk) = true → nameOk s[k] = true := fun h => by
        exact List.all_eq_true.1 h _ (show s[k] ∈ s.data.toList from by rw [show s[k] = s.data.toList[k]'(by simpa using hlt) from rfl]; exact List.getElem_mem _)
      have hok : nameOk s[k] = (decide (33 ≤ s[k].toNat) && decide (s[k].toNat ≤ 126)) := rfl
      have hc : s[k].toNat < 256 := s[k].toNat_lt
      generalize hr : s[k].toNat = c at *
      by_cases h1 : c < 33
      · have hf : nameOk s[k] = false := by rw [hok, decide_eq_false (by omega)]; rfl
        obtain rfl : b = false := HB.out.symm.trans (by
          cases hx : s.data.toList.all nameOk with
          | false => rfl
          | true => rw [hnn hx] at hf; cases hf)
        clear hm hnn hok hf
        go_wp2
        go_ret
        exact ⟨rfl, rfl⟩
      · by_cases h2 : 126 < c
        · have hf : nameOk s[k] = false := by rw [hok, decide_eq_false (by omega : ¬ c ≤ 126), Bool.and_false]
          obtain rfl : b = false := HB.out.symm.trans (by
            cases hx : s.data.toList.all nameOk with
            | false => rfl
            | true => rw [hnn hx] at hf; cases hf)
          clear hm hnn hok hf
          go_wp2
          go_ret
          exact ⟨rfl, rfl⟩
        · have hf : nameOk s[k] = true := by rw [hok, decide_eq_true (by omega : 33 ≤ c), decide_eq_true (by omega : c ≤ 126)]; rfl
          have HM : Hid ((s.data.toList.take (k + 1)).all nameOk = true) := hid (hm.trans hf)
          clear hm hnn hok hf
          go_wp2
          go_round
          case rel => exact ⟨k + 1, by omega, by go_num, HM⟩
          case measure => simp [intOf]; omega
    · obtain rfl : k = s.size := by omega
      have hbb := HB.out
      have hqq := hq.out
      rw [List.take_of_length_le (by simp)] at hqq
      rw [hqq] at hbb
      simp only [Bool.true_and] at hbb
      clear hq hqq
      by_cases h1 : 1 ≤ s.size
      · rw [decide_eq_true h1, Bool.true_and] at hbb
        by_cases h2 : s.size ≤ 60
        · rw [decide_eq_true h2] at hbb
          subst hbb
          go_wp2
          go_ret
          exact ⟨by first | rfl | (simp; omega), rfl⟩
        · rw [decide_eq_false h2] at hbb
          subst hbb
          go_wp2
          go_ret
          exact ⟨by first | rfl | (simp; omega), rfl⟩
      · rw [decide_eq_false h1, Bool.false_and] at hbb
        subst hbb
        go_wp2
        go_ret
        exact ⟨by first | rfl | (simp; omega), rfl⟩
/-- A row of texts as the walks read it. -/
theorem strs_in {w : World} {v : Value} {L : List ByteArray} (hv : RAt strTy w v L) : ∃ ao cap, v = .slice ao L.length cap ∧ ∀ wx, Below w.heap.size w wx → ∀ (k : Nat) x, L[k]? = some x → ∃ sb so, ao = some ⟨sb, so, none⟩ ∧ wx.cell? ⟨sb, so + k, none⟩ = some (.string x) := by
  obtain ⟨ao, cap, rfl, hat⟩ := strs_at hv
  exact ⟨ao, cap, rfl, fun wx hb k x hk => by
    obtain ⟨sb, so, e, hlt, hc⟩ := hat k x hk
    exact ⟨sb, so, e, (hb.cell (p := ⟨sb, so + k, none⟩) hlt).trans hc⟩⟩
theorem part_more {L : List ByteArray} {k : Nat} {x : ByteArray} (n : Int) (hk : L[k]? = some x) : partL (L.take (k + 1)) n = partL (L.take k) n ++ (if inPart n x = true then [x] else []) := by
  unfold partL
  rw [List.take_add_one, hk, Option.toList, List.filter_append, List.filter_cons, List.filter_nil]
def PaRel (L : List ByteArray) (n : Int) (w : World) (u v : Value) (wr : World) : Prop := ∃ (k m : Nat) (a : Option Addr) (c : Nat), k ≤ L.length ∧ u = .slice a m c ∧ v = .int .i64 (k : Int) ∧ Hid (RMid strTy w wr (.slice a m c) (partL (L.take k) n) ∧ m = (partL (L.take k) n).length)
def StrPost14 (w : World) (L : List ByteArray) (e : Ending) (w' : World) : Prop := ∃ a c, e = .returned (.slice a L.length c) ∧ RAt strTy w' (.slice a L.length c) L ∧ Below w.heap.size w w'
set_option maxHeartbeats 4000000 in
theorem refPart_any {w : World} {v : Value} {L : List ByteArray} (n : Int) (hv : RAt strTy w v L) (hl : L.length ≤ 100000) (hs : ∀ s ∈ L, s.size ≤ 1000000000) :
    Calls Try.prog 18 #[v, .int .i64 n] w (StrPost14 w (partL L n)) := by
  obtain ⟨ao, cap, rfl, hat⟩ := strs_in hv
  have HAt := hid hat
  have HSz := hid hs
  clear hat hv hs
  obtain ⟨ln, hn⟩ : ∃ n, L.length = n := ⟨_, rfl⟩
  rw [hn] at hl
  rw [hn]
  have HN := hid hn
  clear hn
  go_enter Try.func18, Try.ntmps18
  go_wp2
  go_loopw [5, 6] (PaRel L n w) (fun _ i _ => ln - (intOf i).toNat)
  case atStart => exact ⟨0, 0, none, 0, Nat.zero_le _, rfl, rfl, hid ⟨by rw [List.take_zero]; exact rMid_nil w, by simp [partL]⟩⟩
  case round =>
    obtain ⟨k, m, a, c, hk, rfl, rfl, hq⟩ := hrel
    by_cases hkn : k < ln
    · have hkI : (k : Int) < (ln : Int) := by omega
      obtain ⟨x, hx⟩ : ∃ x, L[k]? = some x := ⟨_, List.getElem?_eq_getElem (by rw [HN.out]; exact hkn)⟩
      obtain ⟨sb, so, rfl, c0⟩ := HAt.out _ hq.out.1.below k x hx
      have C1 := hid (refOf_any x wr (HSz.out x (List.mem_of_getElem? hx)))
      have hpm := part_more n hx
      have HKn : Hid (k + 1 ≤ L.length) := hid (by rw [HN.out]; exact hkn)
      have hnl := part_len (L.take k) n
      rw [List.length_take] at hnl
      have hin : inPart n x = decide ((ofL x : Int) = n) := rfl
      have hof := ofL_lt x
      generalize ofL x = f at *
      clear hk hx
      by_cases hfx : (f : Int) = n
      · rw [hin, decide_eq_true hfx, if_pos rfl] at hpm
        have q1 : ((f : Int) == n) = true := by rw [hfx]; exact beq_self_eq_true _
        obtain ⟨a5, c5, w5, hrun, h5⟩ := hq.out.1.push strTy_ok 27 9 x #[.string x] rfl (by have := HN.out; omega)
        rw [← hq.out.2] at hrun h5
        rw [← hpm] at h5
        have HRun : Hid ((Builtin.append_ #[27, 27] 27 #[.slice a m c, .slice (some ⟨wr.heap.size, 0, none⟩) 1 1]).run Try.prog (wr.alloc (.cells #[.string x] 9)) = .ok (.slice a5 (m + 1) c5) w5) := hid hrun
        have HM : Hid (RMid strTy w w5 (.slice a5 (m + 1) c5) (partL (L.take (k + 1)) n) ∧ m + 1 = (partL (L.take (k + 1)) n).length) := hid ⟨h5, by rw [hpm, List.length_append, ← hq.out.2]; rfl⟩
        clear hpm hin hnl hrun h5 hfx
        go_wp2_with (first
          | (go_at_call 14; (with_reducible refine C1.out.mono ?_); rintro e w1 ⟨rfl, rfl⟩)
          | (at_builtin; refine wpList_append_at HRun.out (by with_reducible rfl) rfl _ _ rfl rfl rfl rfl ?_))
        go_roundw
        case rel => exact ⟨k + 1, m + 1, a5, c5, HKn.out, rfl, by go_num, HM⟩
        case measure => simp [intOf]; omega
      · rw [hin, decide_eq_false hfx, if_neg (by simp), List.append_nil] at hpm
        have q1 : ((f : Int) == n) = false := beq_false_of_ne hfx
        have HM : Hid (RMid strTy w wr (.slice a m c) (partL (L.take (k + 1)) n) ∧ m = (partL (L.take (k + 1)) n).length) := hid (by rw [hpm]; exact hq.out)
        clear hpm hin hnl
        go_wp2_with (go_at_call 14; (with_reducible refine C1.out.mono ?_); rintro e w1 ⟨rfl, rfl⟩)
        go_roundw
        case rel => exact ⟨k + 1, m, a, c, HKn.out, rfl, by go_num, HM⟩
        case measure => simp [intOf]; omega
    · have hkI : (ln : Int) ≤ (k : Int) := by omega
      have hqq := hq.out
      rw [List.take_of_length_le (by have := HN.out; omega)] at hqq
      obtain ⟨h1, rfl⟩ := hqq
      have HQ := hid h1
      clear h1 hk hq
      go_wp2
      go_ret
      exact ⟨a, c, rfl, HQ.out.row.rAt, HQ.out.below⟩
def SiRel14 (w : World) (n : Nat) (u : Value) (wr : World) : Prop := ∃ k : Nat, k ≤ n ∧ u = .int .i64 (k : Int) ∧ Below w.heap.size w wr
set_option maxHeartbeats 4000000 in
theorem same14 {w : World} {v1 v2 : Value} {L : List ByteArray} (h1 : RAt strTy w v1 L) (h2 : RAt strTy w v2 L) (hl : L.length ≤ 1000000) :
    Calls Try.prog 16 #[v1, v2] w fun e w' => e = .returned (.bool true) ∧ Below w.heap.size w w' := by
  obtain ⟨a1, c1, rfl, hat1⟩ := strs_in h1
  obtain ⟨a2, c2, rfl, hat2⟩ := strs_in h2
  have H1 := hid hat1
  have H2 := hid hat2
  clear hat1 hat2 h1 h2
  obtain ⟨n, hn⟩ : ∃ n, L.length = n := ⟨_, rfl⟩
  rw [hn] at hl ⊢
  have HN := hid hn
  clear hn
  go_enter Try.func16, Try.ntmps16
  go_wp2
  go_loopw [5] (SiRel14 w n) (fun i _ => n - (intOf i).toNat)
  case atStart => exact ⟨0, Nat.zero_le _, rfl, Below.refl _ _⟩
  case round =>
    obtain ⟨k, hk, rfl, hbw⟩ := hrel
    by_cases hkn : k < n
    · have hkI : (k : Int) < (n : Int) := by omega
      obtain ⟨x, hx⟩ : ∃ x, L[k]? = some x := ⟨_, List.getElem?_eq_getElem (by rw [HN.out]; exact hkn)⟩
      obtain ⟨sb, so, rfl, d1⟩ := H1.out _ hbw k x hx
      obtain ⟨sc, sd, rfl, d2⟩ := H2.out _ hbw k x hx
      have HBw := hid (fun nq => below_drew hbw nq)
      have q : (x != x) = false := by first | rfl | simp | (show (!(x.data == x.data)) = false; simp)
      have q2 : (x.toList == x.toList) = true := beq_self_eq_true _
      clear hbw hx
      go_wp2
      go_quiet (fail)
      all_goals
        go_wp2
        go_roundw
        case rel => exact ⟨k + 1, by omega, by go_num, HBw.out _⟩
        case measure => simp [intOf]; omega
    · obtain rfl : k = n := by omega
      have HBw := hid hbw
      clear hbw
      go_wp2
      go_ret
      exact ⟨rfl, HBw.out⟩
end Go.Proofs.Ytnbghghkahaenaa
