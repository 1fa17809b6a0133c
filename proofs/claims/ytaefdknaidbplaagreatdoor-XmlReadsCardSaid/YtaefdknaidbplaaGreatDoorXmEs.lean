/-
  LAYER 11 (xml), THE PROGRAM: escapeByte, escape, Escape.
-/
import Derived.Test.YtaefdknaidbplaaGreatDoorXmBd
namespace Go.Proofs.YtaefdknaidbplaaGreatDoor
open Go.RowKit
set_option linter.unusedVariables false
set_option maxRecDepth 100000

theorem escB_is {c : UInt8} {k : Nat} (hk : k < 5) (h : c = chK k) : escB c = 38 :: nmK k ++ [59] := by
  subst h
  match k, hk with
  | 0, _ | 1, _ | 2, _ | 3, _ | 4, _ => rfl
  | n + 5, h => omega
theorem escB_one {c : UInt8} (h : ∀ j, j < 5 → c ≠ chK j) : escB c = [c] := by
  have h0 := h 0 (by decide); have h1 := h 1 (by decide); have h2 := h 2 (by decide); have h3 := h 3 (by decide); have h4 := h 4 (by decide)
  simp [chK] at h0 h1 h2 h3 h4
  simp [escB, h0, h1, h2, h3, h4]
theorem nmK_len (k : Nat) : (nmK k).length ≤ 4 := by
  unfold nmK
  split
  · simp
  · split
    · simp
    · split
      · simp
      · split <;> simp
theorem ixZ (q : UInt8) (wx : World) : (Instr.index 9 (.string (mk [q])) (.int .i64 0)).run Tryz.prog wx = .ok (.int .u8 (q.toNat : Nat)) wx := by
  rw [run_index_string (P := Tryz.prog) wx 9 (mk [q]) .i64 0 Tryz.underlying9]
  simp [mk]
  rfl
theorem u8_ne {a c : UInt8} (h : c ≠ a) : (((a.toNat : Nat) : Int) == ((c.toNat : Nat) : Int)) = false := by
  simp
  intro e
  exact h (UInt8.toNat_inj.1 (by omega)).symm
theorem escB_len (c : UInt8) : (escB c).length ≤ 6 := by
  unfold escB
  split
  · simp
  · split
    · simp
    · split
      · simp
      · split
        · simp
        · split <;> simp
set_option maxHeartbeats 4000000 in
theorem escByte_any {B b : Nat} {F : Nat → Prop} {l : List UInt8} {w : World} (hG : Gb B w) (h : BIs w F b l) (c : UInt8) (hlen : l.length ≤ 5000000) :
    Calls Tryz.prog 52 #[.pointer (some ⟨b, 0, none⟩), .int .u8 (c.toNat : Nat)] w fun e w' => e = .returned (.tuple #[]) ∧ BTo F w w' b (l ++ escB c) := by
  obtain ⟨n0, n1, n2, n3, n4, n5, n6, n7, n8, n9⟩ := hG.names
  have HI := hid h
  have HL := hid hlen
  clear hG h hlen
  go_enter Tryz.func52, Tryz.ntmps52
  go_wp2
  clear n0 n1 n2 n3 n4 n5 n6 n7 n8 n9
  go_loopw [7] (fun i wr => ∃ k : Nat, k ≤ 5 ∧ i = .int .i64 k ∧ Hid (∀ j, j < k → c ≠ chK j) ∧ Below w.heap.size w wr) (fun i _ => 5 - (intOf i).toNat)
  case atStart => exact ⟨0, by omega, rfl, hid (fun j hj => absurd hj (by omega)), Below.refl _ _⟩
  case round =>
    obtain ⟨k, hk, rfl, hN, hb⟩ := hrel
    have hz := hb.size
    by_cases hk5 : k < 5
    · have x1 := fun wx => ixK k hk5 wx
      have x2 := fun wx => ixZ (chK k) wx
      by_cases e : c = chK k
      · have HE : Hid (l ++ [38] ++ (mk (nmK k)).data.toList ++ [59] = l ++ escB c) := hid (by rw [escB_is hk5 e, mk_data]; simp)
        have q1 : (((chK k).toNat : Int) == (c.toNat : Int)) = true := by rw [e]; simp
        have hb3 : Hid (Below w.heap.size w (wr.alloc (.cells #[.string (mk [chK k]), .string (mk (nmK k))] 92))) := hid (hb.alloc hz _)
        have hbx : Hid (own (wr.alloc (.cells #[.string (mk [chK k]), .string (mk (nmK k))] 92)) wr.heap.size #[.string (mk [chK k]), .string (mk (nmK k))] 92) := hid (own.new wr _ _)
        have hnF : Hid (¬ F wr.heap.size) := hid (fun hf => by have := HI.out.lt _ hf; omega)
        have hnm : Hid ((nmK k).length ≤ 4) := hid (nmK_len k)
        have H1 := hid (bdByte_any (bdRep.later HI.out hb3.out) 38 38 rfl (by have := HL.out; omega))
        clear e hN
        go_wp2_with (first
          | (go_at_call 30; (first
            | ((with_reducible refine H1.out.mono ?_); (first | rintro e w2 rfl hi2 | rintro e w2 ⟨rfl, hi2⟩); (have hx2 := hid (bTo_box hi2 hbx.out hnF.out)); (have hc1 : w2.cell? ⟨wr.heap.size, 1, none⟩ = some (.string (mk (nmK k))) := (by rw [hx2.out.cell]; rfl)); obtain ⟨F1, hk2, g1, s1⟩ := hi2; (have H2 := hid (bdStr_any hk2 (mk (nmK k)) (by rw [mk_size, List.length_append]; have := HL.out; have := hnm.out; simp; omega))))
            | ((with_reducible refine H3.out.mono ?_); (first | rintro e w4 rfl hi4 | rintro e w4 ⟨rfl, hi4⟩))))
          | (go_at_call 29; go_loud ((with_reducible refine H2.out.mono ?_); (first | rintro e w3 rfl hi3 | rintro e w3 ⟨rfl, hi3⟩); obtain ⟨F2, hk3, g2, s2⟩ := hi3; (have H3 := hid (bdByte_any hk3 59 59 rfl (by rw [mk_data, List.length_append, List.length_append]; have := HL.out; have := hnm.out; simp; omega))))))
        refine bodyPost_ret (results_none rfl _ _ _) rfl ?_
        exact ⟨rfl, by rw [← HE.out]; exact bTo_behind hb3.out HI.out (bTo_step g1 s1 (bTo_step g2 s2 hi4))⟩
      · have hn2 : Hid (∀ j, j < k + 1 → c ≠ chK j) := hid (fun j hj => by
          rcases Nat.lt_or_ge j k with h | h
          · exact hN.out j h
          · obtain rfl : j = k := by omega
            exact e)
        have q1 := u8_ne e
        clear e hN
        go_wp2
        go_roundw
        case rel => exact ⟨k + 1, by omega, by go_num, hn2, hb.trans (by first | (with_reducible assumption) | exact (Below.alloc (Below.refl _ _) hb.size _))⟩
        case measure => simp [intOf]; omega
    · obtain rfl : k = 5 := by omega
      have HE : Hid (l ++ [c] = l ++ escB c) := hid (by rw [escB_one hN.out])
      have H4 := hid (bdByte_any (bdRep.later HI.out hb) c _ rfl (by have := HL.out; omega))
      clear hN hk5
      go_wp2_with (go_at_call 30; (with_reducible refine H4.out.mono ?_); rintro e w2 ⟨rfl, hi2⟩)
      go_end0
      exact ⟨rfl, by rw [← HE.out]; exact bTo_behind hb HI.out hi2⟩
theorem escF (l : List UInt8) (c : UInt8) : (l ++ [c]).flatMap escB = l.flatMap escB ++ escB c := by simp
theorem escF_len (l : List UInt8) : (l.flatMap escB).length ≤ 6 * l.length := by
  induction l with
  | nil => simp
  | cons c r ih => rw [List.flatMap_cons, List.length_append, List.length_cons]; have := escB_len c; omega
theorem escF_take (l : List UInt8) (k : Nat) : ((l.take k).flatMap escB).length ≤ (l.flatMap escB).length := by
  have : l.flatMap escB = (l.take k).flatMap escB ++ (l.drop k).flatMap escB := by rw [← List.flatMap_append, List.take_append_drop]
  rw [this, List.length_append]
  omega
set_option maxHeartbeats 2000000 in
theorem escape_all {B b : Nat} {F : Nat → Prop} {l : List UInt8} {w0 w : World} (hG : Gb B w) (hB : B ≤ w0.heap.size) (h : BHas w0 w F b l) (s : ByteArray) (hlen : l.length + (s.data.toList.flatMap escB).length ≤ 5000000) (hs9 : s.size ≤ 5000000) :
    Calls Tryz.prog 31 #[.pointer (some ⟨b, 0, none⟩), .string s] w fun e w' => e = .returned (.tuple #[]) ∧ BTo F w w' b (l ++ s.data.toList.flatMap escB) := by
  have HI := hid h
  have HG := hid (fun (w1 : World) (hb : Below w0.heap.size w w1) => hG.below (hb.mono hB))
  have hsz : s.data.toList.length = s.size := str_len s
  have HL := hid hlen
  clear hG h hlen
  go_enter Tryz.func31, Tryz.ntmps31
  go_wp2
  go_loopw [7] (fun i wr => ∃ k : Nat, k ≤ s.size ∧ i = .int .i64 k ∧ Hid (BTo F w wr b (l ++ (s.data.toList.take k).flatMap escB))) (fun i _ => s.size - (intOf i).toNat)
  case atStart => exact ⟨0, by omega, rfl, hid (by simpa using Rep.Turn.stay HI.out.is (Below.refl _ _))⟩
  case round =>
    obtain ⟨k, hk, rfl, hT⟩ := hrel
    by_cases hlt : k < s.size
    · obtain ⟨F1, hH, g1, s1⟩ := hT.out
      have ht : s.data.toList.take (k + 1) = s.data.toList.take k ++ [s[k]'hlt] := by rw [List.take_succ_eq_append_getElem (by omega)]; rfl
      have hgb := HG.out wr (g1.below HI.out.below.size (fun x hx => HI.out.new x hx))
      have hll := escF_take s.data.toList k
      have H1 := hid (escByte_any hgb hH (s[k]'hlt) (by rw [List.length_append]; have := HL.out; omega))
      have HT2 : Hid (∀ w2, BTo F1 wr w2 b (l ++ (s.data.toList.take k).flatMap escB ++ escB (s[k]'hlt)) → BTo F w w2 b (l ++ (s.data.toList.take (k + 1)).flatMap escB)) := hid (fun w2 h2 => by
        rw [ht, escF, ← List.append_assoc]
        exact bTo_step g1 s1 h2)
      clear hgb hH g1 s1 hll ht
      go_wp2_with (go_at_call 52; (with_reducible refine H1.out.mono ?_); rintro e w2 ⟨rfl, hi2⟩)
      go_roundw
      case rel => exact ⟨k + 1, by omega, by go_num, hid (HT2.out _ hi2)⟩
      case measure => simp [intOf]; omega
    · go_wp2
      go_end0
      exact ⟨rfl, by have := hT.out; rw [List.take_of_length_le (by omega)] at this; exact this⟩
theorem escape_any {B b : Nat} {F : Nat → Prop} {l : List UInt8} {w0 w : World} (hG : Gb B w) (hB : B ≤ w0.heap.size) (h : BHas w0 w F b l) (s : ByteArray) (hlen : l.length + 6 * s.size ≤ 5000000) :
    Calls Tryz.prog 31 #[.pointer (some ⟨b, 0, none⟩), .string s] w fun e w' => e = .returned (.tuple #[]) ∧ BTo F w w' b (l ++ s.data.toList.flatMap escB) :=
  escape_all hG hB h s (by have := escF_len s.data.toList; rw [str_len] at this; omega) (by omega)
set_option maxHeartbeats 1000000 in
/-- Escape. -/
theorem Escape_any {B : Nat} {w : World} (hG : Gb B w) (hB : B ≤ w.heap.size) (s : ByteArray) (hlen : s.size ≤ 800000) :
    Calls Tryz.prog 12 #[.string s] w fun e w' => e = .returned (.string (mk (s.data.toList.flatMap escB))) ∧ Below w.heap.size w w' := by
  have hf := bIs_fresh w
  have HE := hid (escape_any (hG.below (((Below.refl _ _).alloc (Nat.le_refl _) _).mono hB)) hB hf s (by simp; omega))
  have HF := hid hf
  clear hG hB hf
  go_enter Tryz.func12, Tryz.ntmps12
  go_wp2_with (first
    | (go_at_call 31; (with_reducible refine HE.out.mono ?_); rintro e w2 ⟨rfl, hi2⟩; obtain ⟨F2, hH2, _⟩ := HF.out.turn hi2)
    | (go_at_call 32; (with_reducible refine (bdString_any hH2).mono ?_); rintro e w3 ⟨rfl, hb3⟩))
  go_ret
  exact ⟨by simp, hb3⟩
end Go.Proofs.YtaefdknaidbplaaGreatDoor
