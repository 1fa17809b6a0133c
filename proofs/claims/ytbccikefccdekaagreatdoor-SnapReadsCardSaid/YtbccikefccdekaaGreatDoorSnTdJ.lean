import Derived.Test.YtbccikefccdekaaGreatDoorSnPkJ
/-
  LAYER 4 (snap), THE PROGRAM: toData.
-/
namespace Go.Proofs.YtbccikefccdekaaGreatDoor
open Go.RowKit
set_option linter.unusedVariables false
set_option maxRecDepth 100000

set_option maxHeartbeats 1000000 in
theorem len_bu {T : TypeId} {B b : Nat} {v : Value} {l : List UInt8} {w : World} (h : Bu T B b v l w) : Calls Tryz.prog 55 #[.pointer (some ⟨b, 0, none⟩)] w fun e w' => e = .returned (.int .i64 (l.length : Int)) ∧ w = w' := by
  obtain ⟨p, -, ho⟩ := h.box
  obtain ⟨a, c, rfl⟩ : ∃ a c, v = .slice a l.length c := by
    rcases h.row.2 with ⟨hv, h0⟩ | ⟨g, cap, cur, hv, _⟩
    · exact ⟨none, 0, by rw [hv, h0]⟩
    · exact ⟨_, _, hv⟩
  have c1 := (ho.cell 1).trans (rfl : #[p, Value.slice a l.length c][1]? = some (Value.slice a l.length c))
  clear h ho
  generalize l.length = n at *
  go_enter Tryz.func55, Tryz.ntmps55
  go_wp2
  go_ret
  exact ⟨rfl, rfl⟩
/-! ### the chunks, one by one -/
theorem dataF_err : ∀ (k : Nat) (s : List UInt8) (n : Nat), (dataF k s n).2.2 ≠ 0 → dataF k s n = ([], [], (dataF k s n).2.2)
  | k, s, 0, h => by cases k <;> exact absurd rfl h
  | 0, s, n + 1, h => rfl
  | k + 1, s, n + 1, h => by
    unfold dataF at h ⊢
    split at h
    · rw [if_pos (by assumption)]
    · rw [if_neg (by assumption)]
      split at h
      · rw [if_pos (by assumption)]
      · rw [if_neg (by assumption)]
        split at h
        · rw [if_pos (by assumption)]
        · exact absurd rfl h
theorem dataF_fuel : ∀ (n k m : Nat) (s : List UInt8), n ≤ k → n ≤ m → dataF k s n = dataF m s n := by
  intro n
  induction n using Nat.strongRecOn with
  | _ n ih =>
    intro k m s hk hm
    cases n with
    | zero => cases k <;> cases m <;> rfl
    | succ n =>
      obtain ⟨k, rfl⟩ : ∃ j, k = j + 1 := ⟨k - 1, by omega⟩
      obtain ⟨m, rfl⟩ : ∃ j, m = j + 1 := ⟨m - 1, by omega⟩
      unfold dataF
      by_cases h1 : (unframeS s).2.2 ≠ 0
      · rw [if_pos h1, if_pos h1]
      · rw [if_neg h1, if_neg h1]
        by_cases h2 : (unframeS s).1.length ≠ min 1000 (n + 1)
        · rw [if_pos h2, if_pos h2]
        · rw [if_neg h2, if_neg h2]
          have h3 : (unframeS s).1.length = min 1000 (n + 1) := Decidable.not_not.1 h2
          rw [ih (n + 1 - (unframeS s).1.length) (by omega) k m _ (by omega) (by omega)]
/-- What is to come, behind what has come. -/
def comb (l : List UInt8) (x : List UInt8 × List UInt8 × Nat) : List UInt8 × List UInt8 × Nat := if x.2.2 ≠ 0 then ([], [], x.2.2) else (l ++ x.1, x.2.1, 0)
theorem comb_nil (s : List UInt8) (n : Nat) : comb [] (dataS s n) = dataS s n := by
  unfold comb
  split
  · rename_i h; exact (dataF_err _ _ _ h).symm
  · rename_i h
    have h0 : (dataS s n).2.2 = 0 := Decidable.not_not.1 h
    rw [← h0]
    rfl
theorem comb_step {l s : List UInt8} {m : Nat} (hm : 0 < m) : comb l (dataS s m) =
    if (unframeS s).2.2 ≠ 0 then ([], [], (unframeS s).2.2)
    else if (unframeS s).1.length ≠ min 1000 m then ([], [], 8)
    else comb (l ++ (unframeS s).1) (dataS (s.drop (unframeS s).2.1) (m - (unframeS s).1.length)) := by
  obtain ⟨m, rfl⟩ : ∃ j, m = j + 1 := ⟨m - 1, by omega⟩
  by_cases h1 : (unframeS s).2.2 ≠ 0
  · rw [if_pos h1]
    have e : dataS s (m + 1) = ([], [], (unframeS s).2.2) := by unfold dataS dataF; rw [if_pos h1]
    unfold comb
    rw [e]
    exact if_pos h1
  · rw [if_neg h1]
    by_cases h2 : (unframeS s).1.length ≠ min 1000 (m + 1)
    · rw [if_pos h2]
      have e : dataS s (m + 1) = ([], [], 8) := by unfold dataS dataF; rw [if_neg h1, if_pos h2]
      unfold comb
      rw [e]
      rfl
    · rw [if_neg h2]
      have h3 : (unframeS s).1.length = min 1000 (m + 1) := Decidable.not_not.1 h2
      have hf : dataF m (s.drop (unframeS s).2.1) (m + 1 - (unframeS s).1.length) = dataS (s.drop (unframeS s).2.1) (m + 1 - (unframeS s).1.length) := dataF_fuel _ _ _ _ (by omega) (Nat.le_refl _)
      have e : dataS s (m + 1) = if (dataS (s.drop (unframeS s).2.1) (m + 1 - (unframeS s).1.length)).2.2 ≠ 0 then ([], [], (dataS (s.drop (unframeS s).2.1) (m + 1 - (unframeS s).1.length)).2.2) else ((unframeS s).1 ++ (dataS (s.drop (unframeS s).2.1) (m + 1 - (unframeS s).1.length)).1, (dataS (s.drop (unframeS s).2.1) (m + 1 - (unframeS s).1.length)).2.1, 0) := by
        rw [← hf]
        show dataF (m + 1) s (m + 1) = _
        conv => lhs; unfold dataF
        rw [if_neg h1, if_neg h2]
      generalize dataS (s.drop (unframeS s).2.1) (m + 1 - (unframeS s).1.length) = x at *
      rw [e]
      unfold comb
      by_cases h4 : x.2.2 ≠ 0
      · rw [if_pos h4, if_pos h4]
        exact (if_pos h4).symm
      · rw [if_neg h4, if_neg h4]
        show (if (0 : Nat) ≠ 0 then _ else _) = _
        rw [if_neg (by simp), List.append_assoc]
theorem comb_end (l s : List UInt8) : comb l (dataS s 0) = (l, s, 0) := by
  show comb l ([], s, 0) = _
  unfold comb
  simp
def TdPost (w : World) (r : List UInt8 × List UInt8 × Nat) (e : Ending) (w' : World) : Prop := e = .returned (.tuple #[.string (mk r.1), .string (mk r.2.1), .int .i64 (r.2.2 : Int)]) ∧ Below w.heap.size w w'
/-- How far the reading has come: slot 0 (what follows) and the world. -/
def TdRel (w : World) (S : List UInt8) (n0 : Nat) (u0 : Value) (wr : World) : Prop := ∃ (S' l : List UInt8) (v : Value), u0 = .string (mk S') ∧ S'.length ≤ S.length ∧ l.length ≤ n0 ∧ Hid (Bu 51 w.heap.size w.heap.size v l wr ∧ Below w.heap.size w wr) ∧ Hid (dataS S n0 = comb l (dataS S' (n0 - l.length)))
set_option maxHeartbeats 16000000 in
theorem toData_any (s : ByteArray) (n0 : Nat) (w : World) (hs : s.size ≤ 100000000) (hn : n0 ≤ 4000000) (hT : Steps w) (hst : 0 < w.heap.size) : Calls Tryz.prog 31 #[.string s, .int .i64 (n0 : Int)] w (TdPost w (dataS s.data.toList n0)) := by
  obtain ⟨S, hS⟩ : ∃ S, s.data.toList = S := ⟨_, rfl⟩
  have hmk : s = mk S := by rw [← hS, mk_of]
  have hsz : S.length ≤ 100000000 := by rw [← hS, str_len]; exact hs
  rw [hS]
  subst hmk
  obtain ⟨W1, hW1⟩ : ∃ W1, w.alloc (.cells #[.pointer none, .slice none 0 0] 51) = W1 := ⟨_, rfl⟩
  have hBu := Bu.fresh 51 w
  have hb1 : Below w.heap.size w (w.alloc (.cells #[.pointer none, .slice none 0 0] 51)) := (Below.refl _ _).alloc (Nat.le_refl _) _
  have HSt : Hid (∀ wr, Below w.heap.size w wr → Steps wr) := hid (fun wr h i hi => (h.cell (p := ⟨0, i, none⟩) hst).trans (hT i hi))
  have H0 : Hid (TdRel w S n0 (.string (mk S)) (w.alloc (.cells #[.pointer none, .slice none 0 0] 51))) := hid ⟨S, [], _, rfl, Nat.le_refl _, Nat.zero_le _, hid ⟨hBu, hb1⟩, hid (comb_nil S n0).symm⟩
  clear hBu hb1 hT hS hs hW1
  go_enter Tryz.func31, Tryz.ntmps31
  go_wp2
  go_loopw [0] (TdRel w S n0) (fun u _ => sLen u)
  case atStart => exact H0.out
  case round =>
    obtain ⟨S', l, v, rfl, hSl, hll, hbu, heq⟩ := hrel
    clear H0
    have HBu := hid hbu.out.1
    have HBw := hid hbu.out.2
    have HEq := hid heq.out
    have HLen := hid (len_bu hbu.out.1)
    clear hbu heq
    by_cases hm : l.length = n0
    · have HS := hid (string_any w.heap.size w.heap.size l wr HBu.out.is HBw.out.size)
      have HF : Hid (∀ w', Below w.heap.size wr w' → TdPost w (dataS S n0) (.returned (.tuple #[.string (mk l), .string (mk S'), .int .i64 0])) w') := hid (fun w' hb => ⟨by rw [HEq.out, hm, Nat.sub_self, comb_end]; rfl, HBw.out.trans hb⟩)
      have hI : (n0 : Int) ≤ (l.length : Int) := by omega
      have hI2 : ¬ (l.length : Int) < (n0 : Int) := by omega
      clear hm HBu HBw HEq HSt
      generalize l.length = ln at *
      generalize mk S' = sb at *
      change Hid (Calls _ _ _ wr fun e w' => e = .returned (.string (mk l)) ∧ _) at HS
      generalize mk l = lb at *
      go_wp2_with (first
        | (go_at_call 55; (with_reducible refine HLen.out.mono ?_); rintro e w1 ⟨rfl, rfl⟩)
        | (go_at_call 26; (with_reducible refine HS.out.mono ?_); rintro e w2 ⟨rfl, hb2⟩))
      go_ret3
      exact HF.out _ hb2
    · have hm0 : 0 < n0 - l.length := by omega
      have hI : (l.length : Int) < (n0 : Int) := by omega
      have hwr : IntKind.i64.wrap ((n0 : Int) - (l.length : Int)) = (n0 : Int) - (l.length : Int) := by rw [IntKind.wrap_i64]; omega
      have hU := snUnframe_any (mk S') wr (by rw [mk_size]; unfold maxLen; omega) (HSt.out wr HBw.out)
      rw [mk_data] at hU
      unfold unfSRes at hU
      have hstep := comb_step (l := l) (s := S') hm0
      rcases unframeS_cases S' with ⟨e, hu, he⟩ | ⟨p, hu, hp, hps, hpf⟩
      · rw [hu] at hU hstep
        simp only at hU hstep
        rw [if_pos (by omega)] at hstep
        have HU := hid hU
        have HF : Hid (∀ w', Below wr.heap.size wr w' → TdPost w (dataS S n0) (.returned (.tuple #[.string ⟨#[]⟩, .string ⟨#[]⟩, .int .i64 (e : Int)])) w') := hid (fun w' hb => ⟨by rw [HEq.out, hstep]; rfl, HBw.out.trans (hb.mono HBw.out.size)⟩)
        have hq : ((e : Int) == 0) = false := beq_eq_false_iff_ne.2 (by omega)
        clear hU hstep hu he hm hm0 HBu HBw HEq HSt hwr
        generalize l.length = ln at *
        generalize mk S' = sb at *
        generalize mk (S'.drop 0) = rb at *
        generalize mk ([] : List UInt8) = eb at *
        go_wp2_with (first
          | (go_at_call 55; (with_reducible refine HLen.out.mono ?_); rintro e1 w1 ⟨rfl, rfl⟩)
          | (go_at_call 29; (with_reducible refine HU.out.mono ?_); rintro e2 w2 ⟨rfl, hb2⟩))
        go_ret3
        exact HF.out _ hb2
      · rw [hu] at hU hstep
        simp only at hU hstep
        rw [if_neg (by simp)] at hstep
        have HU := hid hU
        have HLen2 : Hid (∀ wx, Below wr.heap.size wr wx → Calls Tryz.prog 55 #[.pointer (some ⟨w.heap.size, 0, none⟩)] wx fun e w' => e = .returned (.int .i64 (l.length : Int)) ∧ wx = w') := hid (fun wx hb => len_bu (HBu.out.below hb))
        have hpz : (mk p).size = p.length := mk_size p
        obtain ⟨mn, hmn⟩ : ∃ mn : Nat, min 1000 (n0 - l.length) = mn := ⟨_, rfl⟩
        have hmin : min (1000 : Int) ((n0 : Int) - (l.length : Int)) = (mn : Int) := by omega
        rw [hmn] at hstep
        by_cases hpl : p.length = mn
        · rw [if_neg (by omega)] at hstep
          have hd : (S'.drop (8 + p.length)).length < S'.length := by rw [List.length_drop]; omega
          have HW : Hid (∀ wx, Below wr.heap.size wr wx → Calls Tryz.prog 25 #[.pointer (some ⟨w.heap.size, 0, none⟩), .string (mk p)] wx fun e w' => e = .returned (.tuple #[.int .i64 (mk p).size, .nilIface]) ∧ Hid (TdRel w S n0 (.string (mk (S'.drop (8 + p.length)))) w')) := hid (fun wx hb => by
            have hbx := HBw.out.trans (hb.mono HBw.out.size)
            refine (writeString_bu2 blkOk_plainS (HBu.out.below hb) (mk p) (by rw [mk_size]; omega) hbx.size).mono ?_
            rintro e w' ⟨he, v', k1, k2, _⟩
            refine ⟨he, hid ⟨S'.drop (8 + p.length), l ++ p, v', rfl, by omega, by rw [List.length_append]; omega, hid ⟨by rw [mk_data] at k1; exact k1, ?_⟩, hid ?_⟩⟩
            · exact hbx.trans (k2.below hbx.size (fun x e => by
                rcases e with e | e
                · omega
                · exact (HBu.out.row_lt x e).1))
            · rw [HEq.out, hstep, List.length_append, Nat.sub_sub])
          have hq : ((p.length : Int) == (mn : Int)) = true := by rw [hpl]; simp
          have HD : Hid ((mk (S'.drop (8 + p.length))).size < (mk S').size) := hid (by rw [mk_size, mk_size]; exact hd)
          have hpq : ((mk p).size : Int) = (p.length : Int) := by rw [hpz]
          rw [hpz] at HW
          rw [← hpz] at hq
          clear hU hstep hu hp hps hpf hm hm0 HBu HBw HEq HSt hd hmn hll hSl
          rw [hpz] at hq
          generalize hgl : l.length = ln at *
          generalize hgs : mk S' = sb at *
          generalize hgr : mk (S'.drop (8 + p.length)) = rb at *
          generalize hgp : mk p = pb at *
          rw [← hpz] at hq HW
          clear hgl hgs hgr hgp
          go_wp2_with (first
            | (go_at_call 55; (with_reducible refine HLen.out.mono ?_); rintro e1 w1 ⟨rfl, rfl⟩)
            | (go_at_call 29; (with_reducible refine HU.out.mono ?_); rintro e2 w2 ⟨rfl, hb2⟩)
            | (go_at_call 55; (with_reducible refine (HLen2.out _ hb2).mono ?_); rintro e3 w3 ⟨rfl, rfl⟩)
            | (go_at_call 25; (with_reducible refine (HW.out _ hb2).mono ?_); rintro e4 w4 ⟨rfl, HR4⟩))
          go_roundw
          case rel => exact HR4.out
          case measure => exact HD.out
        · rw [if_pos hpl] at hstep
          have HF : Hid (∀ w', Below wr.heap.size wr w' → TdPost w (dataS S n0) (.returned (.tuple #[.string ⟨#[]⟩, .string ⟨#[]⟩, .int .i64 8])) w') := hid (fun w' hb => ⟨by rw [HEq.out, hstep]; rfl, HBw.out.trans (hb.mono HBw.out.size)⟩)
          have hq : (((mk p).size : Int) == (mn : Int)) = false := beq_eq_false_iff_ne.2 (by rw [hpz]; omega)
          clear hU hstep hu hp hps hpf hm hm0 HBu HBw HEq HSt hmn hll hSl hpl hpz
          generalize l.length = ln at *
          generalize mk S' = sb at *
          generalize mk (S'.drop (8 + p.length)) = rb at *
          generalize mk p = pb at *
          go_wp2_with (first
            | (go_at_call 55; (with_reducible refine HLen.out.mono ?_); rintro e1 w1 ⟨rfl, rfl⟩)
            | (go_at_call 29; (with_reducible refine HU.out.mono ?_); rintro e2 w2 ⟨rfl, hb2⟩)
            | (go_at_call 55; (with_reducible refine (HLen2.out _ hb2).mono ?_); rintro e3 w3 ⟨rfl, rfl⟩))
          go_ret3
          exact HF.out _ hb2
end Go.Proofs.YtbccikefccdekaaGreatDoor

