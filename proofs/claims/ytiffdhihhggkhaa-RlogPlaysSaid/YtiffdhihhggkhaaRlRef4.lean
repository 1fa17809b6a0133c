/-
  LAYER 8 (rlog), THE DOCUMENT's LOG: Voters.
-/
import Derived.Test.YtiffdhihhggkhaaRlRef3
namespace Go.Proofs.Ytiffdhihhggkhaa
open Go.RowKit
set_option linter.unusedVariables false
set_option maxRecDepth 100000

/-- A row of voters: of the log's own, or new. -/
structure VoAt (w w' : World) (F : Nat → Prop) (v : Value) (V : List Int) : Prop where
  row : RAt numTy w' v V
  below : Below w.heap.size w w'
  own_ : ∀ b, v.ownBlock = some b → (F b ∨ w.heap.size ≤ b) ∧ b < w'.heap.size
theorem VoAt.later {w w' w2 : World} {F : Nat → Prop} {v : Value} {V : List Int} (h : VoAt w w' F v V) (hb : Below w'.heap.size w' w2) : VoAt w w2 F v V := ⟨h.row.below hb, h.below.trans (hb.mono h.below.size), fun b e => ⟨(h.own_ b e).1, Nat.lt_of_lt_of_le (h.own_ b e).2 hb.size⟩⟩
def VoRel (w : World) (F : Nat → Prop) (s : Rl) (i : Int) (u v : Value) (wr : World) : Prop := ∃ (k n : Nat) (a : Option Addr) (c : Nat), k ≤ s.ents.length ∧ u = .slice a n c ∧ v = .int .i64 (k : Int) ∧ Hid (VoAt w wr F (.slice a n c) (votersIn s.vot i (s.ents.take k)) ∧ n = (votersIn s.vot i (s.ents.take k)).length)
def VoPost (w : World) (F : Nat → Prop) (V : List Int) (e : Ending) (w' : World) : Prop := ∃ a n c, e = .returned (.slice a n c) ∧ n = V.length ∧ VoAt w w' F (.slice a n c) V
set_option maxHeartbeats 8000000 in
theorem rfVoters_any {w : World} {F : Nat → Prop} {r : Nat} {s : Rl} (i : Int) (h : rfRep.Is w F r s) (hB : RlB s) (hi : I64' i) : Calls Try.prog 41 #[.pointer (some ⟨r, 0, none⟩), .int .i64 i] w (VoPost w (fun b => F b ∧ b ≠ r) (votersL s i)) := by
  obtain ⟨va, vc, la, lc, hI, hc⟩ := rf_c h
  obtain ⟨c0, c1, c2, c3, c4⟩ := hc w (Below.refl _ _)
  have hE : ∀ (k : Nat) x, s.ents[k]? = some x → ∃ sb so, la = some ⟨sb, so, none⟩ ∧ ∀ wx, Below w.heap.size w wx → wx.cell? ⟨sb, so + k * 4, none⟩ = some (.int .i64 x.idx) ∧ wx.cell? ⟨sb, so + k * 4 + 1, none⟩ = some (.int .i64 x.term) ∧ wx.cell? ⟨sb, so + k * 4 + 2, none⟩ = some (.int .i64 x.kind) ∧ wx.cell? ⟨sb, so + k * 4 + 3, none⟩ = some (.string x.dt) := by
    obtain ⟨a', cap', e, hat⟩ := en_at hI.ents
    cases e
    exact hat
  have HE := hid hE
  have HC4 : Hid (∀ wx, Below w.heap.size w wx → wx.cell? ⟨r, 4, none⟩ = some (.slice la s.ents.length lc)) := hid (fun wx hb => (hc wx hb).c4)
  have HMe := hid hB.ents
  have h2 := hB.len
  have HStart : Hid (VoAt w w (fun b => F b ∧ b ≠ r) (.slice va s.vot.length vc) (votersIn s.vot i (s.ents.take 0)) ∧ s.vot.length = (votersIn s.vot i (s.ents.take 0)).length) := hid ⟨⟨hI.vot, Below.refl _ _, fun b e => ⟨.inl ⟨hI.fv b e, fun e2 => hI.nv (by rw [e, e2])⟩, hI.lt b (hI.fv b e)⟩⟩, rfl⟩
  have HS : Hid (∀ (k : Nat) x, s.ents[k]? = some x → votersIn s.vot i (s.ents.take (k + 1)) = (match setsE x with | some l => if x.idx ≤ i then l else votersIn s.vot i (s.ents.take k) | none => votersIn s.vot i (s.ents.take k))) := hid (fun k x hx => by
    rw [List.take_add_one, hx, Option.toList, votersIn_append]
    rfl)
  clear h hc hB hI hE c0 c1 c3 hi
  go_enter Try.func41, Try.ntmps41
  go_wp2
  go_loopw [5, 6] (VoRel w (fun b => F b ∧ b ≠ r) s i) (fun _ k _ => s.ents.length - (intOf k).toNat)
  case atStart => exact ⟨0, _, va, vc, Nat.zero_le _, rfl, rfl, HStart.out⟩
  case round =>
    clear c2 c4 HStart
    obtain ⟨k, n, a, c, hk, rfl, rfl, hq⟩ := hrel
    have c4 := HC4.out wr hq.out.1.below
    by_cases hkn : k < s.ents.length
    · have hkI : (k : Int) < (s.ents.length : Int) := by omega
      obtain ⟨x, hx⟩ : ∃ x, s.ents[k]? = some x := ⟨_, List.getElem?_eq_getElem hkn⟩
      obtain ⟨sb, so, rfl, hce⟩ := HE.out k x hx
      obtain ⟨d0, d1, d2, d3⟩ := hce wr hq.out.1.below
      have HCE := hid hce
      have C1 := hid (rfSets_any x wr (HMe.out x (List.mem_of_getElem? hx)))
      have hsx := HS.out k x hx
      obtain ⟨q, hqq⟩ : ∃ q, setsE x = q := ⟨_, rfl⟩
      rw [hqq] at C1 hsx
      clear hx hce hqq
      cases q with
      | none =>
        have H1 := hid hsx
        clear hsx
        go_wp2_with (go_at_call 54; (with_reducible refine C1.out.mono ?_); rintro e w1 ⟨a1, n1, cc1, rfl, hb1, -⟩; have HV := hid (hq.out.1.later hb1); clear hb1)
        go_roundw
        case rel => exact ⟨k + 1, n, a, c, hkn, rfl, by go_num, hid ⟨by rw [H1.out]; exact HV.out, by rw [H1.out]; exact hq.out.2⟩⟩
        case measure => simp [intOf]; omega
      | some l =>
        by_cases hxi : x.idx ≤ i
        · have H1 : Hid (votersIn s.vot i (s.ents.take (k + 1)) = l) := hid (by rw [hsx]; simp only [if_pos hxi])
          clear hsx
          go_wp2_with (go_at_call 54; (with_reducible refine C1.out.mono ?_); rintro e w1 ⟨a1, n1, cc1, rfl, hb1, hl1⟩; obtain ⟨hn1, hm1⟩ := hl1 l rfl; have hbq := hq.out.1.below.trans (hb1.mono hq.out.1.below.size); have c4 := HC4.out w1 hbq; obtain ⟨d0, d1, d2, d3⟩ := HCE.out w1 hbq; have HV : Hid (VoAt w w1 (fun b => F b ∧ b ≠ r) (.slice a1 n1 cc1) l ∧ n1 = l.length) := hid ⟨⟨hm1.row.rAt, hbq, fun b e => ⟨.inr (by have := hm1.new b e; have := hq.out.1.below.size; omega), hm1.row.lt b e⟩⟩, hn1⟩; clear hb1 hl1 hn1 hm1 hbq)
          go_roundw
          case rel => exact ⟨k + 1, n1, a1, cc1, hkn, rfl, by go_num, hid ⟨by rw [H1.out]; exact HV.out.1, by rw [H1.out]; exact HV.out.2⟩⟩
          case measure => simp [intOf]; omega
        · have hxi2 : i < x.idx := by omega
          have H1 : Hid (votersIn s.vot i (s.ents.take (k + 1)) = votersIn s.vot i (s.ents.take k)) := hid (by rw [hsx]; simp only [if_neg hxi])
          clear hsx
          go_wp2_with (go_at_call 54; (with_reducible refine C1.out.mono ?_); rintro e w1 ⟨a1, n1, cc1, rfl, hb1, -⟩; have hbq := hq.out.1.below.trans (hb1.mono hq.out.1.below.size); have c4 := HC4.out w1 hbq; obtain ⟨d0, d1, d2, d3⟩ := HCE.out w1 hbq; have HV := hid (hq.out.1.later hb1); clear hb1 hbq)
          go_roundw
          case rel => exact ⟨k + 1, n, a, c, hkn, rfl, by go_num, hid ⟨by rw [H1.out]; exact HV.out, by rw [H1.out]; exact hq.out.2⟩⟩
          case measure => simp [intOf]; omega
    · obtain rfl : k = s.ents.length := by omega
      have HF : Hid (votersIn s.vot i (s.ents.take s.ents.length) = votersL s i) := hid (by rw [List.take_length]; rfl)
      go_wp2
      go_ret
      exact ⟨a, n, c, rfl, by rw [← HF.out]; exact hq.out.2, by rw [← HF.out]; exact hq.out.1⟩
end Go.Proofs.Ytiffdhihhggkhaa
