/-
  LAYER 5 (agenda): container/heap over the queue: up, down, Push, Remove.
-/
import Derived.Test.YtmjgkhjjnfoolaaAgSwap
import Derived.Test.YtmjgkhjjnfoolaaAgPush
import Derived.Handy
namespace Go.Proofs.Ytmjgkhjjnfoolaa
open Go.RowKit Go.Maps
set_option linter.unusedVariables false
set_option maxRecDepth 100000

theorem lenQ {w : World} {p : Nat} {F : Nat → Prop} {L : List It} (h : QIs w p F L) :
    Calls Try.prog 28 #[.pointer (some ⟨p, 0, none⟩)] w fun e w' => e = .returned (.int .i64 (L.length : Int)) ∧ w = w' := by
  obtain ⟨⟨v, mv, hr, _⟩, _⟩ := h
  exact qlen_any hr
theorem lessQ {w : World} {p : Nat} {F : Nat → Prop} {L : List It} (h : QIs w p F L) {i j : Nat} (hi : i < L.length) (hj : j < L.length) :
    Calls Try.prog 49 #[.pointer (some ⟨p, 0, none⟩), .int .i64 (i : Int), .int .i64 (j : Int)] w fun e w' => e = .returned (.bool (bf (gt L i) (gt L j))) ∧ Below w.heap.size w w' := by
  obtain ⟨⟨v, mv, hr, _⟩, _⟩ := h
  exact less_any hr i j hi hj
theorem swapQ {w : World} {p : Nat} {F : Nat → Prop} {L : List It} (h : QIs w p F L) {i j : Nat} (hi : i < L.length) (hj : j < L.length) (hij : i ≠ j) :
    Calls Try.prog 52 #[.pointer (some ⟨p, 0, none⟩), .int .i64 (i : Int), .int .i64 (j : Int)] w fun e w' => e = .returned (.tuple #[]) ∧ QTo w w' p F (sw L i j) := by
  obtain ⟨⟨v, mv, hr, hF⟩, hl⟩ := h
  have hm : ∃ m, mv = .map (some m) := by
    rcases hr.map with ⟨_, e⟩ | ⟨m, D, e, _⟩
    · rw [e] at hi; simp at hi
    · exact ⟨m, e⟩
  obtain ⟨m, rfl⟩ := hm
  exact (swap_any hr i j hi hj hij).mono fun e w' ⟨he, hq, hc⟩ => ⟨he, QTo.of_rep (L := L) hF hl hq hc (fun b hb => .inl hb)⟩
theorem QIs.len {w : World} {p : Nat} {F : Nat → Prop} {L : List It} (h : QIs w p F L) : L.length ≤ 1000 := by
  obtain ⟨⟨v, mv, hr, _⟩, _⟩ := h
  exact hr.len
/-- How far up or down has come. -/
structure SiftRel (w : World) (p : Nat) (F : Nat → Prop) (L : List It) (n : Nat) (L' : List It) (wr : World) : Prop where
  perm : L'.Perm L
  rest : ∀ k, n ≤ k → gt L' k = gt L k
  q : QTo w wr p F L'
def UpRel (w : World) (p : Nat) (F : Nat → Prop) (L : List It) (n : Nat) (u : Value) (wr : World) : Prop :=
  ∃ (j : Nat) (L' : List It), u = .int .i64 j ∧ UpInv L' n j ∧ SiftRel w p F L n L' wr
theorem SiftRel.swap {w wr w' : World} {p : Nat} {F : Nat → Prop} {L L' : List It} {n i j : Nat} (h : SiftRel w p F L n L' wr) (hl : ∀ b, F b → b < w.heap.size) (hn : n ≤ L.length) (hi : i < n) (hj : j < n) (k : QTo wr w' p (grow F w wr) (sw L' i j)) : SiftRel w p F L n (sw L' i j) w' := by
  have hlen := h.perm.length_eq
  refine ⟨(sw_perm (by omega) (by omega)).trans h.perm, fun z hz => ?_, h.q.trans k hl⟩
  rw [gt_sw (by omega) (by omega), if_neg (by omega), if_neg (by omega)]
  exact h.rest z hz
theorem SiftRel.below {w wr w' : World} {p : Nat} {F : Nat → Prop} {L L' : List It} {n : Nat} (h : SiftRel w p F L n L' wr) (hl : ∀ b, F b → b < w.heap.size) (hb : Below wr.heap.size wr w') : SiftRel w p F L n L' w' :=
  ⟨h.perm, h.rest, h.q.then_below hb hl⟩
set_option maxHeartbeats 4000000 in
theorem up_any {w : World} {p : Nat} {F : Nat → Prop} {L : List It} {n j : Nat} (h : QIs w p F L) (hn : n ≤ L.length) (hu : UpInv L n j) :
    Calls Try.prog 30 #[.iface 65 (.pointer (some ⟨p, 0, none⟩)), .int .i64 (j : Int)] w fun e w' => e = .returned (.tuple #[]) ∧ ∃ L', Hp L' n ∧ SiftRel w p F L n L' w' := by
  have HS : Hid (UpRel w p F L n (.int .i64 j) w) := hid ⟨j, L, rfl, hu, List.Perm.refl _, fun _ _ => rfl, QTo.of_is h (Below.refl _ _)⟩
  have hlen := h.len
  have HL := hid h.lt
  clear h hu
  go_enter Try.func30, Try.ntmps30
  go_wp2
  go_loopw [1] (UpRel w p F L n) (fun j _ => (intOf j).toNat)
  case atStart => exact HS.out
  case round =>
    obtain ⟨j, L', rfl, hI, hR⟩ := hrel
    have hll := hR.perm.length_eq
    have hj := hI.jn
    by_cases h0 : j = 0
    · subst h0
      go_wp2
      go_end0
      exact ⟨rfl, L', hI.done (.inl rfl), hR⟩
    · have hiI : (((j : Int) - 1).tdiv 2) = (((j - 1) / 2 : Nat) : Int) := by rw [Int.tdiv_eq_ediv_of_nonneg (by omega)]; omega
      have hW : IntKind.i64.wrap ((j : Int) - 1) = (j : Int) - 1 := IntWalk.i64_in _ (by omega)
      obtain ⟨i, hi⟩ : ∃ i, (j - 1) / 2 = i := ⟨_, rfl⟩
      have hij : i < j := by omega
      rw [hi] at hiI
      have HLess := hid (lessQ hR.q.is (i := j) (j := i) (by omega) (by omega))
      have HSwap := hid (fun w1 (hb : Below wr.heap.size wr w1) => swapQ (hR.q.is.below hb) (i := i) (j := j) (by omega) (by omega) (by omega))
      have HI := hid hI
      have HR := hid hR
      have Hi := hid hi
      obtain ⟨c, hc⟩ : ∃ c, bf (gt L' j) (gt L' i) = c := ⟨_, rfl⟩
      rw [hc] at HLess
      have HC := hid hc
      clear hI hR hi hc
      cases c
      · go_wp2_with (go_at_call 49; (with_reducible refine HLess.out.mono ?_); rintro e w1 ⟨rfl, hb1⟩)
        go_end0
        exact ⟨rfl, L', HI.out.done (.inr (by rw [Hi.out]; exact HC.out)), HR.out.below HL.out hb1⟩
      · go_wp2_with (first | (go_at_call 49; (with_reducible refine HLess.out.mono ?_); rintro e w1 ⟨rfl, hb1⟩) | (go_at_call 52; (with_reducible refine (HSwap.out _ hb1).mono ?_); rintro e w2 ⟨rfl, hq2⟩; have HQ := hid hq2; clear hq2))
        go_roundw
        case rel =>
          have hst := HI.out.step (by omega) (by omega) (by rw [Hi.out]; exact HC.out)
          rw [Hi.out] at hst
          exact ⟨i, sw L' i j, rfl, hst, HR.out.swap HL.out hn (by omega) hj (QTo.of_below hb1 HQ.out HR.out.q.is.lt)⟩
        case measure => simp [intOf]; omega
set_option maxHeartbeats 4000000 in
theorem hpush_any {w : World} {p : Nat} {F : Nat → Prop} {L : List It} {x : It} (h : QIs w p F L) (hx : InR x) (hno : ∀ y ∈ L, y.2 ≠ x.2) (hlen : L.length + 1 ≤ 1000) (hH : Hp L L.length) :
    Calls Try.prog 27 #[.iface 65 (.pointer (some ⟨p, 0, none⟩)), .iface 60 (.agg #[.int .i64 x.1, .int .i64 x.2])] w fun e w' => e = .returned (.tuple #[]) ∧ ∃ L', Hp L' L'.length ∧ L'.Perm (x :: L) ∧ QTo w w' p F L' := by
  have HP := hid (push_any h hx hno hlen)
  have HL := hid h.lt
  have hU := hid (UpInv.start hH x)
  have hl : (L ++ [x]).length = L.length + 1 := by simp
  have HLn := hid (fun w1 (hq : QTo w w1 p F (L ++ [x])) => lenQ hq.is)
  have HUp := hid (fun w1 (hq : QTo w w1 p F (L ++ [x])) => up_any hq.is (n := L.length + 1) (j := L.length) (by omega) hU.out)
  rw [hl] at HLn
  have hW : IntKind.i64.wrap (((L.length + 1 : Nat) : Int) - 1) = (L.length : Int) := by rw [show ((L.length + 1 : Nat) : Int) - 1 = (L.length : Int) by omega]; exact IntWalk.i64_in _ (by omega)
  have HE := hid hl
  clear h hx hno hH hl
  go_enter Try.func27, Try.ntmps27
  go_wp2_with (first
    | (go_at_call 51; (with_reducible refine HP.out.mono ?_); rintro e w1 ⟨rfl, hq1⟩; have HQ := hid hq1; clear hq1)
    | (go_at_call 28; (with_reducible refine (HLn.out _ HQ.out).mono ?_); rintro e w2 ⟨rfl, rfl⟩)
    | (go_at_call 30; (with_reducible refine (HUp.out _ HQ.out).mono ?_); rintro e w3 ⟨rfl, hu⟩; have HU := hid hu; clear hu))
  go_end0
  obtain ⟨L', h1, h2⟩ := HU.out
  refine ⟨rfl, L', ?_, h2.perm.trans ?_, HQ.out.trans h2.q HL.out⟩
  · rw [h2.perm.length_eq, HE.out]; exact h1
  · exact List.perm_append_comm
end Go.Proofs.Ytmjgkhjjnfoolaa
