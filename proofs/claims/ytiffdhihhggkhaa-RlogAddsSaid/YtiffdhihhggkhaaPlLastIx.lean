/-
  LAYER 8 (rlog), THE PROGRAM: lastIndex (over slices.Backward), at the condition of Voters.
-/
import Derived.Test.YtiffdhihhggkhaaPlBack
namespace Go.Proofs.Ytiffdhihhggkhaa
open Go.RowKit Go.Shelf
attribute [local go_sem] Oper.semAt_some
set_option linter.unusedVariables false
set_option maxRecDepth 100000

theorem own_kept' {X Y : World} {row : Option Nat} {B : Nat} {cs : Array Value} {t : TypeId} (hs : own X B cs t) (hg : X.grownBy Y row) (hr : ∀ r, row = some r → ∃ o, X.heap[r]? = some o ∧ o.isCells = false) : own Y B cs t := by
  refine (hg.block B hs.lt (fun e => ?_)).trans hs
  obtain ⟨o, ho, hc⟩ := hr B e.symm
  rw [show X.heap[B]? = _ from hs] at ho
  cases ho
  cases hc
theorem keeps_of_below {B : Nat} {W W' : World} (h : Below W.heap.size W W') : KeepsFrom B W W' := ⟨h.size, fun k o _ hk _ => (h.block k (Array.getElem?_eq_some_iff.1 hk).1).trans hk⟩
def LxPost (w : World) (i : Int) (M : List MeS) (e : Ending) (w' : World) : Prop :=
  ((e = .returned (.int .i64 (-1)) ∧ ∀ (j : Nat) x, M[j]? = some x → setsAt i x.1 = false) ∨ (∃ (k : Nat) (x : MeS), e = .returned (.int .i64 (k : Int)) ∧ M[k]? = some x ∧ setsAt i x.1 = true ∧ ∀ (j : Nat) y, k < j → M[j]? = some y → setsAt i y.1 = false)) ∧ Below w.heap.size w w'
set_option maxHeartbeats 16000000 in
theorem lastIndex_in (n : Nat) (hn : 3 ≤ n) (i : Int) (a : Option Addr) (cap : Nat) (M : List MeS) (hM : M.length ≤ 5000) (w : World) (hc : BkCells w.heap.size w a M) :
    CallsIn Fence.wide n Try.prog 49 #[.slice a M.length cap, .func (.func 50) #[.int .i64 i] #[]] w (LxPost w i M) := by
  have h1 : 1 ≤ n := by omega
  refine callsIn_of_wp_marks Try.func49 rfl trivial ?_ rfl
  simp only [Try.ntmps49, List.size_toArray, List.length_cons, List.length_nil, Nat.reduceAdd, Nat.reduceSub, Array.replicate_succ, Array.replicate_zero, List.push_toArray, List.append_toArray, List.nil_append, List.cons_append]
  obtain ⟨len, hlen⟩ : ∃ len, M.length = len := ⟨_, rfl⟩
  rw [hlen]
  gi_wp2_with (refine ⟨trivial, ?_⟩; gi_at_call 58; refine (back_in Fence.wide (n - 1) trivial rfl _ _ _ _).mono ?_; rintro e w' ⟨rfl, rfl⟩)
  have bF := Boxed.new w 77 (.func (.func 50) #[.int .i64 i] #[])
  have bR := Boxed.new (w.alloc (.cells #[.func (.func 50) #[.int .i64 i] #[]] 77)) 3 (.int .i64 0)
  have bN := Boxed.new ((w.alloc (.cells #[.func (.func 50) #[.int .i64 i] #[]] 77)).alloc (.cells #[.int .i64 0] 3)) 26 (.slice a len cap)
  have bF2 := (bF.alloc (.cells #[.int .i64 0] 3)).alloc (.cells #[.slice a len cap] 26)
  have bR2 := bR.alloc (.cells #[.slice a len cap] 26)
  simp only [World.size_alloc] at bR2 bN
  have hB0 : Below w.heap.size w (((w.alloc (.cells #[.func (.func 50) #[.int .i64 i] #[]] 77)).alloc (.cells #[.int .i64 0] 3)).alloc (.cells #[.slice a len cap] 26)) := (((Below.refl _ w).alloc (Nat.le_refl _) _).alloc (by simp) _).alloc (by simp; omega) _
  have hsz : (((w.alloc (.cells #[.func (.func 50) #[.int .i64 i] #[]] 77)).alloc (.cells #[.int .i64 0] 3)).alloc (.cells #[.slice a len cap] 26)).heap.size = w.heap.size + 3 := by simp
  clear bF bR
  obtain ⟨W0, hW0⟩ : ∃ W0, (((w.alloc (.cells #[.func (.func 50) #[.int .i64 i] #[]] 77)).alloc (.cells #[.int .i64 0] 3)).alloc (.cells #[.slice a len cap] 26)) = W0 := ⟨_, rfl⟩
  rw [hW0] at bF2 bR2 bN hB0 hsz ⊢
  clear hW0
  have hc0 : BkCells W0.heap.size W0 a M := fun W' h => hc W' (hB0.trans (h.mono (by omega)))
  refine wpIn_rangeFunc_ownH rfl h1 (gf := 68) (lb := #[.pointer (some ⟨w.heap.size + 1 + 1, 0, none⟩)]) rfl trivial (enters_of Try.func68 (by kernel_rfl) rfl)
    (back_stops Fence.wide (n - 1) trivial rfl (by omega) (w.heap.size + 1 + 1) W0.heap.size a cap M hM W0 (by omega) (Nat.le_refl _) (by rw [hlen]; exact bN.cell) hc0) belowK_t (belowK_b (Nat.le_refl _)) (Below.refl _ _) (fun _ => rfl)
    (fun pre W => ((Boxed W w.heap.size 77 (.func (.func 50) #[.int .i64 i] #[]) ∧ Boxed W (w.heap.size + 1) 3 (.int .i64 0)) ∧ Below W0.heap.size W0 W) ∧ (∀ p ∈ pre, setsAt i p.2.1 = false))
    (fun c pre W => (∃ (u : Int), Boxed W (w.heap.size + 1) 3 (.int .i64 u) ∧ c = .ret ∧ ∃ ini last, pre = ini ++ [last] ∧ (∀ p ∈ ini, setsAt i p.2.1 = false) ∧ setsAt i last.2.1 = true ∧ u = (last.1 : Int)) ∧ Below w.heap.size w W)
    (OwnFrom.and (OwnFrom.and (OwnFrom.and (Own.from (boxed_own _ _ _) _) (Own.from (boxed_own _ _ _) _)) (ownFrom_below (Nat.le_refl _) (Nat.le_refl _))) (ownFrom_pure _ _))
    (fun c => OwnFrom.and (Own.from (fun s A B row hs hg hr => by
      obtain ⟨u, hs, hx⟩ := hs
      exact ⟨u, boxed_own (w.heap.size + 1) 3 (fun (_ : Unit) => Value.int .i64 u) () A B row hs hg hr, hx⟩) _) (ownFrom_below (Nat.le_refl _) (by omega)))
    ⟨⟨⟨bF2, bR2⟩, Below.refl _ _⟩, by simp⟩
    (fun x a' W => ∃ Bx, w.heap.size + 1 < Bx ∧ own W Bx #[.int .i64 x.2.1.idx, .int .i64 x.2.1.term, .int .i64 x.2.1.kind, .string x.2.1.dt] 49 ∧ a' = { tmps := #[.slice a len cap, .func (.func 50) #[.int .i64 i] #[], undef, .pointer (some ⟨w.heap.size, 0, none⟩), .pointer (some ⟨w.heap.size + 1, 0, none⟩), .int .i64 (x.1 : Int), .pointer (some ⟨Bx, 0, none⟩), .slice a len cap, .func (.func 68) #[] #[.pointer (some ⟨w.heap.size + 1 + 1, 0, none⟩)], .int .i64 (x.1 : Int), eVal x.2.1, undef, undef, undef, undef], defers := [] })
    (fun x a' _ X Y row hs hg hr => by obtain ⟨Bx, h1, h2, h3⟩ := hs; exact ⟨Bx, h1, own_kept' h2 hg (fun r e => (hr r e).2), h3⟩)
    ?assign ?body ?done ?stop
  case assign =>
    rintro l pre x W K ⟨⟨⟨bF1, bR1⟩, hB1⟩, hp⟩ hK
    gi_wp2
    exact hK _ _ ((KeepsOthers.alloc _ _).from _) ((Below.refl _ W).alloc hB1.size _) ⟨⟨⟨bF1.alloc _, bR1.alloc _⟩, hB1.alloc hB1.size _⟩, hp⟩ ⟨W.heap.size, bR1.lt, own.new W _ _, rfl⟩
  case body =>
    rintro l pre x a' W hl ⟨r, hr⟩ ⟨⟨⟨bF1, bR1⟩, hB1⟩, hp⟩ ⟨Bx, hBx, oX, rfl⟩ hlt
    have cF := bF1.cell
    have cR := bR1.cell
    have fR := bR1.frozen
    have x0 := (oX.cell 0).trans rfl
    have x1 := (oX.cell 1).trans rfl
    have x2 := (oX.cell 2).trans rfl
    have x3 := (oX.cell 3).trans rfl
    have h1' : 1 ≤ n - 1 - 1 := by omega
    have hsW := hB1.size
    have HP := hid (plSets_any i x.2.1 W x.2.2)
    have HK := hid (fun W' (hb : Below W.heap.size W W') => (⟨hb.cell (p := ⟨w.heap.size + 1, 0, none⟩) bR1.lt, (hb.frozen (p := ⟨w.heap.size + 1, 0, none⟩) bR1.lt), (show Boxed W' w.heap.size 77 _ from (hb.block _ bF1.lt).trans bF1), (show Boxed W' (w.heap.size + 1) 3 _ from (hb.block _ bR1.lt).trans bR1), hB1.trans (hb.mono hsW), hb.mono hsW, keeps_of_below (B := W0.heap.size) hb⟩ : _ ∧ _ ∧ _ ∧ _ ∧ _ ∧ _ ∧ _))
    clear hr hl hB1
    cases hpx : setsAt i x.2.1 with
    | true =>
      rw [hpx] at HP
      gi_wp2_with (refine ⟨trivial, ?_⟩; gi_at_call 50; refine (CallsIn.inRound l (callsIn_wide.2 HP.out)).mono ?_; rintro e w' ⟨rfl, hb⟩; obtain ⟨k1, k2, k3, k4, k5, k6, k7⟩ := HK.out _ hb; rw [cR] at k1; rw [fR] at k2)
      exact ⟨⟨Nat.le_trans k7.size (by rw [setCell_size]; exact Nat.le_refl _), fun q o hq ho hoc => ((KeepsOthers.setCell w' ⟨w.heap.size + 1, 0, none⟩ (.int .i64 (x.1 : Int))).from W0.heap.size).same q o hq (k7.same q o hq ho hoc) hoc⟩, ⟨(x.1 : Int), k4.set _, rfl, pre, x, rfl, hp, hpx, rfl⟩, (hB0.trans (k5.mono hB0.size)).setCell (p := ⟨w.heap.size + 1, 0, none⟩) (Nat.le_succ _) _⟩
    | false =>
      rw [hpx] at HP
      gi_wp2_with (refine ⟨trivial, ?_⟩; gi_at_call 50; refine (CallsIn.inRound l (callsIn_wide.2 HP.out)).mono ?_; rintro e w' ⟨rfl, hb⟩; obtain ⟨k1, k2, k3, k4, k5, k6, k7⟩ := HK.out _ hb)
      exact ⟨k7, k6, ⟨⟨k3, k4⟩, k5⟩, fun p hp' => by
        rcases List.mem_append.1 hp' with h | h
        · exact hp p h
        · simp at h; subst h; exact hpx⟩
  case done =>
    rintro D ys W hD rfl ⟨⟨⟨bF1, bR1⟩, hB1⟩, hp⟩ hK
    have cR := bR1.cell
    have fR := bR1.frozen
    have hDw : w.heap.size ≤ D := by omega
    have HA : Hid (∀ (j : Nat) x, M[j]? = some x → setsAt i x.1 = false) := hid (fun j x hx => by
      have hj : j < M.length := (List.getElem?_eq_some_iff.1 hx).1
      have := hp _ (bk_mem M M.length j hj (by omega))
      unfold bkAt at this
      rw [hx] at this
      exact this)
    have HBB := hid (hB0.trans (hB1.mono hB0.size))
    clear hp hB1
    gi_wp2
    have hK' := (KeepsOthers.setCell W ⟨w.heap.size + 1, 0, none⟩ (.int .i64 (-1))).same D _ hK rfl
    refine ⟨by simp, .inl ⟨_, _, rfl, run_takeDeferred hK', ?_⟩⟩
    have hc5 := cell_kept (World.cell?_setCell_same' W ⟨w.heap.size + 1, 0, none⟩ (.int .i64 (-1)) (by rw [cR]; rfl)) (grownBy_putObj' _ D (.deferred none)) (fun r e => by cases e; exact ⟨_, hK', rfl⟩)
    refine ⟨.int .i64 (-1), ?_, .inl ⟨rfl, HA.out⟩, (HBB.out.setCell (p := ⟨w.heap.size + 1, 0, none⟩) (Nat.le_succ _) _).trans (belowK_b (w := w) (Nat.le_refl _) _ D _ _ hDw hK' rfl rfl)⟩
    simp [results, Try.results49, go_sem, hc5]
  case stop =>
    rintro D c pre W hD ⟨k, hk, rfl⟩ ⟨⟨u, bR1, rfl, ini, last, e1, e2, e3, rfl⟩, hB⟩ hK
    have hcr := bR1.cell
    have hDw : w.heap.size ≤ D := by omega
    have HB := hid hB
    obtain ⟨c, rfl⟩ : ∃ c, k = c + 1 := by
      cases k with
      | zero => simp [bk] at e1
      | succ c => exact ⟨c, rfl⟩
    rw [bk] at e1
    obtain ⟨rfl, e5⟩ := List.append_inj' e1 rfl
    obtain rfl : bkAt M (M.length - 1 - c) = last := by simpa using e5
    obtain ⟨x, hx⟩ : ∃ x, M[M.length - 1 - c]? = some x := ⟨_, List.getElem?_eq_getElem (by omega)⟩
    have e3' : setsAt i x.1 = true := by unfold bkAt at e3; rw [hx] at e3; exact e3
    have HA : Hid (∀ (j : Nat) y, M.length - 1 - c < j → M[j]? = some y → setsAt i y.1 = false) := hid (fun j y hj hy => by
      have hjl : j < M.length := (List.getElem?_eq_some_iff.1 hy).1
      have := e2 _ (bk_mem M c j hjl (by omega))
      unfold bkAt at this
      rw [hy] at this
      exact this)
    have hfst : (bkAt M (M.length - 1 - c)).1 = M.length - 1 - c := rfl
    rw [hfst] at hcr
    have HX := hid hx
    clear e1 e2 e3 e5 hB hx hfst bR1
    generalize M.length - 1 - c = q at *
    gi_wp2
    refine ⟨by simp, .inl ⟨_, _, rfl, run_takeDeferred hK, ?_⟩⟩
    have hc5 := cell_kept hcr (grownBy_putObj' _ D (.deferred none)) (fun r e => by cases e; exact ⟨_, hK, rfl⟩)
    refine ⟨.int .i64 (q : Int), ?_, .inr ⟨q, x, rfl, HX.out, e3', HA.out⟩, HB.out.trans (belowK_b (w := w) (Nat.le_refl _) _ D _ _ hDw hK rfl rfl)⟩
    simp [results, Try.results49, go_sem, hc5]
end Go.Proofs.Ytiffdhihhggkhaa
