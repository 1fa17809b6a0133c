/-
  LAYER 6 (net), THE PROGRAM: Lose, add, Send.
-/
import Derived.Test.YtclkhkoappjgdaaNpLose
import Derived.Deep.DeepCutAuto
import Derived.Deep.CutRange
namespace Go.Proofs.Ytclkhkoappjgdaa
open Go.RowKit Go.Maps
set_option linter.unusedVariables false
set_option maxRecDepth 100000

section
variable {w : World} {T : Nat → Prop} {r : Nat} {lv fv : Value} {s : Nt}
/-- One more is lost. -/
theorem PNet.lose (h : PNet w T r lv fv s) (hl : s.lost < 100000) : PTurn w (w.setCell ⟨r, 1, none⟩ (.int .i64 ((s.lost + 1 : Nat) : Int))) T r lv lv fv { s with lost := s.lost + 1 } := by
  have hsz : (w.setCell ⟨r, 1, none⟩ (.int .i64 ((s.lost + 1 : Nat) : Int))).heap.size = w.heap.size := setCell_size _ _ _
  have hs : ∀ b, b ≠ r → (w.setCell ⟨r, 1, none⟩ (.int .i64 ((s.lost + 1 : Nat) : Int))).heap[b]? = w.heap[b]? := fun b hb => Below.heap_setCell _ _ _ _ hb
  exact ⟨⟨h.head.set 1 _, h.row.same (fun b e => hs b (fun h' => h.ap1 (by rw [e, h']))), h.grp.same (fun b e => hs b (fun h' => h.tr (by rw [← h']; exact e))), h.ap1, h.tr, h.tl, fun b e => by rw [hsz]; exact h.tlt b e, h.ll, hl, h.sane⟩, (Chg.setCell w ⟨r, 1, none⟩ _).mono (fun b e => .inl e), fun b e => .inl e⟩
def LosePost (w : World) (T : Nat → Prop) (r : Nat) (lv fv : Value) (s : Nt) (k : Nat) (e : Ending) (w' : World) : Prop :=
  e = .returned (.bool true) ∧ ∃ lv', PTurn w w' T r lv lv' fv { s.out k with lost := s.lost + 1 }
theorem pLose_yes (h : PNet w T r lv fv s) {k : Nat} (hk : k < s.L.length) (hl : s.lost < 100000) :
    Calls Try.prog 26 #[.pointer (some ⟨r, 0, none⟩), .int .i64 (k : Int)] w (LosePost w T r lv fv s k) := by
  obtain ⟨x, hx⟩ : ∃ x, s.L[k] = x := ⟨_, rfl⟩
  have H := hid (pPull_yes h hk hx)
  have hW : IntKind.i64.wrap ((s.lost : Int) + 1) = ((s.lost + 1 : Nat) : Int) := by rw [show ((s.lost + 1 : Nat) : Int) = (s.lost : Int) + 1 by omega]; exact IntWalk.i64_in _ (by omega)
  have HL : Hid (∀ w2 lv2, PTurn w w2 T r lv lv2 fv (s.out k) → (w2.alloc (pl1 x)).cell? ⟨r, 1, none⟩ = some (.int .i64 (s.lost : Int)) ∧ (w2.alloc (pl1 x)).frozen? ⟨r, 1, none⟩ = false ∧ ¬ w2.heap.size = r ∧ ¬ r = w2.heap.size ∧ Hid (LosePost w T r lv fv s k (.returned (.bool true)) ((w2.alloc (pl1 x)).setCell ⟨r, 1, none⟩ (.int .i64 ((s.lost + 1 : Nat) : Int))))) := hid (fun w2 lv2 ht => by
    have hT := ht.trans (PTurn.of_below ht.is ((Below.refl _ _).alloc (Nat.le_refl _) (pl1 x)))
    have := ht.is.head.lt
    exact ⟨(hT.is.head.cell 1).trans rfl, hT.is.head.frozen 1, by omega, by omega, hid ⟨rfl, _, hT.trans (hT.is.lose hl)⟩⟩)
  unfold pl1 at *
  clear h hk hx hl
  go_enter Try.func26, Try.ntmps26
  go_wp2_with (go_at_call 37; (with_reducible refine H.out.mono ?_); rintro e w2 ⟨rfl, lv2, ht⟩; obtain ⟨c1, f1, n1, n2, HT⟩ := HL.out _ _ ht; clear ht)
  go_ret
  exact HT.out
/-- A letter put behind. -/
theorem PNet.push (h : PNet w T r lv fv s) (hf : s.L.length ≤ 299) (x : Lt) (hx : I64' x.fr ∧ I64' x.to_) :
    ∃ a cap w2, (Builtin.append_ #[46, 46] 46 #[lv, .slice (some ⟨w.heap.size, 0, none⟩) 1 1]).run Try.prog (w.alloc (pl1 x)).drew = .ok (.slice a (s.L.length + 1) cap) w2 ∧
      w2.cell? ⟨r, 0, none⟩ = some lv ∧ w2.frozen? ⟨r, 0, none⟩ = false ∧ PTurn w (w2.setCell ⟨r, 0, none⟩ (.slice a (s.L.length + 1) cap)) T r lv (.slice a (s.L.length + 1) cap) fv { s with L := s.L ++ [x] } := by
  have hb : Below w.heap.size w (w.alloc (pl1 x)).drew := ((Below.refl _ _).alloc (Nat.le_refl _) _).drew
  have h1 := h.below hb
  have hrow := h1.row
  obtain ⟨a, cap, w2, e, hro, hg, hat⟩ := run_app plTy_ok (w.alloc (pl1 x)).drew 46 lv _ s.L [x] hrow (rAt_box plTy_ok (show own (w.alloc (pl1 x)).drew w.heap.size #[.int .i64 x.fr, .int .i64 x.to_, .string x.dt] 37 from own.new w _ _) rfl) (by simp; omega)
  have hr := h.head.lt
  have zd : (w.alloc (pl1 x)).drew.heap.size = w.heap.size + 1 := by show (w.alloc (pl1 x)).heap.size = _; simp
  have hc := Chg.of_grown hg
  have hz := hc.size
  have q0 : own w2 r #[lv, .int .i64 (s.lost : Int), fv] 57 := h1.head.chg hc h.ap1
  have hnr : (Value.slice a (s.L.length + 1) cap).ownBlock ≠ some r := fun e' => by
    rcases hat with k | k
    · rw [show s.L.length + [x].length = s.L.length + 1 from rfl, e'] at k; exact h.ap1 k.symm
    · rw [show s.L.length + [x].length = s.L.length + 1 from rfl, e'] at k; have := Option.some.inj k; omega
  have hs : ∀ b, b ≠ r → (w2.setCell ⟨r, 0, none⟩ (.slice a (s.L.length + 1) cap)).heap[b]? = w2.heap[b]? := fun b hb => Below.heap_setCell _ _ _ _ hb
  have hsz : (w2.setCell ⟨r, 0, none⟩ (.slice a (s.L.length + 1) cap)).heap.size = w2.heap.size := setCell_size _ _ _
  refine ⟨a, cap, w2, e, (q0.cell 0).trans rfl, q0.frozen 0, ⟨⟨q0.set 0 _, hro.same (fun b e => hs b (fun h' => hnr (by rw [← h']; exact e))), h1.grp.same (fun b hb => (hs b (fun e => h.tr (by rw [← e]; exact hb))).trans (hc.block b (h1.tlt b hb) (fun e => h.tl b e hb))), hnr, h.tr, ?_, fun b hb => by rw [hsz]; have := h1.tlt b hb; omega, ?_, h.lo, ?_⟩, ?_, ?_⟩⟩
  · intro b e' hT
    rcases hat with k | k
    · exact h.tl b (by rw [← k]; exact e') hT
    · have k2 : (Value.slice a (s.L.length + 1) cap).ownBlock = some (w.alloc (pl1 x)).drew.heap.size := k
      rw [k2] at e'; have := Option.some.inj e'; have := h.tlt b hT; omega
  · show (s.L ++ [x]).length ≤ 300
    simp; omega
  · intro y hy
    rcases List.mem_append.1 hy with hy | hy
    · exact h.sane y hy
    · simp at hy; subst hy; exact hx
  · refine ((Chg.of_below hb).trans hc (fun b e => .inl (.inr e))).trans (Chg.setCell w2 ⟨r, 0, none⟩ _) (fun b e => .inl (.inl e))
  · intro b e'
    rcases hat with k | k
    · exact .inl (by rw [← k]; exact e')
    · have k2 : (Value.slice a (s.L.length + 1) cap).ownBlock = some (w.alloc (pl1 x)).drew.heap.size := k
      rw [k2] at e'; have := Option.some.inj e'
      have hl2 : b < w2.heap.size := hro.lt b (by show (Value.slice a (s.L.length + 1) cap).ownBlock = some b; rw [k2]; exact e')
      exact .inr ⟨by omega, by rw [hsz]; exact hl2⟩
/-- Ahead of the last statement: there is room; the letter's box stands. -/
structure AddMid (w W : World) (T : Nat → Prop) (r : Nat) (lv lv' fv : Value) (s s' : Nt) (x : Lt) : Prop where
  turn : PTurn w W T r lv lv' fv s'
  few : s'.L.length ≤ 299
  eq : s.send x = { s' with L := s'.L ++ [x] }
  box : own W w.heap.size #[.int .i64 x.fr, .int .i64 x.to_, .string x.dt] 37
def AddPost (w : World) (T : Nat → Prop) (r : Nat) (lv fv : Value) (s : Nt) (x : Lt) (e : Ending) (w' : World) : Prop :=
  e = .returned (.tuple #[]) ∧ ∃ lv', PTurn w w' T r lv lv' fv (s.send x)
set_option maxHeartbeats 8000000 in
theorem pAdd_any (h : PNet w T r lv fv s) (hlo : s.lost < 100000) (x : Lt) (hx : I64' x.fr ∧ I64' x.to_) :
    Calls Try.prog 27 #[.pointer (some ⟨r, 0, none⟩), .agg #[.int .i64 x.fr, .int .i64 x.to_, .string x.dt]] w (AddPost w T r lv fv s x) := by
  have hll := h.ll
  have hb0 : Below w.heap.size w (w.alloc (pl1 x)) := (Below.refl _ _).alloc (Nat.le_refl _) _
  have h' := h.below hb0
  have OB := hid (own.new w #[.int .i64 x.fr, .int .i64 x.to_, .string x.dt] 37)
  have T0 := hid (PTurn.of_below h hb0)
  obtain ⟨ao, cap, hv, _⟩ := h.row.slice
  have c0 : (w.alloc (.cells #[.int .i64 x.fr, .int .i64 x.to_, .string x.dt] 37)).cell? ⟨r, 0, none⟩ = some (.slice ao s.L.length cap) := by rw [← hv]; exact (h'.head.cell 0).trans rfl
  have H' := hid h'
  have HX := hid hx
  have HLv := hid h.row.lt
  have hr := h.head.lt
  clear h h' hb0 hv hx
  go_enter Try.func27, Try.ntmps27
  go_upto_if 9 with (fail)
  go_cut [] (fun wx => ∃ lv' s', AddMid w wx T r lv lv' fv s s' x)
  case first =>
    by_cases hf : s.L.length < 300
    · have hfI : (s.L.length : Int) < 300 := by omega
      go_wp2
      go_meet
      exact ⟨lv, s, T0.out, by omega, by unfold Nt.send; rw [if_neg (by omega)], OB.out⟩
    · have hfI : (300 : Int) ≤ (s.L.length : Int) := by omega
      have HO0 := pLose_yes H'.out (k := 0) (by omega) hlo
      rw [show ((0 : Nat) : Int) = 0 from rfl] at HO0
      have HO := hid HO0
      clear HO0
      have HL : Hid (∀ w2 lv2, PTurn (w.alloc (pl1 x)) w2 T r lv lv2 fv { s.out 0 with lost := s.lost + 1 } → AddMid w w2 T r lv lv2 fv s { s.out 0 with lost := s.lost + 1 } x) := hid (fun w2 lv2 ht => by
        have hz : (w.alloc (pl1 x)).heap.size = w.heap.size + 1 := by simp
        refine ⟨T0.out.trans ht, ?_, ?_, OB.out.chg ht.chg (fun e => ?_)⟩
        · show (outL s.L 0).length ≤ 299
          rw [outL_len (by omega)]; omega
        · unfold Nt.send; rw [if_pos (by omega)]; rfl
        · rcases e with e | e
          · omega
          · have := HLv.out _ e; omega)
      go_wp2_with (go_at_call 26; (with_reducible refine HO.out.mono ?_); rintro e w2 ⟨rfl, lv2, ht⟩; have HS := hid (HL.out _ _ ht); clear ht)
      go_meet
      exact ⟨_, _, HS.out⟩
  case rest =>
    obtain ⟨lv', s', hM⟩ := hcut
    generalize wc = W at *
    obtain ⟨a2, cap2, w2, e2, d0, d1, hT⟩ := hM.turn.is.push hM.few x HX.out
    have HF : Hid (AddPost w T r lv fv s x (.returned (.tuple #[])) (w2.setCell ⟨r, 0, none⟩ (.slice a2 (s'.L.length + 1) cap2))) := hid ⟨rfl, _, by rw [hM.eq]; exact hM.turn.trans hT⟩
    obtain ⟨ao', cap', hv', _⟩ := hM.turn.is.row.slice
    subst hv'
    have hr' := hM.turn.is.head.lt
    have b1 : Below W.heap.size W (W.alloc (pl1 x)) := (Below.refl _ _).alloc (Nat.le_refl _) _
    have k0 : W.cell? ⟨r, 0, none⟩ = some (.slice ao' s'.L.length cap') := (hM.turn.is.head.cell 0).trans rfl
    have k1 : (W.alloc (pl1 x)).cell? ⟨r, 0, none⟩ = some (.slice ao' s'.L.length cap') := (b1.cell (p := ⟨r, 0, none⟩) hr').trans k0
    have m0 : W.cell? ⟨w.heap.size, 0, none⟩ = some (.int .i64 x.fr) := (hM.box.cell 0).trans rfl
    have m1 : W.cell? ⟨w.heap.size, 1, none⟩ = some (.int .i64 x.to_) := (hM.box.cell 1).trans rfl
    have m2 : W.cell? ⟨w.heap.size, 2, none⟩ = some (.string x.dt) := (hM.box.cell 2).trans rfl
    have E2 := hid e2
    clear e2 hT hM b1 c0
    unfold pl1 at *
    go_wp2
    go_region_law (refine step_append_at E2.out (by with_reducible rfl) rfl _ _ rfl rfl rfl rfl ?_)
    all_goals
      go_wp2
      go_end0
      exact HF.out
end
end Go.Proofs.Ytclkhkoappjgdaa
