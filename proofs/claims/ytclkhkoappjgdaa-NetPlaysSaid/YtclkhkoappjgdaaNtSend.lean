/-
  LAYER 6 (net), THE DOCUMENT's ANSWER: Send.
-/
import Derived.Test.YtclkhkoappjgdaaNtOut
import Derived.Deep.DeepCutAuto
import Derived.Deep.CutRange
namespace Go.Proofs.Ytclkhkoappjgdaa
open Go.RowKit
set_option linter.unusedVariables false
set_option maxRecDepth 100000

abbrev rl1 (x : Lt) : Obj := .cells #[.int .i64 x.fr, .int .i64 x.to_, .string x.dt] 36
section
variable {w : World} {r : Nat} {lv gv : Value} {s : Nt}
/-- A row made anew of the net's letters and one more, from an empty row at g0 and a box at gF. -/
theorem put_plan1 (h : RNet w r lv gv s) {wx : World} {g0 : Nat} (hm : RMid rlTy w wx (.slice (some ⟨g0, 0, none⟩) 0 0) []) :
    ∃ a1 b1 w1, (Builtin.append_ #[28, 28] 28 #[.slice (some ⟨g0, 0, none⟩) 0 0, lv]).run Try.prog wx = .ok (.slice a1 s.L.length b1) w1 ∧ RMid rlTy w w1 (.slice a1 s.L.length b1) s.L ∧ (∀ b, b < wx.heap.size → b ≠ g0 → w1.heap[b]? = wx.heap[b]?) := by
  have hll := h.ll
  obtain ⟨a1, b1, w1, e1, m1, k1⟩ := hm.app rlTy_ok 28 (h.row.below hm.below) (by simp; omega)
  have z1 : ([] : List Lt).length + s.L.length = s.L.length := by simp
  rw [z1] at e1 m1
  rw [List.nil_append] at m1
  exact ⟨a1, b1, w1, e1, m1, fun b hb hne => k1 b hb (fun e => hne (by cases e; rfl))⟩
theorem put_plan2 (h : RNet w r lv gv s) (hl : s.L.length ≤ 999) {wx : World} {v1 : Value} {gF : Nat} {x : Lt} (hm : RMid rlTy w wx v1 s.L) (ho : own wx gF #[.int .i64 x.fr, .int .i64 x.to_, .string x.dt] 36) :
    ∃ a2 b2 w2, (Builtin.append_ #[28, 28] 28 #[v1, .slice (some ⟨gF, 0, none⟩) 1 1]).run Try.prog wx = .ok (.slice a2 (s.L.length + 1) b2) w2 ∧ Below w.heap.size w w2 ∧ RTurn w (w2.setCell ⟨r, 0, none⟩ (.slice a2 (s.L.length + 1) b2)) r lv (.slice a2 (s.L.length + 1) b2) gv { s with L := s.L ++ [x] } := by
  obtain ⟨a2, b2, w2, e2, m2, _⟩ := hm.app rlTy_ok 28 (rAt_box rlTy_ok ho rfl) (by simp; omega)
  exact ⟨a2, b2, w2, e2, m2.below, h.withRow m2 (by simp; omega)⟩
end
/-- The worlds, the rows and the runs of 'append(append([]Letter{}, n.L..), l)', in the three orders in which both blocks may be laid. -/
structure PutRuns (w : World) (r : Nat) (lv gv : Value) (s : Nt) (x : Lt) (W : World) (g0 gF : Nat) (lay : Bool) (a1 : Option Addr) (b1 : Nat) (w1 : World) (a2 : Option Addr) (b2 : Nat) (w2 : World) : Prop where
  e1 : (Builtin.append_ #[28, 28] 28 #[.slice (some ⟨g0, 0, none⟩) 0 0, lv]).run Try.prog W = .ok (.slice a1 s.L.length b1) w1
  b1w : Below w.heap.size w w1
  e2 : (Builtin.append_ #[28, 28] 28 #[.slice a1 s.L.length b1, .slice (some ⟨if lay then w1.heap.size else gF, 0, none⟩) 1 1]).run Try.prog (if lay then w1.alloc (rl1 x) else w1) = .ok (.slice a2 (s.L.length + 1) b2) w2
  b2w : Below w.heap.size w w2
  fin : RTurn w (w2.setCell ⟨r, 0, none⟩ (.slice a2 (s.L.length + 1) b2)) r lv (.slice a2 (s.L.length + 1) b2) gv { s with L := s.L ++ [x] }
theorem put_runs {w : World} {r : Nat} {lv gv : Value} {s : Nt} (h : RNet w r lv gv s) (hl : s.L.length ≤ 999) (x : Lt) :
    (∃ a1 b1 w1 a2 b2 w2, PutRuns w r lv gv s x ((w.alloc rl0).alloc (rl1 x)).drew w.heap.size (w.heap.size + 1) false a1 b1 w1 a2 b2 w2) ∧
    (∃ a1 b1 w1 a2 b2 w2, PutRuns w r lv gv s x ((w.alloc (rl1 x)).alloc rl0).drew (w.heap.size + 1) w.heap.size false a1 b1 w1 a2 b2 w2) ∧
    (∃ a1 b1 w1 a2 b2 w2, PutRuns w r lv gv s x (w.alloc rl0).drew w.heap.size 0 true a1 b1 w1 a2 b2 w2) := by
  have z0 : (w.alloc rl0).heap.size = w.heap.size + 1 := by simp
  have z1 : (w.alloc (rl1 x)).heap.size = w.heap.size + 1 := by simp
  have B0 : Below w.heap.size w (w.alloc rl0).drew := (Below.alloc (Below.refl _ _) (Nat.le_refl _) _).drew
  have B01 : Below w.heap.size w ((w.alloc rl0).alloc (rl1 x)).drew := (Below.alloc (Below.alloc (Below.refl _ _) (Nat.le_refl _) _) (by simp) _).drew
  have B10 : Below w.heap.size w ((w.alloc (rl1 x)).alloc rl0).drew := (Below.alloc (Below.alloc (Below.refl _ _) (Nat.le_refl _) _) (by simp) _).drew
  have R0 : RMid rlTy w _ (.slice (some ⟨w.heap.size, 0, none⟩) 0 0) [] := rMid_empty B0 (own.new w #[] _) (Nat.le_refl _)
  have R01 : RMid rlTy w _ (.slice (some ⟨w.heap.size, 0, none⟩) 0 0) [] := rMid_empty B01 (own.same (own.new w #[] 36) ((Below.alloc (Below.refl _ _) (Nat.le_refl _) (rl1 x)).block _ (by rw [z0]; omega))) (Nat.le_refl _)
  have R10 : RMid rlTy w _ (.slice (some ⟨w.heap.size + 1, 0, none⟩) 0 0) [] := rMid_empty B10 (by rw [← z1]; exact own.new (w.alloc (rl1 x)) #[] _) (by omega)
  have O01 : own ((w.alloc rl0).alloc (rl1 x)).drew (w.heap.size + 1) #[.int .i64 x.fr, .int .i64 x.to_, .string x.dt] 36 := by rw [← z0]; exact own.new (w.alloc rl0) _ _
  have O10 : own ((w.alloc (rl1 x)).alloc rl0).drew w.heap.size #[.int .i64 x.fr, .int .i64 x.to_, .string x.dt] 36 := own.same (own.new w _ 36) ((Below.alloc (Below.refl _ _) (Nat.le_refl _) rl0).block _ (by rw [z1]; omega))
  refine ⟨?_, ?_, ?_⟩
  · obtain ⟨a1, b1, w1, e1, m1, k1⟩ := put_plan1 h R01
    obtain ⟨a2, b2, w2, e2, hb2, hT⟩ := put_plan2 h hl (x := x) m1 (own.same O01 (k1 _ O01.lt (by omega)))
    exact ⟨a1, b1, w1, a2, b2, w2, e1, m1.below, e2, hb2, hT⟩
  · obtain ⟨a1, b1, w1, e1, m1, k1⟩ := put_plan1 h R10
    obtain ⟨a2, b2, w2, e2, hb2, hT⟩ := put_plan2 h hl (x := x) m1 (own.same O10 (k1 _ O10.lt (by omega)))
    exact ⟨a1, b1, w1, a2, b2, w2, e1, m1.below, e2, hb2, hT⟩
  · obtain ⟨a1, b1, w1, e1, m1, k1⟩ := put_plan1 h R0
    have bC : Below w1.heap.size w1 (w1.alloc (rl1 x)) := Below.alloc (Below.refl _ _) (Nat.le_refl _) _
    obtain ⟨a2, b2, w2, e2, hb2, hT⟩ := put_plan2 h hl (x := x) (m1.later bC) (own.new w1 _ 36)
    exact ⟨a1, b1, w1, a2, b2, w2, e1, m1.below, e2, hb2, hT⟩
/-- Ahead of the last statement: there is room; the letter's box stands. -/
structure SendMid (w W : World) (r : Nat) (lv lv' gv : Value) (s s' : Nt) (x : Lt) : Prop where
  turn : RTurn w W r lv lv' gv s'
  few : s'.L.length ≤ 299
  eq : s.send x = { s' with L := s'.L ++ [x] }
  box : own W w.heap.size #[.int .i64 x.fr, .int .i64 x.to_, .string x.dt] 36
/-- One more is lost. -/
theorem RNet.lose {w : World} {r : Nat} {lv gv : Value} {s : Nt} (h : RNet w r lv gv s) (hl : s.lost < 100000) : RTurn w (w.setCell ⟨r, 2, none⟩ (.int .i64 ((s.lost + 1 : Nat) : Int))) r lv lv gv { s with lost := s.lost + 1 } := by
  have hsz : (w.setCell ⟨r, 2, none⟩ (.int .i64 ((s.lost + 1 : Nat) : Int))).heap.size = w.heap.size := setCell_size _ _ _
  have hs : ∀ b, b ≠ r → (w.setCell ⟨r, 2, none⟩ (.int .i64 ((s.lost + 1 : Nat) : Int))).heap[b]? = w.heap[b]? := fun b hb => Below.heap_setCell _ _ _ _ hb
  exact ⟨⟨h.head.set 2 _, h.row.same (fun b e _ => hs b (fun h' => h.ap1 (by rw [e, h']))) (by omega), h.grp.keep (fun hG b e _ => hs b (fun h' => h.ap2 hG (by rw [e, h']))) (by omega), h.ap1, h.ap2, h.ll, h.gl, hl, fun b e => by rw [hsz]; exact h.lt b e⟩, Chg.setCell w ⟨r, 2, none⟩ _, fun b e => .inl e⟩
section
variable {w : World} {r : Nat} {lv gv : Value} {s : Nt}
set_option maxHeartbeats 16000000 in
theorem rSend_any (h : RNet w r lv gv s) (hl : s.L.length ≤ 300) (hlo : s.lost < 100000) (x : Lt) :
    Calls Try.prog 13 #[.pointer (some ⟨r, 0, none⟩), .agg #[.int .i64 x.fr, .int .i64 x.to_, .string x.dt]] w fun e w' => e = .returned (.tuple #[]) ∧ ∃ lv', RTurn w w' r lv lv' gv (s.send x) := by
  have hb0 : Below w.heap.size w (w.alloc (rl1 x)) := (Below.refl _ _).alloc (Nat.le_refl _) _
  have h' := h.below hb0
  have obx := own.new w #[.int .i64 x.fr, .int .i64 x.to_, .string x.dt] 36
  have H := hid h
  have H' := hid h'
  have OB := hid obx
  have T0 := hid (RTurn.of_below h hb0)
  obtain ⟨ao, cap, hv, _⟩ := h.row.at rlTy_ok
  have c0 : (w.alloc (.cells #[.int .i64 x.fr, .int .i64 x.to_, .string x.dt] 36)).cell? ⟨r, 0, none⟩ = some (.slice ao s.L.length cap) := by rw [← hv]; exact (h'.head.cell 0).trans rfl
  have HV := hid hv
  have hr := h.head.lt
  clear h h' hb0 obx hv
  go_enter Try.func13, Try.ntmps13
  go_upto_if 9 with (fail)
  go_cut [] (fun wx => ∃ lv' s', SendMid w wx r lv lv' gv s s' x)
  case first =>
    by_cases hf : s.L.length < 300
    · have hfI : (s.L.length : Int) < 300 := by omega
      go_wp2
      go_meet
      exact ⟨lv, s, T0.out, by omega, by unfold Nt.send; rw [if_neg (by omega)], OB.out⟩
    · have hfI : (300 : Int) ≤ (s.L.length : Int) := by omega
      have HO0 := rOut_any H'.out 0 (by omega)
      rw [show ((0 : Nat) : Int) = 0 from rfl] at HO0
      have HO := hid HO0
      clear HO0
      have hW : IntKind.i64.wrap ((s.lost : Int) + 1) = ((s.lost + 1 : Nat) : Int) := by rw [show ((s.lost + 1 : Nat) : Int) = (s.lost : Int) + 1 by omega]; exact IntWalk.i64_in _ (by omega)
      have HL : Hid (∀ w2 lv2, RTurn (w.alloc (rl1 x)) w2 r lv lv2 gv (s.out 0) → w2.cell? ⟨r, 2, none⟩ = some (.int .i64 (s.lost : Int)) ∧ w2.frozen? ⟨r, 2, none⟩ = false ∧ Hid (SendMid w (w2.setCell ⟨r, 2, none⟩ (.int .i64 ((s.lost + 1 : Nat) : Int))) r lv lv2 gv s { s.out 0 with lost := s.lost + 1 } x)) := hid (fun w2 lv2 ht => by
        have hz : (w.alloc (rl1 x)).heap.size = w.heap.size + 1 := by simp
        have ob2 : own w2 w.heap.size #[.int .i64 x.fr, .int .i64 x.to_, .string x.dt] 36 := OB.out.chg ht.chg (fun e => by omega)
        refine ⟨(ht.is.head.cell 2).trans rfl, ht.is.head.frozen 2, hid ⟨(T0.out.trans ht).trans (ht.is.lose hlo), ?_, ?_, ob2.other (p := ⟨r, 2, none⟩) (by show w.heap.size ≠ r; omega) _⟩⟩
        · show (outL s.L 0).length ≤ 299
          rw [outL_len (by omega)]; omega
        · unfold Nt.send; rw [if_pos (by omega)]; rfl)
      go_wp2_with (go_at_call 28; (with_reducible refine HO.out.mono ?_); rintro e w2 ⟨rfl, lv2, ht⟩; obtain ⟨c2, f2, hS⟩ := HL.out _ _ ht; clear ht)
      go_meet
      exact ⟨_, _, hS.out⟩
  case rest =>
    obtain ⟨lv', s', hM⟩ := hcut
    generalize wc = W at *
    have h' := hM.turn.is
    obtain ⟨⟨aA, bA, wA, aA2, bA2, wA2, PA⟩, ⟨aB, bB, wB, aB2, bB2, wB2, PB⟩, ⟨aC, bC, wC, aC2, bC2, wC2, PC⟩⟩ := put_runs h' (by have := hM.few; omega) x
    have HF : Hid (∀ w' l2, RTurn W w' r lv' l2 gv { s' with L := s'.L ++ [x] } → RTurn w w' r lv l2 gv (s.send x)) := hid (fun w' l2 ht => by rw [hM.eq]; exact hM.turn.trans ht)
    have hr' := h'.head.lt
    have hwr := hM.box.lt
    have hbx := hM.box
    obtain ⟨ao', cap', hv', _⟩ := h'.row.at rlTy_ok
    subst hv'
    have hcs : ∀ wx, Below W.heap.size W wx → wx.cell? ⟨r, 0, none⟩ = some (.slice ao' s'.L.length cap') ∧ wx.cell? ⟨w.heap.size, 0, none⟩ = some (.int .i64 x.fr) ∧ wx.cell? ⟨w.heap.size, 1, none⟩ = some (.int .i64 x.to_) ∧ wx.cell? ⟨w.heap.size, 2, none⟩ = some (.string x.dt) ∧ wx.frozen? ⟨r, 0, none⟩ = false := fun wx hb =>
      ⟨(hb.cell (p := ⟨r, 0, none⟩) hr').trans ((h'.head.cell 0).trans rfl), (hb.cell (p := ⟨w.heap.size, 0, none⟩) hwr).trans ((hbx.cell 0).trans rfl), (hb.cell (p := ⟨w.heap.size, 1, none⟩) hwr).trans ((hbx.cell 1).trans rfl), (hb.cell (p := ⟨w.heap.size, 2, none⟩) hwr).trans ((hbx.cell 2).trans rfl), (hb.frozen (p := ⟨r, 0, none⟩) hr').trans (h'.head.frozen 0)⟩
    have B0 : Below W.heap.size W (W.alloc rl0) := Below.alloc (Below.refl _ _) (Nat.le_refl _) _
    have B1 : Below W.heap.size W (W.alloc (rl1 x)) := Below.alloc (Below.refl _ _) (Nat.le_refl _) _
    have BC : Below W.heap.size W (wC.alloc (rl1 x)) := PC.b1w.alloc PC.b1w.size _
    obtain ⟨c1, d0, d1, d2, g0⟩ := hcs _ (Below.refl _ W)
    obtain ⟨c2, d3, d4, d5, g1⟩ := hcs _ B0
    obtain ⟨c3, d6, d7, d8, g2⟩ := hcs _ B1
    obtain ⟨c4, d9, d10, d11, g3⟩ := hcs _ PA.b1w
    obtain ⟨c5, d12, d13, d14, g4⟩ := hcs _ PB.b1w
    obtain ⟨c6, d15, d16, d17, g5⟩ := hcs _ PC.b1w
    obtain ⟨c7, d18, d19, d20, g6⟩ := hcs _ BC
    obtain ⟨c8, d21, d22, d23, g7⟩ := hcs _ PA.b2w
    obtain ⟨c9, d24, d25, d26, g8⟩ := hcs _ PB.b2w
    obtain ⟨c10, d27, d28, d29, g9⟩ := hcs _ PC.b2w
    have eA := hid PA.e1
    have fA := hid PA.e2
    have eB := hid PB.e1
    have fB := hid PB.e2
    have eC := hid PC.e1
    have fC := hid PC.e2
    simp only [if_true, if_false, Bool.false_eq_true] at fA fB fC
    have TA := hid PA.fin
    have TB := hid PB.fin
    have TC := hid PC.fin
    clear PA PB PC hcs B0 B1 BC h' hbx hM c0
    generalize { s' with L := s'.L ++ [x] } = s2 at *
    go_wp2
    go_region_law (first
      | (refine step_append_at eA.out (by with_reducible rfl) rfl _ _ rfl rfl rfl rfl ?_)
      | (refine step_append_at fA.out (by with_reducible rfl) rfl _ _ rfl rfl rfl rfl ?_)
      | (refine step_append_at eB.out (by with_reducible rfl) rfl _ _ rfl rfl rfl rfl ?_)
      | (refine step_append_at fB.out (by with_reducible rfl) rfl _ _ rfl rfl rfl rfl ?_)
      | (refine step_append_at eC.out (by with_reducible rfl) rfl _ _ rfl rfl rfl rfl ?_)
      | (refine step_append_at fC.out (by with_reducible rfl) rfl _ _ rfl rfl rfl rfl ?_))
    all_goals
      go_wp2
      go_end0
      first
        | exact ⟨rfl, _, HF.out _ _ TA.out⟩
        | exact ⟨rfl, _, HF.out _ _ TB.out⟩
        | exact ⟨rfl, _, HF.out _ _ TC.out⟩
end
end Go.Proofs.Ytclkhkoappjgdaa
