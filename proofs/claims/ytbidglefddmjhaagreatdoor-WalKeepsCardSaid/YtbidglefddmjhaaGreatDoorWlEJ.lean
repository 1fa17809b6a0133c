import Derived.Test.YtbidglefddmjhaaGreatDoorMqcJ
/-
  LAYER 3 (wal): records read: an entry.
-/
namespace Go.Proofs.YtbidglefddmjhaaGreatDoor
open Go.RowKit
set_option linter.unusedVariables false
set_option maxRecDepth 100000

def EntPost (w : World) (q : Option En) (e : Ending) (w' : World) : Prop := ∃ x : En, e = .returned (.tuple #[.agg #[.int .i64 x.idx, .int .i64 x.term, .int .i64 x.kind, .string (mk x.data)], .bool q.isSome]) ∧ (∀ x', q = some x' → x = x') ∧ Below w.heap.size w w'
theorem three_of {is : List Int} (h : is.length = 3) : ∃ a b c, is = [a, b, c] := by
  match is, h with
  | [a, b, c], _ => exact ⟨a, b, c, rfl⟩
/-- The cells of the two blocks that toEntry works on. -/
structure EntCells (w : World) (H : Nat) (a b c : Int) (d : ByteArray) : Prop where
  c0 : w.cell? ⟨H + 1, 0, none⟩ = some (.int .i64 a)
  c1 : w.cell? ⟨H + 1, 1, none⟩ = some (.int .i64 b)
  c2 : w.cell? ⟨H + 1, 2, none⟩ = some (.int .i64 c)
  c3 : w.cell? ⟨H + 1, 3, none⟩ = some (.string d)
  f3 : w.frozen? ⟨H + 1, 3, none⟩ = false
  d0 : w.cell? ⟨H, 0, none⟩ = some (.int .i64 0)
  d1 : w.cell? ⟨H, 1, none⟩ = some (.int .i64 0)
  d2 : w.cell? ⟨H, 2, none⟩ = some (.int .i64 0)
  d3 : w.cell? ⟨H, 3, none⟩ = some (.string ⟨#[]⟩)
  g0 : w.frozen? ⟨H, 0, none⟩ = false
  g1 : w.frozen? ⟨H, 1, none⟩ = false
  g2 : w.frozen? ⟨H, 2, none⟩ = false
  g3 : w.frozen? ⟨H, 3, none⟩ = false
theorem EntCells.of {w : World} {H : Nat} {a b c : Int} {d : ByteArray} (h1 : own w (H + 1) #[.int .i64 a, .int .i64 b, .int .i64 c, .string d] 95) (h0 : own w H #[.int .i64 0, .int .i64 0, .int .i64 0, .string ⟨#[]⟩] 95) : EntCells w H a b c d :=
  ⟨h1.cell 0, h1.cell 1, h1.cell 2, h1.cell 3, h1.frozen 3, h0.cell 0, h0.cell 1, h0.cell 2, h0.cell 3, h0.frozen 0, h0.frozen 1, h0.frozen 2, h0.frozen 3⟩
def put4 (w : World) (H : Nat) (a b c : Int) (d : ByteArray) : World := (((w.setCell ⟨H, 0, none⟩ (.int .i64 a)).setCell ⟨H, 1, none⟩ (.int .i64 b)).setCell ⟨H, 2, none⟩ (.int .i64 c)).setCell ⟨H, 3, none⟩ (.string d)
/-- The result's cells, at the end. -/
structure EntEnd (w : World) (H : Nat) (a b c : Int) (d : ByteArray) : Prop where
  r0 : w.cell? ⟨H, 0, none⟩ = some (.int .i64 a)
  r1 : w.cell? ⟨H, 1, none⟩ = some (.int .i64 b)
  r2 : w.cell? ⟨H, 2, none⟩ = some (.int .i64 c)
  r3 : w.cell? ⟨H, 3, none⟩ = some (.string d)
theorem EntEnd.of {w : World} {H : Nat} {a b c : Int} {d : ByteArray} (h0 : own w H #[.int .i64 0, .int .i64 0, .int .i64 0, .string ⟨#[]⟩] 95) : EntEnd (put4 w H a b c d) H a b c d := by
  have h := (((h0.set 0 (.int .i64 a)).set 1 (.int .i64 b)).set 2 (.int .i64 c)).set 3 (.string d)
  exact ⟨(h.cell 0).trans rfl, (h.cell 1).trans rfl, (h.cell 2).trans rfl, (h.cell 3).trans rfl⟩
theorem EntEnd.drew {w : World} {H : Nat} {a b c : Int} {d : ByteArray} (h : EntEnd w H a b c d) : EntEnd w.drew H a b c d := ⟨h.r0, h.r1, h.r2, h.r3⟩
theorem put4_below {w0 w : World} {H : Nat} (h : Below H w0 w) (a b c : Int) (d : ByteArray) : Below H w0 (put4 w H a b c d) :=
  (((h.setCell (p := ⟨H, 0, none⟩) (Nat.le_refl _) _).setCell (p := ⟨H, 1, none⟩) (Nat.le_refl _) _).setCell (p := ⟨H, 2, none⟩) (Nat.le_refl _) _).setCell (p := ⟨H, 3, none⟩) (Nat.le_refl _) _
def decT (a b c : Int) (r : List UInt8) : Option En := match toText r with | some (t, r2) => if r2 = [] ∧ entB ⟨a, b, c, t⟩ = true then some ⟨a, b, c, t⟩ else none | none => none
/-- What cutting leaves, as toEntry's own words need it. -/
def EntCut (w : World) (q : Option En) (n : Nat) (H : Nat) (e : Ending) (w' : World) : Prop :=
  ∃ a b c : Int, own w' (H + 1) #[.int .i64 a, .int .i64 b, .int .i64 c, .string ⟨#[]⟩] 95 ∧ own w' H #[.int .i64 0, .int .i64 0, .int .i64 0, .string ⟨#[]⟩] 95 ∧ Below H w w' ∧ H + 2 < w'.heap.size ∧
    ((e = .returned (.tuple #[.string ⟨#[]⟩, .bool false]) ∧ Hid (q = none)) ∨
     (∃ r : List UInt8, r.length ≤ n ∧ e = .returned (.tuple #[.string (mk r), .bool true]) ∧ Hid (q = decT a b c r)))
theorem entCut_any (s : ByteArray) (w : World) (hs : s.size ≤ maxLen) :
    Calls Tryz.prog 208 #[.string s, .slice (some ⟨w.heap.size + 1 + 1, 0, none⟩) 3 3]
      (((w.alloc (.cells #[.int .i64 0, .int .i64 0, .int .i64 0, .string ⟨#[]⟩] 95)).alloc (.cells #[.int .i64 0, .int .i64 0, .int .i64 0, .string ⟨#[]⟩] 95)).alloc (.cells #[.pointer (some ⟨w.heap.size + 1, 0, none⟩), .pointer (some ⟨w.heap.size + 1, 1, none⟩), .pointer (some ⟨w.heap.size + 1, 2, none⟩)] 237))
      (EntCut w (decE s.data.toList) s.size w.heap.size) := by
  have z1 : (w.alloc (.cells #[.int .i64 0, .int .i64 0, .int .i64 0, .string ⟨#[]⟩] 95)).heap.size = w.heap.size + 1 := by simp
  have z2 : ((w.alloc (.cells #[.int .i64 0, .int .i64 0, .int .i64 0, .string ⟨#[]⟩] 95)).alloc (.cells #[.int .i64 0, .int .i64 0, .int .i64 0, .string ⟨#[]⟩] 95)).heap.size = w.heap.size + 1 + 1 := by simp
  have o0 := own.new w #[.int .i64 0, .int .i64 0, .int .i64 0, .string ⟨#[]⟩] 95
  have o1 := own.new (w.alloc (.cells #[.int .i64 0, .int .i64 0, .int .i64 0, .string ⟨#[]⟩] 95)) #[.int .i64 0, .int .i64 0, .int .i64 0, .string ⟨#[]⟩] 95
  rw [z1] at o1
  have o2 := own.new ((w.alloc (.cells #[.int .i64 0, .int .i64 0, .int .i64 0, .string ⟨#[]⟩] 95)).alloc (.cells #[.int .i64 0, .int .i64 0, .int .i64 0, .string ⟨#[]⟩] 95)) #[.pointer (some ⟨w.heap.size + 1, 0, none⟩), .pointer (some ⟨w.heap.size + 1, 1, none⟩), .pointer (some ⟨w.heap.size + 1, 2, none⟩)] 237
  rw [z2] at o2
  have b1 : Below w.heap.size w (w.alloc (.cells #[.int .i64 0, .int .i64 0, .int .i64 0, .string ⟨#[]⟩] 95)) := Below.alloc (Below.refl _ _) (Nat.le_refl _) _
  have b12 : Below (w.heap.size + 1) (w.alloc (.cells #[.int .i64 0, .int .i64 0, .int .i64 0, .string ⟨#[]⟩] 95)) ((w.alloc (.cells #[.int .i64 0, .int .i64 0, .int .i64 0, .string ⟨#[]⟩] 95)).alloc (.cells #[.int .i64 0, .int .i64 0, .int .i64 0, .string ⟨#[]⟩] 95)) := Below.alloc (Below.refl _ _) (by rw [z1]; exact Nat.le_refl _) _
  have b23 : Below (w.heap.size + 1 + 1) ((w.alloc (.cells #[.int .i64 0, .int .i64 0, .int .i64 0, .string ⟨#[]⟩] 95)).alloc (.cells #[.int .i64 0, .int .i64 0, .int .i64 0, .string ⟨#[]⟩] 95)) (((w.alloc (.cells #[.int .i64 0, .int .i64 0, .int .i64 0, .string ⟨#[]⟩] 95)).alloc (.cells #[.int .i64 0, .int .i64 0, .int .i64 0, .string ⟨#[]⟩] 95)).alloc (.cells #[.pointer (some ⟨w.heap.size + 1, 0, none⟩), .pointer (some ⟨w.heap.size + 1, 1, none⟩), .pointer (some ⟨w.heap.size + 1, 2, none⟩)] 237)) := Below.alloc (Below.refl _ _) (by rw [z2]; exact Nat.le_refl _) _
  have o1' := o1.same (b23.block _ (by omega))
  have o0' := (o0.same (b12.block _ (by omega))).same (b23.block _ (by omega))
  have z3 : (((w.alloc (.cells #[.int .i64 0, .int .i64 0, .int .i64 0, .string ⟨#[]⟩] 95)).alloc (.cells #[.int .i64 0, .int .i64 0, .int .i64 0, .string ⟨#[]⟩] 95)).alloc (.cells #[.pointer (some ⟨w.heap.size + 1, 0, none⟩), .pointer (some ⟨w.heap.size + 1, 1, none⟩), .pointer (some ⟨w.heap.size + 1, 2, none⟩)] 237)).heap.size = w.heap.size + 3 := by simp
  have hb3 : Below w.heap.size w (((w.alloc (.cells #[.int .i64 0, .int .i64 0, .int .i64 0, .string ⟨#[]⟩] 95)).alloc (.cells #[.int .i64 0, .int .i64 0, .int .i64 0, .string ⟨#[]⟩] 95)).alloc (.cells #[.pointer (some ⟨w.heap.size + 1, 0, none⟩), .pointer (some ⟨w.heap.size + 1, 1, none⟩), .pointer (some ⟨w.heap.size + 1, 2, none⟩)] 237)) := (b1.trans (b12.mono (by omega))).trans (b23.mono (by omega))
  refine (cutNums_any s 3 (by omega) (w.heap.size + 1) (w.heap.size + 1 + 1) 95 237 [0, 0, 0] [.string ⟨#[]⟩] _ o2 o1' (by omega) rfl hs).mono ?_
  rintro e w' ⟨he, is, hil, hq, ho, hc⟩
  obtain ⟨a, b, c, rfl⟩ := three_of hil
  have hoH : own w' w.heap.size #[.int .i64 0, .int .i64 0, .int .i64 0, .string ⟨#[]⟩] 95 := o0'.chg hc (by omega)
  have hbw : Below w.heap.size w w' := hb3.trans (hc.below (by omega) (fun b e => by omega))
  have hsz : w.heap.size + 2 < w'.heap.size := by have := hc.size; rw [z3] at this; omega
  refine ⟨a, b, c, ho, hoH, hbw, hsz, ?_⟩
  unfold decE
  cases h : cutN 3 s.data.toList with
  | none => rw [h] at he; exact .inl ⟨he, rfl⟩
  | some p =>
    obtain ⟨vs, r⟩ := p
    have hv := hq vs r h
    have hrl : r.length ≤ s.size := by
      have h1 := (cutN_sound h).1
      have h2 := congrArg List.length h1
      rw [str_len, List.length_append] at h2
      omega
    subst hv
    rw [h] at he
    exact .inr ⟨r, hrl, he, rfl⟩
set_option maxHeartbeats 8000000 in
theorem toEntry_any (s : ByteArray) (w : World) (hs : s.size ≤ maxLen) : Calls Tryz.prog 183 #[.string s] w (EntPost w (decE s.data.toList)) := by
  have HC := hid (entCut_any s w hs)
  generalize decE s.data.toList = q at *
  have HH := hid (trivial : True)
  go_enter Tryz.func183, Tryz.ntmps183
  go_wp2_with (go_at_call 208; (with_reducible refine HC.out.mono ?_); rintro e w1 ⟨a, b, c, ho1, ho0, hb1, hsz, hcase⟩; obtain ⟨c0, c1, c2, c3, f3, d0, d1, d2, d3, g0, g1, g2, g3⟩ := EntCells.of ho1 ho0; have HO1 := hid ho1; have HO0 := hid ho0; have HE := hid (EntEnd.of (a := a) (b := b) (c := c) (d := ⟨#[]⟩) ho0); have HB := hid (put4_below hb1 a b c ⟨#[]⟩); clear ho1 ho0; rcases hcase with ⟨rfl, hq⟩ | ⟨r, hrl, rfl, hq⟩)
  · have hE := HE.out
    unfold put4 at hE
    obtain ⟨r0, r1, r2, r3⟩ := hE
    have hp : EntPost w q (.returned (.tuple #[.agg #[.int .i64 a, .int .i64 b, .int .i64 c, .string ⟨#[]⟩], .bool false])) (put4 w1 w.heap.size a b c ⟨#[]⟩) := ⟨⟨a, b, c, []⟩, by rw [hq.out]; rfl, (fun x' e => (by rw [hq.out] at e; cases e)), HB.out⟩
    exact bodyPost_ret (v := .tuple #[.agg #[.int .i64 a, .int .i64 b, .int .i64 c, .string ⟨#[]⟩], .bool false]) (by simp [results, Tryz.results183, go_sem, r0, r1, r2, r3]) rfl hp
  · have hy : ∀ (tb : ByteArray) w2, Below w1.heap.size w1 w2 → own (w2.setCell ⟨w.heap.size + 1, 3, none⟩ (.string tb)) (w.heap.size + 1) #[.int .i64 a, .int .i64 b, .int .i64 c, .string tb] 95 ∧ own (w2.setCell ⟨w.heap.size + 1, 3, none⟩ (.string tb)) w.heap.size #[.int .i64 0, .int .i64 0, .int .i64 0, .string ⟨#[]⟩] 95 ∧ Below w.heap.size w (w2.setCell ⟨w.heap.size + 1, 3, none⟩ (.string tb)) ∧ w.heap.size + 1 < w2.heap.size := fun tb w2 hb2 => by
      have o1 : own w2 (w.heap.size + 1) _ _ := HO1.out.same (hb2.block _ (by omega))
      have o0 : own w2 w.heap.size _ _ := HO0.out.same (hb2.block _ (by omega))
      have o1' := o1.set 3 (.string tb)
      refine ⟨by simpa using o1', o0.other (p := ⟨w.heap.size + 1, 3, none⟩) (by show w.heap.size ≠ w.heap.size + 1; omega) _, (hb1.trans (hb2.mono hb1.size)).setCell (p := ⟨w.heap.size + 1, 3, none⟩) (by show w.heap.size ≤ w.heap.size + 1; omega) _, by have := hb2.size; omega⟩
    have HY := hid hy
    have HX := hid (fun w2 (hb2 : Below w1.heap.size w1 w2) => EntCells.of (HO1.out.same (hb2.block (w.heap.size + 1) (by omega))) (HO0.out.same (hb2.block w.heap.size (by omega))))
    have hT := toText_any (mk r) w1 (by rw [mk_size]; omega)
    rw [mk_data] at hT
    clear hy c0 c1 c2 c3 f3 d0 d1 d2 d3 g0 g1 g2 g3 HE HB
    have hQ := hq.out
    unfold decT at hQ
    clear hq
    cases ht : toText r with
    | none =>
      rw [ht] at hT hQ
      simp only at hQ
      have HT : Hid (Calls Tryz.prog 209 #[.string (mk r)] w1 fun e w' => e = .returned (.tuple #[.string ⟨#[]⟩, .string ⟨#[]⟩, .bool false]) ∧ Below w1.heap.size w1 w') := hid hT
      have HQ := hid hQ
      clear hT hQ ht
      generalize mk r = rb at *
      go_wp2_with (go_at_call 209; (with_reducible refine HT.out.mono ?_); rintro e w2 ⟨rfl, hb2⟩; obtain ⟨c0, c1, c2, c3, f3, d0, d1, d2, d3, g0, g1, g2, g3⟩ := HX.out _ hb2)
      obtain ⟨o1, o0, hb3, hz⟩ := HY.out ⟨#[]⟩ w2 hb2
      clear c0 c1 c2 c3 f3 d0 d1 d2 d3 g0 g1 g2 g3
      generalize w2.setCell ⟨w.heap.size + 1, 3, none⟩ (.string ⟨#[]⟩) = w3 at *
      obtain ⟨c0, c1, c2, c3, f3, d0, d1, d2, d3, g0, g1, g2, g3⟩ := EntCells.of o1 o0
      have hE : EntEnd (put4 w3 w.heap.size a b c ⟨#[]⟩).drew w.heap.size a b c ⟨#[]⟩ := (EntEnd.of (w := w3) o0).drew
      unfold put4 at hE
      obtain ⟨r0, r1, r2, r3⟩ := hE
      have hp : EntPost w q (.returned (.tuple #[.agg #[.int .i64 a, .int .i64 b, .int .i64 c, .string ⟨#[]⟩], .bool false])) (put4 w3 w.heap.size a b c ⟨#[]⟩).drew := ⟨⟨a, b, c, []⟩, by rw [HQ.out]; rfl, (fun x' e => (by rw [HQ.out] at e; cases e)), (put4_below hb3 a b c _).drew⟩
      have HP := hid hp
      clear hp o1 o0
      go_region
      all_goals
        go_wp2
        exact bodyPost_ret (v := .tuple #[.agg #[.int .i64 a, .int .i64 b, .int .i64 c, .string ⟨#[]⟩], .bool false]) (by simp [results, Tryz.results183, go_sem, r0, r1, r2, r3]) rfl HP.out
    | some p =>
      obtain ⟨t, r2⟩ := p
      rw [ht] at hT hQ
      simp only at hQ
      have HT : Hid (Calls Tryz.prog 209 #[.string (mk r)] w1 fun e w' => e = .returned (.tuple #[.string (mk t), .string (mk r2), .bool true]) ∧ Below w1.heap.size w1 w') := hid hT
      clear hT ht
      generalize mk r = rb at *
      by_cases hr2 : r2 = []
      · subst hr2
        have HQ := hid hQ
        clear hQ
        change Hid (Calls _ _ _ w1 fun e w' => e = .returned (.tuple #[.string (mk t), .string ⟨#[]⟩, .bool true]) ∧ _) at HT
        have HF := hid (fun wx => entryFits_any ⟨a, b, c, t⟩ (mk t) wx)
        have hqq : (q.isSome = entB ⟨a, b, c, t⟩) ∧ ∀ x', q = some x' → (⟨a, b, c, t⟩ : En) = x' := by
          rw [HQ.out]
          cases he : entB ⟨a, b, c, t⟩ with
          | true => simp
          | false => simp
        have HQQ := hid hqq
        clear hqq
        have hp : ∀ w0, Below w.heap.size w w0 → EntPost w q (.returned (.tuple #[.agg #[.int .i64 a, .int .i64 b, .int .i64 c, .string (mk t)], .bool (entB ⟨a, b, c, t⟩)])) w0 := fun w0 hb => ⟨⟨a, b, c, t⟩, by rw [HQQ.out.1], HQQ.out.2, hb⟩
        have HP := hid hp
        clear hp HQ HQQ
        generalize entB ⟨a, b, c, t⟩ = qb at *
        generalize mk t = tb at *
        go_wp2_with (go_at_call 209; (with_reducible refine HT.out.mono ?_); rintro e w2 ⟨rfl, hb2⟩; obtain ⟨c0, c1, c2, c3, f3, d0, d1, d2, d3, g0, g1, g2, g3⟩ := HX.out _ hb2)
        obtain ⟨o1, o0, hb3, hz⟩ := HY.out tb w2 hb2
        clear c0 c1 c2 c3 f3 d0 d1 d2 d3 g0 g1 g2 g3
        have hz3 : w.heap.size + 1 < (w2.setCell ⟨w.heap.size + 1, 3, none⟩ (.string tb)).heap.size := by rw [setCell_size]; exact hz
        generalize w2.setCell ⟨w.heap.size + 1, 3, none⟩ (.string tb) = w3 at *
        obtain ⟨c0, c1, c2, c3, f3, d0, d1, d2, d3, g0, g1, g2, g3⟩ := EntCells.of o1 o0
        have hw : ∀ w4, Below w3.drew.heap.size w3.drew w4 → EntCells w4 w.heap.size a b c tb ∧ EntEnd (put4 w4 w.heap.size a b c tb) w.heap.size a b c tb ∧ Below w.heap.size w w4 := fun w4 hb4 => by
          have p1 : own w4 (w.heap.size + 1) _ _ := o1.same (hb4.block _ (by show _ < w3.heap.size; omega))
          have p0 : own w4 w.heap.size _ _ := o0.same (hb4.block _ (by show _ < w3.heap.size; omega))
          exact ⟨EntCells.of p1 p0, EntEnd.of p0, hb3.drew.trans (hb4.mono hb3.drew.size)⟩
        have HW := hid hw
        clear hw o1 o0
        unfold put4 at HW
        go_region_with (go_at_call 154; (with_reducible refine (HF.out _).mono ?_); rintro e w4 ⟨rfl, hb4⟩; obtain ⟨⟨c0', c1', c2', c3', f3', d0', d1', d2', d3', g0', g1', g2', g3'⟩, ⟨r0, r1, r2, r3⟩, hbw4⟩ := HW.out _ hb4)
        all_goals
          go_wp2
          exact bodyPost_ret (v := .tuple #[.agg #[.int .i64 a, .int .i64 b, .int .i64 c, .string tb], .bool qb]) (by simp [results, Tryz.results183, go_sem, r0, r1, r2, r3]) rfl (HP.out _ (put4_below hbw4 a b c tb))
      · have hne : (mk r2).toList ≠ [] := by rw [Lib.toList_data, mk_data]; exact hr2
        have hne2 : ((mk r2).toList == []) = false := by simpa using hne
        have hne3 : (mk r2).toList.isEmpty = false := by simpa using hne
        rw [if_neg (fun h => hr2 h.1)] at hQ
        have HQ := hid hQ
        clear hr2 hQ
        have hmt : mk t = mk (mk t).data.toList := rfl
        have hp : ∀ w0, Below w.heap.size w w0 → EntPost w q (.returned (.tuple #[.agg #[.int .i64 a, .int .i64 b, .int .i64 c, .string (mk t)], .bool false])) w0 := fun w0 hb => ⟨⟨a, b, c, t⟩, by rw [HQ.out]; rfl, (fun x' e => (by rw [HQ.out] at e; cases e)), hb⟩
        have HP := hid hp
        clear hp hmt
        generalize mk r2 = r2b at *
        generalize mk t = tb at *
        go_wp2_with (go_at_call 209; (with_reducible refine HT.out.mono ?_); rintro e w2 ⟨rfl, hb2⟩; obtain ⟨c0, c1, c2, c3, f3, d0, d1, d2, d3, g0, g1, g2, g3⟩ := HX.out _ hb2)
        obtain ⟨o1, o0, hb3, hz⟩ := HY.out tb w2 hb2
        clear c0 c1 c2 c3 f3 d0 d1 d2 d3 g0 g1 g2 g3
        generalize w2.setCell ⟨w.heap.size + 1, 3, none⟩ (.string tb) = w3 at *
        obtain ⟨c0, c1, c2, c3, f3, d0, d1, d2, d3, g0, g1, g2, g3⟩ := EntCells.of o1 o0
        have hE : EntEnd (put4 w3 w.heap.size a b c tb).drew w.heap.size a b c tb := (EntEnd.of (w := w3) o0).drew
        unfold put4 at hE
        obtain ⟨r0, r1, r2, r3⟩ := hE
        clear o1 o0
        go_region
        all_goals
          go_wp2
          exact bodyPost_ret (v := .tuple #[.agg #[.int .i64 a, .int .i64 b, .int .i64 c, .string tb], .bool false]) (by simp [results, Tryz.results183, go_sem, r0, r1, r2, r3]) rfl (HP.out _ (put4_below hb3 a b c tb).drew)
end Go.Proofs.YtbidglefddmjhaaGreatDoor

