import Derived.Test.YtbccikefccdekaaGreatDoorSnSvJ
import Derived.BigQuiet
/-
  LAYER 4 (snap), the laws' own helpers: two bases compared.
-/
namespace Go.Proofs.YtbccikefccdekaaGreatDoor
open Go.RowKit Go.Shelf
attribute [local go_sem] Oper.semAt_some
set_option linter.unusedVariables false
set_option maxRecDepth 100000

instance : DecidableEq Bs := fun a b => if h : a.ix = b.ix ∧ a.tm = b.tm ∧ a.vot = b.vot ∧ a.data = b.data then .isTrue (by cases a; cases b; simp only at h; obtain ⟨rfl, rfl, rfl, rfl⟩ := h; rfl) else .isFalse (fun e => h (by subst e; exact ⟨rfl, rfl, rfl, rfl⟩))
def SaRel (W3 : World) (a b : Bs) (i : Value) (wr : World) : Prop := ∃ k : Nat, k ≤ a.vot.length ∧ i = .int .i64 k ∧ Below W3.heap.size W3 wr ∧ a.vot.take k = b.vot.take k
def SnSamePost (w : World) (a b : Bs) (e : Ending) (w' : World) : Prop := e = .returned (.bool (decide (a = b))) ∧ Below w.heap.size w w'
theorem snStr_ne {a b : List UInt8} (h : ¬ a = b) : ¬ (mk a).toList = (mk b).toList := by rw [Lib.toList_data, Lib.toList_data, mk_data, mk_data]; exact h
set_option maxHeartbeats 16000000 in
theorem snSame_any {w : World} {a b : Bs} {va vb : Value} (ha : BAt w va a) (hb : BAt w vb b) : Calls Tryz.prog 14 #[bval a va, bval b vb] w (SnSamePost w a b) := by
  obtain ⟨ao, ac, rfl, hca⟩ := ha.vot
  obtain ⟨bo, bc, rfl, hcb⟩ := hb.vot
  have hal := ha.vl
  have hbl := hb.vl
  dsimp only [bval]
  obtain ⟨W3, hW3⟩ : ∃ W3, (w.alloc (.cells #[.int .i64 a.ix, .int .i64 a.tm, .slice ao a.vot.length ac, .string (mk a.data)] 24)).alloc (.cells #[.int .i64 b.ix, .int .i64 b.tm, .slice bo b.vot.length bc, .string (mk b.data)] 24) = W3 := ⟨_, rfl⟩
  have z1 : (w.alloc (.cells #[.int .i64 a.ix, .int .i64 a.tm, .slice ao a.vot.length ac, .string (mk a.data)] 24)).heap.size = w.heap.size + 1 := by simp
  have b1 : Below w.heap.size w (w.alloc (.cells #[.int .i64 a.ix, .int .i64 a.tm, .slice ao a.vot.length ac, .string (mk a.data)] 24)) := (Below.refl _ _).alloc (Nat.le_refl _) _
  have b3 : Below w.heap.size w W3 := by rw [← hW3]; exact b1.alloc (by omega) _
  have z3 : W3.heap.size = w.heap.size + 2 := by rw [← hW3]; simp
  have o2 : own W3 w.heap.size (bcells a (.slice ao a.vot.length ac)) 24 := by
    rw [← hW3]; exact (own.new w _ _).same (Below.heap_alloc _ _ _ (by omega))
  have o3 : own W3 (w.heap.size + 1) (bcells b (.slice bo b.vot.length bc)) 24 := by rw [← hW3, ← z1]; exact own.new _ _ _
  obtain ⟨p0, p1, p2, p3⟩ := boxB_of o2
  obtain ⟨q0, q1, q2, q3⟩ := boxB_of o3
  have HF : Hid (∀ wx, Below W3.heap.size W3 wx → ¬ a = b → SnSamePost w a b (.returned (.bool false)) wx) := hid (fun wx hx hn => ⟨by rw [decide_eq_false hn], b3.trans (hx.mono b3.size)⟩)
  have HT : Hid (∀ wx, Below W3.heap.size W3 wx → a = b → SnSamePost w a b (.returned (.bool true)) wx) := hid (fun wx hx hn => ⟨by rw [decide_eq_true hn], b3.trans (hx.mono b3.size)⟩)
  have HC : Hid (∀ wr, Below W3.heap.size W3 wr → wr.cell? ⟨w.heap.size, 2, none⟩ = some (.slice ao a.vot.length ac) ∧ wr.cell? ⟨w.heap.size + 1, 2, none⟩ = some (.slice bo b.vot.length bc)) := hid (fun wr h => ⟨(h.cell (p := ⟨w.heap.size, 2, none⟩) (show w.heap.size < W3.heap.size by omega)).trans p2, (h.cell (p := ⟨w.heap.size + 1, 2, none⟩) (show w.heap.size + 1 < W3.heap.size by omega)).trans q2⟩)
  have HIa : Hid (∀ k, k < a.vot.length → ∃ sb so x, ao = some ⟨sb, so, none⟩ ∧ a.vot[k]? = some x ∧ ∀ wr, Below W3.heap.size W3 wr → wr.cell? ⟨sb, so + k, none⟩ = some (.int .i64 x)) := hid (fun k hk => by
    obtain ⟨sb, so, e, hlt, hx⟩ := hca (fun e => by rw [e] at hk; simp at hk)
    exact ⟨sb, so, a.vot[k], e, List.getElem?_eq_getElem hk, fun wr h => ((b3.trans (h.mono b3.size)).cell (p := ⟨sb, so + k, none⟩) hlt).trans (hx k _ (List.getElem?_eq_getElem hk))⟩)
  have HIb : Hid (∀ k, k < b.vot.length → ∃ sb so x, bo = some ⟨sb, so, none⟩ ∧ b.vot[k]? = some x ∧ ∀ wr, Below W3.heap.size W3 wr → wr.cell? ⟨sb, so + k, none⟩ = some (.int .i64 x)) := hid (fun k hk => by
    obtain ⟨sb, so, e, hlt, hx⟩ := hcb (fun e => by rw [e] at hk; simp at hk)
    exact ⟨sb, so, b.vot[k], e, List.getElem?_eq_getElem hk, fun wr h => ((b3.trans (h.mono b3.size)).cell (p := ⟨sb, so + k, none⟩) hlt).trans (hx k _ (List.getElem?_eq_getElem hk))⟩)
  have h33 := Below.refl W3.heap.size W3
  clear o2 o3 b1 b3 hca hcb ha hb z1
  by_cases h0 : a.ix = b.ix
  · by_cases h1 : a.tm = b.tm
    · by_cases h2 : a.data = b.data
      · by_cases h3 : a.vot.length = b.vot.length
        · have HEq : Hid (a.vot = b.vot → a = b) := hid (fun e => by
            cases a; cases b
            simp only at h0 h1 h2 e
            subst h0 h1 h2 e
            rfl)
          have HLen := hid h3
          have hq0 : (a.ix != b.ix) = false := by rw [h0]; simp
          have hq1 : (a.tm != b.tm) = false := by rw [h1]; simp
          have hq3 : ((a.vot.length : Int) != (b.vot.length : Int)) = false := by rw [h3]; simp
          have hq2 : mk a.data = mk b.data := by rw [h2]
          clear h0 h1 h2 h3
          generalize mk b.data = db at *
          generalize mk a.data = da at *
          subst hq2
          go_enter Tryz.func14, Tryz.ntmps14
          go_wp2
          go_loopw [5] (SaRel W3 a b) (fun i _ => a.vot.length - (intOf i).toNat)
          case atStart => exact ⟨0, Nat.zero_le _, rfl, h33, by simp⟩
          case round =>
            obtain ⟨k, hk, rfl, hbw, hsm⟩ := hrel
            have HSm := hid hsm
            clear hsm p0 p1 p2 p3 q0 q1 q2 q3
            obtain ⟨x2, y2⟩ := HC.out wr hbw
            by_cases hlt : k < a.vot.length
            · have hlt2 : k < b.vot.length := by rw [← HLen.out]; exact hlt
              obtain ⟨g1, o1, u1, rfl, hu1, hc1⟩ := HIa.out k hlt
              obtain ⟨g2, o2, u2, rfl, hu2, hc2⟩ := HIb.out k hlt2
              have c1 := hc1 wr hbw
              have c2 := hc2 wr hbw
              clear hc1 hc2
              have hkI : (k : Int) < (a.vot.length : Int) := by omega
              have hkJ : (k : Int) < (b.vot.length : Int) := by omega
              by_cases heq : u1 = u2
              · subst heq
                have HE := hid (show a.vot.take (k + 1) = b.vot.take (k + 1) from by
                  rw [List.take_add_one, List.take_add_one, HSm.out, hu1, hu2])
                clear hu1 hu2
                go_wp2
                go_quiet (fail)
                go_wp2
                go_roundw
                case rel => exact ⟨k + 1, by omega, by go_num, below_drew hbw _, HE.out⟩
                case measure => simp [intOf]; omega
              · have HN := hid (show ¬ a = b from fun e => heq (by subst e; rw [hu1] at hu2; exact Option.some.inj hu2))
                have hne : (u1 != u2) = true := by simp [heq]
                clear hu1 hu2
                go_wp2
                go_quiet (fail)
                go_wp2
                go_ret
                exact HF.out _ (below_drew hbw _) HN.out
            · obtain rfl : k = a.vot.length := by omega
              have HP := hid (HT.out wr hbw (HEq.out (by have h := HSm.out; rwa [List.take_length, HLen.out, List.take_length] at h)))
              go_wp2
              go_ret
              exact HP.out
        · have HP := hid (HF.out _ h33 (fun e => h3 (by rw [e])))
          have hq0 : (a.ix != b.ix) = false := by rw [h0]; simp
          have hq1 : (a.tm != b.tm) = false := by rw [h1]; simp
          have hq3 : ((a.vot.length : Int) != (b.vot.length : Int)) = true := by simp; omega
          have hq2 : mk a.data = mk b.data := by rw [h2]
          clear h0 h1 h2 h3 HC HIa HIb
          generalize mk b.data = db at *
          generalize mk a.data = da at *
          subst hq2
          go_enter Tryz.func14, Tryz.ntmps14
          go_wp2
          go_ret
          exact HP.out
      · have HP := hid (HF.out _ h33 (fun e => h2 (by rw [e])))
        have hq0 : (a.ix != b.ix) = false := by rw [h0]; simp
        have hq1 : (a.tm != b.tm) = false := by rw [h1]; simp
        have hq2 := snStr_ne h2
        clear h0 h1 h2 HC HIa HIb
        generalize mk b.data = db at *
        generalize mk a.data = da at *
        go_enter Tryz.func14, Tryz.ntmps14
        go_wp2
        go_ret
        exact HP.out
    · have HP := hid (HF.out _ h33 (fun e => h1 (by rw [e])))
      have hq0 : (a.ix != b.ix) = false := by rw [h0]; simp
      have hq1 : (a.tm != b.tm) = true := by simp [h1]
      clear h0 h1 HC HIa HIb
      generalize mk b.data = db at *
      generalize mk a.data = da at *
      go_enter Tryz.func14, Tryz.ntmps14
      go_wp2
      go_ret
      exact HP.out
  · have HP := hid (HF.out _ h33 (fun e => h0 (by rw [e])))
    have hq0 : (a.ix != b.ix) = true := by simp [h0]
    clear h0 HC HIa HIb
    generalize mk b.data = db at *
    generalize mk a.data = da at *
    go_enter Tryz.func14, Tryz.ntmps14
    go_wp2
    go_ret
    exact HP.out
end Go.Proofs.YtbccikefccdekaaGreatDoor

