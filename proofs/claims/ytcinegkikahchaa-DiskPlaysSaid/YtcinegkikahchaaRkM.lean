/-
  LAYER 2 (disk), the laws' own helpers: an act done with the document's disk.
-/
import Derived.Test.YtcinegkikahchaaRkL
namespace Go.Proofs.Ytcinegkikahchaa
open Go.RowKit Go.Maps
set_option linter.unusedVariables false
set_option maxRecDepth 100000

def ModelPost (w : World) (S : Nat → Prop) (a : Nat) (r : Dk × List UInt8 × Int) (e : Ending) (w' : World) : Prop := e = .returned (.tuple #[.string (mk r.2.1), .int .i64 r.2.2]) ∧ RefIs w' (grow S w w') a r.1 ∧ Chg S w w'

section
variable {w w' : World} {S : Nat → Prop} {a : Nat} {s : Dk}

theorem RefIs.from {w1 w2 : World} {s' : Dk} (hb : Below w.heap.size w w1) (hlt : ∀ b, S b → b < w.heap.size) (h : RefIs w2 (grow S w1 w2) a s') (hc : Chg S w1 w2) : RefIs w2 (grow S w w2) a s' ∧ Chg S w w2 := by
  obtain ⟨v, h⟩ := h
  have hcw : Chg S w w2 := (Chg.of_below hb).trans hc (fun b hb => .inl hb)
  refine ⟨⟨v, h.widen (fun b hb' => ?_) (grow_lt hlt hcw.size)⟩, hcw⟩
  rcases hb' with hb' | hb'
  · exact .inl hb'
  · exact .inr ⟨by have := hb.size; omega, hb'.2⟩

theorem ref_does {w1 w2 : World} {r : Dk × Int} {e : Ending} (hb : Below w.heap.size w w1) (hlt : ∀ b, S b → b < w.heap.size) (h : RefPost w1 S a r e w2) : e = .returned (.int .i64 r.2) ∧ ModelPost w S a (r.1, [], r.2) (.returned (.tuple #[.string ⟨#[]⟩, .int .i64 r.2])) w2 := by
  obtain ⟨rfl, hD, hc⟩ := h
  obtain ⟨h1, h2⟩ := RefIs.from hb hlt hD hc
  exact ⟨rfl, rfl, h1, h2⟩

set_option maxHeartbeats 8000000 in
theorem model_any (h : RefIs w S a s) {B : Nat} (hB : B ≤ w.heap.size) (hSB : ∀ b, S b → B ≤ b) (ac : Ac) (ho : AcOk ac) (kv nv : Value) (hk : IntsAt w B kv ac.keep) (hn : IntsAt w B nv ac.noise) :
    Calls Try.prog 17 #[.pointer (some ⟨a, 0, none⟩), .agg #[.int .i64 ac.op, .int .i64 ac.n, .string ac.name, .string ac.to, .string ac.data, kv, nv]] w (ModelPost w S a (act s ac)) := by
  have hlt : ∀ b, S b → b < w.heap.size := by obtain ⟨v, h⟩ := h; exact h.lt
  have h1name : ac.name.size ≤ maxLen := by have := ho.name; unfold maxLen; omega
  have h1to : ac.to.size ≤ maxLen := by have := ho.to; unfold maxLen; omega
  have hb1 : Below w.heap.size w (w.alloc (.cells #[.int .i64 ac.op, .int .i64 ac.n, .string ac.name, .string ac.to, .string ac.data, kv, nv] 38)) := Below.alloc (Below.refl _ _) (Nat.le_refl _) _
  have hown := own.new w #[.int .i64 ac.op, .int .i64 ac.n, .string ac.name, .string ac.to, .string ac.data, kv, nv] 38
  obtain ⟨ka, kc, rfl, hk2⟩ := hk
  obtain ⟨na, nc, rfl, hn2⟩ := hn
  have hk' : IntsAt (w.alloc (.cells #[.int .i64 ac.op, .int .i64 ac.n, .string ac.name, .string ac.to, .string ac.data, .slice ka ac.keep.length kc, .slice na ac.noise.length nc] 38)) B (.slice ka ac.keep.length kc) ac.keep := IntsAt.same ⟨ka, kc, rfl, hk2⟩ (fun b hb => Below.heap_alloc _ _ _ (by omega))
  have hn' : IntsAt (w.alloc (.cells #[.int .i64 ac.op, .int .i64 ac.n, .string ac.name, .string ac.to, .string ac.data, .slice ka ac.keep.length kc, .slice na ac.noise.length nc] 38)) B (.slice na ac.noise.length nc) ac.noise := IntsAt.same ⟨na, nc, rfl, hn2⟩ (fun b hb => Below.heap_alloc _ _ _ (by omega))
  clear hk2 hn2
  have e0 := hown.cell 0
  have e1 := hown.cell 1
  have e2 := hown.cell 2
  have e3 := hown.cell 3
  have e4 := hown.cell 4
  have e5 := hown.cell 5
  have e6 := hown.cell 6
  simp at e0 e1 e2 e3 e4 e5 e6
  have hD := h.below hb1
  have hBw : B ≤ (w.alloc (.cells #[.int .i64 ac.op, .int .i64 ac.n, .string ac.name, .string ac.to, .string ac.data, .slice ka ac.keep.length kc, .slice na ac.noise.length nc] 38)).heap.size := by have := hb1.size; omega
  have HP := hid (fun wx => pick_any ac.op 11 wx (by omega) (by omega) ho.op.1 ho.op.2)
  have hr := pickZ_range ac.op 11 (by omega)
  have hact : ∀ o, pickZ ac.op 11 = o → act s ac = (let nm := ac.name.data.toList
    if o = 4 then ((syn s nm).1, [], (syn s nm).2)
    else if o = 5 then ((trunc s nm ac.n).1, [], (trunc s nm ac.n).2)
    else if o = 6 then ((ren s nm ac.to.data.toList).1, [], (ren s nm ac.to.data.toList).2)
    else if o = 7 then ((dele s nm).1, [], (dele s nm).2)
    else if o = 8 then (s, (rd s nm).1, (rd s nm).2)
    else if o = 9 then (setFuse s ac.n, [], 0)
    else if o = 10 then (crash s ac.keep ac.noise, [], 0)
    else ((app s nm ac.data.data.toList).1, [], (app s nm ac.data.data.toList).2)) := by intro o ho; subst ho; rfl
  obtain ⟨v, hDr⟩ := id hD
  -- each call, from the world behind the box
  have C4 := hid ((refSync_any hDr ac.name).mono fun e w2 => ref_does hb1 hlt)
  have C5 := hid ((refTrunc_any hDr ac.name ac.n).mono fun e w2 => ref_does hb1 hlt)
  have C6 := hid ((refRen_any hDr ac.name ac.to h1to).mono fun e w2 => ref_does hb1 hlt)
  have C7 := hid ((refDele_any hDr ac.name).mono fun e w2 => ref_does hb1 hlt)
  have C0 := hid ((refAppend_any hDr ac.name ac.data h1name (by have := ho.data; omega)).mono fun e w2 => ref_does hb1 hlt)
  have C8 := (refRead_any hDr ac.name).mono fun e w2 (hh : e = .returned (ReadV (rd s ac.name.data.toList)) ∧ Below _ _ w2) => (show e = .returned (.tuple #[.string (mk (rd s ac.name.data.toList).1), .int .i64 (rd s ac.name.data.toList).2]) ∧ ModelPost w S a (s, (rd s ac.name.data.toList).1, (rd s ac.name.data.toList).2) (.returned (.tuple #[.string (mk (rd s ac.name.data.toList).1), .int .i64 (rd s ac.name.data.toList).2])) w2 from by
    obtain ⟨rfl, hb2⟩ := hh
    have := RefIs.from (s' := s) hb1 hlt ⟨v, hDr.growBelow hb2⟩ (Chg.of_below hb2)
    exact ⟨rfl, rfl, this.1, this.2⟩)
  have C8 := hid C8
  have C9 := hid ((refFuse_any hDr ac.n ho.n.2).mono fun e w2 (hh : RefTail _ S a (setFuse s ac.n) e w2) => (show e = .returned (.tuple #[]) ∧ ModelPost w S a (setFuse s ac.n, [], 0) (.returned (.tuple #[.string ⟨#[]⟩, .int .i64 0])) w2 from by
    obtain ⟨rfl, h1, h2⟩ := hh
    have := RefIs.from hb1 hlt h1 h2
    exact ⟨rfl, rfl, this.1, this.2⟩))
  have C10 := hid ((refCrash_any hDr hBw hSB hk' hn' (by have := ho.keep; omega) (by have := ho.noise; omega) ho.kr).mono fun e w2 (hh : RefTail _ S a (crash s ac.keep ac.noise) e w2) => (show e = .returned (.tuple #[]) ∧ ModelPost w S a (crash s ac.keep ac.noise, [], 0) (.returned (.tuple #[.string ⟨#[]⟩, .int .i64 0])) w2 from by
    obtain ⟨rfl, h1, h2⟩ := hh
    have := RefIs.from hb1 hlt h1 h2
    exact ⟨rfl, rfl, this.1, this.2⟩))
  have hcases : pickZ ac.op 11 = 4 ∨ pickZ ac.op 11 = 5 ∨ pickZ ac.op 11 = 6 ∨ pickZ ac.op 11 = 7 ∨ pickZ ac.op 11 = 8 ∨ pickZ ac.op 11 = 9 ∨ pickZ ac.op 11 = 10 ∨ (0 ≤ pickZ ac.op 11 ∧ pickZ ac.op 11 < 4) := by omega
  clear hDr hD hk' hn' hBw h hb1 hown ho hr
  rcases hcases with ho | ho | ho | ho | ho | ho | ho | ho
  · have ha : act s ac = ((syn s ac.name.data.toList).1, [], (syn s ac.name.data.toList).2) := by rw [hact _ ho]; rfl
    rw [ha]
    rw [ho] at HP
    clear hact ha ho C0 C5 C6 C7 C8 C9 C10
    generalize syn s ac.name.data.toList = R at *
    go_enter Try.func17, Try.ntmps17
    go_wp2_with (first
      | (go_at_call 15; (with_reducible refine (HP.out _).mono ?_); rintro e w2 ⟨rfl, rfl⟩)
      | (go_at_call 31; (with_reducible refine C4.out.mono ?_); rintro e w2 ⟨rfl, hp⟩; have HQ := hid hp; clear hp))
    go_ret2
    exact HQ.out
  · have ha : act s ac = ((trunc s ac.name.data.toList ac.n).1, [], (trunc s ac.name.data.toList ac.n).2) := by rw [hact _ ho]; rfl
    rw [ha]
    rw [ho] at HP
    clear hact ha ho C0 C4 C6 C7 C8 C9 C10
    generalize trunc s ac.name.data.toList ac.n = R at *
    go_enter Try.func17, Try.ntmps17
    go_wp2_with (first
      | (go_at_call 15; (with_reducible refine (HP.out _).mono ?_); rintro e w2 ⟨rfl, rfl⟩)
      | (go_at_call 32; (with_reducible refine C5.out.mono ?_); rintro e w2 ⟨rfl, hp⟩; have HQ := hid hp; clear hp))
    go_ret2
    exact HQ.out
  · have ha : act s ac = ((ren s ac.name.data.toList ac.to.data.toList).1, [], (ren s ac.name.data.toList ac.to.data.toList).2) := by rw [hact _ ho]; rfl
    rw [ha]
    rw [ho] at HP
    clear hact ha ho C0 C4 C5 C7 C8 C9 C10
    generalize ren s ac.name.data.toList ac.to.data.toList = R at *
    go_enter Try.func17, Try.ntmps17
    go_wp2_with (first
      | (go_at_call 15; (with_reducible refine (HP.out _).mono ?_); rintro e w2 ⟨rfl, rfl⟩)
      | (go_at_call 33; (with_reducible refine C6.out.mono ?_); rintro e w2 ⟨rfl, hp⟩; have HQ := hid hp; clear hp))
    go_ret2
    exact HQ.out
  · have ha : act s ac = ((dele s ac.name.data.toList).1, [], (dele s ac.name.data.toList).2) := by rw [hact _ ho]; rfl
    rw [ha]
    rw [ho] at HP
    clear hact ha ho C0 C4 C5 C6 C8 C9 C10
    generalize dele s ac.name.data.toList = R at *
    go_enter Try.func17, Try.ntmps17
    go_wp2_with (first
      | (go_at_call 15; (with_reducible refine (HP.out _).mono ?_); rintro e w2 ⟨rfl, rfl⟩)
      | (go_at_call 34; (with_reducible refine C7.out.mono ?_); rintro e w2 ⟨rfl, hp⟩; have HQ := hid hp; clear hp))
    go_ret2
    exact HQ.out
  · have ha : act s ac = (s, (rd s ac.name.data.toList).1, (rd s ac.name.data.toList).2) := by rw [hact _ ho]; rfl
    rw [ha]
    rw [ho] at HP
    clear hact ha ho C0 C4 C5 C6 C7 C9 C10
    generalize rd s ac.name.data.toList = R at *
    go_enter Try.func17, Try.ntmps17
    go_wp2_with (first
      | (go_at_call 15; (with_reducible refine (HP.out _).mono ?_); rintro e w2 ⟨rfl, rfl⟩)
      | (go_at_call 35; (with_reducible refine C8.out.mono ?_); rintro e w2 ⟨rfl, hp⟩; have HQ := hid hp; clear hp))
    go_ret2
    exact HQ.out
  · have ha : act s ac = (setFuse s ac.n, [], 0) := by rw [hact _ ho]; rfl
    rw [ha]
    rw [ho] at HP
    clear hact ha ho C0 C4 C5 C6 C7 C8 C10
    generalize setFuse s ac.n = R at *
    go_enter Try.func17, Try.ntmps17
    go_wp2_with (first
      | (go_at_call 15; (with_reducible refine (HP.out _).mono ?_); rintro e w2 ⟨rfl, rfl⟩)
      | (go_at_call 36; (with_reducible refine C9.out.mono ?_); rintro e w2 ⟨rfl, hp⟩; have HQ := hid hp; clear hp))
    go_ret2
    exact HQ.out
  · have ha : act s ac = (crash s ac.keep ac.noise, [], 0) := by rw [hact _ ho]; rfl
    rw [ha]
    rw [ho] at HP
    clear hact ha ho C0 C4 C5 C6 C7 C8 C9
    generalize crash s ac.keep ac.noise = R at *
    go_enter Try.func17, Try.ntmps17
    go_wp2_with (first
      | (go_at_call 15; (with_reducible refine (HP.out _).mono ?_); rintro e w2 ⟨rfl, rfl⟩)
      | (go_at_call 37; (with_reducible refine C10.out.mono ?_); rintro e w2 ⟨rfl, hp⟩; have HQ := hid hp; clear hp))
    go_ret2
    exact HQ.out
  · have ha : act s ac = ((app s ac.name.data.toList ac.data.data.toList).1, [], (app s ac.name.data.toList ac.data.data.toList).2) := by
      rw [hact _ rfl]
      simp only
      rw [if_neg (by omega), if_neg (by omega), if_neg (by omega), if_neg (by omega), if_neg (by omega), if_neg (by omega), if_neg (by omega)]
    rw [ha]
    obtain ⟨o1, o2⟩ := ho
    clear hact ha C4 C5 C6 C7 C8 C9 C10
    generalize app s ac.name.data.toList ac.data.data.toList = R at *
    generalize pickZ ac.op 11 = o at *
    have q4 : (o == 4) = false := beq_eq_false_iff_ne.2 (by omega)
    have q5 : (o == 5) = false := beq_eq_false_iff_ne.2 (by omega)
    have q6 : (o == 6) = false := beq_eq_false_iff_ne.2 (by omega)
    have q7 : (o == 7) = false := beq_eq_false_iff_ne.2 (by omega)
    have q8 : (o == 8) = false := beq_eq_false_iff_ne.2 (by omega)
    have q9 : (o == 9) = false := beq_eq_false_iff_ne.2 (by omega)
    have q10 : (o == 10) = false := beq_eq_false_iff_ne.2 (by omega)
    go_enter Try.func17, Try.ntmps17
    go_wp2_with (first
      | (go_at_call 15; (with_reducible refine (HP.out _).mono ?_); rintro e w2 ⟨rfl, rfl⟩)
      | (go_at_call 38; (with_reducible refine C0.out.mono ?_); rintro e w2 ⟨rfl, hp⟩; have HQ := hid hp; clear hp))
    go_ret2
    exact HQ.out
end
end Go.Proofs.Ytcinegkikahchaa
