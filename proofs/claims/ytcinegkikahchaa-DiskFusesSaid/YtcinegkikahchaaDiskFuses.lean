/-
  LAYER 2, the law DiskFuses: with a fuse of so many turns just so many changes are done, then none, and nothing is read. For every input.
-/
import Derived.Test.YtcinegkikahchaaDkLaw
import Derived.Test.YtcinegkikahchaaDkArgs
namespace Go.Proofs.Ytcinegkikahchaa
open Go.RowKit Go.Maps
set_option linter.unusedVariables false
set_option maxRecDepth 100000


def FusesRel (w2 : World) (S : Nat → Prop) (a : Nat) (most : Int) (n : Nat) (u10 u11 : Value) (wr : World) : Prop :=
  ∃ (k : Nat) (many : Nat) (s : Dk), k ≤ n ∧ many ≤ k ∧ u10 = .int .i64 many ∧ u11 = .int .i64 k ∧ DiskIs wr (grow S w2 wr) a s ∧ Chg S w2 wr ∧ Burns s many most
set_option maxHeartbeats 8000000 in
theorem diskFuses_walk (v : Value) (l : List Ac) (t : Int) (w : World) (hv : ActsAt w w.heap.size v l) (hin : ∀ a ∈ l, AcIn a) (hl : l.length ≤ maxLen) (ht : -9223372036854775808 ≤ t ∧ t ≤ 9223372036854775807) :
    Calls Try.prog 8 #[v, .int .i64 t] w fun e w' => e = .returned (.bool true) ∧ Below w.heap.size w w' := by
  have HSH := hid (shown_any w)
  have hvS : ∀ wx, Below w.heap.size w wx → ActsAt wx w.heap.size v l := fun wx hb => by
    obtain ⟨a, cap, rfl, hc⟩ := hv
    refine ⟨a, cap, rfl, fun hne => ?_⟩
    obtain ⟨b, o, rfl, hbB, hact⟩ := hc hne
    refine ⟨b, o, rfl, hbB, fun i ac hi => ?_⟩
    obtain ⟨kv, nv, hA⟩ := hact i ac hi
    exact ⟨kv, nv, hA.same hbB (fun b hb' => hb.block b hb')⟩
  have HSM := hid (fun wx hb => small_any v l wx w.heap.size (hvS wx hb) hin hl)
  obtain ⟨a0, cap, rfl, hc⟩ := hv
  cases hsm : smallB l with
  | false =>
    rw [hsm] at HSM
    clear hsm hvS hc hin
    go_enter Try.func8, Try.ntmps8
    go_wp2_with (first
      | (go_at_call 9; (with_reducible refine HSH.out.mono ?_); rintro e w1 ⟨rfl, hb1⟩)
      | (go_at_call 10; (with_reducible refine (HSM.out _ hb1).mono ?_); rintro e w2 ⟨rfl, rfl⟩))
    go_ret
    exact ⟨rfl, hb1⟩
  | true =>
    obtain ⟨hl80, hok⟩ := small_ok hsm hin
    rw [hsm] at HSM
    have hMd := fun wx => made_any 2999 (.slice none 0 0) [] wx 0 (Nat.zero_le _) ⟨none, 0, rfl, fun h => absurd rfl h⟩ (by simp) (by simp) (by omega) (by omega)
    have hrm := pickZ_range t 30 (by omega)
    have HP := hid (fun wx => pick_any t 30 wx (by omega) (by omega) ht.1 ht.2)
    have HMd := hid hMd
    have HO := hid hok
    have HC := hid hc
    have HV := hid hvS
    generalize pickZ t 30 = most at *
    clear hsm hc hin hMd hvS hok
    go_enter Try.func8, Try.ntmps8
    go_wp2_with (first
      | (go_at_call 9; (with_reducible refine HSH.out.mono ?_); rintro e w1 ⟨rfl, hb1⟩)
      | (go_at_call 10; (with_reducible refine (HSM.out _ hb1).mono ?_); rintro e w2 ⟨rfl, rfl⟩)
      | (go_at_call 23; (with_reducible refine (HMd.out _).mono ?_); rintro e w2 ⟨a, S, rfl, hD, hS, hb2⟩; have HD := hid hD; have HS := hid hS; clear hD hS)
      | (go_at_call 15; (with_reducible refine (HP.out _).mono ?_); rintro e w3 ⟨rfl, rfl⟩)
      | (go_at_call 25; (with_reducible refine (fuse_any HD.out most (by omega)).mono ?_); rintro e w3 ⟨rfl, hD3, hc3⟩; have HD3 := hid hD3; clear hD3))
    have hlS : ∀ b, S b → b < w2.heap.size := HD.out.lt
    go_loopw [10, 11] (FusesRel w2 S a most l.length) (fun _ i _ => l.length - (intOf i).toNat)
    case atStart => exact ⟨0, 0, _, Nat.zero_le _, Nat.le_refl _, rfl, rfl, HD3.out, hc3, ⟨by simp only [setFuse]; omega, fun h => (by cases h), by simp only [setFuse]; omega⟩⟩
    case round =>
      obtain ⟨k, many, s, hk, hmk, rfl, rfl, hDr, hcr, hBu⟩ := hrel
      by_cases hlt : k < l.length
      · have hne : l ≠ [] := fun e => by rw [e] at hlt; simp at hlt
        obtain ⟨b, o, rfl, hbB, hact⟩ := HC.out hne
        obtain ⟨kv, nv, hA0⟩ := hact k l[k] (by simp [hlt])
        have hsame : ∀ b, b < w.heap.size → wr.heap[b]? = w.heap[b]? := fun b hb => by
          rw [hcr.block b (by have := hb1.size; have := hb2.size; omega) (fun hSb => by have := HS.out b hSb; have := hb1.size; omega), hb2.block b (by have := hb1.size; omega), hb1.block b hb]
        have hA := hA0.same hbB hsame
        have hDo := round_does hDr hcr hlS (B := w.heap.size) (fun b hb => by have := HS.out b hb; have := hb1.size; omega) (by have := hb1.size; have := hb2.size; omega) l[k] (HO.out _ (List.getElem_mem hlt)) kv nv hA.k hA.n
        have HDo := hid hDo
        have hac := HO.out _ (List.getElem_mem hlt)
        have HPk := hid (fun wx => pick_any l[k].op 11 wx (by omega) (by omega) hac.op.1 hac.op.2)
        have hro := pickZ_range l[k].op 11 (by omega)
        have d0 := hA.c0
        have d1 := hA.c1
        have d2 := hA.c2
        have d3 := hA.c3
        have d4 := hA.c4
        have d5 := hA.c5
        have d6 := hA.c6
        obtain ⟨ka, kc, rfl, _⟩ := id hA.k
        obtain ⟨na, nc, rfl, _⟩ := id hA.n
        have hstep := fun (h : pickZ (l[k]'hlt).op 11 ≤ 8) => burns_act hBu (a := l[k]'hlt) h
        have HR := hid (show DiskIs wr (grow S w2 wr) a s ∧ Chg S w2 wr ∧ Burns s many most from ⟨hDr, hcr, hBu⟩)
        clear hDo hA hA0 hact hne HC hsame hDr hcr hBu
        generalize act s l[k] = r at *
        have hex : Hid (∀ z : Unit, True) := hid (fun _ => trivial)
        generalize l[k].op = x0 at *
        generalize l[k].n = x1 at *
        generalize l[k].name = x2 at *
        generalize l[k].to = x3 at *
        generalize l[k].data = x4 at *
        generalize l[k].keep = x5 at *
        generalize l[k].noise = x6 at *
        generalize pickZ x0 11 = o at *
        by_cases ho9 : 8 < o
        · clear hstep
          go_wp2_with (go_at_call 15; (with_reducible refine (HPk.out _).mono ?_); rintro e w5 ⟨rfl, rfl⟩)
          go_roundw
          case rel => exact ⟨k + 1, many, s, by omega, by omega, rfl, by go_num, HR.out⟩
          case measure => simp [intOf]; omega
        · obtain ⟨hb3, hb7⟩ := hstep (by omega)
          clear hstep
          obtain ⟨r1, r2, r3⟩ := r
          simp only at hb3 hb7 HDo
          by_cases ho8 : o < 8
          · by_cases hr0 : r3 = 0
            · subst hr0
              rw [if_pos ⟨ho8, rfl⟩] at hb3
              have HB := hid hb3
              clear hb3 hb7
              have hmk' : (many : Int) < 80 := by omega
              go_wp2_with (first
                | (go_at_call 15; (with_reducible refine (HPk.out _).mono ?_); rintro e w5 ⟨rfl, rfl⟩)
                | (go_at_call 16; (with_reducible refine HDo.out.mono ?_); rintro e w6 ⟨rfl, hQ⟩))
              go_roundw
              case rel => exact ⟨k + 1, many + 1, r1, by omega, by omega, by go_num, by go_num, hQ.out.1, hQ.out.2, HB.out⟩
              case measure => simp [intOf]; omega
            · rw [if_neg (fun hh => hr0 hh.2)] at hb3 hb7
              have HB := hid hb3
              have HB7 := hid hb7
              clear hb3 hb7
              have hq0 : (r3 == 0) = false := beq_eq_false_iff_ne.2 hr0
              by_cases h7 : r3 = 7
              · subst h7
                have hm := HB7.out rfl
                have hq1 : ((many : Int) != most) = false := by simp; omega
                clear hm
                go_wp2_with (first
                  | (go_at_call 15; (with_reducible refine (HPk.out _).mono ?_); rintro e w5 ⟨rfl, rfl⟩)
                  | (go_at_call 16; (with_reducible refine HDo.out.mono ?_); rintro e w6 ⟨rfl, hQ⟩))
                go_roundw
                case rel => exact ⟨k + 1, many, r1, by omega, by omega, rfl, by go_num, hQ.out.1, hQ.out.2, by have := HB.out; simpa using this⟩
                case measure => simp [intOf]; omega
              · have hq7 : (r3 == 7) = false := beq_eq_false_iff_ne.2 h7
                go_wp2_with (first
                  | (go_at_call 15; (with_reducible refine (HPk.out _).mono ?_); rintro e w5 ⟨rfl, rfl⟩)
                  | (go_at_call 16; (with_reducible refine HDo.out.mono ?_); rintro e w6 ⟨rfl, hQ⟩))
                go_roundw
                case rel => exact ⟨k + 1, many, r1, by omega, by omega, rfl, by go_num, hQ.out.1, hQ.out.2, by have := HB.out; simpa using this⟩
                case measure => simp [intOf]; omega
          · rw [if_neg (fun hh => ho8 hh.1)] at hb3 hb7
            have HB := hid hb3
            have HB7 := hid hb7
            clear hb3 hb7
            by_cases h7 : r3 = 7
            · subst h7
              have hm := HB7.out rfl
              have hq1 : ((many : Int) != most) = false := by simp; omega
              clear hm
              go_wp2_with (first
                | (go_at_call 15; (with_reducible refine (HPk.out _).mono ?_); rintro e w5 ⟨rfl, rfl⟩)
                | (go_at_call 16; (with_reducible refine HDo.out.mono ?_); rintro e w6 ⟨rfl, hQ⟩))
              go_roundw
              case rel => exact ⟨k + 1, many, r1, by omega, by omega, rfl, by go_num, hQ.out.1, hQ.out.2, by have := HB.out; simpa using this⟩
              case measure => simp [intOf]; omega
            · have hq7 : (r3 == 7) = false := beq_eq_false_iff_ne.2 h7
              go_wp2_with (first
                | (go_at_call 15; (with_reducible refine (HPk.out _).mono ?_); rintro e w5 ⟨rfl, rfl⟩)
                | (go_at_call 16; (with_reducible refine HDo.out.mono ?_); rintro e w6 ⟨rfl, hQ⟩))
              go_roundw
              case rel => exact ⟨k + 1, many, r1, by omega, by omega, rfl, by go_num, hQ.out.1, hQ.out.2, by have := HB.out; simpa using this⟩
              case measure => simp [intOf]; omega
      · obtain rfl : k = l.length := by omega
        have hbf : Below w.heap.size w wr := (hb1.trans (hb2.mono hb1.size)).trans (hcr.below (by have := hb1.size; have := hb2.size; omega) (fun b hb => by have := HS.out b hb; have := hb1.size; omega))
        obtain ⟨mb, F, hDf⟩ := hDr
        have hde := dead_any hDf
        obtain ⟨f0, fd, fs⟩ := hBu
        have hm1 : (many : Int) ≤ most := by omega
        have hmm : (many : Int) < 80 := by omega
        cases hd : s.dead with
        | false =>
          rw [hd] at hde
          have HDe := hid hde
          clear hde hd fd hDf
          go_wp2_with (go_at_call 18; (with_reducible refine HDe.out.mono ?_); rintro e w5 ⟨rfl, rfl⟩)
          go_ret
          exact ⟨rfl, hbf⟩
        | true =>
          have hz := fd hd
          have hq : ((many : Int) == most) = true := by simp; omega
          rw [hd] at hde
          have HDe := hid hde
          clear hde hd fd hDf hz
          go_wp2_with (go_at_call 18; (with_reducible refine HDe.out.mono ?_); rintro e w5 ⟨rfl, rfl⟩)
          go_ret
          exact ⟨rfl, hbf⟩

namespace rowDiskFuses
open Go.ChangeShapes Go.WideShapes Go.ChangeAt Go.RowKit
open Go.WideMaps Go.WideElems
open Go.ChangeMaps (open_string shut_string)
theorem contract (H : Type) (enc : TypeId × Value → H) (W : World) (base : Nat) (args : Array Value) (ds gs : List (DataW H)) (before : List MemPlace)
    (hval : ∀ (j : Nat) t v, Try.f8.params[j]? = some t → args[j]? = some v → Value.okWide Try.prog W .any base t v)
    (hW : DataW.Whole enc Try.prog Try.f8.params.toList Rows.diskFusesSpec.vars false W args.toList ds gs before) :
    Calls Try.prog 8 args W fun e W' => ∃ v, e = .returned v ∧ Rows.diskFusesSpec.post enc Try.prog Try.f8 false true false false W args v W' := by
  have hW' := hW
  obtain ⟨p, q, hA0, hV, rfl, hfz, hnd⟩ := hW
  have hlt := hW'.lt
  have hA : DataW.TrodAll enc Try.prog W 0 (fun _ => true) true Try.f8.params.toList args.toList ds p := hA0
  rw [Try.params8] at hA hval
  obtain ⟨v0, vs0, d0, ds0, p0, q0, hargs, rfl, rfl, h0, r0⟩ := trodAll_cons hA
  obtain ⟨v1, vs1, d1, ds1, p1, q1, rfl, rfl, rfl, h1, r1⟩ := trodAll_cons r0
  obtain ⟨rfl, rfl, rfl⟩ := trodAll_nil r1
  obtain rfl : args = #[v0, v1] := by cases args; simp_all
  obtain ⟨rfl, rfl⟩ := trodVars_none hV
  have hpost : ∀ W', Below W.heap.size W W' → Rows.diskFusesSpec.post enc Try.prog Try.f8 false true false false W #[v0, v1] (.bool true) W' := fun W' hb => law_post hW' hb rfl (by rw [Try.params8]; simp only [List.forall_mem_cons]; exact ⟨okTy (by kernel_rfl) (by kernel_rfl), okTy (by kernel_rfl) (by kernel_rfl), fun _ h => by cases h⟩) (by kernel_rfl) ⟨rfl, rfl, rfl⟩
  suffices hc : Calls Try.prog 8 #[v0, v1] W fun e W' => e = .returned (.bool true) ∧ Below W.heap.size W W' from hc.mono fun e W' ⟨he, hb⟩ => ⟨_, he, hpost W' hb⟩
  clear hpost
  have o0 := hval 0 22 v0 rfl rfl
  obtain ⟨a0, ha0, hx0, hn0⟩ := acts_arg o0 h0
  obtain ⟨a1, rfl, rfl, rfl, w1⟩ := open_int Try.underlying3 (hval 1 3 v1 rfl rfl) h1
  exact diskFuses_walk v0 a0 a1 W ha0 hx0 hn0 (by simpa [Lit.wf, IntKind.min, IntKind.max, IntKind.signed, IntKind.bits] using w1)

set_option maxRecDepth 100000 in
theorem lifted (os : Os) (started : os.Started) (H : Type) (enc : TypeId × Value → H) :
    ReturnsInHanded {} Try.checked os 8 .any (Rows.diskFusesSpec.pre6 enc Try.prog Try.f8 Rows.diskFusesRow.domain false) (Rows.diskFusesSpec.post enc Try.prog Try.f8 false true false false) := by
  refine returnsInHanded_of_change (C := Try.checked) ownKnobs started (by kernel_rfl) Try.func8
    (ChangeSpec.witness6 (enc := enc) (C := Try.checked) false ⟨#[], #[.slice none 0 0, .int .i64 0], []⟩ 8 (by kernel_rfl) (by kernel_rfl) (by kernel_rfl) (by kernel_rfl)) ?_
  intro W base args ds gs before hval hW _ _
  exact contract H enc W base args ds gs before hval hW
theorem said : Rows.DiskFusesSaid :=
  OpenClaim.holds_of_wide 8 Try.f8 rfl rfl rfl rfl rfl rfl rfl ⟨rfl, rfl, rfl, rfl, rfl⟩ rfl rfl rfl rfl rfl (by kernel_rfl) Try.func8 (by kernel_rfl)
    (of_decide_eq_true (by kernel_rfl)) (by unfold Func.isWrapper; first | (rw [if_pos (by decide +kernel)]; kernel_rfl) | (rw [if_neg (by decide +kernel)]; exact ⟨rfl, rfl⟩))
    (fun os started H enc _ => lifted os started H enc)
end rowDiskFuses
end Go.Proofs.Ytcinegkikahchaa
