/-
  LAYER 2, the law DiskHolds: a disk has never more bytes than it holds, and as many as its files have; names rise, and are names. For every input.
-/
import Derived.Test.YtcinegkikahchaaDkLaw
import Derived.Test.YtcinegkikahchaaDkArgs
import Derived.WalkLawsBesides
namespace Go.Proofs.Ytcinegkikahchaa
open Go.RowKit Go.Maps
set_option linter.unusedVariables false
set_option maxRecDepth 100000


def HoldsRel (w2 : World) (S : Nat → Prop) (a : Nat) (m : Int) (n : Nat) (u9 : Value) (wr : World) : Prop :=
  ∃ (k : Nat) (s : Dk), k ≤ n ∧ u9 = .int .i64 k ∧ DiskIs wr (grow S w2 wr) a s ∧ Chg S w2 wr ∧ s.most = m
def SumRel (w5 : World) (L : List AF) (u11 u12 : Value) (wr : World) : Prop :=
  ∃ k : Nat, k ≤ L.length ∧ u11 = .int .i64 (sz (L.take k) : Int) ∧ u12 = .int .i64 k ∧ Below w5.heap.size w5 wr

/-- Behind the acts: the crash, the list, the sum. -/
def HoldsBody : Prop := True
set_option maxHeartbeats 16000000 in
theorem diskHolds_walk (most : Int) (v : Value) (l : List Ac) (w : World) (hm : -9223372036854775808 ≤ most ∧ most ≤ 9223372036854775807) (hv : ActsAt w w.heap.size v l) (hin : ∀ a ∈ l, AcIn a) (hl : l.length ≤ maxLen) :
    Calls Try.prog 5 #[.int .i64 most, v] w fun e w' => e = .returned (.bool true) ∧ Below w.heap.size w w' := by
  have HSH := hid (shown_any w)
  have HSM := hid (fun wx hb => small_any v l wx w.heap.size (hv.below hb) hin hl)
  obtain ⟨a0, cap, rfl, hc⟩ := hv
  cases hsm : smallB l with
  | false =>
    rw [hsm] at HSM
    clear hsm hc hin
    go_enter Try.func5, Try.ntmps5
    go_wp2_with (first
      | (go_at_call 9; (with_reducible refine HSH.out.mono ?_); rintro e w1 ⟨rfl, hb1⟩)
      | (go_at_call 10; (with_reducible refine (HSM.out _ hb1).mono ?_); rintro e w2 ⟨rfl, rfl⟩))
    go_ret
    exact ⟨rfl, hb1⟩
  | true =>
    obtain ⟨hl80, hok⟩ := small_ok hsm hin
    rw [hsm] at HSM
    have hrm := pickZ_range most 3000 (by omega)
    have HP := hid (fun wx => pick_any most 3000 wx (by omega) (by omega) hm.1 hm.2)
    have HN := hid (fun wx => new_ok (pickZ most 3000) wx hrm.1 (by omega))
    have HO := hid hok
    have HC := hid hc
    generalize pickZ most 3000 = m at *
    clear hsm hc hin hok
    go_enter Try.func5, Try.ntmps5
    go_wp2_with (first
      | (go_at_call 9; (with_reducible refine HSH.out.mono ?_); rintro e w1 ⟨rfl, hb1⟩)
      | (go_at_call 10; (with_reducible refine (HSM.out _ hb1).mono ?_); rintro e w2 ⟨rfl, rfl⟩)
      | (go_at_call 15; (with_reducible refine (HP.out _).mono ?_); rintro e w3 ⟨rfl, rfl⟩)
      | (go_at_call 11; (with_reducible refine (HN.out _).mono ?_); rintro e w2 ⟨a, S, rfl, hD, hS, hb2⟩; have HD := hid hD; have HS := hid hS; clear hD hS))
    have hlS : ∀ b, S b → b < w2.heap.size := HD.out.lt
    go_loopw [9] (HoldsRel w2 S a m l.length) (fun i _ => l.length - (intOf i).toNat)
    case atStart =>
      obtain ⟨mb, F, h⟩ := HD.out
      exact ⟨0, _, Nat.zero_le _, rfl, ⟨mb, F, h.widen grow_mono (grow_lt h.lt (Nat.le_refl _))⟩, Chg.refl _ _, rfl⟩
    case round =>
      obtain ⟨k, s, hk, rfl, hDr, hcr, hsm⟩ := hrel
      by_cases hlt : k < l.length
      · skip
        have hne : l ≠ [] := fun e => by rw [e] at hlt; simp at hlt
        obtain ⟨b, o, rfl, hbB, hact⟩ := HC.out hne
        obtain ⟨kv, nv, hA0⟩ := hact k l[k] (by simp [hlt])
        have hsame : ∀ b, b < w.heap.size → wr.heap[b]? = w.heap[b]? := fun b hb => by
          rw [hcr.block b (by have := hb1.size; have := hb2.size; omega) (fun hSb => by have := HS.out b hSb; have := hb1.size; omega), hb2.block b (by have := hb1.size; omega), hb1.block b hb]
        have hA := hA0.same hbB hsame
        have hDo := round_does hDr hcr hlS (B := w.heap.size) (fun b hb => by have := HS.out b hb; have := hb1.size; omega) (by have := hb1.size; have := hb2.size; omega) l[k] (HO.out _ (List.getElem_mem hlt)) kv nv hA.k hA.n
        have HDo := hid hDo
        have d0 := hA.c0
        have d1 := hA.c1
        have d2 := hA.c2
        have d3 := hA.c3
        have d4 := hA.c4
        have d5 := hA.c5
        have d6 := hA.c6
        obtain ⟨ka, kc, rfl, _⟩ := id hA.k
        obtain ⟨na, nc, rfl, _⟩ := id hA.n
        have hmo := most_act s l[k]
        rw [hsm] at hmo
        have HSz : Hid (∀ wx, DiskIs wx (grow S w2 wx) a (act s l[k]).1 → ∃ N : Int, (0 ≤ N ∧ N ≤ m) ∧ Calls Try.prog 19 #[.pointer (some ⟨a, 0, none⟩)] wx fun e w' => e = .returned (.int .i64 N) ∧ Below wx.heap.size wx w') := hid (fun wx h => by
          obtain ⟨mb, F, h⟩ := h
          have := h.ok.room
          rw [hmo] at this
          exact ⟨_, ⟨by omega, this⟩, size_any h⟩)
        have HMo := hid hmo
        clear hDo hA hA0 hact hne HC hsame hDr hcr hsm hmo
        generalize act s l[k] = r at *
        generalize l[k].op = x0 at *
        generalize l[k].n = x1 at *
        generalize l[k].name = x2 at *
        generalize l[k].to = x3 at *
        generalize l[k].data = x4 at *
        generalize l[k].keep = x5 at *
        generalize l[k].noise = x6 at *
        obtain ⟨r1, r2, r3⟩ := r
        simp only at HDo HSz HMo
        go_wp2_with (first
          | (go_at_call 16; (with_reducible refine HDo.out.mono ?_); rintro e w6 ⟨rfl, hQ⟩; obtain ⟨N, hN, hSz⟩ := HSz.out _ hQ.out.1; obtain ⟨hN1, hN2⟩ := hN; have hq : decide (m < N) = false := (by simp; omega); have HSy := hid hSz; clear hSz)
          | (go_at_call 19; (with_reducible refine HSy.out.mono ?_); rintro e w7 ⟨rfl, hb7⟩)
          | (go_at_call 15; (with_reducible refine (HP.out _).mono ?_); rintro e w5 ⟨rfl, rfl⟩))
        go_roundw
        case rel =>
          obtain ⟨⟨mb, F, hD7⟩, hc7⟩ := hQ.out
          have hcf : Chg S w2 w7 := hc7.trans (T := fun _ => False) (Chg.of_below hb7) (fun _ e => e.elim)
          exact ⟨k + 1, r1, by omega, by go_num, ⟨mb, F, (hD7.below hb7).widen (fun b hb => grow_grow hc7.size hb7.size b (.inl hb)) (grow_lt hlS hcf.size)⟩, hcf, HMo.out⟩
        case measure => simp [intOf]; omega
      · obtain rfl : k = l.length := by omega
        have hbr : Below w.heap.size w wr := (hb1.trans (hb2.mono hb1.size)).trans (hcr.below (by have := hb1.size; have := hb2.size; omega) (fun b hb => by have := HS.out b hb; have := hb1.size; omega))
        have hC := crash_nil hDr _ rfl
        have HCr := hid hC
        have hge : ∀ b, grow S w2 wr b → w.heap.size ≤ b := grow_ge (fun b hb => by have := HS.out b hb; have := hb1.size; omega) (by have := hb1.size; have := hb2.size; omega)
        have hdead : (crash s [] []).dead = false := rfl
        clear hC hDr hcr
        generalize crash s [] [] = t at *
        generalize grow S w2 wr = T at *
        go_wp2_with (first
          | (go_at_call 24; (with_reducible refine HCr.out.mono ?_); rintro e w4 ⟨rfl, ⟨mb, F, hD4⟩, hc4⟩; have HD4 := hid hD4; clear hD4)
          | (go_at_call 21; (with_reducible refine (list_any HD4.out).mono ?_); rintro e w5 ⟨v5, rfl, hv5, hb5⟩; obtain ⟨ao, cp, rfl⟩ := names_slice2 hv5; have HV := hid hv5; clear hv5))
        have hbw5 : Below w.heap.size w w5 := (hbr.trans (hc4.below hbr.size hge)).trans (hb5.mono (by have := hbr.size; have := hc4.size; omega))
        have hok4 := HD4.out.ok
        have hroom : (sz t.L : Int) ≤ 10000000 := by have := hok4.room; have := hok4.most; omega
        have hmany : t.L.length ≤ 40 := hok4.many
        have HOk := hid hok4
        clear hok4 hc4 hge
        go_loopw [11, 12] (SumRel w5 t.L) (fun _ i _ => t.L.length - (intOf i).toNat)
        case atStart => exact ⟨0, Nat.zero_le _, by simp [sz], rfl, Below.refl _ _⟩
        case round =>
          obtain ⟨k, hk, rfl, rfl, hbk⟩ := hrel
          by_cases hkl : k < t.L.length
          · obtain ⟨g, rfl, hgB, hg1, hcells⟩ := names_cell2 HV.out hkl
            have hcw := (hbk.cell (p := ⟨g, k, none⟩) hg1).trans (hcells k hkl)
            have hD5 := (HD4.out.below hb5).below hbk
            have hnm24 : (mk t.L[k].name).size ≤ maxLen := by
              have h1 := HOk.out.names _ (List.getElem_mem hkl)
              unfold isName at h1
              simp at h1
              rw [mk_size]; unfold maxLen; omega
            have hRd := read_is ⟨mb, F, hD5⟩ (mk t.L[k].name) hnm24 _ _ (rd_at HOk.out hdead hkl)
            have hNm := fun wx => name_is (mk t.L[k].name) hnm24 true (HOk.out.names _ (List.getElem_mem hkl)) wx
            have hst := sz_take hkl
            have hle := sz_take_le t.L (k + 1)
            have hdl : (mk t.L[k].data).size = t.L[k].data.length := mk_size _
            have hs1 : (sz (t.L.take k) : Int) + ((mk t.L[k].data).size : Int) = (sz (t.L.take (k + 1)) : Int) := by rw [hdl]; omega
            have hz0 : 0 ≤ (sz (t.L.take k) : Int) := by omega
            have hs2 : (sz (t.L.take k) : Int) + ((mk t.L[k].data).size : Int) ≤ 10000000 := by rw [hs1]; omega
            have HRd := hid hRd
            have HNm := hid hNm
            have HS1 := hid hs1
            change Hid (Calls _ _ _ wr fun e w' => e = .returned (.tuple #[.string (mk t.L[k].data), .int .i64 0]) ∧ wr = w') at HRd
            by_cases hk0 : 0 < k
            · obtain ⟨j, rfl⟩ : ∃ j, k = j + 1 := ⟨k - 1, by omega⟩
              have hcw2 := (hbk.cell (p := ⟨g, j, none⟩) hg1).trans (hcells j (by omega))
              have hrs := rise_at HOk.out.rise (show j < j + 1 by omega) hkl
              have q1 : Op.bytesLess (mk t.L[j + 1].name).toList (mk (t.L[j]'(by omega)).name).toList = false := by
                rw [Lib.toList_data, Lib.toList_data, mk_data, mk_data, bytesLess_lt]
                simpa using List.not_lt.1 (blt_asymm hrs)
              have q2 : ((mk t.L[j + 1].name).toList == (mk (t.L[j]'(by omega)).name).toList) = false := by
                rw [beq_eq_false_iff_ne, Lib.toList_data, Lib.toList_data, mk_data, mk_data]
                exact fun e => blt_ne hrs e.symm
              have hjI : (j : Int) < 40 := by omega
              clear hRd hNm hst hle hs1 hdl hcells hrs hnm24 hD5
              generalize mk t.L[j + 1].name = nb at *
              generalize mk t.L[j].name = pb at *
              generalize mk t.L[j + 1].data = db at *
              generalize (sz (t.L.take (j + 1)) : Int) = Z at *
              have q3 : decide (0 < (j : Int) + 1) = true := decide_eq_true (by omega)
              have hW1 : IntKind.i64.wrap ((j : Int) + 1 - 1) = (j : Int) := by rw [show (j : Int) + 1 - 1 = j by omega]; exact IntWalk.i64_in _ (by omega)
              go_wp2_with (first
                | (go_at_call 22; (with_reducible refine HRd.out.mono ?_); rintro e w8 ⟨rfl, rfl⟩)
                | (go_at_call 13; (with_reducible refine (HNm.out _).mono ?_); rintro e w8 ⟨rfl, rfl⟩))
              go_quiet (fail)
              go_wp2
              go_roundw
              case rel => exact ⟨j + 1 + 1, by omega, by rw [← HS1.out], by go_num, below_drew hbk _⟩
              case measure => simp [intOf]; omega
            · obtain rfl : k = 0 := by omega
              have q3 : decide (0 < ((0 : Nat) : Int)) = false := by decide
              clear hRd hNm hst hle hs1 hdl hcells hnm24 hD5
              generalize mk t.L[0].name = nb at *
              generalize mk t.L[0].data = db at *
              generalize (sz (t.L.take 0) : Int) = Z at *
              go_wp2_with (first
                | (go_at_call 22; (with_reducible refine HRd.out.mono ?_); rintro e w8 ⟨rfl, rfl⟩)
                | (go_at_call 13; (with_reducible refine (HNm.out _).mono ?_); rintro e w8 ⟨rfl, rfl⟩))
              go_quiet (fail)
              go_wp2
              go_roundw
              case rel => exact ⟨1, by omega, by rw [← HS1.out], rfl, below_drew hbk _⟩
              case measure => simp [intOf]; omega
          · obtain rfl : k = t.L.length := by omega
            rw [List.take_of_length_le (Nat.le_refl _)]
            have hSf := size_any ((HD4.out.below hb5).below hbk)
            have HSf := hid hSf
            have hq40 : decide ((t.L.length : Int) ≤ 40) = true := by simp; omega
            have hfin : ∀ wx, Below wr.heap.size wr wx → Below w.heap.size w wx := fun wx hb => (hbw5.trans (hbk.mono hbw5.size)).trans (hb.mono (by have := hbw5.size; have := hbk.size; omega))
            have HF := hid hfin
            clear hSf hfin
            generalize (sz t.L : Int) = Z at *
            go_wp2_with (go_at_call 19; (with_reducible refine HSf.out.mono ?_); rintro e w8 ⟨rfl, hb8⟩)
            go_ret
            exact ⟨rfl, HF.out _ hb8⟩

namespace rowDiskHolds
open Go.ChangeShapes Go.WideShapes Go.ChangeAt Go.RowKit
open Go.WideMaps Go.WideElems
open Go.ChangeMaps (open_string shut_string)
theorem contract (H : Type) (enc : TypeId × Value → H) (W : World) (base : Nat) (args : Array Value) (ds gs : List (DataW H)) (before : List MemPlace)
    (hval : ∀ (j : Nat) t v, Try.f5.params[j]? = some t → args[j]? = some v → Value.okWide Try.prog W .any base t v)
    (hW : DataW.Whole enc Try.prog Try.f5.params.toList Rows.diskHoldsSpec.vars false W args.toList ds gs before) :
    Calls Try.prog 5 args W fun e W' => ∃ v, e = .returned v ∧ Rows.diskHoldsSpec.post enc Try.prog Try.f5 false true false false W args v W' := by
  have hW' := hW
  obtain ⟨p, q, hA0, hV, rfl, hfz, hnd⟩ := hW
  have hlt := hW'.lt
  have hA : DataW.TrodAll enc Try.prog W 0 (fun _ => true) true Try.f5.params.toList args.toList ds p := hA0
  rw [Try.params5] at hA hval
  obtain ⟨v0, vs0, d0, ds0, p0, q0, hargs, rfl, rfl, h0, r0⟩ := trodAll_cons hA
  obtain ⟨v1, vs1, d1, ds1, p1, q1, rfl, rfl, rfl, h1, r1⟩ := trodAll_cons r0
  obtain ⟨rfl, rfl, rfl⟩ := trodAll_nil r1
  obtain rfl : args = #[v0, v1] := by cases args; simp_all
  obtain ⟨rfl, rfl⟩ := trodVars_none hV
  have hpost : ∀ W', Below W.heap.size W W' → Rows.diskHoldsSpec.post enc Try.prog Try.f5 false true false false W #[v0, v1] (.bool true) W' := fun W' hb => law_post hW' hb rfl (by rw [Try.params5]; simp only [List.forall_mem_cons]; exact ⟨okTy (by kernel_rfl) (by kernel_rfl), okTy (by kernel_rfl) (by kernel_rfl), fun _ h => by cases h⟩) (by kernel_rfl) ⟨rfl, rfl, rfl⟩
  suffices hc : Calls Try.prog 5 #[v0, v1] W fun e W' => e = .returned (.bool true) ∧ Below W.heap.size W W' from hc.mono fun e W' ⟨he, hb⟩ => ⟨_, he, hpost W' hb⟩
  clear hpost
  obtain ⟨a0, rfl, rfl, rfl, w0⟩ := open_int Try.underlying3 (hval 0 3 v0 rfl rfl) h0
  have o1 := hval 1 22 v1 rfl rfl
  obtain ⟨a1, ha1, hx1, hn1⟩ := acts_arg o1 h1
  exact diskHolds_walk a0 v1 a1 W (by simpa [Lit.wf, IntKind.min, IntKind.max, IntKind.signed, IntKind.bits] using w0) ha1 hx1 hn1

set_option maxRecDepth 100000 in
theorem lifted (os : Os) (started : os.Started) (H : Type) (enc : TypeId × Value → H) :
    ReturnsInHanded {} Try.checked os 5 .any (Rows.diskHoldsSpec.pre6 enc Try.prog Try.f5 Rows.diskHoldsRow.domain false) (Rows.diskHoldsSpec.post enc Try.prog Try.f5 false true false false) := by
  refine returnsInHanded_of_change (C := Try.checked) ownKnobs started (by kernel_rfl) Try.func5
    (ChangeSpec.witness6 (enc := enc) (C := Try.checked) false ⟨#[], #[.int .i64 0, .slice none 0 0], []⟩ 8 (by kernel_rfl) (by kernel_rfl) (by kernel_rfl) (by kernel_rfl)) ?_
  intro W base args ds gs before hval hW _ _
  exact contract H enc W base args ds gs before hval hW
theorem said : Rows.DiskHoldsSaid :=
  OpenClaim.holds_of_wide 5 Try.f5 rfl rfl rfl rfl rfl rfl rfl ⟨rfl, rfl, rfl, rfl, rfl⟩ rfl rfl rfl rfl rfl (by kernel_rfl) Try.func5 (by kernel_rfl)
    (of_decide_eq_true (by kernel_rfl)) (by unfold Func.isWrapper; first | (rw [if_pos (by decide +kernel)]; kernel_rfl) | (rw [if_neg (by decide +kernel)]; exact ⟨rfl, rfl⟩))
    (fun os started H enc _ => lifted os started H enc)
end rowDiskHolds
end Go.Proofs.Ytcinegkikahchaa
