/-
  LAYER 2, the law DiskPlays: after any acts all that is read, refused, listed is as the chapter says. For every input.
-/
import Derived.Test.YtcinegkikahchaaRkN
import Derived.Test.YtcinegkikahchaaDkArgs
import Derived.WalkLawsBesides
namespace Go.Proofs.Ytcinegkikahchaa
open Go.RowKit Go.Maps
set_option linter.unusedVariables false
set_option maxRecDepth 100000


set_option maxHeartbeats 16000000 in
theorem diskPlays_walk (most : Int) (v : Value) (l : List Ac) (nm : ByteArray) (w : World) (hm : -9223372036854775808 ≤ most ∧ most ≤ 9223372036854775807) (hv : ActsAt w w.heap.size v l) (hin : ∀ a ∈ l, AcIn a) (hl : l.length ≤ maxLen) (hnm : nm.size ≤ maxLen) :
    Calls Try.prog 3 #[.int .i64 most, v, .string nm] w fun e w' => e = .returned (.bool true) ∧ Below w.heap.size w w' := by
  have HSH := hid (shown_any w)
  have HSM := hid (fun wx hb => small_any v l wx w.heap.size (hv.below hb) hin hl)
  obtain ⟨a0, cap, rfl, hc⟩ := hv
  cases hsm : smallB l with
  | false =>
    rw [hsm] at HSM
    clear hsm hc hin
    go_enter Try.func3, Try.ntmps3
    go_wp2_with (first
      | (go_at_call 9; (with_reducible refine HSH.out.mono ?_); rintro e w1 ⟨rfl, hb1⟩)
      | (go_at_call 10; (with_reducible refine (HSM.out _ hb1).mono ?_); rintro e w2 ⟨rfl, rfl⟩))
    go_ret
    exact ⟨rfl, hb1⟩
  | true =>
    obtain ⟨hl80, hok⟩ := small_ok hsm hin
    rw [hsm] at HSM
    have hrm := pickZ_range most 3000 (by omega)
    have HP := hid (fun wx => pick_any most 3000 wx (by omega) (by omega) hm.1 hm.2)
    have HN := hid (fun wx => new_ok (pickZ most 3000) wx hrm.1 (by omega))
    have HM := hid (fun wx => refNew_ok (pickZ most 3000) wx hrm.1 (by omega))
    have HN1 := hid (fun wx => name_is nm hnm _ rfl wx)
    have HN2 := hid (fun wx => refName_any nm wx hnm)
    have HO := hid hok
    have HAct : Hid (∀ k, ∀ hk : k < l.length, ∃ b o kv nv, a0 = some ⟨b, o, none⟩ ∧ b < w.heap.size ∧ ActAt w w.heap.size b (o + k * 7) (l[k]'hk) kv nv) := hid (fun k hk => by
      have hne : l ≠ [] := fun e => by rw [e] at hk; simp at hk
      obtain ⟨b, o, rfl, hbB, hact⟩ := hc hne
      obtain ⟨kv, nv, hA⟩ := hact k l[k] (by simp [hk])
      exact ⟨b, o, kv, nv, rfl, hbB, hA⟩)
    generalize isName nm.data.toList = qn at *
    generalize pickZ most 3000 = m at *
    clear hsm hc hin hok
    by_cases hlong : nm.size ≤ 100
    · have hXY : ((∀ wx, Calls Try.prog 11 #[.int .i64 most] wx fun e w' => ∃ p, e = .returned (.tuple #[.pointer (some p), .int .i64 0]) ∧ Below wx.heap.size wx w') ∧ (∀ wx, Calls Try.prog 12 #[.int .i64 most] wx fun e w' => ∃ p, e = .returned (.tuple #[.pointer (some p), .bool true]) ∧ Below wx.heap.size wx w')) ∨
          ((∀ wx, Calls Try.prog 11 #[.int .i64 most] wx fun e w' => ∃ p : Addr, e = .returned (.tuple #[.pointer none, .int .i64 2]) ∧ Below wx.heap.size wx w') ∧ (∀ wx, Calls Try.prog 12 #[.int .i64 most] wx fun e w' => ∃ p, e = .returned (.tuple #[.pointer (some p), .bool false]) ∧ Below wx.heap.size wx w')) := by
        by_cases hr : 0 ≤ most ∧ most ≤ 10000000
        · exact .inl ⟨fun wx => (new_ok most wx hr.1 hr.2).mono fun e w' ⟨a, S, he, _, _, hb⟩ => ⟨_, he, hb⟩, fun wx => (refNew_ok most wx hr.1 hr.2).mono fun e w' ⟨a, S, he, _, _, hb⟩ => ⟨_, he, hb⟩⟩
        · exact .inr ⟨fun wx => (new_bad most wx (by omega)).mono fun e w' ⟨he, hw⟩ => ⟨⟨0, 0, none⟩, he, by rw [← hw]; exact Below.refl _ _⟩, fun wx => refNew_bad most wx (by omega)⟩
      have hq : decide (100 < nm.size) = false := by simp; omega
      rcases hXY with ⟨hX, hY⟩ | ⟨hX, hY⟩
      all_goals
        have HX := hid hX
        have HY := hid hY
        clear hX hY
        go_enter Try.func3, Try.ntmps3
        go_wp2_with (first
          | (go_at_call 9; (with_reducible refine HSH.out.mono ?_); rintro e w1 ⟨rfl, hb1⟩)
          | (go_at_call 10; (with_reducible refine (HSM.out _ hb1).mono ?_); rintro e w2 ⟨rfl, rfl⟩)
          | (go_at_call 11; first | ((with_reducible refine (HX.out _).mono ?_); rintro e wx ⟨px, rfl, hbx⟩; have hb2 := hb1.trans (hbx.mono hb1.size)) | ((with_reducible refine (HN.out _).mono ?_); rintro e w2 ⟨a, S1, rfl, hD, hS, hb4⟩; have HD := hid hD; have HS := hid hS; clear hD hS))
          | (go_at_call 12; first | ((with_reducible refine (HY.out _).mono ?_); rintro e wy ⟨py, rfl, hby⟩; have hb3 := hb2.trans (hby.mono hb2.size)) | ((with_reducible refine (HM.out _).mono ?_); rintro e w3 ⟨r, S2, rfl, hR, hS2, hb5⟩; have hBo := Both.made hb3 HD.out HS.out hb4 hR hS2 hb5; have HB := hid hBo; clear hR hS2 hBo))
          | (go_at_call 15; (with_reducible refine (HP.out _).mono ?_); rintro e w3 ⟨rfl, rfl⟩)
          | (go_at_call 13; (with_reducible refine (HN1.out _).mono ?_); rintro e w3 ⟨rfl, rfl⟩)
          | (go_at_call 14; (with_reducible refine (HN2.out _).mono ?_); rintro e w3 ⟨rfl, rfl⟩))
        go_loopw [17] (PlayRel w a r l.length) (fun i _ => l.length - (intOf i).toNat)
        case atStart => exact ⟨0, _, Nat.zero_le _, rfl, HB.out⟩
        case round =>
          obtain ⟨k, s, hk, rfl, hBr⟩ := hrel
          by_cases hlt : k < l.length
          · obtain ⟨b, o, kv, nv, rfl, hbB, hA0⟩ := HAct.out k hlt
            have hac := HO.out _ (List.getElem_mem hlt)
            have hat : ∀ wx, Below w.heap.size w wx → ActAt wx w.heap.size b (o + k * 7) l[k] kv nv := fun wx hb => hA0.same hbB (fun b hb' => hb.block b hb')
            have HA : Hid (∀ wx, Below w.heap.size w wx → wx.cell? ⟨b, o + k * 7, none⟩ = some (.int .i64 l[k].op) ∧ wx.cell? ⟨b, o + k * 7 + 1, none⟩ = some (.int .i64 l[k].n) ∧ wx.cell? ⟨b, o + k * 7 + 2, none⟩ = some (.string l[k].name) ∧ wx.cell? ⟨b, o + k * 7 + 3, none⟩ = some (.string l[k].to) ∧ wx.cell? ⟨b, o + k * 7 + 4, none⟩ = some (.string l[k].data) ∧ wx.cell? ⟨b, o + k * 7 + 5, none⟩ = some kv ∧ wx.cell? ⟨b, o + k * 7 + 6, none⟩ = some nv) :=
              hid (fun wx hb => ⟨(hat wx hb).c0, (hat wx hb).c1, (hat wx hb).c2, (hat wx hb).c3, (hat wx hb).c4, (hat wx hb).c5, (hat wx hb).c6⟩)
            have HDo := hid (fun wx (h : Both w a r s s wx) => h.does l[k] hac kv nv (hat wx h.base).k (hat wx h.base).n)
            have HMo := hid (fun wx (h : Both w a r (act s l[k]).1 s wx) => h.model l[k] hac kv nv (hat wx h.base).k (hat wx h.base).n)
            have HBr := hid hBr
            obtain ⟨d0, d1, d2, d3, d4, d5, d6, dk, dn⟩ := hat wr hBr.base
            obtain ⟨ka, kc, rfl, _⟩ := id dk
            obtain ⟨na, nc, rfl, _⟩ := id dn
            clear hat hA0 hac dk dn hBr
            generalize act s l[k] = R at *
            obtain ⟨R1, R2, R3⟩ := R
            simp only at HDo HMo
            generalize l[k].op = x0 at *
            generalize l[k].n = x1 at *
            generalize l[k].name = x2 at *
            generalize l[k].to = x3 at *
            generalize l[k].data = x4 at *
            generalize l[k].keep = x5 at *
            generalize l[k].noise = x6 at *
            have hkI : (k : Int) < (l.length : Int) := by omega
            have hlI : (l.length : Int) ≤ 80 := by omega
            generalize mk R2 = sv at *
            go_wp2_with (first
              | (go_at_call 16; (with_reducible refine (HDo.out _ HBr.out).mono ?_); rintro e w6 ⟨rfl, hB6⟩; have HB6 := hid hB6; obtain ⟨e0, e1, e2, e3, e4, e5, e6⟩ := HA.out _ hB6.base; clear hB6)
              | (go_at_call 17; (with_reducible refine (HMo.out _ HB6.out).mono ?_); rintro e w7 ⟨rfl, hB7⟩; have HB7 := hid hB7; clear hB7))
            have g7 : w7.drew.cell? ⟨r, 3, none⟩ = some (.bool R1.dead) := HB7.out.gone
            have hB7 : Both w a r R1 R1 w7.drew := HB7.out.later (Below.drew (Below.refl _ _))
            have HDe := hid (fun wx (h : Both w a r R1 R1 wx) => h.deadCall)
            have HGo := hid (fun wx (h : Both w a r R1 R1 wx) => h.gone)
            generalize R1.dead = dd at *
            cases dd
            · go_region_held3 (fun wx => wx.cell? ⟨r, 3, none⟩ = some (.bool false) ∧ Both w a r R1 R1 wx) (first | exact ⟨g7, hB7⟩ | exact ⟨g8, hB8⟩ | go_keep)
                (first
                  | (go_at_call 18; (with_reducible refine (HDe.out _ (And.right (by assumption))).mono ?_); rintro e w8 ⟨rfl, rfl⟩)
                  | (go_at_call 19; (with_reducible refine (Both.sizeCall (And.right (by assumption))).mono ?_); rintro e w8 ⟨rfl, hB8⟩; have g8 := HGo.out _ hB8)
                  | (go_at_call 20; (with_reducible refine (Both.refSizeCall (And.right (by assumption))).mono ?_); rintro e w8 ⟨rfl, rfl⟩))
              go_wp2
              go_roundw
              case rel => exact ⟨k + 1, R1, hlt, by go_num, And.right (by assumption)⟩
              case measure => simp [intOf]; omega
            · go_region_held3 (fun wx => wx.cell? ⟨r, 3, none⟩ = some (.bool true) ∧ Both w a r R1 R1 wx) (first | exact ⟨g7, hB7⟩ | exact ⟨g8, hB8⟩ | go_keep)
                (first
                  | (go_at_call 18; (with_reducible refine (HDe.out _ (And.right (by assumption))).mono ?_); rintro e w8 ⟨rfl, rfl⟩)
                  | (go_at_call 19; (with_reducible refine (Both.sizeCall (And.right (by assumption))).mono ?_); rintro e w8 ⟨rfl, hB8⟩; have g8 := HGo.out _ hB8)
                  | (go_at_call 20; (with_reducible refine (Both.refSizeCall (And.right (by assumption))).mono ?_); rintro e w8 ⟨rfl, rfl⟩))
              go_wp2
              go_roundw
              case rel => exact ⟨k + 1, R1, hlt, by go_num, And.right (by assumption)⟩
              case measure => simp [intOf]; omega
          · obtain rfl : k = l.length := by omega
            have hbase := hBr.base
            obtain ⟨S1', S2', ⟨mb, F, hDr⟩, ⟨vr, hRr⟩, -⟩ := hBr
            obtain ⟨ao2, cap2, rfl, -, -⟩ := hRr.row.slice
            have HL := hid (list_any hDr)
            have hcs : ∀ wx, Below wr.heap.size wr wx → wx.cell? ⟨r, 0, none⟩ = some (.slice ao2 s.L.length cap2) ∧ wx.cell? ⟨r, 3, none⟩ = some (.bool s.dead) := fun wx hb => ⟨((hRr.below hb).head.cell 0).trans rfl, ((hRr.below hb).head.cell 3).trans rfl⟩
            have HCs := hid hcs
            have HDr := hid hDr
            have HRr := hid hRr
            have hmany : (s.L.length : Int) ≤ 40 := by have := hDr.ok.many; omega
            clear hcs hDr hRr
            go_wp2_with (go_at_call 21; (with_reducible refine HL.out.mono ?_); rintro e w5 ⟨v5, rfl, hv5, hb5⟩; obtain ⟨ao, cp, rfl⟩ := names_slice2 hv5; have HV := hid hv5; clear hv5; obtain ⟨c5, -⟩ := HCs.out _ hb5)
            go_loopw [23] (LookRel w5 s.L.length) (fun i _ => s.L.length - (intOf i).toNat)
            case atStart => exact ⟨0, Nat.zero_le _, rfl, Below.refl _ _⟩
            case round =>
              obtain ⟨k, hk, rfl, hbk⟩ := hrel
              have hbw := hb5.trans (hbk.mono hb5.size)
              by_cases hkl : k < s.L.length
              · obtain ⟨g, rfl, hgB, hg1, hcells⟩ := names_cell2 HV.out hkl
                have hcw := (hbk.cell (p := ⟨g, k, none⟩) hg1).trans (hcells k hkl)
                obtain ⟨c0, c3⟩ := HCs.out _ hbw
                obtain ⟨g2, rfl, hg2, hrc, -⟩ := (HRr.out.below hbw).row.at hkl
                obtain ⟨q0, q1, -⟩ := hrc k hkl
                have hnm24 : (mk s.L[k].name).size ≤ maxLen := by
                  have h1 := HDr.out.ok.names _ (List.getElem_mem hkl)
                  unfold isName at h1
                  simp at h1
                  rw [mk_size]; unfold maxLen; omega
                have hkI : (k : Int) < (s.L.length : Int) := by omega
                cases hdd : s.dead with
                | true =>
                  have hrd : rd s (mk s.L[k].name).data.toList = ([], 7) := by unfold rd; rw [hdd]; rfl
                  have hRd := read_is ⟨mb, F, HDr.out.below hbw⟩ (mk s.L[k].name) hnm24 _ _ hrd
                  have HRd := hid hRd
                  change Hid (Calls _ _ _ wr fun e w' => e = .returned (.tuple #[.string ⟨#[]⟩, .int .i64 7]) ∧ wr = w') at HRd
                  rw [hdd] at c3
                  clear hRd hrd hdd hnm24 hrc hcells HCs
                  generalize mk s.L[k].name = nb at *
                  generalize mk s.L[k].data = db at *
                  go_wp2_with (go_at_call 22; (with_reducible refine HRd.out.mono ?_); rintro e w8 ⟨rfl, rfl⟩)
                  go_quiet (fail)
                  go_wp2
                  go_roundw
                  case rel => exact ⟨k + 1, by omega, by go_num, below_drew hbk _⟩
                  case measure => simp [intOf]; omega
                | false =>
                  have hrd : rd s (mk s.L[k].name).data.toList = (s.L[k].data, 0) := rd_at HDr.out.ok hdd hkl
                  have hRd := read_is ⟨mb, F, HDr.out.below hbw⟩ (mk s.L[k].name) hnm24 _ _ hrd
                  have HRd := hid hRd
                  change Hid (Calls _ _ _ wr fun e w' => e = .returned (.tuple #[.string (mk s.L[k].data), .int .i64 0]) ∧ wr = w') at HRd
                  rw [hdd] at c3
                  clear hRd hrd hdd hnm24 hrc hcells HCs
                  generalize mk s.L[k].name = nb at *
                  generalize mk s.L[k].data = db at *
                  go_wp2_with (go_at_call 22; (with_reducible refine HRd.out.mono ?_); rintro e w8 ⟨rfl, rfl⟩)
                  go_quiet (fail)
                  go_wp2
                  go_roundw
                  case rel => exact ⟨k + 1, by omega, by go_num, below_drew hbk _⟩
                  case measure => simp [intOf]; omega
              · obtain rfl : k = s.L.length := by omega
                go_wp2
                go_ret
                exact ⟨rfl, hbase.trans (hbw.mono hbase.size)⟩
    · have hq : decide (100 < nm.size) = true := by simp; omega
      go_enter Try.func3, Try.ntmps3
      go_wp2_with (first
        | (go_at_call 9; (with_reducible refine HSH.out.mono ?_); rintro e w1 ⟨rfl, hb1⟩)
        | (go_at_call 10; (with_reducible refine (HSM.out _ hb1).mono ?_); rintro e w2 ⟨rfl, rfl⟩))
      go_ret
      exact ⟨rfl, hb1⟩

namespace rowDiskPlays
open Go.ChangeShapes Go.WideShapes Go.ChangeAt Go.RowKit
open Go.WideMaps Go.WideElems
open Go.ChangeMaps (open_string shut_string)
theorem contract (H : Type) (enc : TypeId × Value → H) (W : World) (base : Nat) (args : Array Value) (ds gs : List (DataW H)) (before : List MemPlace)
    (hval : ∀ (j : Nat) t v, Try.f3.params[j]? = some t → args[j]? = some v → Value.okWide Try.prog W .any base t v)
    (hW : DataW.Whole enc Try.prog Try.f3.params.toList Rows.diskPlaysSpec.vars false W args.toList ds gs before) :
    Calls Try.prog 3 args W fun e W' => ∃ v, e = .returned v ∧ Rows.diskPlaysSpec.post enc Try.prog Try.f3 false true false false W args v W' := by
  have hW' := hW
  obtain ⟨p, q, hA0, hV, rfl, hfz, hnd⟩ := hW
  have hlt := hW'.lt
  have hA : DataW.TrodAll enc Try.prog W 0 (fun _ => true) true Try.f3.params.toList args.toList ds p := hA0
  rw [Try.params3] at hA hval
  obtain ⟨v0, vs0, d0, ds0, p0, q0, hargs, rfl, rfl, h0, r0⟩ := trodAll_cons hA
  obtain ⟨v1, vs1, d1, ds1, p1, q1, rfl, rfl, rfl, h1, r1⟩ := trodAll_cons r0
  obtain ⟨v2, vs2, d2, ds2, p2, q2, rfl, rfl, rfl, h2, r2⟩ := trodAll_cons r1
  obtain ⟨rfl, rfl, rfl⟩ := trodAll_nil r2
  obtain rfl : args = #[v0, v1, v2] := by cases args; simp_all
  obtain ⟨rfl, rfl⟩ := trodVars_none hV
  have hpost : ∀ W', Below W.heap.size W W' → Rows.diskPlaysSpec.post enc Try.prog Try.f3 false true false false W #[v0, v1, v2] (.bool true) W' := fun W' hb => law_post hW' hb rfl (by rw [Try.params3]; simp only [List.forall_mem_cons]; exact ⟨okTy (by kernel_rfl) (by kernel_rfl), okTy (by kernel_rfl) (by kernel_rfl), okTy (by kernel_rfl) (by kernel_rfl), fun _ h => by cases h⟩) (by kernel_rfl) ⟨rfl, rfl, rfl⟩
  suffices hc : Calls Try.prog 3 #[v0, v1, v2] W fun e W' => e = .returned (.bool true) ∧ Below W.heap.size W W' from hc.mono fun e W' ⟨he, hb⟩ => ⟨_, he, hpost W' hb⟩
  clear hpost
  obtain ⟨a0, rfl, rfl, rfl, w0⟩ := open_int Try.underlying3 (hval 0 3 v0 rfl rfl) h0
  have o1 := hval 1 22 v1 rfl rfl
  obtain ⟨a1, ha1, hx1, hn1⟩ := acts_arg o1 h1
  obtain ⟨a2, rfl, rfl, rfl, w2⟩ := open_string Try.underlying9 (hval 2 9 v2 rfl rfl) h2
  exact diskPlays_walk a0 v1 a1 a2 W (by simpa [Lit.wf, IntKind.min, IntKind.max, IntKind.signed, IntKind.bits] using w0) ha1 hx1 hn1 w2

set_option maxRecDepth 100000 in
theorem lifted (os : Os) (started : os.Started) (H : Type) (enc : TypeId × Value → H) :
    ReturnsInHanded {} Try.checked os 3 .any (Rows.diskPlaysSpec.pre6 enc Try.prog Try.f3 Rows.diskPlaysRow.domain false) (Rows.diskPlaysSpec.post enc Try.prog Try.f3 false true false false) := by
  refine returnsInHanded_of_change (C := Try.checked) ownKnobs started (by kernel_rfl) Try.func3
    (ChangeSpec.witness6 (enc := enc) (C := Try.checked) false ⟨#[], #[.int .i64 0, .slice none 0 0, .string ⟨#[]⟩], []⟩ 8 (by kernel_rfl) (by kernel_rfl) (by kernel_rfl) (by kernel_rfl)) ?_
  intro W base args ds gs before hval hW _ _
  exact contract H enc W base args ds gs before hval hW
theorem said : Rows.DiskPlaysSaid :=
  OpenClaim.holds_of_wide 3 Try.f3 rfl rfl rfl rfl rfl rfl rfl ⟨rfl, rfl, rfl, rfl, rfl⟩ rfl rfl rfl rfl rfl (by kernel_rfl) Try.func3 (by kernel_rfl)
    (of_decide_eq_true (by kernel_rfl)) (by unfold Func.isWrapper; first | (rw [if_pos (by decide +kernel)]; kernel_rfl) | (rw [if_neg (by decide +kernel)]; exact ⟨rfl, rfl⟩))
    (fun os started H enc _ => lifted os started H enc)
end rowDiskPlays
end Go.Proofs.Ytcinegkikahchaa
