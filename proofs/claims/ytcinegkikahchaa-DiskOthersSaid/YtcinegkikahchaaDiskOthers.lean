/-
  LAYER 2, the law DiskOthers: what is done with one file leaves all others as they are. For every input.
-/
import Derived.Test.YtcinegkikahchaaDkLaw
import Derived.Test.YtcinegkikahchaaDkArgs
import Derived.WalkLawsBesides
namespace Go.Proofs.Ytcinegkikahchaa
open Go.RowKit Go.Maps
set_option linter.unusedVariables false
set_option maxRecDepth 100000


set_option maxHeartbeats 16000000 in
theorem diskOthers_walk (v : Value) (l : List Ac) (ac : Ac) (kv nv : Value) (nm : ByteArray) (w : World) (hv : ActsAt w w.heap.size v l) (hin : ∀ a ∈ l, AcIn a) (hl : l.length ≤ maxLen) (hac : AcIn ac) (hk : IntsAt w w.heap.size kv ac.keep) (hn : IntsAt w w.heap.size nv ac.noise) (hnm : nm.size ≤ maxLen) :
    Calls Try.prog 6 #[v, .agg #[.int .i64 ac.op, .int .i64 ac.n, .string ac.name, .string ac.to, .string ac.data, kv, nv], .string nm] w fun e w' => e = .returned (.bool true) ∧ Below w.heap.size w w' := by
  obtain ⟨ka, kc, rfl, hk2⟩ := hk
  obtain ⟨na, nc, rfl, hn2⟩ := hn
  have hk : IntsAt w w.heap.size (.slice ka ac.keep.length kc) ac.keep := ⟨ka, kc, rfl, hk2⟩
  have hn : IntsAt w w.heap.size (.slice na ac.noise.length nc) ac.noise := ⟨na, nc, rfl, hn2⟩
  clear hk2 hn2
  have hb0 := Below.alloc (Below.refl w.heap.size w) (Nat.le_refl _) (.cells #[.int .i64 ac.op, .int .i64 ac.n, .string ac.name, .string ac.to, .string ac.data, .slice ka ac.keep.length kc, .slice na ac.noise.length nc] 38)
  have hbox := BoxAt.of_own (own.new w #[.int .i64 ac.op, .int .i64 ac.n, .string ac.name, .string ac.to, .string ac.data, .slice ka ac.keep.length kc, .slice na ac.noise.length nc] 38)
  have hltb : w.heap.size < (w.alloc (.cells #[.int .i64 ac.op, .int .i64 ac.n, .string ac.name, .string ac.to, .string ac.data, .slice ka ac.keep.length kc, .slice na ac.noise.length nc] 38)).heap.size := by simp
  have HSH := hid (shown_any (w.alloc (.cells #[.int .i64 ac.op, .int .i64 ac.n, .string ac.name, .string ac.to, .string ac.data, .slice ka ac.keep.length kc, .slice na ac.noise.length nc] 38)))
  have HSM := hid (fun wx hb => small_any v l wx w.heap.size (hv.below hb) hin hl)
  have HKN := hid (fun wx (hb : Below w.heap.size w wx) => (show IntsAt wx w.heap.size (.slice ka ac.keep.length kc) ac.keep ∧ IntsAt wx w.heap.size (.slice na ac.noise.length nc) ac.noise from ⟨hk.same (fun b h => hb.block b h), hn.same (fun b h => hb.block b h)⟩))
  have HS1 := hid (fun wx (hb : Below w.heap.size w wx) => one_any wx w.heap.size hb.size ac hac _ _ (HKN.out wx hb).1 (HKN.out wx hb).2)
  have HBox := hid hbox
  clear hbox hk hn
  cases hsm : smallB l with
  | false =>
    rw [hsm] at HSM
    obtain ⟨a0, cap, rfl, hc⟩ := hv
    clear hsm hc hin
    generalize smallB [ac] = q1 at *
    go_enter Try.func6, Try.ntmps6
    go_wp2_with (first
      | (go_at_call 9; (with_reducible refine HSH.out.mono ?_); rintro e w1 ⟨rfl, hb1⟩; obtain ⟨c0, c1, c2, c3, c4, c5, c6⟩ := HBox.out.below hltb hb1)
      | (go_at_call 10; first
          | ((with_reducible refine (HSM.out _ (hb0.trans (hb1.mono hb0.size))).mono ?_); rintro e w2 ⟨rfl, rfl⟩)
          | ((with_reducible refine (HS1.out _ (hb0.trans (hb1.mono hb0.size))).mono ?_); rintro e w2 ⟨rfl, hb2⟩; have hb12 := hb1.trans (hb2.mono hb1.size); clear c0 c1 c2 c3 c4 c5 c6; obtain ⟨c0, c1, c2, c3, c4, c5, c6⟩ := HBox.out.below hltb hb12)))
    go_ret
    exact ⟨rfl, hb0.trans (hb12.mono hb0.size)⟩
  | true =>
    obtain ⟨hl80, hok⟩ := small_ok hsm hin
    rw [hsm] at HSM
    cases hs1 : smallB [ac] with
    | false =>
      rw [hs1] at HS1
      obtain ⟨a0, cap, rfl, hc⟩ := hv
      clear hsm hc hin hok hs1
      go_enter Try.func6, Try.ntmps6
      go_wp2_with (first
      | (go_at_call 9; (with_reducible refine HSH.out.mono ?_); rintro e w1 ⟨rfl, hb1⟩; obtain ⟨c0, c1, c2, c3, c4, c5, c6⟩ := HBox.out.below hltb hb1)
      | (go_at_call 10; first
          | ((with_reducible refine (HSM.out _ (hb0.trans (hb1.mono hb0.size))).mono ?_); rintro e w2 ⟨rfl, rfl⟩)
          | ((with_reducible refine (HS1.out _ (hb0.trans (hb1.mono hb0.size))).mono ?_); rintro e w2 ⟨rfl, hb2⟩; have hb12 := hb1.trans (hb2.mono hb1.size); clear c0 c1 c2 c3 c4 c5 c6; obtain ⟨c0, c1, c2, c3, c4, c5, c6⟩ := HBox.out.below hltb hb12)))
      go_ret
      exact ⟨rfl, hb0.trans (hb12.mono hb0.size)⟩
    | true =>
      rw [hs1] at HS1
      have haok : AcOk ac := (small_ok hs1 (by simpa using hac)).2 ac (by simp)
      by_cases hn1 : nm.data.toList = ac.name.data.toList
      · have q1 : (nm.toList == ac.name.toList) = true := by rw [Lib.toList_data, Lib.toList_data, hn1]; simp
        obtain ⟨a0, cap, rfl, hc⟩ := hv
        clear hsm hc hin hok hs1 hn1
        go_enter Try.func6, Try.ntmps6
        go_wp2_with (first
      | (go_at_call 9; (with_reducible refine HSH.out.mono ?_); rintro e w1 ⟨rfl, hb1⟩; obtain ⟨c0, c1, c2, c3, c4, c5, c6⟩ := HBox.out.below hltb hb1)
      | (go_at_call 10; first
          | ((with_reducible refine (HSM.out _ (hb0.trans (hb1.mono hb0.size))).mono ?_); rintro e w2 ⟨rfl, rfl⟩)
          | ((with_reducible refine (HS1.out _ (hb0.trans (hb1.mono hb0.size))).mono ?_); rintro e w2 ⟨rfl, hb2⟩; have hb12 := hb1.trans (hb2.mono hb1.size); clear c0 c1 c2 c3 c4 c5 c6; obtain ⟨c0, c1, c2, c3, c4, c5, c6⟩ := HBox.out.below hltb hb12)))
        go_ret
        exact ⟨rfl, hb0.trans (hb12.mono hb0.size)⟩
      · have q1 : (nm.toList == ac.name.toList) = false := by rw [beq_eq_false_iff_ne, Lib.toList_data, Lib.toList_data]; exact hn1
        by_cases hn2 : nm.data.toList = ac.to.data.toList
        · have q2 : (nm.toList == ac.to.toList) = true := by rw [Lib.toList_data, Lib.toList_data, hn2]; simp
          obtain ⟨a0, cap, rfl, hc⟩ := hv
          clear hsm hc hin hok hs1 hn1 hn2
          go_enter Try.func6, Try.ntmps6
          go_wp2_with (first
      | (go_at_call 9; (with_reducible refine HSH.out.mono ?_); rintro e w1 ⟨rfl, hb1⟩; obtain ⟨c0, c1, c2, c3, c4, c5, c6⟩ := HBox.out.below hltb hb1)
      | (go_at_call 10; first
          | ((with_reducible refine (HSM.out _ (hb0.trans (hb1.mono hb0.size))).mono ?_); rintro e w2 ⟨rfl, rfl⟩)
          | ((with_reducible refine (HS1.out _ (hb0.trans (hb1.mono hb0.size))).mono ?_); rintro e w2 ⟨rfl, hb2⟩; have hb12 := hb1.trans (hb2.mono hb1.size); clear c0 c1 c2 c3 c4 c5 c6; obtain ⟨c0, c1, c2, c3, c4, c5, c6⟩ := HBox.out.below hltb hb12)))
          go_ret
          exact ⟨rfl, hb0.trans (hb12.mono hb0.size)⟩
        · have q2 : (nm.toList == ac.to.toList) = false := by rw [beq_eq_false_iff_ne, Lib.toList_data, Lib.toList_data]; exact hn2
          have HMd := hid (fun wx (hb : Below w.heap.size w wx) => made_any 2999 v l wx w.heap.size hb.size (hv.below hb) hok hl80 (by omega) (by omega))
          have hro := pickZ_range ac.op 11 (by omega)
          have HP := hid (fun wx => pick_any ac.op 11 wx (by omega) (by omega) hac.op.1 hac.op.2)
          have hoth := fun s h9 hd => rd_other (s := s) (a := ac) (n := nm.data.toList) h9 hn1 hn2 hd
          obtain ⟨a0, cap, rfl, hc⟩ := hv
          clear hsm hc hin hok hs1 hn1 hn2
          generalize acts (newD (pickZ 2999 3000)) l = s at *
          have hoth := hoth s
          by_cases h9 : 9 ≤ pickZ ac.op 11
          · clear hoth
            generalize pickZ ac.op 11 = o at *
            go_enter Try.func6, Try.ntmps6
            go_wp2_with (first
      | (go_at_call 9; (with_reducible refine HSH.out.mono ?_); rintro e w1 ⟨rfl, hb1⟩; obtain ⟨c0, c1, c2, c3, c4, c5, c6⟩ := HBox.out.below hltb hb1)
      | (go_at_call 10; first
          | ((with_reducible refine (HSM.out _ (hb0.trans (hb1.mono hb0.size))).mono ?_); rintro e w2 ⟨rfl, rfl⟩)
          | ((with_reducible refine (HS1.out _ (hb0.trans (hb1.mono hb0.size))).mono ?_); rintro e w2 ⟨rfl, hb2⟩; have hb12 := hb1.trans (hb2.mono hb1.size); clear c0 c1 c2 c3 c4 c5 c6; obtain ⟨c0, c1, c2, c3, c4, c5, c6⟩ := HBox.out.below hltb hb12))
              | (go_at_call 23; (with_reducible refine (HMd.out _ (hb0.trans (hb12.mono hb0.size))).mono ?_); rintro e w3 ⟨a, S, rfl, hD, hS, hb3⟩; clear hD hS; have hb13 := hb12.trans (hb3.mono hb12.size); clear c0 c1 c2 c3 c4 c5 c6; obtain ⟨c0, c1, c2, c3, c4, c5, c6⟩ := HBox.out.below hltb hb13)
              | (go_at_call 15; (with_reducible refine (HP.out _).mono ?_); rintro e w5 ⟨rfl, rfl⟩))
            go_ret
            exact ⟨rfl, hb0.trans (hb13.mono hb0.size)⟩
          · have hoth := fun hd => hoth (by omega) hd
            obtain ⟨u1, u2, hru⟩ : ∃ u1 u2, rd s nm.data.toList = (u1, u2) := ⟨_, _, rfl⟩
            have HRU := hid hru
            have HOt : Hid ((act s ac).1.dead = false → rd (act s ac).1 nm.data.toList = (u1, u2)) := hid (fun hd => by rw [hoth hd, hru])
            clear hoth hru
            have HDo : Hid (∀ wx a S, DiskIs wx S a s → Below w.heap.size w wx → (∀ b, S b → w.heap.size ≤ b) → Calls Try.prog 16 #[.pointer (some ⟨a, 0, none⟩), .agg #[.int .i64 ac.op, .int .i64 ac.n, .string ac.name, .string ac.to, .string ac.data, .slice ka ac.keep.length kc, .slice na ac.noise.length nc]] wx (fun e w' => e = .returned (.tuple #[.string (mk (act s ac).2.1), .int .i64 (act s ac).2.2]) ∧ Hid (DiskIs w' (grow S wx w') a (act s ac).1 ∧ Chg S wx w'))) := hid (fun wx a S hD hb hS =>
              (does_any hD (B := w.heap.size) hb.size hS ac haok _ _ (HKN.out wx hb).1 (HKN.out wx hb).2).mono fun e w' hh => ⟨hh.1, hid ⟨hh.2.1, hh.2.2⟩⟩)
            have HDe : Hid (∀ wx a S, DiskIs wx S a (act s ac).1 → Calls Try.prog 18 #[.pointer (some ⟨a, 0, none⟩)] wx fun e w' => e = .returned (.bool (act s ac).1.dead) ∧ wx = w') := hid (fun wx a S hD => by obtain ⟨mb, F, h⟩ := hD; exact dead_any h)
            have HR1 : Hid (∀ wx a S, DiskIs wx S a s → Calls Try.prog 22 #[.pointer (some ⟨a, 0, none⟩), .string nm] wx fun e w' => e = .returned (.tuple #[.string ⟨u1.toArray⟩, .int .i64 u2]) ∧ wx = w') := hid (fun wx a S hD => read_is hD nm hnm u1 u2 HRU.out)
            have HR2 : Hid (∀ wx a S, (act s ac).1.dead = false → DiskIs wx S a (act s ac).1 → Calls Try.prog 22 #[.pointer (some ⟨a, 0, none⟩), .string nm] wx fun e w' => e = .returned (.tuple #[.string ⟨u1.toArray⟩, .int .i64 u2]) ∧ wx = w') := hid (fun wx a S hd hD => read_is hD nm hnm u1 u2 (HOt.out hd))
            clear HRU HOt
            generalize hub : (⟨u1.toArray⟩ : ByteArray) = ub at *
            clear hub
            generalize pickZ ac.op 11 = o at *
            have hq9 : decide (9 ≤ o) = false := by simp; omega
            cases hdd : (act s ac).1.dead with
            | true =>
              rw [hdd] at HDe
              clear HR2 hdd
              generalize act s ac = r at *
              obtain ⟨r1, r2, r3⟩ := r
              simp only at HDo HDe
              go_enter Try.func6, Try.ntmps6
              go_wp2_with (first
      | (go_at_call 9; (with_reducible refine HSH.out.mono ?_); rintro e w1 ⟨rfl, hb1⟩; obtain ⟨c0, c1, c2, c3, c4, c5, c6⟩ := HBox.out.below hltb hb1)
      | (go_at_call 10; first
          | ((with_reducible refine (HSM.out _ (hb0.trans (hb1.mono hb0.size))).mono ?_); rintro e w2 ⟨rfl, rfl⟩)
          | ((with_reducible refine (HS1.out _ (hb0.trans (hb1.mono hb0.size))).mono ?_); rintro e w2 ⟨rfl, hb2⟩; have hb12 := hb1.trans (hb2.mono hb1.size); clear c0 c1 c2 c3 c4 c5 c6; obtain ⟨c0, c1, c2, c3, c4, c5, c6⟩ := HBox.out.below hltb hb12))
                | (go_at_call 23; (with_reducible refine (HMd.out _ (hb0.trans (hb12.mono hb0.size))).mono ?_); rintro e w3 ⟨a, S, rfl, hD, hS, hb3⟩; have hb13 := hb12.trans (hb3.mono hb12.size); have HD := hid hD; have HS : Hid (∀ b, S b → w.heap.size ≤ b) := hid (fun b hb => (by have := hS b hb; have := hb12.size; have := hb0.size; omega)); clear hD hS; clear c0 c1 c2 c3 c4 c5 c6; obtain ⟨c0, c1, c2, c3, c4, c5, c6⟩ := HBox.out.below hltb hb13)
                | (go_at_call 15; (with_reducible refine (HP.out _).mono ?_); rintro e w5 ⟨rfl, rfl⟩)
                | (go_at_call 22; (with_reducible refine (HR1.out _ _ _ HD.out).mono ?_); rintro e w5 ⟨rfl, rfl⟩)
                | (go_at_call 16; (with_reducible refine (HDo.out _ _ _ HD.out (hb0.trans (hb13.mono hb0.size)) HS.out).mono ?_); rintro e w6 ⟨rfl, hQ⟩)
                | (go_at_call 18; (with_reducible refine (HDe.out _ _ _ hQ.out.1).mono ?_); rintro e w5 ⟨rfl, rfl⟩))
              go_ret
              exact ⟨rfl, (hb0.trans (hb13.mono hb0.size)).trans (hQ.out.2.below (by have := hb0.size; have := hb13.size; omega) HS.out)⟩
            | false =>
              rw [hdd] at HDe HR2
              clear hdd
              generalize act s ac = r at *
              obtain ⟨r1, r2, r3⟩ := r
              simp only at HDo HDe HR2
              have HR3 := hid (fun wx a S h => HR2.out wx a S trivial h)
              clear HR2
              go_enter Try.func6, Try.ntmps6
              go_wp2_with (first
      | (go_at_call 9; (with_reducible refine HSH.out.mono ?_); rintro e w1 ⟨rfl, hb1⟩; obtain ⟨c0, c1, c2, c3, c4, c5, c6⟩ := HBox.out.below hltb hb1)
      | (go_at_call 10; first
          | ((with_reducible refine (HSM.out _ (hb0.trans (hb1.mono hb0.size))).mono ?_); rintro e w2 ⟨rfl, rfl⟩)
          | ((with_reducible refine (HS1.out _ (hb0.trans (hb1.mono hb0.size))).mono ?_); rintro e w2 ⟨rfl, hb2⟩; have hb12 := hb1.trans (hb2.mono hb1.size); clear c0 c1 c2 c3 c4 c5 c6; obtain ⟨c0, c1, c2, c3, c4, c5, c6⟩ := HBox.out.below hltb hb12))
                | (go_at_call 23; (with_reducible refine (HMd.out _ (hb0.trans (hb12.mono hb0.size))).mono ?_); rintro e w3 ⟨a, S, rfl, hD, hS, hb3⟩; have hb13 := hb12.trans (hb3.mono hb12.size); have HD := hid hD; have HS : Hid (∀ b, S b → w.heap.size ≤ b) := hid (fun b hb => (by have := hS b hb; have := hb12.size; have := hb0.size; omega)); clear hD hS; clear c0 c1 c2 c3 c4 c5 c6; obtain ⟨c0, c1, c2, c3, c4, c5, c6⟩ := HBox.out.below hltb hb13)
                | (go_at_call 15; (with_reducible refine (HP.out _).mono ?_); rintro e w5 ⟨rfl, rfl⟩)
                | (go_at_call 22; first
                    | ((with_reducible refine (HR3.out _ _ _ hQ.out.1).mono ?_); rintro e w5 ⟨rfl, rfl⟩)
                    | ((with_reducible refine (HR1.out _ _ _ HD.out).mono ?_); rintro e w5 ⟨rfl, rfl⟩))
                | (go_at_call 16; (with_reducible refine (HDo.out _ _ _ HD.out (hb0.trans (hb13.mono hb0.size)) HS.out).mono ?_); rintro e w6 ⟨rfl, hQ⟩)
                | (go_at_call 18; (with_reducible refine (HDe.out _ _ _ hQ.out.1).mono ?_); rintro e w5 ⟨rfl, rfl⟩))
              go_ret
              exact ⟨by simp, (hb0.trans (hb13.mono hb0.size)).trans (hQ.out.2.below (by have := hb0.size; have := hb13.size; omega) HS.out)⟩

namespace rowDiskOthers
open Go.ChangeShapes Go.WideShapes Go.ChangeAt Go.RowKit
open Go.WideMaps Go.WideElems
open Go.ChangeMaps (open_string shut_string)
theorem contract (H : Type) (enc : TypeId × Value → H) (W : World) (base : Nat) (args : Array Value) (ds gs : List (DataW H)) (before : List MemPlace)
    (hval : ∀ (j : Nat) t v, Try.f6.params[j]? = some t → args[j]? = some v → Value.okWide Try.prog W .any base t v)
    (hW : DataW.Whole enc Try.prog Try.f6.params.toList Rows.diskOthersSpec.vars false W args.toList ds gs before) :
    Calls Try.prog 6 args W fun e W' => ∃ v, e = .returned v ∧ Rows.diskOthersSpec.post enc Try.prog Try.f6 false true false false W args v W' := by
  have hW' := hW
  obtain ⟨p, q, hA0, hV, rfl, hfz, hnd⟩ := hW
  have hlt := hW'.lt
  have hA : DataW.TrodAll enc Try.prog W 0 (fun _ => true) true Try.f6.params.toList args.toList ds p := hA0
  rw [Try.params6] at hA hval
  obtain ⟨v0, vs0, d0, ds0, p0, q0, hargs, rfl, rfl, h0, r0⟩ := trodAll_cons hA
  obtain ⟨v1, vs1, d1, ds1, p1, q1, rfl, rfl, rfl, h1, r1⟩ := trodAll_cons r0
  obtain ⟨v2, vs2, d2, ds2, p2, q2, rfl, rfl, rfl, h2, r2⟩ := trodAll_cons r1
  obtain ⟨rfl, rfl, rfl⟩ := trodAll_nil r2
  obtain rfl : args = #[v0, v1, v2] := by cases args; simp_all
  obtain ⟨rfl, rfl⟩ := trodVars_none hV
  have hpost : ∀ W', Below W.heap.size W W' → Rows.diskOthersSpec.post enc Try.prog Try.f6 false true false false W #[v0, v1, v2] (.bool true) W' := fun W' hb => law_post hW' hb rfl (by rw [Try.params6]; simp only [List.forall_mem_cons]; exact ⟨okTy (by kernel_rfl) (by kernel_rfl), okTy (by kernel_rfl) (by kernel_rfl), okTy (by kernel_rfl) (by kernel_rfl), fun _ h => by cases h⟩) (by kernel_rfl) ⟨rfl, rfl, rfl⟩
  suffices hc : Calls Try.prog 6 #[v0, v1, v2] W fun e W' => e = .returned (.bool true) ∧ Below W.heap.size W W' from hc.mono fun e W' ⟨he, hb⟩ => ⟨_, he, hpost W' hb⟩
  clear hpost
  have o0 := hval 0 22 v0 rfl rfl
  obtain ⟨a0, ha0, hx0, hn0⟩ := acts_arg o0 h0
  obtain ⟨a1, k1, l1, rfl, hx1, hk1, hn1⟩ := act_arg (hval 1 38 v1 rfl rfl) h1
  obtain ⟨a2, rfl, rfl, rfl, w2⟩ := open_string Try.underlying9 (hval 2 9 v2 rfl rfl) h2
  exact diskOthers_walk v0 a0 a1 k1 l1 a2 W ha0 hx0 hn0 hx1 hk1 hn1 w2

set_option maxRecDepth 100000 in
theorem lifted (os : Os) (started : os.Started) (H : Type) (enc : TypeId × Value → H) :
    ReturnsInHanded {} Try.checked os 6 .any (Rows.diskOthersSpec.pre6 enc Try.prog Try.f6 Rows.diskOthersRow.domain false) (Rows.diskOthersSpec.post enc Try.prog Try.f6 false true false false) := by
  refine returnsInHanded_of_change (C := Try.checked) ownKnobs started (by kernel_rfl) Try.func6
    (ChangeSpec.witness6 (enc := enc) (C := Try.checked) false ⟨#[], #[.slice none 0 0, .agg #[.int .i64 0, .int .i64 0, .string ⟨#[]⟩, .string ⟨#[]⟩, .string ⟨#[]⟩, .slice none 0 0, .slice none 0 0], .string ⟨#[]⟩], []⟩ 8 (by kernel_rfl) (by kernel_rfl) (by kernel_rfl) (by kernel_rfl)) ?_
  intro W base args ds gs before hval hW _ _
  exact contract H enc W base args ds gs before hval hW
theorem said : Rows.DiskOthersSaid :=
  OpenClaim.holds_of_wide 6 Try.f6 rfl rfl rfl rfl rfl rfl rfl ⟨rfl, rfl, rfl, rfl, rfl⟩ rfl rfl rfl rfl rfl (by kernel_rfl) Try.func6 (by kernel_rfl)
    (of_decide_eq_true (by kernel_rfl)) (by unfold Func.isWrapper; first | (rw [if_pos (by decide +kernel)]; kernel_rfl) | (rw [if_neg (by decide +kernel)]; exact ⟨rfl, rfl⟩))
    (fun os started H enc _ => lifted os started H enc)
end rowDiskOthers
end Go.Proofs.Ytcinegkikahchaa
