import Derived.Test.YtbidglefddmjhaaGreatDoorMqaJ
import Derived.WalkLawsBesides
import Derived.Deep.RegionHeld3
import Derived.Deep.DeepCutAuto
import Derived.Deep.CutBlock
/-
  LAYER 3 (wal), the law WalKeeps: its walk.
-/
namespace Go.Proofs.YtbidglefddmjhaaGreatDoor
open Go.RowKit Go.Maps
set_option linter.unusedVariables false
set_option maxRecDepth 100000

/-- Between two acts, and behind the last one. -/
def KRel (W : World) (H N q p a B0 n : Nat) (uw un ur ud i : Value) (wr : World) : Prop := ∃ (k : Nat) (T : Nat → Prop) (s : Dk) (g : Lg) (died reset : Bool) (now : List En) (next : Hd), k ≤ n ∧ i = .int .i64 (k : Int) ∧ ur = .bool reset ∧ ud = .bool died ∧ ((died = false ∧ Hid (KQ W wr T H N q p a B0 k uw s g next)) ∨ (died = true ∧ Hid (KZ W wr T H N q p a B0 uw un s g true reset now next)))
set_option maxHeartbeats 16000000 in
theorem walKeeps_walk (v : Value) (l : List Wa) (turn : Int) (kv : Value) (ks : List Int) (nv : Value) (ns : List Int) (again : Int) (w : World) {B0 : Nat} (hg : Glob w B0) (hB0 : B0 ≤ w.heap.size) (hv : WasAt w w.heap.size v l) (hin : ∀ a ∈ l, WaIn a) (hl : l.length ≤ maxLen) (ht : I64 turn) (hkv : IntsAt w w.heap.size kv ks) (hks : ks.length ≤ maxLen) (hk64 : ∀ n ∈ ks, -9223372036854775808 ≤ n ∧ n ≤ 9223372036854775807) (hnv : IntsAt w w.heap.size nv ns) (hns : ns.length ≤ maxLen) (hn64 : ∀ n ∈ ns, -9223372036854775808 ≤ n ∧ n ≤ 9223372036854775807) (hag : I64 again) :
    Calls Tryz.prog 5 #[v, .int .i64 turn, kv, nv, .int .i64 again] w fun e w' => e = .returned (.bool true) ∧ Below w.heap.size w w' := by
  have HSH := hid (shown3_any w hg hB0)
  have HSM := hid (fun wx (hb : Below w.heap.size w wx) => small3_any v l wx w.heap.size (hv.below hb) hin hl)
  have HWas := hid hv
  have HKv := hid hkv
  have HNv := hid hnv
  obtain ⟨a0, cap, rfl, -⟩ := id hv
  obtain ⟨ka, kc, rfl, -⟩ := id hkv
  obtain ⟨na, nc, rfl, -⟩ := id hnv
  unfold maxLen at hl hks hns
  cases hsm : smallW l with
  | false =>
    rw [hsm] at HSM
    clear hsm hin hg hv hkv hnv hk64 hn64
    go_enter Tryz.func5, Tryz.ntmps5
    go_wp2_with (first
      | (go_at_call 11; (with_reducible refine HSH.out.mono ?_); rintro e w1 ⟨rfl, hb1⟩)
      | (go_at_call 12; (with_reducible refine (HSM.out _ hb1).mono ?_); rintro e w2 ⟨rfl, rfl⟩))
    go_ret
    exact ⟨rfl, hb1⟩
  | true =>
    obtain ⟨hl40, hok⟩ := smallW_ok hsm hin
    rw [hsm] at HSM
    by_cases hk60 : 60 < ks.length
    · have hq : decide ((60 : Int) < (ks.length : Int)) = true := by simp; omega
      clear hsm hin hg hv hok hkv hnv hk64 hn64
      go_enter Tryz.func5, Tryz.ntmps5
      go_wp2_with (first
        | (go_at_call 11; (with_reducible refine HSH.out.mono ?_); rintro e w1 ⟨rfl, hb1⟩)
        | (go_at_call 12; (with_reducible refine (HSM.out _ hb1).mono ?_); rintro e w2 ⟨rfl, rfl⟩))
      go_ret
      exact ⟨rfl, hb1⟩
    · have hq : decide ((60 : Int) < (ks.length : Int)) = false := by simp; omega
      by_cases hn60 : 60 < ns.length
      · have hq2 : decide ((60 : Int) < (ns.length : Int)) = true := by simp; omega
        clear hsm hin hg hv hok hkv hnv hk64 hn64
        go_enter Tryz.func5, Tryz.ntmps5
        go_wp2_with (first
          | (go_at_call 11; (with_reducible refine HSH.out.mono ?_); rintro e w1 ⟨rfl, hb1⟩)
          | (go_at_call 12; (with_reducible refine (HSM.out _ hb1).mono ?_); rintro e w2 ⟨rfl, rfl⟩))
        go_ret
        exact ⟨rfl, hb1⟩
      · have hq2 : decide ((60 : Int) < (ns.length : Int)) = false := by simp; omega
        have HBg := hid (fun wx (hb : Below w.heap.size w wx) => begin_any 100000 wx (hg.below hb hB0) (by have := hb.size; omega) (by omega) (by omega))
        have hr1 := pkRange turn 120 (by omega)
        have HP1 := hid (fun wx => pick3_any turn 120 wx (by omega) (by omega) ht)
        have hr2 := pkRange again 6 (by omega)
        have HP2 := hid (fun wx => pick3_any again 6 wx (by omega) (by omega) hag)
        have HFz := hid (fun w1 w' q a p mq r ql T S (hb : Below w.heap.size w w1) (h : Begun w1 w' q a p mq r ql T S (open0 (newD 100000)).1 (open0 (newD 100000)).1) => (⟨⟨(own.cell h.pair 0).trans rfl, (own.cell h.pair 1).trans rfl⟩, fun wx hx => ⟨⟨(own.cell (own.same h.pair (hx.block _ (own.lt h.pair))) 0).trans rfl, (own.cell (own.same h.pair (hx.block _ (own.lt h.pair))) 1).trans rfl⟩, keep_begun hb (hg.below hb hB0) hB0 h (pickZ turn 120) (by omega) wx hx⟩⟩ : (w'.cell? ⟨q, 0, none⟩ = some (.pointer (some ⟨a, 0, none⟩)) ∧ w'.cell? ⟨q, 1, none⟩ = some (.pointer (some ⟨p, 0, none⟩))) ∧ ∀ wx, Below w'.heap.size w' wx → (wx.cell? ⟨q, 0, none⟩ = some (.pointer (some ⟨a, 0, none⟩)) ∧ wx.cell? ⟨q, 1, none⟩ = some (.pointer (some ⟨p, 0, none⟩))) ∧ Calls Tryz.prog 31 #[.pointer (some ⟨a, 0, none⟩), .int .i64 (pickZ turn 120)] wx fun e wy => e = .returned (.tuple #[]) ∧ (wy.cell? ⟨q, 0, none⟩ = some (.pointer (some ⟨a, 0, none⟩)) ∧ wy.cell? ⟨q, 1, none⟩ = some (.pointer (some ⟨p, 0, none⟩))) ∧ ∃ T s g, Hid (Ke w wy T q p a B0 0 s g)))
        have HOk := hid hok
        have HK64 := hid hk64
        have HN64 := hid hn64
        clear hsm hin hg hv hok hkv hnv hk64 hn64
        generalize pickZ turn 120 = t1 at *
        generalize pickZ again 6 = t2 at *
        go_enter Tryz.func5, Tryz.ntmps5
        go_upto_region 8 with (first
          | (go_at_call 11; (with_reducible refine HSH.out.mono ?_); rintro e w1 ⟨rfl, hb1⟩)
          | (go_at_call 12; (with_reducible refine (HSM.out _ hb1).mono ?_); rintro e w2 ⟨rfl, rfl⟩)
          | (go_at_call 13; (with_reducible refine (HBg.out _ hb1).mono ?_); rintro e w3 ⟨q, a, p, mq, r, ql, T0, S0, rfl, hB⟩; obtain ⟨⟨z0, z1⟩, hfz⟩ := HFz.out _ _ _ _ _ _ _ _ _ _ hb1 hB; have HFz3 := hid hfz; clear hB hfz))
        have hbk : Below w3.heap.size w3 w3.drew := Below.drew (Below.refl _ _)
        go_region_held3 (fun wx => wx.cell? ⟨q, 0, none⟩ = some (.pointer (some ⟨a, 0, none⟩)) ∧ wx.cell? ⟨q, 1, none⟩ = some (.pointer (some ⟨p, 0, none⟩)))
          (first | (with_reducible exact (HFz3.out _ hbk).1) | (with_reducible exact hS8))
          (first
            | (go_at_call 14; (with_reducible refine (HP1.out _).mono ?_); rintro e wk ⟨rfl, rfl⟩)
            | (go_at_call 31; (with_reducible refine (HFz3.out _ hbk).2.mono ?_); rintro e w4 ⟨rfl, hS8, T, s, g, hK4⟩))
        all_goals
          obtain ⟨z2, z3⟩ := hS8
          have HHd := hid hK4.out.hard
          clear HFz HFz3 HBg HSH HSM HP1 z0 z1 hbk
          go_upto_block 0 with (first
            | (go_at_call 20; (with_reducible refine HHd.out.mono ?_); rintro e w5 ⟨rfl, hq5, hK5⟩; obtain ⟨z4, z5⟩ := hq5 g.hd; have HEs := hid hK5.out.entries)
            | (go_at_call 22; (with_reducible refine HEs.out.mono ?_); rintro e w7 ⟨v7, rfl, ⟨z6, z7⟩, hQ7⟩))
          have HQ7 := hid hQ7
          clear HHd HEs hK4 hK5 hq5 z2 z3 z4 z5 z6 z7
          generalize w5.heap.size = H at *
          generalize w7.heap.size = N at *
          go_cut [17, 18, 20, 21] (fun uw un ur ud wx => ∃ (T : Nat → Prop) (s : Dk) (g : Lg) (died reset : Bool) (now : List En) (next : Hd), ur = .bool reset ∧ ud = .bool died ∧ Hid (KZ w wx T H N q p a B0 uw un s g died reset now next))
          case first =>
            as_aux_lemma =>
            go_wp2
            go_loopw [17, 18, 20, 21, 22] (KRel w H N q p a B0 l.length) (fun _ _ _ _ i _ => l.length - (intOf i).toNat)
            case atStart => exact ⟨0, _, _, _, false, false, [], _, Nat.zero_le _, rfl, rfl, rfl, .inl ⟨rfl, HQ7.out⟩⟩
            case round =>
              as_aux_lemma =>
              obtain ⟨k, T, s, g, died, reset, now, next, hk, rfl, rfl, rfl, hst⟩ := hrel
              clear HQ7
              by_cases hgo : k < l.length ∧ died = false
              · obtain ⟨hlt, rfl⟩ := hgo
                obtain ⟨-, hQ⟩ := hst.resolve_right (fun e => by cases e.1)
                have HQ := hid hQ.out
                have hkI : (k : Int) < (l.length : Int) := by omega
                have hne : l ≠ [] := fun e => by rw [e] at hlt; simp at hlt
                obtain ⟨a1, cap1, hva, hca⟩ := HWas.out.below HQ.out.ke.below
                simp only [Value.slice.injEq] at hva
                obtain ⟨rfl, -, rfl⟩ := hva
                obtain ⟨b, o, rfl, hbB, hact⟩ := hca hne
                obtain ⟨kv1, nv1, hA⟩ := hact k l[k] (by simp [hlt])
                have hac := HOk.out _ (List.getElem_mem hlt)
                have HPk := hid (fun wx => pick3_any l[k].op 10 wx (by omega) (by omega) hac.op)
                have hro := pkRange l[k].op 10 (by omega)
                have HAct : Hid (∀ wx, Below w.heap.size w wx → wx.cell? ⟨b, o + k * 8, none⟩ = some (.int .i64 (l[k]'hlt).op) ∧ wx.cell? ⟨b, o + k * 8 + 1, none⟩ = some (.int .i64 (l[k]'hlt).term) ∧ wx.cell? ⟨b, o + k * 8 + 2, none⟩ = some (.int .i64 (l[k]'hlt).vote) ∧ wx.cell? ⟨b, o + k * 8 + 3, none⟩ = some (.int .i64 (l[k]'hlt).idx) ∧ wx.cell? ⟨b, o + k * 8 + 4, none⟩ = some (.int .i64 (l[k]'hlt).n) ∧ wx.cell? ⟨b, o + k * 8 + 5, none⟩ = some (.string (l[k]'hlt).data) ∧ wx.cell? ⟨b, o + k * 8 + 6, none⟩ = some kv1 ∧ wx.cell? ⟨b, o + k * 8 + 7, none⟩ = some nv1) := hid (fun wx hx => by
                  have hw := hA.same hbB (fun c hc => (hx.block c hc).trans (HQ.out.ke.below.block c hc).symm)
                  exact ⟨hw.c0, hw.c1, hw.c2, hw.c3, hw.c4, hw.c5, hw.c6, hw.c7⟩)
                obtain ⟨ka1, kc1, rfl, _⟩ := id hA.k
                obtain ⟨na1, nc1, rfl, _⟩ := id hA.n
                have HAc := hid hac
                have HLt := hid hlt
                have d0 := (HAct.out _ HQ.out.ke.below).1
                clear hA hact hca hne hac hst hQ
                generalize l[k]'hlt = ac at *
                obtain ⟨o1, ho1⟩ : ∃ o1, pickZ ac.op 10 = o1 := ⟨_, rfl⟩
                rw [ho1] at HPk hro
                have HO1 := hid ho1
                clear ho1
                by_cases ho : 7 ≤ o1
                · go_wp2_with (go_at_call 14; (with_reducible refine (HPk.out _).mono ?_); rintro e w5 ⟨rfl, rfl⟩)
                  go_roundw
                  case rel => exact ⟨k + 1, T, s, g, false, reset, now, next, HLt.out, by go_num, rfl, rfl, .inl ⟨rfl, hid HQ.out.skip⟩⟩
                  case measure => simp [intOf]; omega
                · have ho7 : o1 < 7 := by omega
                  obtain ⟨-, -, z2, z3, z4, z5, z6, z7⟩ := HQ.out.cells
                  have HQ1 := hid (HQ.out.next g.hd)
                  by_cases h6 : o1 = 6
                  · as_aux_lemma =>
                    have q6 : (o1 == 6) = true := by rw [h6]; rfl
                    have HDo := HQ1.out.does (un := .slice none 0 0) (now := []) (ERow.nil _ _) HLt.out hl40 ac HAc.out (by rw [HO1.out]; exact ho7) (fun h => absurd (HO1.out.trans h6) h) (by simp) (.slice ka1 ac.keep.length kc1) (.slice na1 ac.noise.length nc1) ⟨_, _, _, rfl⟩ ⟨_, _, _, rfl⟩
                    rw [decide_eq_true (HO1.out.trans h6)] at HDo
                    unfold waV at HDo
                    have HDo := hid HDo
                    obtain ⟨c0, c1, c2, c3, c4, c5, c6, c7⟩ := HAct.out _ HQ1.out.ke.below
                    have ho6 : ¬ o1 < 6 := by omega
                    clear h6
                    go_upto_region 27 with (first
                      | (go_at_call 14; (with_reducible refine (HPk.out _).mono ?_); rintro e w5 ⟨rfl, rfl⟩)
                      | (go_at_call 15; (with_reducible refine HDo.out.mono ?_); rintro e w6 ⟨r, rfl, hDid⟩))
                    rcases hDid with ⟨r7, T6, s6, g6, hP6⟩ | ⟨r7, T6, s6, hZ6⟩
                    · have qr : (r == 7) = false := beq_false_of_ne r7
                      have HP6 := hid hP6
                      have HHd := hid HP6.out.hard
                      obtain ⟨y0, y1, -, -, y4⟩ := HP6.out.cells
                      clear hP6 r7 c0 c1 c2 c3 c4 c5 c6 c7 d0 z2 z3 z4 z5 z6 z7
                      go_wp2_with (first
                        | (go_at_call 20; (with_reducible refine HHd.out.mono ?_); rintro e w17 ⟨rfl, hP7⟩; obtain ⟨-, -, x2, x3, x4⟩ := hP7.out.cells; have HP8 := hid (hP7.out.set g6.hd); obtain ⟨v0, v1, -, -, -⟩ := HP8.out.cells; have HEn := hid HP8.out.entries; clear hP7)
                        | (go_at_call 22; (with_reducible refine HEn.out.mono ?_); rintro e w19 ⟨v19, rfl, hQ9⟩))
                      go_roundw
                      case rel => exact ⟨k + 1, T6, s6, g6, false, true, [], g.hd, HLt.out, by go_num, rfl, rfl, .inl ⟨rfl, hQ9⟩⟩
                      case measure => simp [intOf]; omega
                    · have qr : (r == 7) = true := by rw [r7]; rfl
                      have HZ6 := hid hZ6
                      clear hZ6 r7 c0 c1 c2 c3 c4 c5 c6 c7 d0 z2 z3 z4 z5 z6 z7
                      go_wp2
                      go_roundw
                      case rel => exact ⟨k + 1, T6, s6, g, true, true, [], g.hd, HLt.out, by go_num, rfl, (by rw [qr]), .inr ⟨rfl, HZ6.out⟩⟩
                      case measure => simp [intOf]; omega
                  · as_aux_lemma =>
                    have h6b : o1 < 6 := by omega
                    have q6 : (o1 == 6) = false := beq_false_of_ne h6
                    have hn6 : pickZ ac.op 10 ≠ 6 := fun e => h6 (HO1.out.symm.trans e)
                    have HN6 := hid hn6
                    have hkx : ∃ x n c, (Value.slice ka1 ac.keep.length kc1) = .slice x n c := ⟨_, _, _, rfl⟩
                    have hnx : ∃ x n c, (Value.slice na1 ac.noise.length nc1) = .slice x n c := ⟨_, _, _, rfl⟩
                    have HEnt := entriesA_any ac HAc.out (.slice ka1 ac.keep.length kc1) (.slice na1 ac.noise.length nc1) hkx hnx
                    have HHar := hardA_any ac HAc.out (.slice ka1 ac.keep.length kc1) (.slice na1 ac.noise.length nc1) hkx hnx
                    have HDoA := fun wx T s uw un (h : KQ w wx T H N q p a B0 k uw s g (hdA ac)) (hun : ERow wx (fun b => T b ∨ b = H ∨ b = N) un (entA ac)) => h.does hun HLt.out hl40 ac HAc.out (by rw [HO1.out]; exact ho7) (fun _ => ⟨rfl, rfl⟩) (entA_len ac) (.slice ka1 ac.keep.length kc1) (.slice na1 ac.noise.length nc1) hkx hnx
                    rw [decide_eq_false HN6.out] at HDoA
                    unfold waV at HEnt HHar HDoA
                    have HEnt := hid HEnt
                    have HHar := hid HHar
                    have HDoA := hid HDoA
                    obtain ⟨c0, c1, c2, c3, c4, c5, c6, c7⟩ := HAct.out _ HQ1.out.ke.below
                    clear h6 hn6 hkx hnx
                    go_upto_region 27 with (first
                      | (go_at_call 14; (with_reducible refine (HPk.out _).mono ?_); rintro e w5 ⟨rfl, rfl⟩)
                      | (go_at_call 32; (with_reducible refine (HEnt.out _).mono ?_); rintro e wE ⟨v8, rfl, hv8, hbE⟩; have HQ2 := hid (HQ1.out.later hbE); have HR2 := hid (HQ1.out.fresh hv8); obtain ⟨b0, b1, b2, b3, b4, b5, b6, b7⟩ := HAct.out _ HQ2.out.ke.below; clear hv8 hbE)
                      | (go_at_call 33; (with_reducible refine (HHar.out _).mono ?_); rintro e wF ⟨rfl, hbF⟩; have HQ3 := hid (HQ2.out.later hbF); obtain ⟨-, -, -, -, y4, y5, y6, -⟩ := HQ3.out.cells; have HQ4 := hid (HQ3.out.next (hdA ac)); have HR4 := hid ((HR2.out.later hbF).set2 (N := N) (.int .i64 (hdA ac).term) (.int .i64 (hdA ac).vote)); obtain ⟨e0, e1, e2, e3, e4, e5, e6, e7⟩ := HAct.out _ HQ4.out.ke.below; have HDo := hid (HDoA.out _ _ _ _ _ HQ4.out HR4.out); clear hbF)
                      | (go_at_call 15; (with_reducible refine HDo.out.mono ?_); rintro e w6 ⟨r, rfl, hDid⟩))
                    clear HQ1 HQ2 HQ3 HQ4 HR2 HR4 HEnt HHar HDoA HDo b0 b1 b2 b3 b4 b5 b6 b7 e0 e1 e2 e3 e4 e5 e6 e7 y4 y5 y6
                    rcases hDid with ⟨r7, T6, s6, g6, hP6⟩ | ⟨r7, T6, s6, hZ6⟩
                    · have qr : (r == 7) = false := beq_false_of_ne r7
                      have HP6 := hid hP6
                      have HHd := hid HP6.out.hard
                      obtain ⟨y0, y1, -, -, y4⟩ := HP6.out.cells
                      clear hP6 r7 c0 c1 c2 c3 c4 c5 c6 c7 d0 z2 z3 z4 z5 z6 z7
                      go_wp2_with (first
                        | (go_at_call 20; (with_reducible refine HHd.out.mono ?_); rintro e w17 ⟨rfl, hP7⟩; obtain ⟨-, -, x2, x3, x4⟩ := hP7.out.cells; have HP8 := hid (hP7.out.set g6.hd); obtain ⟨v0, v1, -, -, -⟩ := HP8.out.cells; have HEn := hid HP8.out.entries; clear hP7)
                        | (go_at_call 22; (with_reducible refine HEn.out.mono ?_); rintro e w19 ⟨v19, rfl, hQ9⟩))
                      go_roundw
                      case rel => exact ⟨k + 1, T6, s6, g6, false, false, [], hdA ac, HLt.out, by go_num, rfl, rfl, .inl ⟨rfl, hQ9⟩⟩
                      case measure => simp [intOf]; omega
                    · have qr : (r == 7) = true := by rw [r7]; rfl
                      have HZ6 := hid hZ6
                      clear hZ6 r7 c0 c1 c2 c3 c4 c5 c6 c7 d0 z2 z3 z4 z5 z6 z7
                      go_wp2
                      go_roundw
                      case rel => exact ⟨k + 1, T6, s6, g, true, false, entA ac, hdA ac, HLt.out, by go_num, rfl, (by rw [qr]), .inr ⟨rfl, HZ6.out⟩⟩
                      case measure => simp [intOf]; omega
              · have hkz : ∃ now2, Hid (KZ w wr T H N q p a B0 u17 u18 s g died reset now2 next) := by
                  rcases hst with ⟨rfl, h⟩ | ⟨rfl, h⟩
                  · exact ⟨[], hid (h.out.kz (by omega) u18 reset)⟩
                  · exact ⟨now, h⟩
                obtain ⟨now2, HZ⟩ := hkz
                have HZ := hid HZ.out
                have hcond : ((k : Int) < (l.length : Int) ∧ died = true) ∨ (l.length : Int) ≤ (k : Int) := by
                  by_cases hlt : k < l.length
                  · left
                    refine ⟨by omega, ?_⟩
                    cases died with
                    | true => rfl
                    | false => exact absurd ⟨hlt, rfl⟩ hgo
                  · right; omega
                clear hst hgo
                rcases hcond with ⟨hkI, rfl⟩ | hkI
                · go_wp2
                  go_meet
                  case rel => exact ⟨T, s, g, true, reset, now2, next, rfl, rfl, HZ⟩
                · go_wp2
                  go_meet
                  case rel => exact ⟨T, s, g, died, reset, now2, next, rfl, rfl, HZ⟩
          case rest =>
            as_aux_lemma =>
            obtain ⟨T, s, g, died, reset, now2, next, rfl, rfl, HZ⟩ := hcut
            have HZ := hid HZ.out
            clear HQ7
            have z0 := (own.cell HZ.out.kd.pair 0).trans rfl
            have HCr := hid (HZ.out.crash HKv.out HNv.out (by omega) (by omega) HK64.out)
            clear HWas HOk hb1 hr1 hl hks hns hl40 ht hag hq hq2
            go_upto_region 31 with (go_at_call 34; (with_reducible refine HCr.out.mono ?_); rintro e wC ⟨rfl, S1, c1, g', hX1⟩; have HX1 := hid (fun wx (hx : Below wC.heap.size wC wx) => hX1.out.later hx); obtain ⟨z1, z2⟩ := hX1.out.f.cells)
            have HFu := hid (fun wx (hx : Below wC.heap.size wC wx) => (HX1.out wx hx).fuse t2 (by omega))
            have hbk : Below wC.heap.size wC wC.drew := Below.drew (Below.refl _ _)
            go_region_held3 (fun wx => wx.cell? ⟨q, 0, none⟩ = some (.pointer (some ⟨a, 0, none⟩)) ∧ wx.cell? ⟨q, 1, none⟩ = some (.pointer (some ⟨p, 0, none⟩)))
              (first | (with_reducible exact (HX1.out _ hbk).f.cells) | (with_reducible exact hS8))
              (first
                | (go_at_call 14; (with_reducible refine (HP2.out _).mono ?_); rintro e wk ⟨rfl, rfl⟩)
                | (go_at_call 31; (with_reducible refine (HFu.out _ hbk).mono ?_); rintro e wD ⟨rfl, S2, c2, hX2⟩; have hS8 := hX2.out.f.cells))
            all_goals
              -- behind the fuse
              obtain ⟨z3, z4⟩ := hS8
              have HOp := hid hX2.out.open2
              clear HFu HX1 HCr hbk hX1 z0 z1 z2
              go_upto_region 33 with (go_at_call 29; (with_reducible refine HOp.out.mono ?_); rintro e wO ⟨po, err, rfl, hO⟩)
              go_upto_if 146 with (fail)
              go_cut [24, 25] (fun x e wx => ∃ (p5 : Nat) (T : Nat → Prop) (c' : Dk), x = .pointer (some ⟨p5, 0, none⟩) ∧ e = .int .i64 0 ∧ Hid (KY w wx T H N q a p p5 B0 u17 u18 c' g g' died reset now2 next))
              case first =>
                as_aux_lemma =>
                rcases hO.out with ⟨p5, rfl, rfl, T5, c5, hY⟩ | ⟨rfl, rfl, T5, c5, hV⟩
                · have HY := hid hY
                  clear hY hO HOp hX2 HZ
                  go_wp2
                  go_meet
                  case rel => exact ⟨p5, T5, c5, rfl, rfl, HY⟩
                · have HCr2 := hid (hV.crash HNv.out HKv.out (by omega) (by omega) HN64.out)
                  obtain ⟨z5, z6⟩ := hV.f.cells
                  have q7 : ((7 : Int) == 0) = false := rfl
                  have q8 : (!((7 : Int) == 0)) = true := rfl
                  clear hO HOp hX2 HZ hV
                  go_wp2_with (first
                    | (go_at_call 34; (with_reducible refine HCr2.out.mono ?_); rintro e wP ⟨rfl, S3, c3, hneg, hX3⟩; obtain ⟨z7, z8⟩ := hX3.out.f.cells; have HOp3 := hid (hX3.out.open3 hneg); clear hneg)
                    | (go_at_call 29; (with_reducible refine HOp3.out.mono ?_); rintro e wR ⟨p5, rfl, T5, c5, hY⟩))
                  go_meet
                  case rel => exact ⟨p5, T5, c5, rfl, rfl, hY⟩
              case rest =>
                as_aux_lemma =>
                obtain ⟨p5, T5, c5, rfl, rfl, hYc⟩ := hcut
                have HY := hid hYc.out
                clear hYc hX2 HZ HOp hO HKv HNv HK64 HN64 HP2 hr2 z3 z4 hk60 hn60
                have HBx := hid (fun wx (hx : Below wc.heap.size wc wx) => (HY.out.later hx).f.boxes)
                obtain ⟨aw, cw, rfl⟩ := HY.out.f.rwas.slice
                have hbk : Below wc.heap.size wc wc.drew := Below.drew (Below.refl _ _)
                obtain ⟨y0, y1, y2, y3⟩ := HBx.out _ (Below.refl _ wc)
                rcases fin3_cases HY.out.f.fin with ⟨eh, el⟩ | ⟨hdd, hrr, eh, el, ne⟩ | ⟨hdd, hrr, eh, hj, hdf⟩
                · obtain ⟨n5, hn5⟩ : ∃ n, g'.L.length = n := ⟨_, rfl⟩
                  have HHd : Hid (∀ wx, Below wc.heap.size wc wx → Calls Tryz.prog 20 #[.pointer (some ⟨p5, 0, none⟩)] wx fun e w' => e = .returned (.agg #[.int .i64 g.hd.term, .int .i64 g.hd.vote]) ∧ Below wx.heap.size wx w') := hid (fun wx hx => by have h0 := (HY.out.later hx).hard; rw [eh] at h0; exact h0)
                  have HEn : Hid (∀ wx, Below wc.heap.size wc wx → Calls Tryz.prog 22 #[.pointer (some ⟨p5, 0, none⟩)] wx fun e w' => ∃ ao cap, e = .returned (.slice ao n5 cap) ∧ Hid (EntsAt w' (.slice ao n5 cap) g'.L) ∧ Below wx.heap.size wx w') := hid (fun wx hx => by have h0 := (HY.out.later hx).entries; rw [hn5] at h0; exact h0)
                  have HSm : Hid (∀ wx vv, Below wc.heap.size wc wx → EntsAt wx vv g'.L → Calls Tryz.prog 21 #[vv, .slice aw g.L.length cw] wx fun e w' => e = .returned (.bool true) ∧ Below wx.heap.size wx w') := hid (fun wx vv hx hv => by have h0 := (HY.out.later hx).same hv; rw [decide_eq_true el] at h0; exact h0)
                  clear eh el hn5
                  go_upto_region 38 with (fail)
                  go_cut [177] (fun c wx => c = .bool true ∧ Hid (Below wc.heap.size wc wx))
                  case first =>
                    as_aux_lemma =>
                    go_region_held3 (fun wx => wx.cell? ⟨H, 0, none⟩ = some (.int .i64 g.hd.term) ∧ wx.cell? ⟨H, 1, none⟩ = some (.int .i64 g.hd.vote) ∧ wx.cell? ⟨N, 0, none⟩ = some (.int .i64 next.term) ∧ wx.cell? ⟨N, 1, none⟩ = some (.int .i64 next.vote))
                      (with_reducible exact HBx.out _ hbk)
                      (first | (go_at_call 20; (with_reducible refine (HHd.out _ hbk).mono ?_); rintro e wk ⟨rfl, hbn⟩; have hbk := hbk.trans (hbn.mono hbk.size); clear hbn) | (go_at_call 22; (with_reducible refine (HEn.out _ hbk).mono ?_); rintro e wk ⟨ao5, cap5, rfl, hv5, hbn⟩; have hbk := hbk.trans (hbn.mono hbk.size); have HSm5 := hid (HSm.out _ _ hbk hv5.out); clear hbn) | (go_at_call 21; (with_reducible refine HSm5.out.mono ?_); rintro e wk ⟨rfl, hbn⟩; have hbk := hbk.trans (hbn.mono hbk.size); clear hbn))
                    all_goals
                      go_wp2
                      go_meet
                      case rel => exact ⟨rfl, hid hbk⟩
                  case rest =>
                    as_aux_lemma =>
                    obtain ⟨rfl, hbc⟩ := hcut
                    have hbk := hbc.out
                    clear hbc y0 y1 y2 y3
                    go_wp2
                    go_ret
                    exact ⟨rfl, HY.out.f.below.trans (hbk.mono HY.out.f.below.size)⟩
                · have hn5 : g'.L.length = 0 := by rw [el]; rfl
                  have HHd : Hid (∀ wx, Below wc.heap.size wc wx → Calls Tryz.prog 20 #[.pointer (some ⟨p5, 0, none⟩)] wx fun e w' => e = .returned (.agg #[.int .i64 g.hd.term, .int .i64 g.hd.vote]) ∧ Below wx.heap.size wx w') := hid (fun wx hx => by have h0 := (HY.out.later hx).hard; rw [eh] at h0; exact h0)
                  have HEn : Hid (∀ wx, Below wc.heap.size wc wx → Calls Tryz.prog 22 #[.pointer (some ⟨p5, 0, none⟩)] wx fun e w' => ∃ ao cap, e = .returned (.slice ao 0 cap) ∧ Hid (EntsAt w' (.slice ao 0 cap) g'.L) ∧ Below wx.heap.size wx w') := hid (fun wx hx => by have h0 := (HY.out.later hx).entries; rw [hn5] at h0; exact h0)
                  have HSm : Hid (∀ wx vv, Below wc.heap.size wc wx → EntsAt wx vv g'.L → Calls Tryz.prog 21 #[vv, .slice aw g.L.length cw] wx fun e w' => e = .returned (.bool false) ∧ Below wx.heap.size wx w') := hid (fun wx vv hx hv => by have h0 := (HY.out.later hx).same hv; rw [decide_eq_false ne] at h0; exact h0)
                  subst hrr
                  try subst hdd
                  clear eh el ne hn5
                  go_upto_region 38 with (fail)
                  go_cut [177] (fun c wx => c = .bool false ∧ Hid (Below wc.heap.size wc wx))
                  case first =>
                    as_aux_lemma =>
                    go_region_held3 (fun wx => wx.cell? ⟨H, 0, none⟩ = some (.int .i64 g.hd.term) ∧ wx.cell? ⟨H, 1, none⟩ = some (.int .i64 g.hd.vote) ∧ wx.cell? ⟨N, 0, none⟩ = some (.int .i64 next.term) ∧ wx.cell? ⟨N, 1, none⟩ = some (.int .i64 next.vote))
                      (with_reducible exact HBx.out _ hbk)
                      (first | (go_at_call 20; (with_reducible refine (HHd.out _ hbk).mono ?_); rintro e wk ⟨rfl, hbn⟩; have hbk := hbk.trans (hbn.mono hbk.size); clear hbn) | (go_at_call 22; (with_reducible refine (HEn.out _ hbk).mono ?_); rintro e wk ⟨ao5, cap5, rfl, hv5, hbn⟩; have hbk := hbk.trans (hbn.mono hbk.size); have HSm5 := hid (HSm.out _ _ hbk hv5.out); clear hbn) | (go_at_call 21; (with_reducible refine HSm5.out.mono ?_); rintro e wk ⟨rfl, hbn⟩; have hbk := hbk.trans (hbn.mono hbk.size); clear hbn))
                    all_goals
                      go_wp2
                      go_meet
                      case rel => exact ⟨rfl, hid hbk⟩
                  case rest =>
                    as_aux_lemma =>
                    obtain ⟨rfl, hbc⟩ := hcut
                    have hbk := hbc.out
                    clear hbc y0 y1 y2 y3
                    clear HSm
                    go_upto_region 40 with (fail)
                    have hbk := hbk.drew
                    obtain ⟨x4, x5, x6, x7⟩ := HBx.out _ hbk
                    first | (go_region_with ((go_at_call 20; (with_reducible refine (HHd.out _ hbk).mono ?_); rintro e wk ⟨rfl, hbn⟩; have hbk := hbk.trans (hbn.mono hbk.size); obtain ⟨x0, x1, x2, x3⟩ := HBx.out _ hbk; clear hbn))) | (fail "region 40")
                    all_goals
                      go_wp2_with ((go_at_call 22; (with_reducible refine (HEn.out _ hbk).mono ?_); rintro e wk ⟨ao6, cap6, rfl, hv6, hbn⟩; have hbk := hbk.trans (hbn.mono hbk.size); clear hbn))
                      go_ret
                      exact ⟨rfl, HY.out.f.below.trans (hbk.mono HY.out.f.below.size)⟩
                · obtain ⟨n5, hn5⟩ : ∃ n, g'.L.length = n := ⟨_, rfl⟩
                  subst hrr
                  try subst hdd
                  have HBg : Hid (∀ wx vv, Below wc.heap.size wc wx → EntsAt wx vv g'.L → Calls Tryz.prog 35 #[vv, .slice aw g.L.length cw, u18] wx fun e w' => e = .returned (.bool true) ∧ Below wx.heap.size wx w') := hid (fun wx vv hx hv => (HY.out.later hx).begun hj hv)
                  rcases hdf with ⟨enx, ne⟩ | ne | ⟨et, ne⟩
                  · have eh := eh.trans enx
                    have HHd : Hid (∀ wx, Below wc.heap.size wc wx → Calls Tryz.prog 20 #[.pointer (some ⟨p5, 0, none⟩)] wx fun e w' => e = .returned (.agg #[.int .i64 g.hd.term, .int .i64 g.hd.vote]) ∧ Below wx.heap.size wx w') := hid (fun wx hx => by have h0 := (HY.out.later hx).hard; rw [eh] at h0; exact h0)
                    have HEn : Hid (∀ wx, Below wc.heap.size wc wx → Calls Tryz.prog 22 #[.pointer (some ⟨p5, 0, none⟩)] wx fun e w' => ∃ ao cap, e = .returned (.slice ao n5 cap) ∧ Hid (EntsAt w' (.slice ao n5 cap) g'.L) ∧ Below wx.heap.size wx w') := hid (fun wx hx => by have h0 := (HY.out.later hx).entries; rw [hn5] at h0; exact h0)
                    have HSm : Hid (∀ wx vv, Below wc.heap.size wc wx → EntsAt wx vv g'.L → Calls Tryz.prog 21 #[vv, .slice aw g.L.length cw] wx fun e w' => e = .returned (.bool false) ∧ Below wx.heap.size wx w') := hid (fun wx vv hx hv => by have h0 := (HY.out.later hx).same hv; rw [decide_eq_false ne] at h0; exact h0)
                    clear eh enx ne hn5 hj
                    go_upto_region 38 with (fail)
                    go_cut [177] (fun c wx => c = .bool false ∧ Hid (Below wc.heap.size wc wx))
                    case first =>
                      as_aux_lemma =>
                      go_region_held3 (fun wx => wx.cell? ⟨H, 0, none⟩ = some (.int .i64 g.hd.term) ∧ wx.cell? ⟨H, 1, none⟩ = some (.int .i64 g.hd.vote) ∧ wx.cell? ⟨N, 0, none⟩ = some (.int .i64 next.term) ∧ wx.cell? ⟨N, 1, none⟩ = some (.int .i64 next.vote))
                        (with_reducible exact HBx.out _ hbk)
                        (first | (go_at_call 20; (with_reducible refine (HHd.out _ hbk).mono ?_); rintro e wk ⟨rfl, hbn⟩; have hbk := hbk.trans (hbn.mono hbk.size); clear hbn) | (go_at_call 22; (with_reducible refine (HEn.out _ hbk).mono ?_); rintro e wk ⟨ao5, cap5, rfl, hv5, hbn⟩; have hbk := hbk.trans (hbn.mono hbk.size); have HSm5 := hid (HSm.out _ _ hbk hv5.out); clear hbn) | (go_at_call 21; (with_reducible refine HSm5.out.mono ?_); rintro e wk ⟨rfl, hbn⟩; have hbk := hbk.trans (hbn.mono hbk.size); clear hbn))
                      all_goals
                        go_wp2
                        go_meet
                        case rel => exact ⟨rfl, hid hbk⟩
                    case rest =>
                      as_aux_lemma =>
                      obtain ⟨rfl, hbc⟩ := hcut
                      have hbk := hbc.out
                      clear hbc y0 y1 y2 y3
                      clear HSm
                      go_upto_region 40 with (fail)
                      have hbk := hbk.drew
                      obtain ⟨x4, x5, x6, x7⟩ := HBx.out _ hbk
                      first | (go_region_with ((go_at_call 20; (with_reducible refine (HHd.out _ hbk).mono ?_); rintro e wk ⟨rfl, hbn⟩; have hbk := hbk.trans (hbn.mono hbk.size); obtain ⟨x0, x1, x2, x3⟩ := HBx.out _ hbk; clear hbn))) | (fail "region 40")
                      all_goals
                        go_wp2_with (first | (go_at_call 22; (with_reducible refine (HEn.out _ hbk).mono ?_); rintro e wk ⟨ao6, cap6, rfl, hv6, hbn⟩; have hbk := hbk.trans (hbn.mono hbk.size); have HBg6 := hid (HBg.out _ _ hbk hv6.out); clear hbn) | (go_at_call 35; (with_reducible refine HBg6.out.mono ?_); rintro e wk ⟨rfl, hbn⟩; have hbk := hbk.trans (hbn.mono hbk.size); clear hbn))
                        go_ret
                        exact ⟨rfl, HY.out.f.below.trans (hbk.mono HY.out.f.below.size)⟩
                  · have hq : (next.term == g.hd.term) = false := beq_false_of_ne ne
                    have HHd : Hid (∀ wx, Below wc.heap.size wc wx → Calls Tryz.prog 20 #[.pointer (some ⟨p5, 0, none⟩)] wx fun e w' => e = .returned (.agg #[.int .i64 next.term, .int .i64 next.vote]) ∧ Below wx.heap.size wx w') := hid (fun wx hx => by have h0 := (HY.out.later hx).hard; rw [eh] at h0; exact h0)
                    have HEn : Hid (∀ wx, Below wc.heap.size wc wx → Calls Tryz.prog 22 #[.pointer (some ⟨p5, 0, none⟩)] wx fun e w' => ∃ ao cap, e = .returned (.slice ao n5 cap) ∧ Hid (EntsAt w' (.slice ao n5 cap) g'.L) ∧ Below wx.heap.size wx w') := hid (fun wx hx => by have h0 := (HY.out.later hx).entries; rw [hn5] at h0; exact h0)
                    clear eh ne hn5 hj
                    go_upto_region 38 with (fail)
                    go_cut [177] (fun c wx => c = .bool false ∧ Hid (Below wc.heap.size wc wx))
                    case first =>
                      as_aux_lemma =>
                      obtain ⟨x4, x5, x6, x7⟩ := HBx.out _ hbk
                      first | (go_region_with ((go_at_call 20; (with_reducible refine (HHd.out _ hbk).mono ?_); rintro e wk ⟨rfl, hbn⟩; have hbk := hbk.trans (hbn.mono hbk.size); obtain ⟨x0, x1, x2, x3⟩ := HBx.out _ hbk; clear hbn))) | (fail "region 40")
                      all_goals
                        go_wp2
                        go_meet
                        case rel => exact ⟨rfl, hid hbk⟩
                    case rest =>
                      as_aux_lemma =>
                      obtain ⟨rfl, hbc⟩ := hcut
                      have hbk := hbc.out
                      clear hbc y0 y1 y2 y3
                      go_upto_region 40 with (fail)
                      have hbk := hbk.drew
                      obtain ⟨x4, x5, x6, x7⟩ := HBx.out _ hbk
                      go_region_held3 (fun wx => wx.cell? ⟨H, 0, none⟩ = some (.int .i64 g.hd.term) ∧ wx.cell? ⟨H, 1, none⟩ = some (.int .i64 g.hd.vote) ∧ wx.cell? ⟨N, 0, none⟩ = some (.int .i64 next.term) ∧ wx.cell? ⟨N, 1, none⟩ = some (.int .i64 next.vote))
                        (with_reducible exact HBx.out _ hbk)
                        (first | (go_at_call 20; (with_reducible refine (HHd.out _ hbk).mono ?_); rintro e wk ⟨rfl, hbn⟩; have hbk := hbk.trans (hbn.mono hbk.size); clear hbn))
                      all_goals
                        go_wp2_with (first | (go_at_call 22; (with_reducible refine (HEn.out _ hbk).mono ?_); rintro e wk ⟨ao6, cap6, rfl, hv6, hbn⟩; have hbk := hbk.trans (hbn.mono hbk.size); have HBg6 := hid (HBg.out _ _ hbk hv6.out); clear hbn) | (go_at_call 35; (with_reducible refine HBg6.out.mono ?_); rintro e wk ⟨rfl, hbn⟩; have hbk := hbk.trans (hbn.mono hbk.size); clear hbn))
                        go_ret
                        exact ⟨rfl, HY.out.f.below.trans (hbk.mono HY.out.f.below.size)⟩
                  · have hq : (next.vote == g.hd.vote) = false := beq_false_of_ne ne
                    have HBx := hid (fun wx (hx : Below wc.heap.size wc wx) => (show wx.cell? ⟨H, 0, none⟩ = some (.int .i64 g.hd.term) ∧ wx.cell? ⟨H, 1, none⟩ = some (.int .i64 g.hd.vote) ∧ wx.cell? ⟨N, 0, none⟩ = some (.int .i64 g.hd.term) ∧ wx.cell? ⟨N, 1, none⟩ = some (.int .i64 next.vote) from by have h0 := HBx.out wx hx; rw [et] at h0; exact h0))
                    have HHd : Hid (∀ wx, Below wc.heap.size wc wx → Calls Tryz.prog 20 #[.pointer (some ⟨p5, 0, none⟩)] wx fun e w' => e = .returned (.agg #[.int .i64 g.hd.term, .int .i64 next.vote]) ∧ Below wx.heap.size wx w') := hid (fun wx hx => by have h0 := (HY.out.later hx).hard; rw [eh, et] at h0; exact h0)
                    have HEn : Hid (∀ wx, Below wc.heap.size wc wx → Calls Tryz.prog 22 #[.pointer (some ⟨p5, 0, none⟩)] wx fun e w' => ∃ ao cap, e = .returned (.slice ao n5 cap) ∧ Hid (EntsAt w' (.slice ao n5 cap) g'.L) ∧ Below wx.heap.size wx w') := hid (fun wx hx => by have h0 := (HY.out.later hx).entries; rw [hn5] at h0; exact h0)
                    clear eh et ne hn5 hj y0 y1 y2 y3
                    go_upto_region 38 with (fail)
                    go_cut [177] (fun c wx => c = .bool false ∧ Hid (Below wc.heap.size wc wx))
                    case first =>
                      as_aux_lemma =>
                      obtain ⟨x4, x5, x6, x7⟩ := HBx.out _ hbk
                      first | (go_region_with ((go_at_call 20; (with_reducible refine (HHd.out _ hbk).mono ?_); rintro e wk ⟨rfl, hbn⟩; have hbk := hbk.trans (hbn.mono hbk.size); obtain ⟨x0, x1, x2, x3⟩ := HBx.out _ hbk; clear hbn))) | (fail "region 40")
                      all_goals
                        go_wp2
                        go_meet
                        case rel => exact ⟨rfl, hid hbk⟩
                    case rest =>
                      as_aux_lemma =>
                      obtain ⟨rfl, hbc⟩ := hcut
                      have hbk := hbc.out
                      clear hbc
                      go_upto_region 40 with (fail)
                      have hbk := hbk.drew
                      obtain ⟨x4, x5, x6, x7⟩ := HBx.out _ hbk
                      go_region_held3 (fun wx => wx.cell? ⟨H, 0, none⟩ = some (.int .i64 g.hd.term) ∧ wx.cell? ⟨H, 1, none⟩ = some (.int .i64 g.hd.vote) ∧ wx.cell? ⟨N, 0, none⟩ = some (.int .i64 g.hd.term) ∧ wx.cell? ⟨N, 1, none⟩ = some (.int .i64 next.vote))
                        (with_reducible exact HBx.out _ hbk)
                        (first | (go_at_call 20; (with_reducible refine (HHd.out _ hbk).mono ?_); rintro e wk ⟨rfl, hbn⟩; have hbk := hbk.trans (hbn.mono hbk.size); clear hbn))
                      all_goals
                        go_wp2_with (first | (go_at_call 22; (with_reducible refine (HEn.out _ hbk).mono ?_); rintro e wk ⟨ao6, cap6, rfl, hv6, hbn⟩; have hbk := hbk.trans (hbn.mono hbk.size); have HBg6 := hid (HBg.out _ _ hbk hv6.out); clear hbn) | (go_at_call 35; (with_reducible refine HBg6.out.mono ?_); rintro e wk ⟨rfl, hbn⟩; have hbk := hbk.trans (hbn.mono hbk.size); clear hbn))
                        go_ret
                        exact ⟨rfl, HY.out.f.below.trans (hbk.mono HY.out.f.below.size)⟩
end Go.Proofs.YtbidglefddmjhaaGreatDoor

