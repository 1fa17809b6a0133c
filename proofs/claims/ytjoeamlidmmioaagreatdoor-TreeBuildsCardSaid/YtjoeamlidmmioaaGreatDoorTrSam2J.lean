import Derived.Test.YtjoeamlidmmioaaGreatDoorTrSameJ
import Derived.Deep.RegionLaw
import Derived.StillTailTactics
/-
  LAYER 12 (tree), THE LAWS' OWN HELPERS: same, of a tree and one that is it or that is cut short of it.
-/
namespace Go.Proofs.YtjoeamlidmmioaaGreatDoor
open Go.RowKit
set_option linter.unusedVariables false
set_option maxRecDepth 100000

set_option maxHeartbeats 16000000 in
theorem same_any : ∀ (m : Nat) {w : World} {x y : NdV} {t u : Tr}, manyT t ≤ m → Trunc t u → NdAt w x t → RnAt w y u →
    Calls Tryz.prog 10 #[.agg #[.string (mk x.n), .slice x.a x.am x.ac, .string (mk x.t), .slice x.k x.km x.kc], .agg #[.string (mk y.n), .slice y.a y.am y.ac, .string (mk y.t), .slice y.k y.km y.kc]] w (SamePost w t u)
  | 0, w, x, y, t, u, hm, _, _, _ => by have := many_pos t; omega
  | m + 1, w, x, y, .nd tn ta tt tk, .nd un ua ut uk, hm, hTr, hx, hy => by
    obtain ⟨ha, hkk⟩ := hTr
    by_cases h3 : ta.length = ua.length
    case neg => exact same_len3 hx hy h3
    obtain rfl := ha h3
    by_cases h4 : tk.length = uk.length
    case neg => exact same_len4 hx hy rfl h4
    obtain ⟨a1, c1, k1, d1, rfl, r1, _, v1, q1⟩ := nd_open atTy_ok ndTy_ok rfl rfl hx
    obtain ⟨a2, c2, k2, d2, rfl, r2, _, _, q2⟩ := nd_open raTy_ok rdTy_ok rfl rfl hy
    simp only
    have hb0 : Below w.heap.size w ((w.alloc (.cells #[.string (mk tn), .slice a1 ta.length c1, .string (mk tt), .slice k1 tk.length d1] 30)).alloc (.cells #[.string (mk tn), .slice a2 ta.length c2, .string (mk tt), .slice k2 uk.length d2] 37)) := ((Below.refl _ _).alloc (Nat.le_refl _) _).alloc (by simp) _
    have hz1 : (w.alloc (.cells #[.string (mk tn), .slice a1 ta.length c1, .string (mk tt), .slice k1 tk.length d1] 30)).heap.size = w.heap.size + 1 := by simp
    have o1 : own ((w.alloc (.cells #[.string (mk tn), .slice a1 ta.length c1, .string (mk tt), .slice k1 tk.length d1] 30)).alloc (.cells #[.string (mk tn), .slice a2 ta.length c2, .string (mk tt), .slice k2 uk.length d2] 37)) w.heap.size #[.string (mk tn), .slice a1 ta.length c1, .string (mk tt), .slice k1 tk.length d1] 30 := own.same (own.new w _ _) (Below.heap_alloc _ _ _ (by rw [hz1]; omega))
    have o2 : own ((w.alloc (.cells #[.string (mk tn), .slice a1 ta.length c1, .string (mk tt), .slice k1 tk.length d1] 30)).alloc (.cells #[.string (mk tn), .slice a2 ta.length c2, .string (mk tt), .slice k2 uk.length d2] 37)) (w.heap.size + 1) #[.string (mk tn), .slice a2 ta.length c2, .string (mk tt), .slice k2 uk.length d2] 37 := by rw [← hz1]; exact own.new _ _ _
    have e1 : ((mk tn).toList == (mk tn).toList) = true := beq_self_eq_true _
    have e2 : ((mk tt).toList == (mk tt).toList) = true := beq_self_eq_true _
    have e3 : ((ta.length : Int) == (ta.length : Int)) = true := beq_self_eq_true _
    rw [← h4] at o2 o1 hb0 ⊢
    have e4 : ((tk.length : Int) == (tk.length : Int)) = true := beq_self_eq_true _
    have HKK := hid hkk
    clear h3 ha hkk
    have H4 := hid h4
    clear h4
    have HO : Hid (∀ wr, Below (w.heap.size + 2) ((w.alloc (.cells #[.string (mk tn), .slice a1 ta.length c1, .string (mk tt), .slice k1 tk.length d1] 30)).alloc (.cells #[.string (mk tn), .slice a2 ta.length c2, .string (mk tt), .slice k2 tk.length d2] 37)) wr → Below w.heap.size w wr ∧ wr.cell? ⟨w.heap.size, 1, none⟩ = some (.slice a1 ta.length c1) ∧ wr.cell? ⟨w.heap.size, 3, none⟩ = some (.slice k1 tk.length d1) ∧ wr.cell? ⟨w.heap.size + 1, 1, none⟩ = some (.slice a2 ta.length c2) ∧ wr.cell? ⟨w.heap.size + 1, 3, none⟩ = some (.slice k2 tk.length d2)) := hid (fun wr hb => by
      have o1' := o1.same (hb.block _ (by omega))
      have o2' := o2.same (hb.block _ (by omega))
      exact ⟨hb0.trans (hb.mono (by omega)), by rw [o1'.cell]; rfl, by rw [o1'.cell]; rfl, by rw [o2'.cell]; rfl, by rw [o2'.cell]; rfl⟩)
    have z0 := o1.cell 0
    have z1 := o1.cell 1
    have z2 := o1.cell 2
    have z3 := o1.cell 3
    have y0 := o2.cell 0
    have y1 := o2.cell 1
    have y2 := o2.cell 2
    have y3 := o2.cell 3
    simp only [List.getElem?_toArray, List.getElem?_cons_zero, List.getElem?_cons_succ] at z0 z1 z2 z3 y0 y1 y2 y3
    have HLA : Hid (ta.length ≤ 9223372036854775807) := hid (by
      obtain ⟨_, cap, _, q2, _, q3, _⟩ := r1
      unfold maxLen at q3; omega)
    have HLK : Hid (tk.length ≤ 9223372036854775807) := hid (by
      obtain ⟨V, q, ql, _⟩ := v1
      obtain ⟨_, cap, _, q2, _, q3, _⟩ := q
      unfold maxLen at q3; omega)
    obtain ⟨_, _, e, g1⟩ := ats_at r1
    simp only [Value.slice.injEq] at e
    obtain ⟨rfl, -, rfl⟩ := e
    obtain ⟨_, _, e, g2⟩ := ras_at r2
    simp only [Value.slice.injEq] at e
    obtain ⟨rfl, -, rfl⟩ := e
    have G1 := hid g1
    have G2 := hid g2
    have Q1 := hid q1
    have Q2 := hid q2
    have HM := hid hm
    clear o1 o2 r1 r2 q1 q2 hx hy hm g1 g2 hz1 hb0 v1
    go_enter Tryz.func10, Tryz.ntmps10
    go_wp2
    clear z0 z1 z2 z3 y0 y1 y2 y3 e1 e2
    have hzW : ((w.alloc (.cells #[.string (mk tn), .slice a1 ta.length c1, .string (mk tt), .slice k1 tk.length d1] 30)).alloc (.cells #[.string (mk tn), .slice a2 ta.length c2, .string (mk tt), .slice k2 tk.length d2] 37)).heap.size = w.heap.size + 2 := by simp
    generalize (w.alloc (.cells #[.string (mk tn), .slice a1 ta.length c1, .string (mk tt), .slice k1 tk.length d1] 30)).alloc (.cells #[.string (mk tn), .slice a2 ta.length c2, .string (mk tt), .slice k2 tk.length d2] 37) = W0 at *
    rw [← hzW] at HO
    have HZ := hid hzW
    clear hzW
    go_loopw [5] (SmRel W0 ta ta) (fun i _ => ta.length - (intOf i).toNat)
    case atStart => exact ⟨0, Nat.zero_le _, rfl, Below.refl _ _, hid rfl⟩
    case round =>
      obtain ⟨k, hk, rfl, hb, HK⟩ := hrel
      obtain ⟨hbw, z1, z3, y1, y3⟩ := HO.out wr hb
      have HB := hid hb
      have HBW := hid hbw
      clear hb
      by_cases hlt : k < ta.length
      · have hkI : (k : Int) < (ta.length : Int) := by omega
        have hwr : wrap64 ((k : Int) + 1) = (k : Int) + 1 := by have := HLA.out; unfold wrap64; omega
        have hx : ta[k]? = some ta[k] := by simp [hlt]
        generalize ta[k] = p at hx
        obtain ⟨sb, so, rfl, f1⟩ := G1.out k p hx
        obtain ⟨sc, sd, rfl, f2⟩ := G2.out k p hx
        obtain ⟨x4, x5⟩ := f1 _ hbw
        obtain ⟨y4, y5⟩ := f2 _ hbw
        have HQ := hid (fun nq => below_drew HB.out nq)
        have q0 : ((mk p.n).toList == (mk p.n).toList) = true := beq_self_eq_true _
        have q1 : ((mk p.v).toList == (mk p.v).toList) = true := beq_self_eq_true _
        clear hx f1 f2 hbw HK
        as_aux_lemma =>
        go_wp2
        go_quiet (fail)
        all_goals
          have hbd := HQ.out nq
          go_wp2
          go_roundw
          case rel => exact ⟨k + 1, by omega, by go_num, hbd, hid rfl⟩
          case measure =>
            show ta.length - (intOf (.int .i64 (wrap64 ((k : Int) + 1)))).toNat < ta.length - (intOf (.int .i64 (k : Int))).toNat
            rw [hwr]; simp only [intOf]; omega
      · obtain rfl : k = ta.length := by omega
        clear HK
        as_aux_lemma =>
        go_wp2
        go_loopw [6] (SmRel W0 tk uk) (fun i _ => tk.length - (intOf i).toNat)
        case atStart => exact ⟨0, Nat.zero_le _, rfl, HB.out, hid rfl⟩
        case round =>
          clear HB HBW hbw z1 z3 y1 y3 G1 G2
          obtain ⟨k, hk, rfl, hb, HK⟩ := hrel
          obtain ⟨hbw, z1, z3, y1, y3⟩ := HO.out wr hb
          have HB := hid hb
          have HBW := hid hbw
          clear hb
          by_cases hlt : k < tk.length
          · have hkI : (k : Int) < (tk.length : Int) := by omega
            have hwr : wrap64 ((k : Int) + 1) = (k : Int) + 1 := by have := HLK.out; unfold wrap64; omega
            have hx : tk[k]? = some tk[k] := by simp [hlt]
            have hy : uk[k]? = some (uk[k]'(by rw [← H4.out]; exact hlt)) := by simp
            generalize tk[k] = p at hx
            generalize (uk[k]'(by rw [← H4.out]; exact hlt)) = q at hy
            obtain ⟨y1v, sb, so, rfl, n1, f1⟩ := Q1.out k p hx
            obtain ⟨y2v, sc, sd, rfl, n2, f2⟩ := Q2.out k q hy
            obtain ⟨x4, x5, x6, x7⟩ := f1 _ hbw
            obtain ⟨y4, y5, y6, y7⟩ := f2 _ hbw
            have hmk := many_kid (n := tn) (la := ta) (t := tt) hx
            have HC : Hid (∀ wx, Below wr.heap.size wr wx → Calls Tryz.prog 10 #[.agg #[.string (mk y1v.n), .slice y1v.a y1v.am y1v.ac, .string (mk y1v.t), .slice y1v.k y1v.km y1v.kc], .agg #[.string (mk y2v.n), .slice y2v.a y2v.am y2v.ac, .string (mk y2v.t), .slice y2v.k y2v.km y2v.kc]] wx (SamePost wx p q)) := hid (fun wx hb => same_any m (by have := HM.out; omega) (HKK.out k p q hx hy) (ndIn_below n1 (hbw.trans (hb.mono hbw.size))) (ndIn_below n2 (hbw.trans (hb.mono hbw.size))))
            have hd : Below wr.heap.size wr wr.drew := (Below.refl _ _).drew
            have HBn : Hid (∀ w2, Below wr.drew.heap.size wr.drew w2 → Below W0.heap.size W0 w2 ∧ Below w.heap.size w w2) := hid (fun w2 h2 => ⟨HB.out.trans ((hd.trans h2).mono HB.out.size), hbw.trans ((hd.trans h2).mono hbw.size)⟩)
            have HE : Hid (p = q → tk.take (k + 1) = uk.take (k + 1)) := hid (fun e => by subst e; exact take_next HK.out hx hy)
            have HF : Hid (p ≠ q → ((false = true) ↔ Tr.nd tn ta tt tk = .nd tn ta tt uk)) := hid (fun hne => ⟨(fun h => by cases h), fun h => absurd (by cases h; rw [hx] at hy; cases hy; rfl) hne⟩)
            clear hx hy f1 f2 n1 n2 hmk hbw
            as_aux_lemma =>
            go_wp2
            go_still_tail 10, (by kernel_rfl)
            change wpList _ _ _ _ _ wr.drew
            go_wp2_with (go_at_call 10; (with_reducible refine (HC.out _ hd).mono ?_))
            rintro e w2 ⟨r, rfl, hr, hb2⟩
            have HR := hid hr
            have HB2 := hid (HBn.out w2 hb2)
            clear hr hb2
            cases r with
            | false =>
              go_wp2
              go_ret
              exact ⟨false, rfl, HF.out (fun e => by cases HR.out.2 e), HB2.out.2⟩
            | true =>
              have HN := hid (HE.out (HR.out.1 rfl))
              have hb2 := HB2.out.1
              go_wp2
              go_roundw
              case rel => exact ⟨k + 1, by omega, by go_num, hb2, HN⟩
              case measure =>
                show tk.length - (intOf (.int .i64 (wrap64 ((k : Int) + 1)))).toNat < tk.length - (intOf (.int .i64 (k : Int))).toNat
                rw [hwr]; simp only [intOf]; omega
          · obtain rfl : k = tk.length := by omega
            have HT : Hid (Tr.nd tn ta tt tk = .nd tn ta tt uk) := hid (by
              have := HK.out
              rw [List.take_length, H4.out, List.take_length] at this
              rw [this])
            clear HK
            as_aux_lemma =>
            go_wp2
            go_ret
            exact ⟨true, rfl, ⟨fun _ => HT.out, fun _ => rfl⟩, HBW.out⟩
end Go.Proofs.YtjoeamlidmmioaaGreatDoor

