import Derived.Test.YtjoeamlidmmioaaGreatDoorMq6J
/-
  LAYER 12 (tree), THE DOCUMENT's: Build, walked.
-/
namespace Go.Proofs.YtjoeamlidmmioaaGreatDoor
open Go.RowKit
set_option linter.unusedVariables false
set_option maxRecDepth 100000

set_option maxHeartbeats 32000000 in
theorem refBuild_any {w : World} {v : Value} {L : List TkX} (h : RokAt w v L) (hL : L.length ≤ 100000) (hT : ∀ t ∈ L, t.t.length ≤ 100000) :
    Calls Tryz.prog 7 #[v] w (RbPost w (buildX L)) := by
  obtain ⟨a1, c1, rfl, t1⟩ := rks_at h
  have HT := hid t1
  have HTT := hid hT
  clear h t1 hT
  have hz1 : (w.alloc (.cells #[.string ⟨#[]⟩, .slice none 0 0, .string ⟨#[]⟩, .slice none 0 0] 37)).heap.size = w.heap.size + 1 := by simp
  have hI : RbIs w.heap.size w ((w.alloc (.cells #[.string ⟨#[]⟩, .slice none 0 0, .string ⟨#[]⟩, .slice none 0 0] 37)).alloc (.cells #[.string ⟨#[]⟩, .slice none 0 0, .string ⟨#[]⟩, .slice none 0 0] 37)) bdX0 none 0 0 [] nd0 := by
    refine ⟨((Below.refl _ _).alloc (Nat.le_refl _) _).alloc (by rw [hz1]; omega) _, own.same (own.new w _ _) (Below.heap_alloc _ _ _ (by rw [hz1]; omega)), ?_, rOwn_nil _, rfl, rfl, fun g e => by simp [Value.ownBlock] at e, fun i y e hy => by simp at hy, fun t ht => by cases ht⟩
    rw [← hz1]; exact own.new _ _ _
  have HI := hid hI
  clear hI hz1
  go_enter Tryz.func7, Tryz.ntmps7
  go_wp2
  go_loopw [4, 6, 7] (RbRel w.heap.size w L) (fun v isv i _ => L.length - (intOf i).toNat)
  case atStart => exact ⟨0, 0, 0, bdX0, none, [], nd0, Nat.zero_le _, rfl, rfl, rfl, rfl, HI, hid rfl, hid ⟨by simp [bdX0], fun e he => by simp [bdX0] at he, fun h => rfl⟩⟩
  case round =>
    obtain ⟨w4, rfl⟩ : ∃ w4, w4 = wr := ⟨wr, rfl⟩
    obtain ⟨k, n, cap, s, ao, V, rx, hk, rfl, rfl, rfl, rfl, hR, hF, hS⟩ := hrel
    clear HI
    have hb := hR.out.below
    by_cases hlt : k < L.length
    · have hkI : (k : Int) < (L.length : Int) := by omega
      have hx : L[k]? = some L[k] := by simp [hlt]
      have hdr : L.drop k = L[k] :: L.drop (k + 1) := List.drop_eq_getElem_cons hlt
      have htl : L[k].t.length ≤ 100000 := HTT.out _ (List.getElem_mem hlt)
      generalize L[k] = t at hx hdr htl
      rw [hdr] at hF
      obtain ⟨sb, so, aa, ac, rfl, r1, f1⟩ := HT.out k t hx
      obtain ⟨x0, x1, x2, x3⟩ := f1 _ hb
      have hbr : Below w4.heap.size w4 (w4.alloc (.cells #[.int .i64 t.k, .string (mk t.n), .slice aa t.as.length ac, .string (mk t.t)] 50)) := (Below.refl _ _).alloc (Nat.le_refl _) _
      have hq : own (w4.alloc (.cells #[.int .i64 t.k, .string (mk t.n), .slice aa t.as.length ac, .string (mk t.t)] 50)) w4.heap.size #[.int .i64 t.k, .string (mk t.n), .slice aa t.as.length ac, .string (mk t.t)] 50 := own.new w4 _ _
      have hR1 := rbIs_later hR.out hbr
      by_cases k1 : t.k = 1
      · --
        rw [k1] at x0 hbr hq hR1
        obtain ⟨op, rt⟩ := s
        have h20 := hS.out.h20
        simp only at h20
        have z0 := hq.cell 0
        have z1 := hq.cell 1
        have z2 := hq.cell 2
        simp only [List.getElem?_toArray, List.getElem?_cons_zero, List.getElem?_cons_succ] at z0 z1 z2
        have ow := hR1.res
        have u0 := ow.cell 0
        have u1 := ow.cell 1
        have u2 := ow.cell 2
        have u3 := ow.cell 3
        have v0 := ow.frozen 0
        have v1 := ow.frozen 1
        have v2 := ow.frozen 2
        have v3 := ow.frozen 3
        simp [ndCs, nd0] at u0 u1 u2 u3
        clear ow
        generalize hW1 : w4.alloc (.cells #[.int .i64 1, .string (mk t.n), .slice aa t.as.length ac, .string (mk t.t)] 50) = W1 at *
        by_cases hd : op.length = 20
        · have g20 : (20 : Int) ≤ (op.length : Int) := by omega
          have HEE := hid (rb_bad (er := 19) hF.out (by unfold takeX; rw [if_pos k1, if_pos hd]) (by decide))
          have HX := hid hR1
          clear hR1 hq hF hS hR hb hbr r1 f1 hx hdr
          go_wp2
          obtain ⟨q1, q2⟩ := rb_done HX.out (ndIn_zero _ _) HEE.out
          have c0 := q1.cell 0
          have c1 := q1.cell 1
          have c2 := q1.cell 2
          have c3 := q1.cell 3
          simp [ndCs] at c0 c1 c2 c3
          (try simp only [Exit.inBlock, Exit.then])
          refine bodyPost_ret (v := .tuple #[ndV nd0, .int .i64 19]) ?_ rfl q2
          rw [results_cell_tmp rfl]
          unfold ndV
          go_simp
          exact ⟨rfl, ⟨rfl, rfl, rfl⟩, rfl, rfl, rfl, rfl⟩
        · cases op with
          | nil =>
            cases rt with
            | some u =>
              have HEE := hid (rb_bad (er := 8) hF.out (by unfold takeX; rw [if_pos k1, if_neg hd]; rfl) (by decide))
              have HX := hid hR1
              clear hR1 hq hF hS hR hb hbr r1 f1 hx hdr
              simp only [List.length_nil, Option.isSome_some] at *
              go_wp2
              obtain ⟨q1, q2⟩ := rb_done HX.out (ndIn_zero _ _) HEE.out
              have c0 := q1.cell 0
              have c1 := q1.cell 1
              have c2 := q1.cell 2
              have c3 := q1.cell 3
              simp [ndCs] at c0 c1 c2 c3
              (try simp only [Exit.inBlock, Exit.then])
              refine bodyPost_ret (v := .tuple #[ndV nd0, .int .i64 8]) ?_ rfl q2
              rw [results_cell_tmp rfl]
              unfold ndV
              go_simp
              exact ⟨rfl, ⟨rfl, rfl, rfl⟩, rfl, rfl, rfl, rfl⟩
            | none =>
              have hVl : V.length = 0 := hR1.len
              have HRM : Hid (∀ a2 b2 w2, RMid rdTy W1 w2 (.slice a2 (0 + 1) b2) (V ++ [⟨t.n, aa, t.as.length, ac, [], none, 0, 0⟩]) → ∀ i, i = .int .i64 ((k + 1 : Nat) : Int) → RbRel w.heap.size w L (.slice a2 (0 + 1) b2) (.bool false) i w2) := hid (fun a2 b2 w2 hm i hi => by
                have hT : takeX ⟨[], none⟩ t = (0, ⟨⟨t.n, t.as, [], []⟩ :: [], none⟩) := by unfold takeX; rw [if_pos k1, if_neg hd]; rfl
                refine ⟨k + 1, _, b2, ⟨⟨t.n, t.as, [], []⟩ :: [], none⟩, a2, _, rx, by omega, hi, rfl, rfl, rfl, hid (rb_begin hR1 ((r1.below hb).below hbr) (fun hne g hg => two_of r1 hne g hg) hm (by rw [hVl])), hid (by rw [hF.out, foldX_cons hT]), hid ⟨by (simp at hd h20 ⊢) <;> omega, fun e' he' => ?_, fun h => by cases h⟩⟩
                rcases List.mem_cons.1 he' with q | q
                · subst q; simp
                · have := hS.out.hw e' q
                  exact ⟨by omega, by omega⟩)
              obtain ⟨⟨aA, bA, wA, aA2, bA2, wA2, PA⟩, ⟨aB, bB, wB, aB2, bB2, wB2, PB⟩, ⟨aC, bC, wC, aC2, bC2, wC2, PC⟩⟩ := gput_runs rdTy_ok hR1.row.rAt (by rw [hVl]; (simp at h20 ⊢) <;> omega) ⟨t.n, aa, t.as.length, ac, [], none, 0, 0⟩ #[.string (mk t.n), .slice aa t.as.length ac, .string ⟨#[]⟩, .slice none 0 0] rfl
              have eA := hid PA.e1
              have hA := hid PA.e2
              have eB := hid PB.e1
              have hB := hid PB.e2
              have eC := hid PC.e1
              have hC := hid PC.e2
              have HRA := hid PA.row
              have HRB := hid PB.row
              have HRC := hid PC.row
              simp only [hVl, if_true, if_false, Bool.false_eq_true] at eA hA eB hB eC hC HRA HRB HRC
              dsimp only [rdTy] at eA hA eB hB eC hC
              have hoxA := hq.same (PA.b1w.block _ hq.lt)
              have hoxB := hq.same (PB.b1w.block _ hq.lt)
              have hoxC := hq.same (PC.b1w.block _ hq.lt)
              have oA1 := hoxA.cell 1
              have oA2 := hoxA.cell 2
              have oB1 := hoxB.cell 1
              have oB2 := hoxB.cell 2
              have oC1 := hoxC.cell 1
              have oC2 := hoxC.cell 2
              simp only [List.getElem?_toArray, List.getElem?_cons_zero, List.getElem?_cons_succ] at oA1 oA2 oB1 oB2 oC1 oC2
              have hoxL : w4.heap.size < W1.heap.size := hq.lt
              have b1 : ∀ o, Below W1.heap.size W1 (W1.alloc o) := fun o => (Below.refl _ _).alloc (Nat.le_refl _) _
              have oa1 := fun o => ((b1 o).cell (p := ⟨w4.heap.size, 1, none⟩) hoxL).trans z1
              have oa2 := fun o => ((b1 o).cell (p := ⟨w4.heap.size, 2, none⟩) hoxL).trans z2
              clear PA PB PC hR1 hq hF hS hR hb hbr r1 f1 hx hdr b1 hoxL hoxA hoxB hoxC u0 u1 u2 u3 v0 v1 v2 v3
              simp only [List.length_nil, Option.isSome_none] at *
              go_wp2
              go_region_law (first
                | (refine step_append_at eA.out (by with_reducible rfl) rfl _ _ rfl rfl rfl rfl ?_)
                | (refine step_append_at hA.out (by with_reducible rfl) rfl _ _ rfl rfl rfl rfl ?_)
                | (refine step_append_at eB.out (by with_reducible rfl) rfl _ _ rfl rfl rfl rfl ?_)
                | (refine step_append_at hB.out (by with_reducible rfl) rfl _ _ rfl rfl rfl rfl ?_)
                | (refine step_append_at eC.out (by with_reducible rfl) rfl _ _ rfl rfl rfl rfl ?_)
                | (refine step_append_at hC.out (by with_reducible rfl) rfl _ _ rfl rfl rfl rfl ?_))
              all_goals
                go_wp2
                go_roundw
                case rel => first | exact HRM.out _ _ _ HRA.out _ (by go_num) | exact HRM.out _ _ _ HRB.out _ (by go_num) | exact HRM.out _ _ _ HRC.out _ (by go_num)
                case measure => simp [intOf]; omega
          | cons e st =>
            have hrt : rt = none := by
              cases rt with
              | none => rfl
              | some u => have := hS.out.hrt rfl; cases this
            subst hrt
            have hVl : V.length = (st.length + 1) := hR1.len
            have HRM : Hid (∀ a2 b2 w2, RMid rdTy W1 w2 (.slice a2 ((st.length + 1) + 1) b2) (V ++ [⟨t.n, aa, t.as.length, ac, [], none, 0, 0⟩]) → ∀ i, i = .int .i64 ((k + 1 : Nat) : Int) → RbRel w.heap.size w L (.slice a2 ((st.length + 1) + 1) b2) (.bool false) i w2) := hid (fun a2 b2 w2 hm i hi => by
              have hT : takeX ⟨(e :: st), none⟩ t = (0, ⟨⟨t.n, t.as, [], []⟩ :: (e :: st), none⟩) := by unfold takeX; rw [if_pos k1, if_neg hd]; rfl
              refine ⟨k + 1, _, b2, ⟨⟨t.n, t.as, [], []⟩ :: (e :: st), none⟩, a2, _, rx, by omega, hi, rfl, rfl, rfl, hid (rb_begin hR1 ((r1.below hb).below hbr) (fun hne g hg => two_of r1 hne g hg) hm (by rw [hVl])), hid (by rw [hF.out, foldX_cons hT]), hid ⟨by (simp at hd h20 ⊢) <;> omega, fun e' he' => ?_, fun h => by cases h⟩⟩
              rcases List.mem_cons.1 he' with q | q
              · subst q; simp
              · have := hS.out.hw e' q
                exact ⟨by omega, by omega⟩)
            obtain ⟨⟨aA, bA, wA, aA2, bA2, wA2, PA⟩, ⟨aB, bB, wB, aB2, bB2, wB2, PB⟩, ⟨aC, bC, wC, aC2, bC2, wC2, PC⟩⟩ := gput_runs rdTy_ok hR1.row.rAt (by rw [hVl]; (simp at h20 ⊢) <;> omega) ⟨t.n, aa, t.as.length, ac, [], none, 0, 0⟩ #[.string (mk t.n), .slice aa t.as.length ac, .string ⟨#[]⟩, .slice none 0 0] rfl
            have eA := hid PA.e1
            have hA := hid PA.e2
            have eB := hid PB.e1
            have hB := hid PB.e2
            have eC := hid PC.e1
            have hC := hid PC.e2
            have HRA := hid PA.row
            have HRB := hid PB.row
            have HRC := hid PC.row
            simp only [hVl, if_true, if_false, Bool.false_eq_true] at eA hA eB hB eC hC HRA HRB HRC
            dsimp only [rdTy] at eA hA eB hB eC hC
            have hoxA := hq.same (PA.b1w.block _ hq.lt)
            have hoxB := hq.same (PB.b1w.block _ hq.lt)
            have hoxC := hq.same (PC.b1w.block _ hq.lt)
            have oA1 := hoxA.cell 1
            have oA2 := hoxA.cell 2
            have oB1 := hoxB.cell 1
            have oB2 := hoxB.cell 2
            have oC1 := hoxC.cell 1
            have oC2 := hoxC.cell 2
            simp only [List.getElem?_toArray, List.getElem?_cons_zero, List.getElem?_cons_succ] at oA1 oA2 oB1 oB2 oC1 oC2
            have hoxL : w4.heap.size < W1.heap.size := hq.lt
            have b1 : ∀ o, Below W1.heap.size W1 (W1.alloc o) := fun o => (Below.refl _ _).alloc (Nat.le_refl _) _
            have oa1 := fun o => ((b1 o).cell (p := ⟨w4.heap.size, 1, none⟩) hoxL).trans z1
            have oa2 := fun o => ((b1 o).cell (p := ⟨w4.heap.size, 2, none⟩) hoxL).trans z2
            clear PA PB PC hR1 hq hF hS hR hb hbr r1 f1 hx hdr b1 hoxL hoxA hoxB hoxC u0 u1 u2 u3 v0 v1 v2 v3
            have hs20 : st.length ≤ 20 := by simp at h20; omega
            have g20 : ¬ ((20 : Int) ≤ (st.length : Int) + 1) := by simp at hd h20; omega
            have g0 : (((st.length : Int) + 1) == 0) = false := by rw [beq_eq_false_iff_ne]; omega
            simp only [List.length_cons, Option.isSome_none] at *
            go_wp2
            go_region_law (first
              | (refine step_append_at eA.out (by with_reducible rfl) rfl _ _ rfl rfl rfl rfl ?_)
              | (refine step_append_at hA.out (by with_reducible rfl) rfl _ _ rfl rfl rfl rfl ?_)
              | (refine step_append_at eB.out (by with_reducible rfl) rfl _ _ rfl rfl rfl rfl ?_)
              | (refine step_append_at hB.out (by with_reducible rfl) rfl _ _ rfl rfl rfl rfl ?_)
              | (refine step_append_at eC.out (by with_reducible rfl) rfl _ _ rfl rfl rfl rfl ?_)
              | (refine step_append_at hC.out (by with_reducible rfl) rfl _ _ rfl rfl rfl rfl ?_))
            all_goals
              go_wp2
              go_roundw
              case rel => first | exact HRM.out _ _ _ HRA.out _ (by go_num) | exact HRM.out _ _ _ HRB.out _ (by go_num) | exact HRM.out _ _ _ HRC.out _ (by go_num)
              case measure => simp [intOf]; omega
      · have n1 : ((t.k : Int) == 1) = false := beq_eq_false_iff_ne.2 k1
        by_cases k2 : t.k = 2
        · rw [k2] at x0 hbr hq hR1
          obtain ⟨op, rt⟩ := s
          cases op with
          | nil =>
            have HEE := hid (rb_bad (er := 8) hF.out (by unfold takeX; rw [if_neg k1, if_pos k2]) (by decide))
            have z0 := hq.cell 0
            have z1 := hq.cell 1
            simp only [List.getElem?_toArray, List.getElem?_cons_zero, List.getElem?_cons_succ] at z0 z1
            have HR1 := hid hR1
            have HD := hid (fun nq => below_drew (Below.refl (w4.alloc (.cells #[.int .i64 2, .string (mk t.n), .slice aa t.as.length ac, .string (mk t.t)] 50)).heap.size (w4.alloc (.cells #[.int .i64 2, .string (mk t.n), .slice aa t.as.length ac, .string (mk t.t)] 50))) nq)
            generalize hW1 : w4.alloc (.cells #[.int .i64 2, .string (mk t.n), .slice aa t.as.length ac, .string (mk t.t)] 50) = W1 at *
            clear hR1 hq hF hS hR hb hbr r1 f1 hx hdr
            simp only [List.length_nil] at *
            go_wp2
            go_quiet (fail)
            all_goals
              have HX := hid (rbIs_later HR1.out (HD.out nq))
              generalize W1.drewN nq = W2 at *
              have ow := HX.out.res
              have u0 := ow.cell 0
              have u1 := ow.cell 1
              have u2 := ow.cell 2
              have u3 := ow.cell 3
              have v0 := ow.frozen 0
              have v1 := ow.frozen 1
              have v2 := ow.frozen 2
              have v3 := ow.frozen 3
              simp [ndCs, nd0] at u0 u1 u2 u3
              clear ow
              go_wp2
              obtain ⟨q1, q2⟩ := rb_done HX.out (ndIn_zero _ _) HEE.out
              have c0 := q1.cell 0
              have c1 := q1.cell 1
              have c2 := q1.cell 2
              have c3 := q1.cell 3
              simp [ndCs] at c0 c1 c2 c3
              (try simp only [Exit.inBlock, Exit.then])
              refine bodyPost_ret (v := .tuple #[ndV nd0, .int .i64 8]) ?_ rfl q2
              rw [results_cell_tmp rfl]
              unfold ndV
              go_simp
              exact ⟨rfl, ⟨rfl, rfl, rfl⟩, rfl, rfl, rfl, rfl⟩
          | cons e st =>
            obtain ⟨x, hxv, hxd⟩ := rb_last hR1 rfl
            obtain ⟨xa, xac, xk, xkc, hxe, -⟩ := nd_open raTy_ok rdTy_ok rfl rfl hxd
            have hlen := hR1.len
            simp only [List.length_cons] at hlen
            obtain ⟨g, rfl, hg, hcell, hfr⟩ := hR1.row.at rdTy_ok (by omega)
            have y0 := hcell st.length x hxv 0 _ rfl
            have y1 := hcell st.length x hxv 1 _ rfl
            have y2 := hcell st.length x hxv 2 _ rfl
            have y3 := hcell st.length x hxv 3 _ rfl
            simp only [rdTy, Nat.add_zero] at y0 y1 y2 y3
            have z0 := hq.cell 0
            have z1 := hq.cell 1
            have z2 := hq.cell 2
            have z3 := hq.cell 3
            simp only [List.getElem?_toArray, List.getElem?_cons_zero, List.getElem?_cons_succ] at z0 z1 z2 z3
            generalize hW1 : w4.alloc (.cells #[.int .i64 2, .string (mk t.n), .slice aa t.as.length ac, .string (mk t.t)] 50) = W1 at *
            by_cases hne : e.n = t.n
            · have q5 : ((mk x.n).toList == (mk t.n).toList) = true := by rw [hxe, hne]; simp
              have q5b : ((mk x.n).toList != (mk t.n).toList) = false := by simp only [bne, q5, Bool.not_true]
              have hw9 : IntKind.i64.wrap (((st.length + 1 : Nat) : Int) - 1) = (st.length : Int) := by rw [show ((st.length + 1 : Nat) : Int) - 1 = (st.length : Int) by omega]; exact IntWalk.i64_in _ (by have := hS.out.h20; simp at this; omega)
              have HD := hid (fun nq => below_drew (Below.refl W1.heap.size W1) nq)
              have HR1 := hid hR1
              have hw8 : IntKind.i64.wrap ((st.length : Int) + 1 - 1) = (st.length : Int) := by rw [show (st.length : Int) + 1 - 1 = (st.length : Int) by omega]; exact IntWalk.i64_in _ (by have := hS.out.h20; simp at this; omega)
              have hcap : st.length ≤ cap := by
                obtain ⟨_, _, e, h, _⟩ := hR1.row.slice
                simp only [Value.slice.injEq] at e
                obtain ⟨-, -, rfl⟩ := e
                omega
              have hs20 : st.length ≤ 20 := by have := hS.out.h20; simp at this; omega
              have hw7 : IntKind.i64.wrap (st.length : Int) = (st.length : Int) := IntWalk.i64_in _ (by omega)
              have hi7 : (st.length : Int) < (st.length : Int) + 1 := by omega
              have g0 : (((st.length : Int) + 1) == 0) = false := by rw [beq_eq_false_iff_ne]; omega
              have x18 := fun wx => run_to rdTy_ok wx (some ⟨g, 0, none⟩) (st.length + 1) cap st.length hcap (fun h => by cases h)
              dsimp only [rdTy] at x18
              clear hR1 hcell hfr hq
              go_wp2
              go_quiet (fail)
              all_goals
                have hbd := HD.out nq
                generalize W1.drewN nq = W2 at *
                have hR2 := rbIs_later HR1.out hbd
                clear y0 y1 y2 y3 z0 z1 z2 z3
                obtain ⟨_, e9, _, hcell, hfr⟩ := hR2.row.at rdTy_ok (by omega)
                cases e9
                have y0 := hcell st.length x hxv 0 _ rfl
                have y1 := hcell st.length x hxv 1 _ rfl
                have y2 := hcell st.length x hxv 2 _ rfl
                have y3 := hcell st.length x hxv 3 _ rfl
                simp only [rdTy, Nat.add_zero] at y0 y1 y2 y3
                cases st with
                | nil =>
                  have HREL : Hid (∀ w' x', RbIs w.heap.size w w' ⟨[], some (shutX e)⟩ (some ⟨g, 0, none⟩) 0 cap (V.take 0) x' → ∀ i, i = .int .i64 ((k + 1 : Nat) : Int) → RbRel w.heap.size w L (.slice (some ⟨g, 0, none⟩) 0 cap) (.bool true) i w') := hid (fun w' x' hR' i hi => by
                    have hT : takeX ⟨[e], rt⟩ t = (0, ⟨[], some (shutX e)⟩) := by
                      unfold takeX
                      rw [if_neg k1, if_pos k2]
                      simp only
                      rw [if_pos hne]
                      rfl
                    exact ⟨k + 1, 0, cap, ⟨[], some (shutX e)⟩, _, V.take 0, x', by omega, hi, rfl, rfl, rfl, hid hR', hid (by rw [hF.out, foldX_cons hT]), hid ⟨by simp, fun e' he' => by simp at he', fun h => rfl⟩⟩)
                  have HRR : Hid (∀ o, ∃ x', RbIs w.heap.size w (((((W2.alloc o).setCell ⟨w.heap.size + 1, 0, none⟩ (.string (mk t.n))).setCell ⟨w.heap.size + 1, 1, none⟩ (.slice xa e.as.length xac)).setCell ⟨w.heap.size + 1, 2, none⟩ (.string (mk e.ws.flatten))).setCell ⟨w.heap.size + 1, 3, none⟩ (.slice xk e.ks.length xkc)) ⟨[], some (shutX e)⟩ (some ⟨g, 0, none⟩) 0 cap (V.take 0) x') := hid (fun o => by
                    have hR3 := rbIs_later hR2 ((Below.refl W2.heap.size W2).alloc (Nat.le_refl _) o)
                    obtain ⟨x', hxv', hxd3⟩ := rb_last hR3 rfl
                    rw [show V[([] : List OpX).length]? = some x from hxv] at hxv'
                    cases hxv'
                    have h := rb_root (rb_cut hR3 rfl) (ndIn_same hxd3 (fun _ _ _ => rfl) (fun g h => h) (Nat.le_refl _))
                    rw [hxe] at h
                    simp only [hne] at h
                    exact ⟨_, h⟩)
                  have od : ∀ o, own (W2.alloc o) (w.heap.size + 1) (ndCs rx).toArray 37 := fun o => hR2.done.same (((Below.refl _ _).alloc (Nat.le_refl _) o).block _ hR2.done.lt)
                  have e0 : ∀ o, (W2.alloc o).cell? ⟨w.heap.size + 1, 0, none⟩ = some (.string (mk rx.n)) := fun o => by rw [(od o).cell 0]; rfl
                  have e1 : ∀ o, (W2.alloc o).cell? ⟨w.heap.size + 1, 1, none⟩ = some (.slice rx.a rx.am rx.ac) := fun o => by rw [(od o).cell 1]; rfl
                  have e2 : ∀ o, (W2.alloc o).cell? ⟨w.heap.size + 1, 2, none⟩ = some (.string (mk rx.t)) := fun o => by rw [(od o).cell 2]; rfl
                  have e3 : ∀ o, (W2.alloc o).cell? ⟨w.heap.size + 1, 3, none⟩ = some (.slice rx.k rx.km rx.kc) := fun o => by rw [(od o).cell 3]; rfl
                  have w0 := fun o => (od o).frozen 0
                  have w1 := fun o => (od o).frozen 1
                  have w2 := fun o => (od o).frozen 2
                  have w3 := fun o => (od o).frozen 3
                  clear od
                  simp only [List.length_nil, Nat.zero_add, Nat.zero_mul] at y0 y1 y2 y3
                  clear hR2 hcell hfr hF hS hR hb hbr r1 f1 hx hdr hbd
                  simp only [List.length_nil, Nat.zero_add] at *
                  go_wp2
                  go_roundw
                  case rel => exact HREL.out _ _ (HRR.out _).choose_spec _ (by go_num)
                  case measure => simp [intOf]; omega
                | cons d st2 =>
                  simp only [List.length_cons] at *
                  go_wp2
                  have hbx : Below W2.heap.size W2 (W2.alloc (.cells #[.string (mk t.n), .slice xa e.as.length xac, .string (mk e.ws.flatten), .slice xk e.ks.length xkc] 37)) := (Below.refl _ _).alloc (Nat.le_refl _) _
                  have hox : own (W2.alloc (.cells #[.string (mk t.n), .slice xa e.as.length xac, .string (mk e.ws.flatten), .slice xk e.ks.length xkc] 37)) W2.heap.size #[.string (mk t.n), .slice xa e.as.length xac, .string (mk e.ws.flatten), .slice xk e.ks.length xkc] 37 := own.new W2 _ _
                  have hR3 := rbIs_later hR2 hbx
                  obtain ⟨x', hxv', hxd3⟩ := rb_last hR3 rfl
                  have hxx : x' = x := by rw [show V[(d :: st2).length]? = some x from hxv] at hxv'; cases hxv'; rfl
                  subst hxx
                  have hR4 := rb_cut hR3 rfl
                  generalize hW3 : W2.alloc (.cells #[.string (mk t.n), .slice xa e.as.length xac, .string (mk e.ws.flatten), .slice xk e.ks.length xkc] 37) = W3 at *
                  obtain ⟨y, K, hy, hyn, hykm, hyr, hKl, hKX⟩ := rb_kids hR4 rfl
                  obtain ⟨_, e8, _, hcell4, hfr4⟩ := hR4.row.at rdTy_ok (by rw [hR4.len]; simp)
                  cases e8
                  have c3 := hcell4 st2.length y hy 3 _ rfl
                  simp only [rdTy] at c3
                  have hxs : NdIn raTy rdTy W3 (RbF w w.heap.size W3 (.slice (some ⟨g, 0, none⟩) (d :: st2).length cap)) x' (shutX e) := hxd3
                  have hKl2 : K.length ≤ 100000 := by
                    have := (hS.out.hw d (by simp)).2
                    omega
                  obtain ⟨⟨aA, bA, wA, aA2, bA2, wA2, PA⟩, ⟨aB, bB, wB, aB2, bB2, wB2, PB⟩, ⟨aC, bC, wC, aC2, bC2, wC2, PC⟩⟩ := gput_runs rdTy_ok hyr hKl2 x' #[.string (mk t.n), .slice xa e.as.length xac, .string (mk e.ws.flatten), .slice xk e.ks.length xkc] (by rw [hxe, hne]; rfl)
                  obtain ⟨_, e1A, cA, fA, RA⟩ := hKX x' (shutX e) _ _ _ _ hxs PA.row rfl
                  obtain ⟨_, e1B, cB, fB, RB⟩ := hKX x' (shutX e) _ _ _ _ hxs PB.row rfl
                  obtain ⟨_, e1C, cC, fC, RC⟩ := hKX x' (shutX e) _ _ _ _ hxs PC.row rfl
                  cases e1A
                  cases e1B
                  cases e1C
                  have eA := hid PA.e1
                  have hA := hid PA.e2
                  have eB := hid PB.e1
                  have hB := hid PB.e2
                  have eC := hid PC.e1
                  have hC := hid PC.e2
                  simp only [if_true, if_false, Bool.false_eq_true] at hA hB hC
                  dsimp only [rdTy] at eA hA eB hB eC hC
                  have HEND : Hid (∀ (w' : World) (V' : List NdV), RbIs w.heap.size w w' ⟨{ d with ks := d.ks ++ [shutX e] } :: st2, rt⟩ (some ⟨g, 0, none⟩) (d :: st2).length cap V' rx → ∀ i, i = .int .i64 ((k + 1 : Nat) : Int) → RbRel w.heap.size w L (.slice (some ⟨g, 0, none⟩) (st2.length + 1) cap) (.bool rt.isSome) i w') := hid (fun w' V' hR' i hi => by
                    have hT : takeX ⟨e :: d :: st2, rt⟩ t = (0, ⟨{ d with ks := d.ks ++ [shutX e] } :: st2, rt⟩) := by
                      unfold takeX
                      rw [if_neg k1, if_pos k2]
                      simp only
                      rw [if_pos hne]
                      rfl
                    refine ⟨k + 1, _, cap, ⟨{ d with ks := d.ks ++ [shutX e] } :: st2, rt⟩, _, V', rx, by omega, hi, rfl, rfl, rfl, hid hR', hid ?_, hid ⟨by have := hS.out.h20; simp at this ⊢; omega, fun e' he' => ?_, fun h => by have := hS.out.hrt h; cases this⟩⟩
                    · rw [hF.out, foldX_cons hT]
                    · rcases List.mem_cons.1 he' with q | q
                      · subst q
                        have := hS.out.hw d (by simp)
                        refine ⟨by have := this.1; show d.ws.flatten.length ≤ _; omega, by rw [List.length_append]; have := this.2; simp; omega⟩
                      · have := hS.out.hw e' (by simp [q])
                        exact ⟨by omega, by omega⟩)
                  have HRA := hid RA
                  have HRB := hid RB
                  have HRC := hid RC
                  have o0 := hox.cell 0
                  have o1 := hox.cell 1
                  have o2 := hox.cell 2
                  have o3 := hox.cell 3
                  simp only [List.getElem?_toArray, List.getElem?_cons_zero, List.getElem?_cons_succ] at o0 o1 o2 o3
                  have PAb := PA.b1w
                  have PBb := PB.b1w
                  have PCb := PC.b1w
                  have hoxA := hox.same (PAb.block _ hox.lt)
                  have hoxB := hox.same (PBb.block _ hox.lt)
                  have hoxC := hox.same (PCb.block _ hox.lt)
                  have oA0 := hoxA.cell 0
                  have oA1 := hoxA.cell 1
                  have oA2 := hoxA.cell 2
                  have oA3 := hoxA.cell 3
                  have oB0 := hoxB.cell 0
                  have oB1 := hoxB.cell 1
                  have oB2 := hoxB.cell 2
                  have oB3 := hoxB.cell 3
                  have oC0 := hoxC.cell 0
                  have oC1 := hoxC.cell 1
                  have oC2 := hoxC.cell 2
                  have oC3 := hoxC.cell 3
                  simp only [List.getElem?_toArray, List.getElem?_cons_zero, List.getElem?_cons_succ] at oA0 oA1 oA2 oA3 oB0 oB1 oB2 oB3 oC0 oC1 oC2 oC3
                  have hoxL : W2.heap.size < W3.heap.size := hox.lt
                  have b1 : ∀ o, Below W3.heap.size W3 (W3.alloc o) := fun o => (Below.refl _ _).alloc (Nat.le_refl _) _
                  have b2 : ∀ o o', Below W3.heap.size W3 ((W3.alloc o).alloc o') := fun o o' => (b1 o).alloc (b1 o).size _
                  have hg3 : g < W3.heap.size := hR4.row.lt g rfl
                  have oa0 := fun o => ((b1 o).cell (p := ⟨W2.heap.size, 0, none⟩) hoxL).trans o0
                  have oa1 := fun o => ((b1 o).cell (p := ⟨W2.heap.size, 1, none⟩) hoxL).trans o1
                  have oa2 := fun o => ((b1 o).cell (p := ⟨W2.heap.size, 2, none⟩) hoxL).trans o2
                  have oa3 := fun o => ((b1 o).cell (p := ⟨W2.heap.size, 3, none⟩) hoxL).trans o3
                  have ob0 := fun o o' => ((b2 o o').cell (p := ⟨W2.heap.size, 0, none⟩) hoxL).trans o0
                  have ob1 := fun o o' => ((b2 o o').cell (p := ⟨W2.heap.size, 1, none⟩) hoxL).trans o1
                  have ob2 := fun o o' => ((b2 o o').cell (p := ⟨W2.heap.size, 2, none⟩) hoxL).trans o2
                  have ob3 := fun o o' => ((b2 o o').cell (p := ⟨W2.heap.size, 3, none⟩) hoxL).trans o3
                  have c3a := fun o => ((b1 o).cell (p := ⟨g, st2.length * 4 + 3, none⟩) hg3).trans c3
                  have c3b := fun o o' => ((b2 o o').cell (p := ⟨g, st2.length * 4 + 3, none⟩) hg3).trans c3
                  have hi6 : (st2.length : Int) < (st2.length : Int) + 1 := by omega
                  have hw6 : IntKind.i64.wrap (st2.length : Int) = (st2.length : Int) := IntWalk.i64_in _ (by omega)
                  have hw5 : IntKind.i64.wrap ((st2.length : Int) + 1 + 1 - 2) = (st2.length : Int) := by rw [show (st2.length : Int) + 1 + 1 - 2 = (st2.length : Int) by omega]; exact IntWalk.i64_in _ (by omega)
                  clear PA PB PC RA RB RC hKX hxs hxd3 hR4 hcell4 hfr4 hyr hR3 hR2 hcell hfr hoxA hoxB hoxC hox hbx PAb PBb PCb b1 b2 hg3 hoxL hy hxd r1 f1 hyn hykm hKl
                  generalize y.km = ykm at *
                  generalize K.length = kl at *
                  go_region_law (first
                    | (refine step_append_at eA.out (by with_reducible rfl) rfl _ _ rfl rfl rfl rfl ?_)
                    | (refine step_append_at hA.out (by with_reducible rfl) rfl _ _ rfl rfl rfl rfl ?_)
                    | (refine step_append_at eB.out (by with_reducible rfl) rfl _ _ rfl rfl rfl rfl ?_)
                    | (refine step_append_at hB.out (by with_reducible rfl) rfl _ _ rfl rfl rfl rfl ?_)
                    | (refine step_append_at eC.out (by with_reducible rfl) rfl _ _ rfl rfl rfl rfl ?_)
                    | (refine step_append_at hC.out (by with_reducible rfl) rfl _ _ rfl rfl rfl rfl ?_))
                  all_goals
                    go_wp2
                    go_roundw
                    case rel => first | exact HEND.out _ _ HRA.out _ (by go_num) | exact HEND.out _ _ HRB.out _ (by go_num) | exact HEND.out _ _ HRC.out _ (by go_num)
                    case measure => simp [intOf]; omega
            · --
              have q5 : ((mk x.n).toList == (mk t.n).toList) = false := by rw [hxe]; exact eqb_no (fun q => hne q.symm)
              have q5c : ((mk e.n).toList == (mk t.n).toList) = false := eqb_no (fun q => hne q.symm)
              have q5d : ((mk e.n).toList != (mk t.n).toList) = true := by simp only [bne, q5c, Bool.not_false]
              have q5b : ((mk x.n).toList != (mk t.n).toList) = true := by simp only [bne, q5, Bool.not_false]
              have HEE := hid (rb_bad (er := 8) hF.out (by unfold takeX; rw [if_neg k1, if_pos k2]; simp only; rw [if_neg hne]) (by decide))
              have HD := hid (fun nq => below_drew (Below.refl W1.heap.size W1) nq)
              have HR1 := hid hR1
              have hw8 : IntKind.i64.wrap ((st.length : Int) + 1 - 1) = (st.length : Int) := by rw [show (st.length : Int) + 1 - 1 = (st.length : Int) by omega]; exact IntWalk.i64_in _ (by have := hS.out.h20; simp at this; omega)
              have hs20 : st.length ≤ 20 := by have := hS.out.h20; simp at this; omega
              have hw7 : IntKind.i64.wrap (st.length : Int) = (st.length : Int) := IntWalk.i64_in _ (by omega)
              have hi7 : (st.length : Int) < (st.length : Int) + 1 := by omega
              have g0 : (((st.length : Int) + 1) == 0) = false := by rw [beq_eq_false_iff_ne]; omega
              clear hR1 hcell hfr hq hF hS hR hb hbr r1 f1 hx hdr
              go_wp2
              go_quiet (fail)
              all_goals
                have HX := hid (rbIs_later HR1.out (HD.out nq))
                generalize W1.drewN nq = W2 at *
                have ow := HX.out.res
                have u0 := ow.cell 0
                have u1 := ow.cell 1
                have u2 := ow.cell 2
                have u3 := ow.cell 3
                have v0 := ow.frozen 0
                have v1 := ow.frozen 1
                have v2 := ow.frozen 2
                have v3 := ow.frozen 3
                simp [ndCs, nd0] at u0 u1 u2 u3
                clear ow
                go_wp2
                obtain ⟨q1, q2⟩ := rb_done HX.out (ndIn_zero _ _) HEE.out
                have c0 := q1.cell 0
                have c1 := q1.cell 1
                have c2 := q1.cell 2
                have c3 := q1.cell 3
                simp [ndCs] at c0 c1 c2 c3
                (try simp only [Exit.inBlock, Exit.then])
                refine bodyPost_ret (v := .tuple #[ndV nd0, .int .i64 8]) ?_ rfl q2
                rw [results_cell_tmp rfl]
                unfold ndV
                go_simp
                exact ⟨rfl, ⟨rfl, rfl, rfl⟩, rfl, rfl, rfl, rfl⟩
        · --
          by_cases k3 : t.k = 3
          · rw [k3] at x0 hbr hq hR1
            have HB := hid (blanks12_any t.t (by omega))
            obtain ⟨op, rt⟩ := s
            have z0 := hq.cell 0
            have z3 := hq.cell 3
            simp only [List.getElem?_toArray, List.getElem?_cons_zero, List.getElem?_cons_succ] at z0 z3
            generalize hW1 : w4.alloc (.cells #[.int .i64 3, .string (mk t.n), .slice aa t.as.length ac, .string (mk t.t)] 50) = W1 at *
            cases op with
            | nil =>
              cases hsp : t.t.all spcX with
              | false =>
                rw [hsp] at HB
                have HEE := hid (rb_bad (er := 8) hF.out (by unfold takeX; rw [if_neg k1, if_neg k2, if_pos k3]; simp only; rw [if_neg (by rw [hsp]; simp)]) (by decide))
                have HX := hid hR1
                have ow := hR1.res
                have u0 := ow.cell 0
                have u1 := ow.cell 1
                have u2 := ow.cell 2
                have u3 := ow.cell 3
                have v0 := ow.frozen 0
                have v1 := ow.frozen 1
                have v2 := ow.frozen 2
                have v3 := ow.frozen 3
                simp [ndCs, nd0] at u0 u1 u2 u3
                clear ow
                clear hR1 hq hF hS hR hb hbr r1 f1 hx hdr hsp
                simp only [List.length_nil] at *
                go_wp2_with (go_at_call 13; (with_reducible refine (HB.out _).mono ?_); rintro e w1 ⟨rfl, rfl⟩)
                obtain ⟨q1, q2⟩ := rb_done HX.out (ndIn_zero _ _) HEE.out
                have c0 := q1.cell 0
                have c1 := q1.cell 1
                have c2 := q1.cell 2
                have c3 := q1.cell 3
                simp [ndCs] at c0 c1 c2 c3
                (try simp only [Exit.inBlock, Exit.then])
                refine bodyPost_ret (v := .tuple #[ndV nd0, .int .i64 8]) ?_ rfl q2
                rw [results_cell_tmp rfl]
                unfold ndV
                go_simp
                exact ⟨rfl, ⟨rfl, rfl, rfl⟩, rfl, rfl, rfl, rfl⟩
              | true =>
                rw [hsp] at HB
                have hT : takeX ⟨[], rt⟩ t = (0, ⟨[], rt⟩) := by unfold takeX; rw [if_neg k1, if_neg k2, if_pos k3]; simp only; rw [if_pos hsp]
                have HREL : Hid (∀ i, i = .int .i64 ((k + 1 : Nat) : Int) → RbRel w.heap.size w L (.slice ao 0 cap) (.bool rt.isSome) i W1) := hid (fun i hi => ⟨k + 1, 0, cap, ⟨[], rt⟩, ao, V, rx, by omega, hi, rfl, rfl, rfl, hid hR1, hid (by rw [hF.out, foldX_cons hT]), hid ⟨by simp, fun e' he' => by simp at he', fun h => rfl⟩⟩)
                clear hR1 hq hF hS hR hb hbr r1 f1 hx hdr hsp hT
                simp only [List.length_nil] at *
                go_wp2_with (go_at_call 13; (with_reducible refine (HB.out _).mono ?_); rintro e w1 ⟨rfl, rfl⟩)
                go_roundw
                case rel => exact HREL.out _ (by go_num)
                case measure => simp [intOf]; omega
            | cons e st =>
              obtain ⟨g, y, rfl, hy, l2, f2, hT2⟩ := rb_text hR1 rfl t.t
              have hT : takeX ⟨e :: st, rt⟩ t = (0, ⟨{ e with ws := e.ws ++ [t.t] } :: st, rt⟩) := by unfold takeX; rw [if_neg k1, if_neg k2, if_pos k3]
              have HREL : Hid (∀ i, i = .int .i64 ((k + 1 : Nat) : Int) → ∀ nq, RbRel w.heap.size w L (.slice (some ⟨g, 0, none⟩) (st.length + 1) cap) (.bool rt.isSome) i ((W1.setCell ⟨g, st.length * 4 + 2, none⟩ (.string (mk (e.ws.flatten ++ t.t)))).drewN nq)) := hid (fun i hi nq => by
                refine ⟨k + 1, _, cap, ⟨{ e with ws := e.ws ++ [t.t] } :: st, rt⟩, _, _, rx, by omega, hi, rfl, rfl, rfl, hid (rbIs_later hT2 (below_drew (Below.refl _ _) nq)), hid (by rw [hF.out, foldX_cons hT]), hid ⟨hS.out.h20, fun e' he' => ?_, fun h => by have := hS.out.hrt h; cases this⟩⟩
                rcases List.mem_cons.1 he' with q | q
                · subst q
                  have := hS.out.hw e (by simp)
                  refine ⟨?_, by have := this.2; show e.ks.length ≤ _; omega⟩
                  show (e.ws ++ [t.t]).flatten.length ≤ _
                  have h2 := this.1
                  simp only [List.flatten_append, List.length_append, List.flatten_cons, List.flatten_nil, List.length_nil]
                  omega
                · have := hS.out.hw e' (by simp [q])
                  exact ⟨by omega, by omega⟩)
              have hs20 : st.length ≤ 20 := by have := hS.out.h20; simp at this; omega
              have hwl := (hS.out.hw e (by simp)).1
              have hno : ¬ (9223372036854775807 < (mk e.ws.flatten).size + (mk t.t).size) := by rw [mk_size, mk_size]; omega
              have hcn : mk e.ws.flatten ++ mk t.t = mk (e.ws.flatten ++ t.t) := mk_append _ _
              have hw8 : IntKind.i64.wrap ((st.length : Int) + 1 - 1) = (st.length : Int) := by rw [show (st.length : Int) + 1 - 1 = (st.length : Int) by omega]; exact IntWalk.i64_in _ (by omega)
              have hw7 : IntKind.i64.wrap (st.length : Int) = (st.length : Int) := IntWalk.i64_in _ (by omega)
              have hi7 : (st.length : Int) < (st.length : Int) + 1 := by omega
              have g0 : (((st.length : Int) + 1) == 0) = false := by rw [beq_eq_false_iff_ne]; omega
              have g1 : (0 : Int) < (st.length : Int) + 1 := by omega
              clear hR1 hq hF hS hR hb hbr r1 f1 hx hdr hT hT2
              generalize hbs : t.t.all spcX = bs at HB
              clear hbs
              simp only [List.length_cons] at *
              go_wp2_with (go_at_call 13; (with_reducible refine (HB.out _).mono ?_); rintro e w1 ⟨rfl, rfl⟩)
              go_region_law (fail)
              all_goals
                go_wp2
                go_roundw
                case rel => exact HREL.out _ (by go_num) _
                case measure => simp [intOf]; omega
          · have n2 : ((t.k : Int) == 2) = false := beq_eq_false_iff_ne.2 k2
            have n3 : ((t.k : Int) == 3) = false := beq_eq_false_iff_ne.2 k3
            have HEE := hid (rb_bad (er := 8) hF.out (by unfold takeX; rw [if_neg k1, if_neg k2, if_neg k3]) (by decide))
            have z0 := hq.cell 0
            simp only [List.getElem?_toArray, List.getElem?_cons_zero] at z0
            have HX := hid hR1
            generalize hW1 : w4.alloc (.cells #[.int .i64 t.k, .string (mk t.n), .slice aa t.as.length ac, .string (mk t.t)] 50) = W1 at *
            have ow := HX.out.res
            have u0 := ow.cell 0
            have u1 := ow.cell 1
            have u2 := ow.cell 2
            have u3 := ow.cell 3
            have v0 := ow.frozen 0
            have v1 := ow.frozen 1
            have v2 := ow.frozen 2
            have v3 := ow.frozen 3
            simp [ndCs, nd0] at u0 u1 u2 u3
            clear ow
            clear hR1 hq hF hS hR hb hbr r1 f1 hx hdr
            go_wp2
            obtain ⟨q1, q2⟩ := rb_done HX.out (ndIn_zero _ _) HEE.out
            have c0 := q1.cell 0
            have c1 := q1.cell 1
            have c2 := q1.cell 2
            have c3 := q1.cell 3
            simp [ndCs] at c0 c1 c2 c3
            (try simp only [Exit.inBlock, Exit.then])
            refine bodyPost_ret (v := .tuple #[ndV nd0, .int .i64 8]) ?_ rfl q2
            rw [results_cell_tmp rfl]
            unfold ndV
            go_simp
            exact ⟨rfl, ⟨rfl, rfl, rfl⟩, rfl, rfl, rfl, rfl⟩
    · --
      have hkI : ¬ ((k : Int) < (L.length : Int)) := by omega
      have hke : L.drop k = [] := List.drop_eq_nil_of_le (by omega)
      rw [hke] at hF
      obtain ⟨op, rt⟩ := s
      have e1 : foldX bdX0 L = (0, ⟨op, rt⟩) := hF.out
      have ow := hR.out.res
      have u0 := ow.cell 0
      have u1 := ow.cell 1
      have u2 := ow.cell 2
      have u3 := ow.cell 3
      have v0 := ow.frozen 0
      have v1 := ow.frozen 1
      have v2 := ow.frozen 2
      have v3 := ow.frozen 3
      simp [ndCs, nd0] at u0 u1 u2 u3
      clear ow
      have od := hR.out.done
      have d0 := od.cell 0
      have d1 := od.cell 1
      have d2 := od.cell 2
      have d3 := od.cell 3
      simp [ndCs] at d0 d1 d2 d3
      clear od
      cases rt with
      | none =>
        have HEE : Hid ((tr0, (8 : Int)) = buildX L) := hid (by unfold buildX; rw [e1]; rfl)
        have HX := hid hR.out
        clear hF e1 hke hR hb hS
        simp only [Option.isSome_none] at *
        go_wp2
        obtain ⟨q1, q2⟩ := rb_done HX.out (ndIn_zero _ _) HEE.out
        have c0 := q1.cell 0
        have c1 := q1.cell 1
        have c2 := q1.cell 2
        have c3 := q1.cell 3
        simp [ndCs] at c0 c1 c2 c3
        (try simp only [Exit.inBlock, Exit.then])
        refine bodyPost_ret (v := .tuple #[ndV nd0, .int .i64 8]) ?_ rfl q2
        rw [results_cell_tmp rfl]
        unfold ndV
        go_simp
        exact ⟨rfl, ⟨rfl, rfl, rfl⟩, rfl, rfl, rfl, rfl⟩
      | some u =>
        have hop : op = [] := hS.out.hrt rfl
        subst hop
        have HEE : Hid ((u, (0 : Int)) = buildX L) := hid (by unfold buildX; rw [e1]; rfl)
        have HN := hid (hR.out.root u rfl)
        have HX := hid hR.out
        clear hF e1 hke hR hb hS
        simp only [Option.isSome_some, List.length_nil] at *
        go_wp2
        obtain ⟨q1, q2⟩ := rb_done HX.out HN.out HEE.out
        have c0 := q1.cell 0
        have c1 := q1.cell 1
        have c2 := q1.cell 2
        have c3 := q1.cell 3
        simp [ndCs] at c0 c1 c2 c3
        (try simp only [Exit.inBlock, Exit.then])
        refine bodyPost_ret (v := .tuple #[ndV rx, .int .i64 0]) ?_ rfl q2
        rw [results_cell_tmp rfl]
        unfold ndV
        go_simp
end Go.Proofs.YtjoeamlidmmioaaGreatDoor

