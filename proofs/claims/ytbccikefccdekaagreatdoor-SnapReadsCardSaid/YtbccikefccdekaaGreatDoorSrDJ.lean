import Derived.Test.YtbccikefccdekaaGreatDoorSrCJ
import Derived.Test.YtbccikefccdekaaGreatDoorSnThHJ
import Derived.BigRegion
/-
  LAYER 4 (snap), THE DOCUMENT's ANSWER: head. (Written by wip/tools/gen4_head.py.)
-/
namespace Go.Proofs.YtbccikefccdekaaGreatDoor
open Go.RowKit
set_option linter.unusedVariables false
set_option maxRecDepth 100000

/-- Four cells stored into a box, the world behind it by a name. -/
structure Q4 (w WP : World) (g : Nat) (r0 r1 r2 r3 u0 u1 u2 u3 : Value) : Prop where
  k0 : w.cell? ⟨g, 0, none⟩ = some r0
  k1 : w.cell? ⟨g, 1, none⟩ = some r1
  k2 : w.cell? ⟨g, 2, none⟩ = some r2
  k3 : w.cell? ⟨g, 3, none⟩ = some r3
  f0 : w.frozen? ⟨g, 0, none⟩ = false
  f1 : w.frozen? ⟨g, 1, none⟩ = false
  f2 : w.frozen? ⟨g, 2, none⟩ = false
  f3 : w.frozen? ⟨g, 3, none⟩ = false
  eq : (((w.setCell ⟨g, 0, none⟩ u0).setCell ⟨g, 1, none⟩ u1).setCell ⟨g, 2, none⟩ u2).setCell ⟨g, 3, none⟩ u3 = WP
  e0 : WP.cell? ⟨g, 0, none⟩ = some u0
  e1 : WP.cell? ⟨g, 1, none⟩ = some u1
  e2 : WP.cell? ⟨g, 2, none⟩ = some u2
  e3 : WP.cell? ⟨g, 3, none⟩ = some u3
theorem q4_of {w : World} {g : Nat} {r0 r1 r2 r3 : Value} {T : TypeId} (o : own w g #[r0, r1, r2, r3] T) (u0 u1 u2 u3 : Value) : ∃ WP, qst4 w g u0 u1 u2 u3 = WP ∧ Q4 w WP g r0 r1 r2 r3 u0 u1 u2 u3 := by
  have q := qbox_of o u0 u1 u2 u3
  obtain ⟨WP, e⟩ : ∃ WP, qst4 w g u0 u1 u2 u3 = WP := ⟨_, rfl⟩
  have q0 := q.e0
  have q1 := q.e1
  have q2 := q.e2
  have q3 := q.e3
  rw [e] at q0 q1 q2 q3
  exact ⟨WP, e, q.k0, q.k1, q.k2, q.k3, q.f0, q.f1, q.f2, q.f3, e, q0, q1, q2, q3⟩
theorem headOk_len {l : List Int} (h : headOk l = true) : l.length ≤ 13 := by
  obtain ⟨h1, _, h2, _⟩ := headOk_parts h
  have := (rightS_vot h2).1
  unfold headB at this
  simp only [List.length_take, List.length_drop] at this
  omega
def HeRel (S : List UInt8) (W0 : World) (u5 u6 : Value) (wr : World) : Prop := ∃ (r : List UInt8) (l : List Int) (a : Option Addr) (cap : Nat), u5 = .slice a l.length cap ∧ u6 = .string (mk r) ∧ l.length ≤ 20 ∧ r.length + l.length ≤ S.length ∧ Hid (Gr.RMid Gr.numTy W0 wr (.slice a l.length cap) l) ∧ Hid (nums S = (nums r).map (l ++ ·))
set_option maxHeartbeats 16000000 in
theorem srHead_any (s : ByteArray) (w : World) (hs : s.size ≤ 1000000) : Calls Tryz.prog 33 #[.string s] w (HdPost w s.data.toList) := by
  obtain ⟨S, hS⟩ : ∃ S, s.data.toList = S := ⟨_, rfl⟩
  have hsz : s.size = S.length := by rw [← hS, str_len]
  have hmk : s = mk S := by rw [← hS, mk_of]
  rw [hS]
  rw [hsz] at hs
  subst hmk
  clear hS hsz
  obtain ⟨W0, hW0⟩ : ∃ W0, w.alloc (.cells #[.int .i64 0, .int .i64 0, .slice none 0 0, .string ⟨#[]⟩] 24) = W0 := ⟨_, rfl⟩
  have hb0 : Below w.heap.size w W0 := by rw [← hW0]; exact (Below.refl _ _).alloc (Nat.le_refl _) _
  have o0 : own W0 w.heap.size #[.int .i64 0, .int .i64 0, .slice none 0 0, .string ⟨#[]⟩] 24 := by rw [← hW0]; exact own.new w _ _
  have HZ : Hid (∀ w1, Below W0.heap.size W0 w1 → ∃ WZ, Q4 w1 WZ w.heap.size (.int .i64 0) (.int .i64 0) (.slice none 0 0) (.string ⟨#[]⟩) (.int .i64 0) (.int .i64 0) (.slice none 0 0) (.string ⟨#[]⟩) ∧ ((nums S = none ∨ ∃ l, nums S = some l ∧ headOk l = false) → Hid (HdPost w S (.returned (.tuple #[.agg #[.int .i64 0, .int .i64 0, .slice none 0 0, .string ⟨#[]⟩], .int .i64 0, .bool false])) WZ))) := hid (fun w1 h1 => by
    obtain ⟨WZ, e, q⟩ := q4_of (o0.same (h1.block _ o0.lt)) (.int .i64 0) (.int .i64 0) (.slice none 0 0) (.string ⟨#[]⟩)
    refine ⟨WZ, q, fun h => hid ⟨bs0, none, 0, 0, 0, false, rfl, ?_, ?_⟩⟩
    · rw [← e]; exact qst4_below (hb0.trans (h1.mono hb0.size)) (Nat.le_refl _) _ _ _ _
    · rcases h with h | ⟨l, h, h2⟩
      · rw [h]
      · rw [h]; exact ⟨h2.symm, fun e => by cases e⟩)
  go_enter Tryz.func33, Tryz.ntmps33
  go_wp2
  go_loopw [5, 6] (HeRel S W0) (fun _ u _ => sLen u)
  case atStart => exact ⟨S, [], none, 0, rfl, rfl, by simp, by simp, hid (Gr.rMid_nil W0), hid (by simp)⟩
  case round =>
    obtain ⟨r, l, a, cap, rfl, rfl, hl20, hlen, hm, hq⟩ := hrel
    obtain ⟨WZ, ⟨zk0, zk1, zk2, zk3, zf0, zf1, zf2, zf3, zeq, ze0, ze1, ze2, ze3⟩, hZf⟩ := HZ.out _ hm.out.below
    have HZf := hid hZf
    clear hZf
    have hbr := hm.out.below
    have hrz : (mk r).size = r.length := mk_size _
    have HCe : Hid (∀ wx, Below wr.heap.size wr wx → ∀ k, k < l.length → ∃ sb so, a = some ⟨sb, so, none⟩ ∧ wx.cell? ⟨sb, so + k, none⟩ = some (.int .i64 (l.getD k 0))) := hid (fun wx hb k hk => by
      obtain ⟨a', cap', e, hc⟩ := Gr.nums_at hm.out.row.rAt
      cases e
      obtain ⟨sb, so, e, hlt, h1⟩ := hc k hk
      exact ⟨sb, so, e, (hb.cell (p := ⟨sb, so + k, none⟩) hlt).trans h1⟩)
    by_cases h0 : r = []
    · subst h0
      have hn : nums S = some l := by rw [hq.out, nums_nil]; simp
      obtain ⟨hen, h64⟩ := nums_sound hn
      have g0 : ¬ (0 : Int) < ((mk ([] : List UInt8)).size : Int) := by rw [mk_size]; simp
      have q0 : (!(mk ([] : List UInt8)).toList.isEmpty) = false := by rw [Lib.toList_data]; rfl
      have q1 : (mk ([] : List UInt8)).toList.isEmpty = true := by rw [Lib.toList_data]; rfl
      by_cases h4 : l.length < 4
      · have HF := HZf.out (.inr ⟨l, hn, headOk_bad (.inl h4)⟩)
        have d4 : (l.length : Int) < 4 := by omega
        clear HZf HZ hm hq HCe hn hen h64 hbr hrz
        generalize mk ([] : List UInt8) = rb at *
        as_aux_lemma =>
        go_wp2
        exact bodyPost_ret (v := .tuple #[.agg #[.int .i64 0, .int .i64 0, .slice none 0 0, .string ⟨#[]⟩], .int .i64 0, .bool false]) (by simp [results, Tryz.results33, go_sem, ze0, ze1, ze2, ze3]) rfl HF.out
      · have d4 : ¬ (l.length : Int) < 4 := by omega
        obtain ⟨sb, so, rfl, c2⟩ := HCe.out wr (Below.refl _ _) 2 (by omega)
        have i2 : (2 : Int) < (l.length : Int) := by omega
        have j2 : 2 < l.length := by omega
        obtain ⟨n2, hn2⟩ : ∃ n2, l.getD 2 0 = n2 := ⟨_, rfl⟩
        rw [hn2] at c2
        by_cases hlt : n2 < 0
        · have HF := HZf.out (.inr ⟨l, hn, headOk_bad (.inr (by rw [hn2]; omega))⟩)
          clear HZf HZ hm hq HCe hn hen h64 hbr hrz hn2
          generalize mk ([] : List UInt8) = rb at *
          as_aux_lemma =>
          go_wp2
          exact bodyPost_ret (v := .tuple #[.agg #[.int .i64 0, .int .i64 0, .slice none 0 0, .string ⟨#[]⟩], .int .i64 0, .bool false]) (by simp [results, Tryz.results33, go_sem, ze0, ze1, ze2, ze3]) rfl HF.out
        · by_cases hgt : 9 < n2
          · have HF := HZf.out (.inr ⟨l, hn, by
              cases e : headOk l with
              | false => rfl
              | true =>
                have h13 := headOk_len e
                obtain ⟨_, e2, _⟩ := headOk_parts e
                rw [hn2] at e2
                omega⟩)
            clear HZf HZ hm hq HCe hn hen h64 hbr hrz hn2
            generalize mk ([] : List UInt8) = rb at *
            as_aux_lemma =>
            go_wp2
            exact bodyPost_ret (v := .tuple #[.agg #[.int .i64 0, .int .i64 0, .slice none 0 0, .string ⟨#[]⟩], .int .i64 0, .bool false]) (by simp [results, Tryz.results33, go_sem, ze0, ze1, ze2, ze3]) rfl HF.out
          · have hw4 : IntKind.i64.wrap (4 + n2) = 4 + n2 := by rw [IntKind.wrap_i64]; omega
            by_cases h2 : n2 = (l.length : Int) - 4
            · obtain ⟨L, hL⟩ : ∃ L, (l.take (l.length - 1)).drop 3 = L := ⟨_, rfl⟩
              have hLl : L.length ≤ 1000000 := by rw [← hL, List.length_drop, List.length_take]; omega
              have hRm := hm.out
              have hra := hRm.row.rAt
              have h1 := hra.take Gr.numTy_ok (k := l.length - 1) (by omega)
              obtain ⟨h3, h3b⟩ := h1.drop Gr.numTy_ok (k := 3) (by rw [List.length_take]; omega)
              rw [hL] at h3
              have hrun0 : ∀ wx, (Instr.slice 22 (.slice (some ⟨sb, so, none⟩) l.length cap) (some (.int .i64 3)) (some (.int .i64 ((l.length : Int) - 1))) none).run Tryz.prog wx = .ok (Gr.numTy.from (some ⟨sb, so, none⟩) (l.length - 1) cap 3) wx := fun wx => by
                obtain ⟨a', cap', e, hlc, _, _⟩ := id hra
                cases e
                have := Gr.run_lohi Gr.numTy_ok wx (some ⟨sb, so, none⟩) l.length cap 3 (l.length - 1) (by omega) (by omega)
                rw [show ((l.length - 1 : Nat) : Int) = (l.length : Int) - 1 by omega] at this
                exact this
              obtain ⟨va, vc, hvs, -⟩ := id h3
              rw [hvs] at hrun0 h3 h3b
              have hnw : ∀ x, (Value.slice va L.length vc).ownBlock = some x → w.heap.size ≤ x := fun x e => by
                have := hRm.new x (h3b x e)
                have := hb0.size
                omega
              have hbw : Below w.heap.size w wr := hb0.trans (hbr.mono hb0.size)
              have x0e : I64s (l.getD 0 0) := by rw [getD_of (by omega : 0 < l.length)]; exact h64 _ (List.getElem_mem _)
              have x1e : I64s (l.getD 1 0) := by rw [getD_of (by omega : 1 < l.length)]; exact h64 _ (List.getElem_mem _)
              have hL64 : ∀ x ∈ L, I64s x := fun x hx => h64 x (List.mem_of_mem_take (List.mem_of_mem_drop (by rw [hL]; exact hx)))
              have HC : Hid (∀ wx, Below wr.heap.size wr wx → wx.cell? ⟨sb, so, none⟩ = some (.int .i64 (l.getD 0 0)) ∧ wx.cell? ⟨sb, so + 1, none⟩ = some (.int .i64 (l.getD 1 0)) ∧ wx.cell? ⟨sb, so + 2, none⟩ = some (.int .i64 n2) ∧ wx.cell? ⟨sb, so + (l.length - 1), none⟩ = some (.int .i64 (l.getD (l.length - 1) 0))) := hid (fun wx hb => by
                have hc := fun k hk => HCe.out wx hb k hk
                obtain ⟨_, _, e0, y0⟩ := hc 0 (by omega)
                obtain ⟨_, _, e1, y1⟩ := hc 1 (by omega)
                obtain ⟨_, _, e2, y2⟩ := hc 2 (by omega)
                obtain ⟨_, _, e3, y3⟩ := hc (l.length - 1) (by omega)
                cases e0; cases e1; cases e2; cases e3
                rw [hn2] at y2
                rw [Nat.add_zero] at y0
                exact ⟨y0, y1, y2, y3⟩)
              have HR : Hid (∀ wx, Below wr.heap.size wr wx → Calls Tryz.prog 11 #[.agg #[.int .i64 (l.getD 0 0), .int .i64 (l.getD 1 0), .slice va L.length vc, .string ⟨#[]⟩]] wx fun e w' => e = .returned (.bool (rightS ⟨l.getD 0 0, l.getD 1 0, L, []⟩)) ∧ Below wx.heap.size wx w') := hid (fun wx hb =>
                srRight_any (b := ⟨l.getD 0 0, l.getD 1 0, L, []⟩) ⟨x0e, x1e, intsAt_gr (h3.below hb), hLl, hL64, by simp⟩)
              have HBx : Hid (∀ w2, Below (wr.alloc (.cells #[.int .i64 (l.getD 0 0), .int .i64 (l.getD 1 0), .slice va L.length vc, .string ⟨#[]⟩] 24)).heap.size (wr.alloc (.cells #[.int .i64 (l.getD 0 0), .int .i64 (l.getD 1 0), .slice va L.length vc, .string ⟨#[]⟩] 24)).drew w2 →
                  (w2.cell? ⟨wr.heap.size, 0, none⟩ = some (.int .i64 (l.getD 0 0)) ∧ w2.cell? ⟨wr.heap.size, 1, none⟩ = some (.int .i64 (l.getD 1 0)) ∧ w2.cell? ⟨wr.heap.size, 2, none⟩ = some (.slice va L.length vc) ∧ w2.cell? ⟨wr.heap.size, 3, none⟩ = some (.string ⟨#[]⟩)) ∧ (w2.cell? ⟨sb, so + 2, none⟩ = some (.int .i64 n2) ∧ w2.cell? ⟨sb, so + (l.length - 1), none⟩ = some (.int .i64 (l.getD (l.length - 1) 0))) ∧
                  ∃ WF, Q4 w2 WF w.heap.size (.int .i64 0) (.int .i64 0) (.slice none 0 0) (.string ⟨#[]⟩) (.int .i64 (l.getD 0 0)) (.int .i64 (l.getD 1 0)) (.slice va L.length vc) (.string ⟨#[]⟩) ∧ Hid (HdPost w S (.returned (.tuple #[.agg #[.int .i64 (l.getD 0 0), .int .i64 (l.getD 1 0), .slice va L.length vc, .string ⟨#[]⟩], .int .i64 (l.getD (l.length - 1) 0), .bool (rightS ⟨l.getD 0 0, l.getD 1 0, L, []⟩ && decide ((0 : Int) ≤ l.getD (l.length - 1) 0) && decide (l.getD (l.length - 1) 0 ≤ (4000000 : Int)))])) WF)) := hid (fun w2 hb2 => by
                have hbA : Below wr.heap.size wr (wr.alloc (.cells #[.int .i64 (l.getD 0 0), .int .i64 (l.getD 1 0), .slice va L.length vc, .string ⟨#[]⟩] 24)).drew := ((Below.refl _ _).alloc (Nat.le_refl _) _).drew
                have hb3 : Below wr.heap.size wr w2 := hbA.trans (hb2.mono hbA.size)
                have ob : own (wr.alloc (.cells #[.int .i64 (l.getD 0 0), .int .i64 (l.getD 1 0), .slice va L.length vc, .string ⟨#[]⟩] 24)).drew wr.heap.size #[.int .i64 (l.getD 0 0), .int .i64 (l.getD 1 0), .slice va L.length vc, .string ⟨#[]⟩] 24 := own.new _ _ _
                have ob2 := ob.same (hb2.block _ ob.lt)
                obtain ⟨_, _, y2, y3⟩ := HC.out w2 hb3
                have hbW2 : Below W0.heap.size W0 w2 := hbr.trans (hb3.mono hbr.size)
                obtain ⟨WF, e, q⟩ := q4_of (o0.same (hbW2.block _ o0.lt)) (.int .i64 (l.getD 0 0)) (.int .i64 (l.getD 1 0)) (.slice va L.length vc) (.string ⟨#[]⟩)
                have hbF : Below w.heap.size w WF := by rw [← e]; exact qst4_below (hb0.trans (hbW2.mono hb0.size)) (Nat.le_refl _) _ _ _ _
                have hrF : Gr.RAt Gr.numTy WF (.slice va L.length vc) L := by
                  rw [← e]
                  refine (h3.below hb3).same (fun x ex hx => (qst4_chg w2 w.heap.size _ _ _ _).block x hx (fun q => ?_)) (qst4_chg w2 w.heap.size _ _ _ _).size
                  have e1 : x = w.heap.size := q
                  have := hRm.new x (h3b x ex)
                  have := hb0.size
                  have := o0.lt
                  omega
                exact ⟨⟨(ob2.cell 0).trans rfl, (ob2.cell 1).trans rfl, (ob2.cell 2).trans rfl, (ob2.cell 3).trans rfl⟩, ⟨y2, y3⟩, WF, q, hid (hd_fin hn (by omega) (by rw [hn2]; exact h2) hL hbF hrF hnw)⟩)
              have hq4 : ((l.length : Int) == 4 + n2) = true := by rw [h2]; simp; omega
              have hq5 : ((l.length : Int) != 4 + n2) = false := by rw [bne, hq4]; rfl
              have hw3 : IntKind.i64.wrap (3 + n2) = (l.length : Int) - 1 := by rw [IntKind.wrap_i64]; omega
              obtain ⟨c0, c1, -, -⟩ := HC.out wr (Below.refl _ _)
              have HAl : Hid (∀ o, Below wr.heap.size wr (wr.alloc o)) := hid (fun o => (Below.refl _ _).alloc (Nat.le_refl _) _)
              have a0 := fun o => (HC.out _ (HAl.out o)).1
              have a1 := fun o => (HC.out _ (HAl.out o)).2.1
              have a2 := fun o => (HC.out _ (HAl.out o)).2.2.1
              have i0 : (0 : Int) < (l.length : Int) := by omega
              have i1 : (1 : Int) < (l.length : Int) := by omega
              have j0 : 0 < l.length := by omega
              have j1 : 1 < l.length := by omega
              have ilast : (l.length : Int) - 1 < (l.length : Int) := by omega
              have ilast0 : ¬ (l.length : Int) - 1 < 0 := by omega
              have hidx : ((l.length : Int) - 1).toNat = l.length - 1 := by omega
              have HBD : Hid (Below wr.heap.size wr (wr.alloc (.cells #[.int .i64 (l.getD 0 0), .int .i64 (l.getD 1 0), .slice va L.length vc, .string ⟨#[]⟩] 24)).drew) := hid (((Below.refl _ _).alloc (Nat.le_refl _) _).drew)
              clear HZf HZ hm hq HCe hn hen h64 hbr hrz hn2 hRm hra h1 h3 h3b hL hvs hnw hbw x0e x1e hL64 hLl h2 o0 hb0 zk0 zk1 zk2 zk3 zf0 zf1 zf2 zf3 zeq ze0 ze1 ze2 ze3
              generalize rightS ⟨l.getD 0 0, l.getD 1 0, L, []⟩ = rr at *
              generalize l.getD 0 0 = x0 at *
              generalize l.getD 1 0 = x1 at *
              generalize l.getD (l.length - 1) 0 = xl at *
              generalize mk ([] : List UInt8) = rb at *
              generalize L.length = Ln at *
              cases rr with
              | false =>
                as_aux_lemma =>
                go_wp2
                go_region
                go_wp2_with (go_at_call 11; (with_reducible refine (HR.out _ HBD.out).mono ?_); rintro e w2 ⟨rfl, hb2⟩; obtain ⟨⟨b0, b1, b2, b3⟩, ⟨y2, y3⟩, WF, ⟨qk0, qk1, qk2, qk3, qf0, qf1, qf2, qf3, qeq, qe0, qe1, qe2, qe3⟩, HF⟩ := HBx.out _ hb2)
                exact bodyPost_ret (v := .tuple #[.agg #[.int .i64 x0, .int .i64 x1, .slice va Ln vc, .string ⟨#[]⟩], .int .i64 xl, .bool (false && decide ((0 : Int) ≤ xl) && decide (xl ≤ (4000000 : Int)))]) (by simp [results, Tryz.results33, go_sem, qe0, qe1, qe2, qe3]) rfl HF.out
              | true =>
                by_cases hx0 : (0 : Int) ≤ xl
                · have d0 : decide ((0 : Int) ≤ xl) = true := decide_eq_true hx0
                  as_aux_lemma =>
                  go_wp2
                  go_region
                  go_wp2_with (go_at_call 11; (with_reducible refine (HR.out _ HBD.out).mono ?_); rintro e w2 ⟨rfl, hb2⟩; obtain ⟨⟨b0, b1, b2, b3⟩, ⟨y2, y3⟩, WF, ⟨qk0, qk1, qk2, qk3, qf0, qf1, qf2, qf3, qeq, qe0, qe1, qe2, qe3⟩, HF⟩ := HBx.out _ hb2)
                  exact bodyPost_ret (v := .tuple #[.agg #[.int .i64 x0, .int .i64 x1, .slice va Ln vc, .string ⟨#[]⟩], .int .i64 xl, .bool (true && decide ((0 : Int) ≤ xl) && decide (xl ≤ (4000000 : Int)))]) (by simp [results, Tryz.results33, go_sem, qe0, qe1, qe2, qe3, hx0]) rfl HF.out
                · have d0 : decide ((0 : Int) ≤ xl) = false := decide_eq_false hx0
                  as_aux_lemma =>
                  go_wp2
                  go_region
                  go_wp2_with (go_at_call 11; (with_reducible refine (HR.out _ HBD.out).mono ?_); rintro e w2 ⟨rfl, hb2⟩; obtain ⟨⟨b0, b1, b2, b3⟩, ⟨y2, y3⟩, WF, ⟨qk0, qk1, qk2, qk3, qf0, qf1, qf2, qf3, qeq, qe0, qe1, qe2, qe3⟩, HF⟩ := HBx.out _ hb2)
                  exact bodyPost_ret (v := .tuple #[.agg #[.int .i64 x0, .int .i64 x1, .slice va Ln vc, .string ⟨#[]⟩], .int .i64 xl, .bool (true && decide ((0 : Int) ≤ xl) && decide (xl ≤ (4000000 : Int)))]) (by simp [results, Tryz.results33, go_sem, qe0, qe1, qe2, qe3]; omega) rfl HF.out
            · have HF := HZf.out (.inr ⟨l, hn, headOk_bad (.inr (by rw [hn2]; exact h2))⟩)
              have hq4 : ((l.length : Int) == 4 + n2) = false := beq_false_of_ne (by omega)
              have hq5 : ((l.length : Int) != 4 + n2) = true := bne_iff_ne.2 (by omega)
              clear HZf HZ hm hq HCe hn hen h64 hbr hrz hn2
              generalize mk ([] : List UInt8) = rb at *
              as_aux_lemma =>
              go_wp2
              exact bodyPost_ret (v := .tuple #[.agg #[.int .i64 0, .int .i64 0, .slice none 0 0, .string ⟨#[]⟩], .int .i64 0, .bool false]) (by simp [results, Tryz.results33, go_sem, ze0, ze1, ze2, ze3]) rfl HF.out
    · by_cases h20 : l.length < 20
      · have hpos : 0 < r.length := List.length_pos_iff.2 h0
        have g1 : (0 : Int) < ((mk r).size : Int) := by omega
        have g2 : (l.length : Int) < 20 := by omega
        have hC := refToInt_any (mk r) wr (by rw [mk_size]; unfold maxLen; omega)
        rw [mk_data] at hC
        cases ht : toInt r with
        | none =>
          rw [ht] at hC
          have HC : Hid (Calls Tryz.prog 57 #[.string (mk r)] wr fun e w' => e = .returned (.tuple #[.int .i64 0, .string ⟨#[]⟩, .bool false]) ∧ Below wr.heap.size wr w') := hid hC
          have hno : nums S = none := by rw [hq.out, nums_none h0 ht]; rfl
          have HZ2 : Hid (∀ w1, Below wr.heap.size wr w1 → ∃ WZ, Q4 w1 WZ w.heap.size (.int .i64 0) (.int .i64 0) (.slice none 0 0) (.string ⟨#[]⟩) (.int .i64 0) (.int .i64 0) (.slice none 0 0) (.string ⟨#[]⟩) ∧ Hid (HdPost w S (.returned (.tuple #[.agg #[.int .i64 0, .int .i64 0, .slice none 0 0, .string ⟨#[]⟩], .int .i64 0, .bool false])) WZ)) := hid (fun w1 h1 => by
            obtain ⟨WZ, q, h⟩ := HZ.out w1 (hbr.trans (h1.mono hbr.size))
            exact ⟨WZ, q, h (.inl hno)⟩)
          clear zk0 zk1 zk2 zk3 zf0 zf1 zf2 zf3 zeq ze0 ze1 ze2 ze3 hC hm hq HZ HZf HCe hno ht h0 hbr hrz
          generalize mk r = rb at *
          as_aux_lemma =>
          go_wp2_with (go_at_call 57; (with_reducible refine HC.out.mono ?_); rintro e w1 ⟨rfl, hb1⟩; obtain ⟨WY, ⟨zk0, zk1, zk2, zk3, zf0, zf1, zf2, zf3, zeq, ze0, ze1, ze2, ze3⟩, HF⟩ := HZ2.out _ hb1)
          exact bodyPost_ret (v := .tuple #[.agg #[.int .i64 0, .int .i64 0, .slice none 0 0, .string ⟨#[]⟩], .int .i64 0, .bool false]) (by simp [results, Tryz.results33, go_sem, ze0, ze1, ze2, ze3]) rfl HF.out
        | some p =>
          obtain ⟨v, r2⟩ := p
          rw [ht] at hC
          have HC : Hid (Calls Tryz.prog 57 #[.string (mk r)] wr fun e w' => e = .returned (.tuple #[.int .i64 (unz v), .string (mk r2), .bool true]) ∧ Below wr.heap.size wr w') := hid hC
          obtain ⟨k1, k2⟩ := nums_some h0 ht
          have HP : Hid (∀ w1, Below wr.heap.size wr w1 → ∃ ao cap2 w5, (Builtin.append_ #[22, 22] 22 #[.slice a l.length cap, .slice (some ⟨w1.heap.size, 0, none⟩) 1 1]).run Tryz.prog (w1.alloc (.cells #[.int .i64 (unz v)] 3)) = .ok (.slice ao (l.length + 1) cap2) w5 ∧ Hid (HeRel S W0 (.slice ao (l.length + 1) cap2) (.string (mk r2)) w5)) := hid (fun w1 hb1 => by
            have hm2 := hm.out.later hb1
            obtain ⟨ao, cap2, w5, e5, m5⟩ := hm2.push Gr.numTy_ok 22 3 (unz v) #[.int .i64 (unz v)] rfl (by omega)
            exact ⟨ao, cap2, w5, e5, hid ⟨r2, l ++ [unz v], ao, cap2, by rw [List.length_append]; rfl, rfl, by rw [List.length_append, List.length_singleton]; omega, by rw [List.length_append, List.length_singleton]; omega, hid (by rw [List.length_append, List.length_singleton]; exact m5), hid (by rw [hq.out, k1]; cases nums r2 <;> simp)⟩⟩)
          have hme : (mk r2).size < (mk r).size := by rw [mk_size, mk_size]; exact k2
          clear zk0 zk1 zk2 zk3 zf0 zf1 zf2 zf3 zeq ze0 ze1 ze2 ze3 hC hm hq HZ HZf HCe ht h0 hbr hrz k1 k2
          generalize mk r = rb at *
          generalize mk r2 = rc at *
          as_aux_lemma =>
          go_wp2_with (first
            | (go_at_call 57; (with_reducible refine HC.out.mono ?_); rintro e w1 ⟨rfl, hb1⟩; obtain ⟨ao, cap2, w5, hrun, HN⟩ := HP.out _ hb1)
            | (at_builtin; refine Gr.wpList_append_at hrun (by with_reducible rfl) rfl _ _ rfl rfl rfl rfl ?_))
          go_roundw
          case rel => exact HN.out
          case measure => exact hme
      · have hl : l.length = 20 := by omega
        have hpos : 0 < r.length := List.length_pos_iff.2 h0
        have g1 : (0 : Int) < ((mk r).size : Int) := by omega
        have g2 : ¬ (l.length : Int) < 20 := by omega
        have hbad : ∀ m : List Int, headOk (l ++ m) = false := fun m => by
          cases e : headOk (l ++ m) with
          | false => rfl
          | true =>
            have h13 := headOk_len e
            rw [List.length_append] at h13
            omega
        have HF := HZf.out (by
          rw [hq.out]
          cases nums r with
          | none => exact .inl rfl
          | some m => exact .inr ⟨_, rfl, hbad m⟩)
        have d4 : ¬ (l.length : Int) < 4 := by omega
        obtain ⟨sb, so, rfl, c2⟩ := HCe.out wr (Below.refl _ _) 2 (by omega)
        have i2 : (2 : Int) < (l.length : Int) := by omega
        have j2 : 2 < l.length := by omega
        have hlI : (l.length : Int) = 20 := by omega
        generalize l.getD 2 0 = n2 at *
        have HL := hid hl
        clear hl hbad
        by_cases hlt : n2 < 0
        · clear HZf HZ hm hq HCe hbr h0 hrz
          generalize mk r = rb at *
          as_aux_lemma =>
          go_wp2
          exact bodyPost_ret (v := .tuple #[.agg #[.int .i64 0, .int .i64 0, .slice none 0 0, .string ⟨#[]⟩], .int .i64 0, .bool false]) (by simp [results, Tryz.results33, go_sem, ze0, ze1, ze2, ze3]) rfl HF.out
        · by_cases hgt : 9 < n2
          · clear HZf HZ hm hq HCe hbr h0 hrz
            generalize mk r = rb at *
            as_aux_lemma =>
            go_wp2
            exact bodyPost_ret (v := .tuple #[.agg #[.int .i64 0, .int .i64 0, .slice none 0 0, .string ⟨#[]⟩], .int .i64 0, .bool false]) (by simp [results, Tryz.results33, go_sem, ze0, ze1, ze2, ze3]) rfl HF.out
          · have hw4 : IntKind.i64.wrap (4 + n2) = 4 + n2 := by rw [IntKind.wrap_i64]; omega
            have hq4 : ((l.length : Int) == 4 + n2) = false := beq_false_of_ne (by omega)
            have hq5 : ((l.length : Int) != 4 + n2) = true := bne_iff_ne.2 (by omega)
            clear HZf HZ hm hq HCe hbr h0 hrz hlI
            generalize mk r = rb at *
            as_aux_lemma =>
            go_wp2
            exact bodyPost_ret (v := .tuple #[.agg #[.int .i64 0, .int .i64 0, .slice none 0 0, .string ⟨#[]⟩], .int .i64 0, .bool false]) (by simp [results, Tryz.results33, go_sem, ze0, ze1, ze2, ze3]) rfl HF.out
end Go.Proofs.YtbccikefccdekaaGreatDoor

