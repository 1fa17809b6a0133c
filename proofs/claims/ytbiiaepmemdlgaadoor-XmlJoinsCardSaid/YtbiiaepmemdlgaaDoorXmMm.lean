/-
  LAYER 11 (xml), THE PROGRAM: tag.
-/
import Derived.Test.YtbiiaepmemdlgaaDoorXmMl
namespace Go.Proofs.YtbiiaepmemdlgaaDoor
open Go.RowKit
set_option linter.unusedVariables false
set_option maxRecDepth 100000

section
variable {F : Nat → Prop} {w : World} {b : Nat} {s : RSt}
/-- What tag needs behind endWords. -/
structure TgMid (F : Nat → Prop) (w : World) (b : Nat) (s : RSt) (tk : TkX) (g0 : Nat) (a : Option Addr) (m c : Nat) (w1 : World) : Prop where
  box : ∀ wx, Below w1.heap.size w1 wx → wx.cell? ⟨g0, 0, none⟩ = some (.int .i64 tk.k) ∧ wx.cell? ⟨g0, 1, none⟩ = some (.string (mk tk.n)) ∧ wx.cell? ⟨g0, 2, none⟩ = some (.slice a m c) ∧ wx.cell? ⟨g0, 3, none⟩ = some (.string (mk tk.t))
  run : ∃ ta n tc a2 cap w5, (∀ wx, Below w1.heap.size w1 wx → wx.cell? ⟨b, 3, none⟩ = some (.slice ta n tc)) ∧ (Builtin.append_ #[23, 23] 23 #[.slice ta n tc, .slice (some ⟨w1.heap.size, 0, none⟩) 1 1]).run Tryd.prog (w1.alloc (.cells #[.int .i64 tk.k, .string (mk tk.n), .slice a m c, .string (mk tk.t)] 36)).drew = .ok (.slice a2 (n + 1) cap) w5 ∧ w5.cell? ⟨b, 3, none⟩ = some (.slice ta n tc) ∧ w5.frozen? ⟨b, 3, none⟩ = false ∧
    RTo (fun x => F x ∨ (Value.slice a m c).ownBlock = some x) w (w5.setCell ⟨b, 3, none⟩ (.slice a2 (n + 1) cap)) b ⟨s.rest, [], s.toks ++ endW s.words ++ [tk]⟩
theorem tg_mid {W0 w1 : World} {tk : TkX} {a : Option Addr} {m c : Nat} (hW : W0 = w.alloc (.cells #[.int .i64 tk.k, .string (mk tk.n), .slice a m c, .string (mk tk.t)] 36)) (hlt : ∀ x, F x → x < w.heap.size) (hav : RAt atTy w (.slice a m c) tk.as)
    (hap : ∀ g, (Value.slice a m c).ownBlock = some g → ¬ F g ∧ g < w.heap.size) (hl : s.toks.length ≤ 90000) (ht : RTo F W0 w1 b ⟨s.rest, [], s.toks ++ endW s.words⟩) : TgMid F w b s tk w.heap.size a m c w1 := by
  have hB0 : Below w.heap.size w W0 := by rw [hW]; exact (Below.refl _ _).alloc (Nat.le_refl _) _
  have hz0 : W0.heap.size = w.heap.size + 1 := by rw [hW]; simp
  have o0 : own W0 w.heap.size #[.int .i64 tk.k, .string (mk tk.n), .slice a m c, .string (mk tk.t)] 36 := by rw [hW]; exact own.new w _ _
  obtain ⟨F1, i1, c1, g1⟩ := ht
  have hz1 := c1.size
  have hn0 : ¬ F w.heap.size := fun e => by have := hlt _ e; omega
  have o1 : own w1 w.heap.size #[.int .i64 tk.k, .string (mk tk.n), .slice a m c, .string (mk tk.t)] 36 := o0.chg c1 hn0
  have hap1 : ∀ g, (Value.slice a m c).ownBlock = some g → ¬ F1 g ∧ g < w.heap.size := fun g hg => ⟨fun e => by
    obtain ⟨q1, q2⟩ := hap g hg
    rcases g1 g e with k | k
    · exact q1 k
    · omega, (hap g hg).2⟩
  have av1 : RAt atTy w1 (.slice a m c) tk.as := (hav.below hB0).same (fun g hg hgl => c1.block g hgl (hap g hg).1) c1.size
  have i1' : RIs w1 F1 b ⟨s.rest, [], s.toks ++ endW s.words⟩ := i1
  obtain ⟨⟨p, v, tv, V, h1, h2, h3, h4, h5, h6, fb, fv, ft⟩, hlt1⟩ := i1'
  have hVl : V.length = (s.toks ++ endW s.words).length := h3.1
  have hel : (endW s.words).length ≤ 1 := by unfold endW; split <;> simp
  obtain ⟨ta, tc, htv, _⟩ := h2.slice
  subst htv
  have hB : Below w1.heap.size w1 (w1.alloc (.cells #[.int .i64 tk.k, .string (mk tk.n), .slice a m c, .string (mk tk.t)] 36)).drew := ((Below.refl _ _).alloc (Nat.le_refl _) _).drew
  have hob : own (w1.alloc (.cells #[.int .i64 tk.k, .string (mk tk.n), .slice a m c, .string (mk tk.t)] 36)).drew w1.heap.size #[.int .i64 tk.k, .string (mk tk.n), .slice a m c, .string (mk tk.t)] 36 := own.new w1 _ _
  generalize hWW : (w1.alloc (.cells #[.int .i64 tk.k, .string (mk tk.n), .slice a m c, .string (mk tk.t)] 36)).drew = W at *
  have hWz := hB.size
  have lt0 := o1.lt
  obtain ⟨a2, cap, w5, e, e1, e2, P⟩ := r_push (x := ⟨tk.k, tk.n, a, m, c, tk.t⟩) (tk := tk) (h1.blk.same (hB.block _ h1.lt)) (h2.below hB) (h3.same (fun x hx g hg hgl => hB.block g hgl) hB.size) ⟨rfl, rfl, rfl, av1.below hB⟩ h4 (fun y hy g hg => by
    rcases List.mem_append.1 hy with hy | hy
    · obtain ⟨q1, q2, q3, q4⟩ := h6 y hy g hg
      exact ⟨q2, q4, by have := hlt1 g q1; omega⟩
    · simp only [List.mem_singleton] at hy
      subst hy
      obtain ⟨q1, q2⟩ := hap1 g hg
      exact ⟨fun e => q1 (by rw [e]; exact fb), fun e => q1 (ft g e), by omega⟩) hob rfl (by rw [hVl, List.length_append]; omega)
  refine ⟨fun wx hx => ?_, ta, V.length, tc, a2, cap, w5, fun wx hx => (hx.cell (p := ⟨b, 3, none⟩) h1.lt).trans h1.cells.2.2.2.1, by rw [hWW]; exact e, e1, e2, ?_⟩
  · exact ⟨(hx.cell (p := ⟨_, 0, none⟩) lt0).trans ((o1.cell 0).trans rfl), (hx.cell (p := ⟨_, 1, none⟩) lt0).trans ((o1.cell 1).trans rfl), (hx.cell (p := ⟨_, 2, none⟩) lt0).trans ((o1.cell 2).trans rfl), (hx.cell (p := ⟨_, 3, none⟩) lt0).trans ((o1.cell 3).trans rfl)⟩
  have hP := P.chg.size
  have hcW : Chg (fun y => y = b ∨ (Value.slice ta V.length tc).ownBlock = some y) w1 (w5.setCell ⟨b, 3, none⟩ (.slice a2 (V.length + 1) cap)) := (Chg.of_below (S := fun y => y = b ∨ (Value.slice ta V.length tc).ownBlock = some y) hB).trans P.chg (fun x e => .inl e)
  have hvn : ∀ g, v.ownBlock = some g → ¬ (g = b ∨ (Value.slice ta V.length tc).ownBlock = some g) := fun g hg e => by
    rcases e with e | e
    · exact h1.apart (by rw [hg, e])
    · exact h5 g e hg
  refine ⟨fun x => F1 x ∨ (Value.slice a m c).ownBlock = some x ∨ (Value.slice a2 (V.length + 1) cap).ownBlock = some x, ⟨⟨p, v, .slice a2 (V.length + 1) cap, V ++ [(⟨tk.k, tk.n, a, m, c, tk.t⟩ : TkV)], ⟨P.blk, h1.ptr, ownsRow_same h1.row (fun g hg => hcW.block g (ownsRow_lt h1.row g hg) (hvn g hg)), h1.apart⟩, P.row, P.tks, P.ap, fun g hg e => ?_, fun x hx g hg => ?_, .inl fb, fun g hg => .inl (fv g hg), fun g hg => .inr (.inr hg)⟩, fun x hx => ?_⟩, ?_, fun x hx => ?_⟩
  · rcases P.new g hg with e' | e'
    · exact h5 g e' e
    · have := ownsRow_lt h1.row g e; omega
  · rcases List.mem_append.1 hx with hx | hx
    · obtain ⟨q1, q2, q3, q4⟩ := h6 x hx g hg
      refine ⟨.inl q1, q2, q3, fun e => ?_⟩
      rcases P.new g e with e' | e'
      · exact q4 e'
      · have := hlt1 g q1; omega
    · simp only [List.mem_singleton] at hx
      subst hx
      obtain ⟨q1, q2⟩ := hap1 g hg
      refine ⟨.inr (.inl hg), fun e => q1 (by rw [e]; exact fb), fun e => q1 (fv g e), fun e => ?_⟩
      rcases P.new g e with e' | e'
      · exact q1 (ft g e')
      · omega
  · rcases hx with hx | hx | hx
    · have := hlt1 x hx; omega
    · have := (hap x hx).2; omega
    · exact ownsRow_lt P.row x hx
  · refine (((Chg.of_below (S := fun x => F x ∨ (Value.slice a m c).ownBlock = some x) hB0).trans (c1.mono (T := fun x => F x ∨ (Value.slice a m c).ownBlock = some x) (fun x e => .inl e)) (fun x e => .inl e))).trans hcW (fun x e => ?_)
    have : F1 x := by
      rcases e with e | e
      · rw [e]; exact fb
      · exact ft x e
    rcases g1 x this with k | k
    · exact .inl (.inl k)
    · right; omega
  · rcases hx with hx | hx | hx
    · rcases g1 x hx with k | k
      · exact .inl (.inl k)
      · right; omega
    · exact .inl (.inr hx)
    · rcases P.new x hx with e' | e'
      · rcases g1 x (ft x e') with k | k
        · exact .inl (.inl k)
        · right; omega
      · right; omega
set_option maxHeartbeats 4000000 in
theorem rTag_to (h : RIs w F b s) (hl : s.toks.length ≤ 90000) (tk : TkX) (a : Option Addr) (m c : Nat) (hav : RAt atTy w (.slice a m c) tk.as) (hap : ∀ g, (Value.slice a m c).ownBlock = some g → ¬ F g ∧ g < w.heap.size) :
    Calls Tryd.prog 37 #[.pointer (some ⟨b, 0, none⟩), .agg #[.int .i64 tk.k, .string (mk tk.n), .slice a m c, .string (mk tk.t)]] w fun e w' => e = .returned (.tuple #[]) ∧ RTo (fun x => F x ∨ (Value.slice a m c).ownBlock = some x) w w' b ⟨s.rest, [], s.toks ++ endW s.words ++ [tk]⟩ := by
  have hB0 : Below w.heap.size w (w.alloc (.cells #[.int .i64 tk.k, .string (mk tk.n), .slice a m c, .string (mk tk.t)] 36)) := (Below.refl _ _).alloc (Nat.le_refl _) _
  have HE := hid (rEndWords_to (rIs_same h hB0.size (fun x hx => hB0.block x (h.lt x hx))) (by omega))
  have HM := hid (fun (w1 : World) (ht : RTo F (w.alloc (.cells #[.int .i64 tk.k, .string (mk tk.n), .slice a m c, .string (mk tk.t)] 36)) w1 b ⟨s.rest, [], s.toks ++ endW s.words⟩) => tg_mid rfl h.lt hav hap hl ht)
  clear h hav hap hB0 hl
  go_enter Tryd.func37, Tryd.ntmps37
  go_wp2_with (go_at_call 26; (with_reducible refine HE.out.mono ?_))
  first | rintro e w1 rfl ht | rintro e w1 ⟨rfl, ht⟩
  obtain ⟨hbx, ta, n, tc, a2, cap, w5, hcb, hrun, k1, k2, hfin⟩ := HM.out w1 ht
  have HF := hid hfin
  have HRUN := hid hrun
  have B0 : Below w1.heap.size w1 (w1.alloc (.cells #[.int .i64 tk.k, .string (mk tk.n), .slice a m c, .string (mk tk.t)] 36)) := (Below.refl _ _).alloc (Nat.le_refl _) _
  obtain ⟨d0, d1, d2, d3⟩ := hbx _ (Below.refl _ _)
  have d4 := hcb _ (Below.refl _ _)
  have d5 := hcb _ B0
  clear hfin hrun hbx hcb B0 ht HM HE
  go_wp2
  go_region_law (refine step_append_at HRUN.out (by with_reducible rfl) rfl _ _ rfl rfl rfl rfl ?_)
  all_goals
    go_wp2
    go_end0
    exact ⟨rfl, HF.out⟩
end
end Go.Proofs.YtbiiaepmemdlgaaDoor
