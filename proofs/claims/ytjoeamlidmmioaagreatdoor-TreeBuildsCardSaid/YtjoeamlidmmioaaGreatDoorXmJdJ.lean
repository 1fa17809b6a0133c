import Derived.Test.YtjoeamlidmmioaaGreatDoorXmJcJ
import Derived.Deep.RegionLaw
/-
  LAYER 11 (xml), THE PROGRAM: a token put behind the others; endWords.
-/
namespace Go.Proofs.YtjoeamlidmmioaaGreatDoor
open Go.RowKit
set_option linter.unusedVariables false
set_option maxRecDepth 100000

/-- A token has been put behind the others. -/
structure PushAt (W : World) (b : Nat) (rs : ByteArray) (p v tv tv' : Value) (V : List TkV) (L : List TkX) (w6 : World) : Prop where
  blk : own w6 b #[.string rs, p, v, tv'] 74
  row : ROwn tkTy w6 tv' V
  tks : TksIs w6 V L
  chg : Chg (fun y => y = b ∨ tv.ownBlock = some y) W w6
  ap : tv'.ownBlock ≠ some b
  new : ∀ g, tv'.ownBlock = some g → tv.ownBlock = some g ∨ W.heap.size ≤ g
theorem typ_ne2 : (74 : Nat) ≠ 48 := by decide
theorem r_push {W : World} {b gb : Nat} {rs : ByteArray} {p v tv : Value} {V : List TkV} {L : List TkX} {x : TkV} {tk : TkX} {cs : Array Value} (ho : own W b #[.string rs, p, v, tv] 74) (hr : ROwn tkTy W tv V) (ht : TksIs W V L) (hx : TkIs W x tk) (h4 : tv.ownBlock ≠ some b)
    (h6 : ∀ y ∈ V ++ [x], ∀ g, (Value.slice y.a y.m y.c).ownBlock = some g → g ≠ b ∧ tv.ownBlock ≠ some g ∧ g < W.heap.size) (hb : own W gb cs 48) (hc : cs.toList = tkTy.cs x) (hl : V.length ≤ 100000) :
    ∃ a cap w5, (Builtin.append_ #[22, 22] 22 #[tv, .slice (some ⟨gb, 0, none⟩) 1 1]).run Tryz.prog W = .ok (.slice a (V.length + 1) cap) w5 ∧ w5.cell? ⟨b, 3, none⟩ = some tv ∧ w5.frozen? ⟨b, 3, none⟩ = false ∧
      PushAt W b rs p v tv (.slice a (V.length + 1) cap) (V ++ [x]) (L ++ [tk]) (w5.setCell ⟨b, 3, none⟩ (.slice a (V.length + 1) cap)) := by
  obtain ⟨a, cap, w5, e, hro, hg, hat⟩ := run_app tkTy_ok W 22 tv _ V [x] hr (rAt_box tkTy_ok hb hc) (by simp; omega)
  simp only [List.length_singleton] at e hro hat
  have hcg : Chg (fun y => tv.ownBlock = some y) W w5 := Chg.of_grown hg
  have ho5 := ho.chg hcg h4
  have hne : (Value.slice a (V.length + 1) cap).ownBlock ≠ some b := by
    intro eb
    rcases hro.2 with ⟨hv, _⟩ | ⟨g, cap', cur, hv, _, hg', _⟩
    · rw [hv] at eb; simp [Value.ownBlock] at eb
    · rw [hv] at eb
      simp [Value.ownBlock] at eb
      subst eb
      unfold own at ho5
      rw [ho5] at hg'
      simp only [Option.some.injEq, Obj.cells.injEq] at hg'
      exact typ_ne2 hg'.2.1
  refine ⟨a, cap, w5, e, by rw [ho5.cell]; rfl, ho5.frozen 3, ⟨?_, ?_, ?_, ?_, hne, ?_⟩⟩
  · have := ho5.set 3 (.slice a (V.length + 1) cap); simpa using this
  · exact ownsRow_same hro (fun g hg2 => by rw [Below.heap_setCell _ _ _ _ (fun e2 => hne (by rw [hg2]; simp [e2]))])
  · refine (ht.push hx).same (fun y hy g hg2 hgl => ?_) (by rw [setCell_size]; exact hcg.size)
    obtain ⟨q1, q2, q3⟩ := h6 y hy g hg2
    rw [Below.heap_setCell _ _ _ _ (fun e2 => q1 (by simpa using e2)), hcg.block g q3 q2]
  · exact (hcg.mono (T := fun y => y = b ∨ tv.ownBlock = some y) (fun y e2 => .inr e2)).trans ((Chg.setCell w5 ⟨b, 3, none⟩ _).mono (T := fun y => y = b ∨ tv.ownBlock = some y) (fun y e2 => .inl e2)) (fun y e2 => .inl e2)
  · intro g hg2
    rcases hat with k | k
    · left; rw [← k]; exact hg2
    · right; rw [k] at hg2; cases hg2; exact Nat.le_refl _

section
variable {F : Nat → Prop} {w : World} {b : Nat} {s : RSt}
/-- What endWords needs behind String. -/
structure EwMid (F : Nat → Prop) (w : World) (b : Nat) (s : RSt) (tv : Value) (n : Nat) (w1 : World) : Prop where
  c3 : w1.cell? ⟨b, 3, none⟩ = some tv
  c3b : (w1.alloc (.cells #[.int .i64 3, .string ⟨#[]⟩, .slice none 0 0, .string (mk s.words)] 48)).cell? ⟨b, 3, none⟩ = some tv
  run : ∃ a cap w5, (Builtin.append_ #[22, 22] 22 #[tv, .slice (some ⟨w1.heap.size, 0, none⟩) 1 1]).run Tryz.prog (w1.alloc (.cells #[.int .i64 3, .string ⟨#[]⟩, .slice none 0 0, .string (mk s.words)] 48)) = .ok (.slice a (n + 1) cap) w5 ∧ w5.cell? ⟨b, 3, none⟩ = some tv ∧ w5.frozen? ⟨b, 3, none⟩ = false ∧
    Hid (∃ p v, own (w5.setCell ⟨b, 3, none⟩ (.slice a (n + 1) cap)) b #[.string (mk s.rest), p, v, .slice a (n + 1) cap] 74 ∧
      ∀ w7, RdAt w7 b (mk s.rest) (.pointer none) (.slice none 0 0) (.slice a (n + 1) cap) [] → Chg (fun x => x = b) (w5.setCell ⟨b, 3, none⟩ (.slice a (n + 1) cap)) w7 → RTo F w w7 b ⟨s.rest, [], s.toks ++ [wordsT s.words]⟩)
theorem ew_mid {p v tv : Value} {V : List TkV} {w1 : World} (h1 : RdAt w b (mk s.rest) p v tv s.words) (h2 : ROwn tkTy w tv V) (h3 : TksIs w V s.toks) (h4 : tv.ownBlock ≠ some b) (h5 : ∀ g, tv.ownBlock = some g → v.ownBlock ≠ some g)
    (h6 : ∀ x ∈ V, ∀ g, (Value.slice x.a x.m x.c).ownBlock = some g → F g ∧ g ≠ b ∧ v.ownBlock ≠ some g ∧ tv.ownBlock ≠ some g) (fb : F b) (fv : ∀ g, v.ownBlock = some g → F g) (ft : ∀ g, tv.ownBlock = some g → F g) (hlt : ∀ x, F x → x < w.heap.size) (hl : s.toks.length ≤ 100000)
    (hc : Chg (fun x => v.ownBlock = some x) w w1) : EwMid F w b s tv s.toks.length w1 := by
  have hz := hc.size
  have hB : Below w1.heap.size w1 (w1.alloc (.cells #[.int .i64 3, .string ⟨#[]⟩, .slice none 0 0, .string (mk s.words)] 48)) := (Below.refl _ _).alloc (Nat.le_refl _) _
  have o1 : own w1 b #[.string (mk s.rest), p, v, tv] 74 := h1.blk.chg hc h1.apart
  have o2 := o1.same (hB.block _ o1.lt)
  have hVl : V.length = s.toks.length := h3.1
  generalize hW : w1.alloc (.cells #[.int .i64 3, .string ⟨#[]⟩, .slice none 0 0, .string (mk s.words)] 48) = W at *
  have hob : own W w1.heap.size #[.int .i64 3, .string ⟨#[]⟩, .slice none 0 0, .string (mk s.words)] 48 := by rw [← hW]; exact own.new w1 _ _
  have hWz := hB.size
  have hcW : Chg (fun x => v.ownBlock = some x) w W := hc.trans (Chg.of_below (S := fun x => v.ownBlock = some x) hB) (fun x e => .inl e)
  have r2 : ROwn tkTy W tv V := ownsRow_same h2 (fun g hg => hcW.block g (hlt g (ft g hg)) (h5 g hg))
  have t2 : TksIs W V s.toks := h3.same (fun x hx g hg hgl => hcW.block g hgl (h6 x hx g hg).2.2.1) hcW.size
  obtain ⟨a, cap, w5, e, e1, e2, P⟩ := r_push (x := ⟨3, [], none, 0, 0, s.words⟩) (tk := wordsT s.words) o2 r2 t2 ⟨rfl, rfl, rfl, rAt_nil W⟩ h4 (fun y hy g hg => by
    rcases List.mem_append.1 hy with hy | hy
    · obtain ⟨q1, q2, q3, q4⟩ := h6 y hy g hg
      exact ⟨q2, q4, by have := hlt g q1; omega⟩
    · simp at hy; subst hy; simp [Value.ownBlock] at hg) hob rfl (by omega)
  rw [hVl] at e P
  refine ⟨by rw [o1.cell]; rfl, by rw [hW, o2.cell]; rfl, a, cap, w5, by rw [hW]; exact e, e1, e2, hid ⟨p, v, P.blk, fun w7 k7 c7 => ?_⟩⟩
  have hP := P.chg.size
  have h7 := c7.size
  refine ⟨fun x => F x ∨ (Value.slice a (s.toks.length + 1) cap).ownBlock = some x, ⟨⟨.pointer none, .slice none 0 0, .slice a (s.toks.length + 1) cap, V ++ [(⟨3, [], none, 0, 0, s.words⟩ : TkV)], k7, ownsRow_same P.row (fun g hg => c7.block g (ownsRow_lt P.row g hg) (fun e => P.ap (by rw [hg, e]))), P.tks.same (fun x hx g hg hgl => c7.block g hgl (fun e => ?_)) h7, P.ap, fun g hg => by simp [Value.ownBlock], fun x hx g hg => ?_, .inl fb, fun g hg => by simp [Value.ownBlock] at hg, fun g hg => .inr hg⟩, fun x hx => ?_⟩, ?_, fun x hx => ?_⟩
  · rcases List.mem_append.1 hx with hx | hx
    · exact (h6 x hx g hg).2.1 e
    · simp at hx; subst hx; simp [Value.ownBlock] at hg
  · rcases List.mem_append.1 hx with hx | hx
    · obtain ⟨q1, q2, q3, q4⟩ := h6 x hx g hg
      refine ⟨.inl q1, q2, by simp [Value.ownBlock], fun e => ?_⟩
      rcases P.new g e with e' | e'
      · exact q4 e'
      · have := hlt g q1; omega
    · simp at hx; subst hx; simp [Value.ownBlock] at hg
  · rcases hx with hx | hx
    · have := hlt x hx; omega
    · have := ownsRow_lt P.row x hx; omega
  · refine ((hcW.mono (T := F) (fun x e => fv x e)).trans P.chg (fun x e => ?_)).trans c7 (fun x e => .inl (by rw [e]; exact fb))
    left
    rcases e with e | e
    · rw [e]; exact fb
    · exact ft x e
  · rcases hx with hx | hx
    · exact .inl hx
    · rcases P.new x hx with e | e
      · exact .inl (ft x e)
      · right; omega
set_option maxHeartbeats 4000000 in
theorem rEndWords_to (h : RIs w F b s) (hl : s.toks.length ≤ 100000) :
    Calls Tryz.prog 32 #[.pointer (some ⟨b, 0, none⟩)] w fun e w' => e = .returned (.tuple #[]) ∧ RTo F w w' b ⟨s.rest, [], s.toks ++ endW s.words⟩ := by
  have h' := h
  obtain ⟨⟨p, v, tv, V, h1, h2, h3, h4, h5, h6, fb, fv, ft⟩, hlt⟩ := h
  have HL := hid (rdLen_any h1)
  by_cases h0 : s.words = []
  · have hw : s.words.length = 0 := by rw [h0]; rfl
    rw [hw] at HL
    have HE : Hid (RTo F w w b ⟨s.rest, [], s.toks ++ endW s.words⟩) := hid (by
      refine ⟨F, ?_, Chg.refl _ _, fun x hx => .inl hx⟩
      have e : (⟨s.rest, [], s.toks ++ endW s.words⟩ : RSt) = s := by
        obtain ⟨a, c, d⟩ := s
        simp only at h0
        subst h0
        simp [endW]
      rw [e]; exact h')
    clear h' h0 hw h1 h2 h3 h4 h5 h6 fb fv ft hlt hl
    go_enter Tryz.func32, Tryz.ntmps32
    go_wp2_with (go_at_call 53; (with_reducible refine HL.out.mono ?_); rintro e w1 ⟨rfl, rfl⟩)
    go_end0
    exact ⟨rfl, HE.out⟩
  · have hw : 0 < s.words.length := List.length_pos_iff.2 h0
    have HS := hid (rdString_any (h1.below (Below.drew (Below.refl w.heap.size w))) h0)
    have HM := hid (fun (w1 : World) (hc : Chg (fun x => v.ownBlock = some x) w.drew w1) => ew_mid h1 h2 h3 h4 h5 h6 fb fv ft hlt hl (Chg.trans (Chg.of_below (Below.drew (Below.refl w.heap.size w))) hc (fun x e => .inl e)))
    have HR := hid (fun (w6 : World) (p v tv : Value) (ho : own w6 b #[.string (mk s.rest), p, v, tv] 74) => rdReset_any ho)
    have hE : endW s.words = [wordsT s.words] := by unfold endW; rw [if_neg h0]
    obtain ⟨ta, tc, rfl, _⟩ := h2.slice
    have c3 : w.cell? ⟨b, 3, none⟩ = some (.slice ta V.length tc) := h1.cells.2.2.2.1
    have c3d : w.drew.cell? ⟨b, 3, none⟩ = some (.slice ta V.length tc) := c3
    rw [hE]
    have hwI : (0 : Int) < (s.words.length : Int) := by omega
    clear h' h1 h2 h3 h4 h5 h6 fb fv ft hlt hl hE h0 hw
    generalize V.length = vn at *
    go_enter Tryz.func32, Tryz.ntmps32
    go_wp2_with (go_at_call 53; (with_reducible refine HL.out.mono ?_); rintro e w1 ⟨rfl, rfl⟩)
    go_region_law (first
      | (refine step_append_at hrun (by with_reducible rfl) rfl _ _ rfl rfl rfl rfl ?_)
      | (go_simp; go_wp2_with (go_at_call 40; (with_reducible refine HS.out.mono ?_); rintro e w1 ⟨rfl, hc⟩; obtain ⟨d3, d3b, a, cap, w5, hrun, k1, k2, HF⟩ := HM.out w1 hc; clear hc)))
    all_goals
      obtain ⟨p', v', ho, hfin⟩ := HF.out
      have HR2 := hid (HR.out _ _ _ _ ho)
      have HZ := hid hfin
      clear hfin ho HF HR
      go_wp2_with (go_at_call 54; (with_reducible refine HR2.out.mono ?_); rintro e w7 ⟨rfl, k7, c7⟩)
      go_end0
      exact ⟨rfl, HZ.out w7 k7 c7⟩
end
end Go.Proofs.YtjoeamlidmmioaaGreatDoor
/-
  LAYER 11 (xml), THE PROGRAM: tag.
-/
namespace Go.Proofs.YtjoeamlidmmioaaGreatDoor
open Go.RowKit
set_option linter.unusedVariables false
set_option maxRecDepth 100000

section
variable {F : Nat → Prop} {w : World} {b : Nat} {s : RSt}
/-- What tag needs behind endWords. -/
structure TgMid (F : Nat → Prop) (w : World) (b : Nat) (s : RSt) (tk : TkX) (g0 : Nat) (a : Option Addr) (m c : Nat) (w1 : World) : Prop where
  box : ∀ wx, Below w1.heap.size w1 wx → wx.cell? ⟨g0, 0, none⟩ = some (.int .i64 tk.k) ∧ wx.cell? ⟨g0, 1, none⟩ = some (.string (mk tk.n)) ∧ wx.cell? ⟨g0, 2, none⟩ = some (.slice a m c) ∧ wx.cell? ⟨g0, 3, none⟩ = some (.string (mk tk.t))
  run : ∃ ta n tc a2 cap w5, (∀ wx, Below w1.heap.size w1 wx → wx.cell? ⟨b, 3, none⟩ = some (.slice ta n tc)) ∧ (Builtin.append_ #[22, 22] 22 #[.slice ta n tc, .slice (some ⟨w1.heap.size, 0, none⟩) 1 1]).run Tryz.prog (w1.alloc (.cells #[.int .i64 tk.k, .string (mk tk.n), .slice a m c, .string (mk tk.t)] 48)).drew = .ok (.slice a2 (n + 1) cap) w5 ∧ w5.cell? ⟨b, 3, none⟩ = some (.slice ta n tc) ∧ w5.frozen? ⟨b, 3, none⟩ = false ∧
    RTo (fun x => F x ∨ (Value.slice a m c).ownBlock = some x) w (w5.setCell ⟨b, 3, none⟩ (.slice a2 (n + 1) cap)) b ⟨s.rest, [], s.toks ++ endW s.words ++ [tk]⟩
theorem tg_mid {W0 w1 : World} {tk : TkX} {a : Option Addr} {m c : Nat} (hW : W0 = w.alloc (.cells #[.int .i64 tk.k, .string (mk tk.n), .slice a m c, .string (mk tk.t)] 48)) (hlt : ∀ x, F x → x < w.heap.size) (hav : RAt atTy w (.slice a m c) tk.as)
    (hap : ∀ g, (Value.slice a m c).ownBlock = some g → ¬ F g ∧ g < w.heap.size) (hl : s.toks.length ≤ 90000) (ht : RTo F W0 w1 b ⟨s.rest, [], s.toks ++ endW s.words⟩) : TgMid F w b s tk w.heap.size a m c w1 := by
  have hB0 : Below w.heap.size w W0 := by rw [hW]; exact (Below.refl _ _).alloc (Nat.le_refl _) _
  have hz0 : W0.heap.size = w.heap.size + 1 := by rw [hW]; simp
  have o0 : own W0 w.heap.size #[.int .i64 tk.k, .string (mk tk.n), .slice a m c, .string (mk tk.t)] 48 := by rw [hW]; exact own.new w _ _
  obtain ⟨F1, i1, c1, g1⟩ := ht
  have hz1 := c1.size
  have hn0 : ¬ F w.heap.size := fun e => by have := hlt _ e; omega
  have o1 : own w1 w.heap.size #[.int .i64 tk.k, .string (mk tk.n), .slice a m c, .string (mk tk.t)] 48 := o0.chg c1 hn0
  have hap1 : ∀ g, (Value.slice a m c).ownBlock = some g → ¬ F1 g ∧ g < w.heap.size := fun g hg => ⟨fun e => by
    obtain ⟨q1, q2⟩ := hap g hg
    rcases g1 g e with k | k
    · exact q1 k
    · omega, (hap g hg).2⟩
  have av1 : RAt atTy w1 (.slice a m c) tk.as := (hav.below hB0).same (fun g hg hgl => c1.block g hgl (hap g hg).1) c1.size
  have i1' : RIs w1 F1 b ⟨s.rest, [], s.toks ++ endW s.words⟩ := i1
  obtain ⟨⟨p, v, tv, V, h1, h2, h3, h4, h5, h6, fb, fv, ft⟩, hlt1⟩ := i1'
  have hVl : V.length = (s.toks ++ endW s.words).length := h3.1
  have hel : (endW s.words).length ≤ 1 := by unfold endW; split <;> simp
  obtain ⟨ta, tc, htv, _⟩ := h2.slice
  subst htv
  have hB : Below w1.heap.size w1 (w1.alloc (.cells #[.int .i64 tk.k, .string (mk tk.n), .slice a m c, .string (mk tk.t)] 48)).drew := ((Below.refl _ _).alloc (Nat.le_refl _) _).drew
  have hob : own (w1.alloc (.cells #[.int .i64 tk.k, .string (mk tk.n), .slice a m c, .string (mk tk.t)] 48)).drew w1.heap.size #[.int .i64 tk.k, .string (mk tk.n), .slice a m c, .string (mk tk.t)] 48 := own.new w1 _ _
  generalize hWW : (w1.alloc (.cells #[.int .i64 tk.k, .string (mk tk.n), .slice a m c, .string (mk tk.t)] 48)).drew = W at *
  have hWz := hB.size
  have lt0 := o1.lt
  obtain ⟨a2, cap, w5, e, e1, e2, P⟩ := r_push (x := ⟨tk.k, tk.n, a, m, c, tk.t⟩) (tk := tk) (h1.blk.same (hB.block _ h1.lt)) (h2.below hB) (h3.same (fun x hx g hg hgl => hB.block g hgl) hB.size) ⟨rfl, rfl, rfl, av1.below hB⟩ h4 (fun y hy g hg => by
    rcases List.mem_append.1 hy with hy | hy
    · obtain ⟨q1, q2, q3, q4⟩ := h6 y hy g hg
      exact ⟨q2, q4, by have := hlt1 g q1; omega⟩
    · simp only [List.mem_singleton] at hy
      subst hy
      obtain ⟨q1, q2⟩ := hap1 g hg
      exact ⟨fun e => q1 (by rw [e]; exact fb), fun e => q1 (ft g e), by omega⟩) hob rfl (by rw [hVl, List.length_append]; omega)
  refine ⟨fun wx hx => ?_, ta, V.length, tc, a2, cap, w5, fun wx hx => (hx.cell (p := ⟨b, 3, none⟩) h1.lt).trans h1.cells.2.2.2.1, by rw [hWW]; exact e, e1, e2, ?_⟩
  · exact ⟨(hx.cell (p := ⟨_, 0, none⟩) lt0).trans ((o1.cell 0).trans rfl), (hx.cell (p := ⟨_, 1, none⟩) lt0).trans ((o1.cell 1).trans rfl), (hx.cell (p := ⟨_, 2, none⟩) lt0).trans ((o1.cell 2).trans rfl), (hx.cell (p := ⟨_, 3, none⟩) lt0).trans ((o1.cell 3).trans rfl)⟩
  have hP := P.chg.size
  have hcW : Chg (fun y => y = b ∨ (Value.slice ta V.length tc).ownBlock = some y) w1 (w5.setCell ⟨b, 3, none⟩ (.slice a2 (V.length + 1) cap)) := (Chg.of_below (S := fun y => y = b ∨ (Value.slice ta V.length tc).ownBlock = some y) hB).trans P.chg (fun x e => .inl e)
  have hvn : ∀ g, v.ownBlock = some g → ¬ (g = b ∨ (Value.slice ta V.length tc).ownBlock = some g) := fun g hg e => by
    rcases e with e | e
    · exact h1.apart (by rw [hg, e])
    · exact h5 g e hg
  refine ⟨fun x => F1 x ∨ (Value.slice a m c).ownBlock = some x ∨ (Value.slice a2 (V.length + 1) cap).ownBlock = some x, ⟨⟨p, v, .slice a2 (V.length + 1) cap, V ++ [(⟨tk.k, tk.n, a, m, c, tk.t⟩ : TkV)], ⟨P.blk, h1.ptr, ownsRow_same h1.row (fun g hg => hcW.block g (ownsRow_lt h1.row g hg) (hvn g hg)), h1.apart⟩, P.row, P.tks, P.ap, fun g hg e => ?_, fun x hx g hg => ?_, .inl fb, fun g hg => .inl (fv g hg), fun g hg => .inr (.inr hg)⟩, fun x hx => ?_⟩, ?_, fun x hx => ?_⟩
  · rcases P.new g hg with e' | e'
    · exact h5 g e' e
    · have := ownsRow_lt h1.row g e; omega
  · rcases List.mem_append.1 hx with hx | hx
    · obtain ⟨q1, q2, q3, q4⟩ := h6 x hx g hg
      refine ⟨.inl q1, q2, q3, fun e => ?_⟩
      rcases P.new g e with e' | e'
      · exact q4 e'
      · have := hlt1 g q1; omega
    · simp only [List.mem_singleton] at hx
      subst hx
      obtain ⟨q1, q2⟩ := hap1 g hg
      refine ⟨.inr (.inl hg), fun e => q1 (by rw [e]; exact fb), fun e => q1 (fv g e), fun e => ?_⟩
      rcases P.new g e with e' | e'
      · exact q1 (ft g e')
      · omega
  · rcases hx with hx | hx | hx
    · have := hlt1 x hx; omega
    · have := (hap x hx).2; omega
    · exact ownsRow_lt P.row x hx
  · refine (((Chg.of_below (S := fun x => F x ∨ (Value.slice a m c).ownBlock = some x) hB0).trans (c1.mono (T := fun x => F x ∨ (Value.slice a m c).ownBlock = some x) (fun x e => .inl e)) (fun x e => .inl e))).trans hcW (fun x e => ?_)
    have : F1 x := by
      rcases e with e | e
      · rw [e]; exact fb
      · exact ft x e
    rcases g1 x this with k | k
    · exact .inl (.inl k)
    · right; omega
  · rcases hx with hx | hx | hx
    · rcases g1 x hx with k | k
      · exact .inl (.inl k)
      · right; omega
    · exact .inl (.inr hx)
    · rcases P.new x hx with e' | e'
      · rcases g1 x (ft x e') with k | k
        · exact .inl (.inl k)
        · right; omega
      · right; omega
set_option maxHeartbeats 4000000 in
theorem rTag_to (h : RIs w F b s) (hl : s.toks.length ≤ 90000) (tk : TkX) (a : Option Addr) (m c : Nat) (hav : RAt atTy w (.slice a m c) tk.as) (hap : ∀ g, (Value.slice a m c).ownBlock = some g → ¬ F g ∧ g < w.heap.size) :
    Calls Tryz.prog 48 #[.pointer (some ⟨b, 0, none⟩), .agg #[.int .i64 tk.k, .string (mk tk.n), .slice a m c, .string (mk tk.t)]] w fun e w' => e = .returned (.tuple #[]) ∧ RTo (fun x => F x ∨ (Value.slice a m c).ownBlock = some x) w w' b ⟨s.rest, [], s.toks ++ endW s.words ++ [tk]⟩ := by
  have hB0 : Below w.heap.size w (w.alloc (.cells #[.int .i64 tk.k, .string (mk tk.n), .slice a m c, .string (mk tk.t)] 48)) := (Below.refl _ _).alloc (Nat.le_refl _) _
  have HE := hid (rEndWords_to (rIs_same h hB0.size (fun x hx => hB0.block x (h.lt x hx))) (by omega))
  have HM := hid (fun (w1 : World) (ht : RTo F (w.alloc (.cells #[.int .i64 tk.k, .string (mk tk.n), .slice a m c, .string (mk tk.t)] 48)) w1 b ⟨s.rest, [], s.toks ++ endW s.words⟩) => tg_mid rfl h.lt hav hap hl ht)
  clear h hav hap hB0 hl
  go_enter Tryz.func48, Tryz.ntmps48
  go_wp2_with (go_at_call 32; (with_reducible refine HE.out.mono ?_))
  first | rintro e w1 rfl ht | rintro e w1 ⟨rfl, ht⟩
  obtain ⟨hbx, ta, n, tc, a2, cap, w5, hcb, hrun, k1, k2, hfin⟩ := HM.out w1 ht
  have HF := hid hfin
  have HRUN := hid hrun
  have B0 : Below w1.heap.size w1 (w1.alloc (.cells #[.int .i64 tk.k, .string (mk tk.n), .slice a m c, .string (mk tk.t)] 48)) := (Below.refl _ _).alloc (Nat.le_refl _) _
  obtain ⟨d0, d1, d2, d3⟩ := hbx _ (Below.refl _ _)
  have d4 := hcb _ (Below.refl _ _)
  have d5 := hcb _ B0
  clear hfin hrun hbx hcb B0 ht HM HE
  go_wp2
  go_region_law (refine step_append_at HRUN.out (by with_reducible rfl) rfl _ _ rfl rfl rfl rfl ?_)
  all_goals
    go_wp2
    go_end0
    exact ⟨rfl, HF.out⟩
end
end Go.Proofs.YtjoeamlidmmioaaGreatDoor
/-
  LAYER 11 (xml), THE PROGRAM: closing.
-/
namespace Go.Proofs.YtjoeamlidmmioaaGreatDoor
open Go.RowKit
set_option linter.unusedVariables false
set_option maxRecDepth 100000

section
variable {B : Nat} {F S : Nat → Prop} {w w1 : World} {b : Nat} {s : RSt}
theorem rTo_sub (hS : ∀ x, S x → F x) (h : RTo S w w1 b s) : RTo F w w1 b s := by
  obtain ⟨F1, i, c, g⟩ := h
  exact ⟨F1, i, c.mono hS, fun x hx => (g x hx).imp (hS x) id⟩
theorem gTag0 (k : RGo B F w w1 b s) (hl : s.toks.length ≤ 90000) (t : Int) (n : List UInt8) :
    Calls Tryz.prog 48 #[.pointer (some ⟨b, 0, none⟩), .agg #[.int .i64 t, .string (mk n), .slice none 0 0, .string ⟨#[]⟩]] w1 fun e w2 => e = .returned (.tuple #[]) ∧ RGo B F w w2 b ⟨s.rest, [], s.toks ++ endW s.words ++ [⟨t, n, [], []⟩]⟩ :=
  rGo_lift (Q := fun e => e = .returned (.tuple #[])) (fun F1 i _ => (rTag_to i hl ⟨t, n, [], []⟩ none 0 0 (rAt_nil _) (fun g hg => by simp [Value.ownBlock] at hg)).mono fun e w2 ⟨h1, h2⟩ => ⟨h1, rTo_sub (fun x hx => hx.elim id (fun e => by simp [Value.ownBlock] at e)) h2⟩) k
theorem endX_past (l : List UInt8) : endX l = if (nameX l).1 = [] then none else (past [62] ((nameX l).2.dropWhile spcX)).map fun r => ([closeT (nameX l).1], r) := by
  unfold endX
  by_cases hn : (nameX l).1 = []
  · rw [if_pos hn, if_pos hn]
  rw [if_neg hn, if_neg hn]
  split
  · rename_i r e; rw [e]; rfl
  · rename_i h62
    cases hd : (nameX l).2.dropWhile spcX with
    | nil => rfl
    | cons q r =>
      have hq : q ≠ 62 := fun e => h62 r (by rw [hd, e])
      have : past [62] (q :: r) = none := by simp [past, List.isPrefixOf, Ne.symm hq]
      rw [this]; rfl
set_option maxHeartbeats 2000000 in
theorem gClosing_yes (k : RGo B F w w1 b s) (hl : s.rest.length ≤ 100000) (ht : s.toks.length ≤ 90000) {l : List TkX} {r : List UInt8} (h : endX s.rest = some (l, r)) :
    Calls Tryz.prog 28 #[.pointer (some ⟨b, 0, none⟩)] w1 fun e w2 => e = .returned (.bool true) ∧ RGo B F w w2 b ⟨r, [], s.toks ++ endW s.words ++ l⟩ := by
  rw [endX_past] at h
  by_cases hn : (nameX s.rest).1 = []
  · rw [if_pos hn] at h; cases h
  rw [if_neg hn] at h
  have hd : decide ((nameX s.rest).1 ≠ []) = true := by simp [hn]
  have HN := hid (gName k hl)
  rw [hd] at HN
  have HS := hid (fun (w2 : World) (k : RGo B F w w2 b { s with rest := (nameX s.rest).2 }) => gSpace k)
  obtain ⟨r', hp, he⟩ := Option.map_eq_some_iff.1 h
  cases he
  have HP := hid (fun (w2 : World) (k : RGo B F w w2 b { s with rest := (nameX s.rest).2.dropWhile spcX }) => gPast_yes k ⟨#[62]⟩ hp)
  have HT := hid (fun (w2 : World) (k : RGo B F w w2 b { s with rest := r }) => gTag0 k ht 2 (nameX s.rest).1)
  clear k h hn hd hp hl ht
  generalize (nameX s.rest).1 = nm at *
  go_enter Tryz.func28, Tryz.ntmps28
  go_wp2_with (first
    | (go_at_call 46; (with_reducible refine HN.out.mono ?_); rintro e w2 ⟨rfl, k2⟩)
    | (go_at_call 47; (with_reducible refine (HS.out _ k2).mono ?_); rintro e w3 ⟨rfl, k3⟩)
    | (go_at_call 24; (with_reducible refine (HP.out _ k3).mono ?_); rintro e w4 ⟨rfl, k4⟩)
    | (go_at_call 48; (with_reducible refine (HT.out _ k4).mono ?_); rintro e w5 ⟨rfl, k5⟩))
  go_ret
  exact ⟨rfl, k5⟩
set_option maxHeartbeats 2000000 in
theorem gClosing_no (k : RGo B F w w1 b s) (hl : s.rest.length ≤ 100000) (h : endX s.rest = none) :
    Calls Tryz.prog 28 #[.pointer (some ⟨b, 0, none⟩)] w1 (GFail B F w b (.bool false)) := by
  rw [endX_past] at h
  have HN := hid (gName k hl)
  have HS := hid (fun (w2 : World) (k : RGo B F w w2 b { s with rest := (nameX s.rest).2 }) => gSpace k)
  by_cases hn : (nameX s.rest).1 = []
  · have hd : decide ((nameX s.rest).1 ≠ []) = false := by simp [hn]
    rw [hd] at HN
    clear k h hn hd hl
    go_enter Tryz.func28, Tryz.ntmps28
    go_wp2_with (first
      | (go_at_call 46; (with_reducible refine HN.out.mono ?_); rintro e w2 ⟨rfl, k2⟩)
      | (go_at_call 47; (with_reducible refine (HS.out _ k2).mono ?_); rintro e w3 ⟨rfl, k3⟩))
    go_ret
    exact ⟨rfl, _, k3⟩
  · have hd : decide ((nameX s.rest).1 ≠ []) = true := by simp [hn]
    rw [hd] at HN
    rw [if_neg hn] at h
    have hp : past [62] ((nameX s.rest).2.dropWhile spcX) = none := by simpa using h
    have HP := hid (fun (w2 : World) (k : RGo B F w w2 b { s with rest := (nameX s.rest).2.dropWhile spcX }) => gPast_no k ⟨#[62]⟩ hp)
    clear k h hn hd hp hl
    go_enter Tryz.func28, Tryz.ntmps28
    go_wp2_with (first
      | (go_at_call 46; (with_reducible refine HN.out.mono ?_); rintro e w2 ⟨rfl, k2⟩)
      | (go_at_call 47; (with_reducible refine (HS.out _ k2).mono ?_); rintro e w3 ⟨rfl, k3⟩)
      | (go_at_call 24; (with_reducible refine (HP.out _ k3).mono ?_); rintro e w4 ⟨rfl, k4⟩))
    go_ret
    exact ⟨rfl, _, k4⟩
end
end Go.Proofs.YtjoeamlidmmioaaGreatDoor
/-
  LAYER 11 (xml), THE PROGRAM: opening: the reader beside the tag that is read.
-/
namespace Go.Proofs.YtjoeamlidmmioaaGreatDoor
open Go.RowKit
set_option linter.unusedVariables false
set_option maxRecDepth 100000

/-- Since w: the reader, and beside it the box of the tag that is read, with its attributes' row. -/
def OpGo (B : Nat) (F : Nat → Prop) (w w1 : World) (b : Nat) (s : RSt) (tb : Nat) (nm : List UInt8) (a : Option Addr) (m c : Nat) (l : List AtX) : Prop :=
  ∃ F1, RIs w1 F1 b s ∧ Gb B w1 ∧ B ≤ w.heap.size ∧ (∀ x, F1 x → B ≤ x) ∧ Chg F w w1 ∧ (∀ x, F1 x → F x ∨ w.heap.size ≤ x) ∧
    own w1 tb #[.int .i64 1, .string (mk nm), .slice a m c, .string ⟨#[]⟩] 48 ∧ ROwn atTy w1 (.slice a m c) l ∧ ¬ F1 tb ∧ w.heap.size ≤ tb ∧ ∀ g, (Value.slice a m c).ownBlock = some g → ¬ F1 g ∧ g ≠ tb ∧ w.heap.size ≤ g
section
variable {B : Nat} {F : Nat → Prop} {w w1 w2 : World} {b : Nat} {s s' : RSt} {tb : Nat} {nm : List UInt8} {a : Option Addr} {m c : Nat} {l : List AtX}
theorem opGo_start (k : RGo B F w w1 b s) (h : own w2 w1.heap.size #[.int .i64 1, .string (mk nm), .slice none 0 0, .string ⟨#[]⟩] 48) (hb : Below w1.heap.size w1 w2) : OpGo B F w w2 b s w1.heap.size nm none 0 0 [] := by
  obtain ⟨F1, i, G, hB, hF, c1, g1⟩ := k
  have hz := c1.size
  exact ⟨F1, rIs_same i hb.size (fun x hx => hb.block x (i.lt x hx)), G.below (hb.mono (Nat.le_trans hB hz)), hB, hF, c1.trans (Chg.of_below (S := F) hb) (fun x e => .inl e), g1, h, rOwn_nil _, fun e => by have := i.lt _ e; omega, hz, fun g hg => by simp [Value.ownBlock] at hg⟩
theorem opGo_gb (k : OpGo B F w w1 b s tb nm a m c l) : Gb B w1 := k.choose_spec.2.1
theorem opGo_later (k : OpGo B F w w1 b s tb nm a m c l) (hb : Below w1.heap.size w1 w2) : OpGo B F w w2 b s tb nm a m c l := by
  obtain ⟨F1, i, G, hB, hF, c1, g1, o, r, n1, n2, n3⟩ := k
  have hz := c1.size
  exact ⟨F1, rIs_same i hb.size (fun x hx => hb.block x (i.lt x hx)), G.below (hb.mono (Nat.le_trans hB hz)), hB, hF, c1.trans (Chg.of_below (S := F) hb) (fun x e => .inl e), g1, o.same (hb.block _ o.lt), r.below hb, n1, n2, n3⟩
theorem opGo_lift {P : Program} {f : FuncId} {args : Array Value} {Q : Ending → RSt → Prop} (ct : ∀ F1, RIs w1 F1 b s → Gb B w1 → B ≤ w1.heap.size → (∀ x, F1 x → B ≤ x) → Calls P f args w1 fun e w2 => ∃ s', Q e s' ∧ RTo F1 w1 w2 b s') (k : OpGo B F w w1 b s tb nm a m c l) :
    Calls P f args w1 fun e w2 => ∃ s', Q e s' ∧ OpGo B F w w2 b s' tb nm a m c l := by
  obtain ⟨F1, i, G, hB, hF, c1, g1, o, r, n1, n2, n3⟩ := k
  have hz := c1.size
  refine (ct F1 i G (Nat.le_trans hB hz) hF).mono fun e w2 ⟨s', q, F2, i2, c2, g2⟩ => ?_
  have lo := o.lt
  have nf : ∀ x, x < w1.heap.size → ¬ F1 x → ¬ F2 x := fun x hx hn hf => by
    rcases g2 x hf with e | e
    · exact hn e
    · omega
  refine ⟨s', q, F2, i2, G.below (c2.below (Nat.le_trans hB hz) hF), hB, fun x hx => ?_, c1.trans c2 g1, fun x hx => ?_, o.chg c2 n1, ownsRow_same r (fun g hg => c2.block g (ownsRow_lt r g hg) (n3 g hg).1), nf _ lo n1, n2, fun g hg => ⟨nf g (ownsRow_lt r g hg) (n3 g hg).1, (n3 g hg).2⟩⟩
  · rcases g2 x hx with e | e
    · exact hF x e
    · omega
  · rcases g2 x hx with e | e
    · exact g1 x e
    · right; omega
theorem opGo_lift1 {P : Program} {f : FuncId} {args : Array Value} {Q : Ending → Prop} (ct : ∀ F1, RIs w1 F1 b s → Gb B w1 → Calls P f args w1 fun e w2 => Q e ∧ RTo F1 w1 w2 b s') (k : OpGo B F w w1 b s tb nm a m c l) :
    Calls P f args w1 fun e w2 => Q e ∧ OpGo B F w w2 b s' tb nm a m c l :=
  (opGo_lift (Q := fun e s2 => Q e ∧ s2 = s') (fun F1 i G _ _ => (ct F1 i G).mono fun e w2 ⟨q, t⟩ => ⟨s', ⟨q, rfl⟩, t⟩) k).mono fun e w2 ⟨s2, ⟨q, e2⟩, t⟩ => ⟨q, by rw [← e2]; exact t⟩
theorem opGo_quiet {P : Program} {f : FuncId} {args : Array Value} {Q : Ending → Prop} (k : OpGo B F w w1 b s tb nm a m c l) (ct : RAt atTy w1 (.slice a m c) l → Calls P f args w1 fun e w2 => Q e ∧ Below w1.heap.size w1 w2) :
    Calls P f args w1 fun e w2 => Q e ∧ OpGo B F w w2 b s tb nm a m c l ∧ Below w1.heap.size w1 w2 := by
  have hr : RAt atTy w1 (.slice a m c) l := by
    obtain ⟨F1, i, G, hB, hF, c1, g1, o, r, n1, n2, n3⟩ := k
    exact r.rAt
  exact (ct hr).mono fun e w2 ⟨q, hb⟩ => ⟨q, opGo_later k hb, hb⟩
theorem oPast_yes (k : OpGo B F w w1 b s tb nm a m c l) (p : ByteArray) {r : List UInt8} (hp : past p.data.toList s.rest = some r) :
    Calls Tryz.prog 24 #[.pointer (some ⟨b, 0, none⟩), .string p] w1 fun e w2 => e = .returned (.bool true) ∧ OpGo B F w w2 b { s with rest := r } tb nm a m c l := opGo_lift1 (Q := fun e => e = .returned (.bool true)) (fun F1 i _ => rPast_yes i p hp) k
theorem oPast_no (k : OpGo B F w w1 b s tb nm a m c l) (p : ByteArray) (hp : past p.data.toList s.rest = none) :
    Calls Tryz.prog 24 #[.pointer (some ⟨b, 0, none⟩), .string p] w1 fun e w2 => e = .returned (.bool false) ∧ OpGo B F w w2 b s tb nm a m c l := opGo_lift1 (Q := fun e => e = .returned (.bool false)) (fun F1 i _ => rPast_no i p hp) k
theorem oSpace (k : OpGo B F w w1 b s tb nm a m c l) {o : Bool} (ho : decide ((s.rest.dropWhile spcX).length < s.rest.length) = o) :
    Calls Tryz.prog 47 #[.pointer (some ⟨b, 0, none⟩)] w1 fun q w2 => q = .returned (.bool o) ∧ OpGo B F w w2 b { s with rest := s.rest.dropWhile spcX } tb nm a m c l := opGo_lift1 (Q := fun q => q = .returned (.bool o)) (fun F1 i _ => by rw [← ho]; exact rSpace_any i) k
theorem oAttr (k : OpGo B F w w1 b s tb nm a m c l) (hl : s.rest.length ≤ 100000) :
    Calls Tryz.prog 49 #[.pointer (some ⟨b, 0, none⟩)] w1 fun e w2 => ∃ s', GAttr (attrX s.rest) s.rest s' s e ∧ OpGo B F w w2 b s' tb nm a m c l :=
  opGo_lift (Q := fun e s' => GAttr (attrX s.rest) s.rest s' s e) (fun F1 i G hB hF => rAttr_to i G hB hF hl) k
theorem oHas (k : OpGo B F w w1 b s tb nm a m c l) (hl : l.length ≤ 1000000) (n : List UInt8) :
    Calls Tryz.prog 50 #[.slice a m c, .string (mk n)] w1 fun e w2 => e = .returned (.bool (hasX l n)) ∧ OpGo B F w w2 b s tb nm a m c l ∧ Below w1.heap.size w1 w2 :=
  opGo_quiet (Q := fun e => e = .returned (.bool (hasX l n))) k (fun hr => has_any hr hl n)
theorem opGo_box (k : OpGo B F w w1 b s tb nm a m c l) : w1.cell? ⟨tb, 0, none⟩ = some (.int .i64 1) ∧ w1.cell? ⟨tb, 1, none⟩ = some (.string (mk nm)) ∧ w1.cell? ⟨tb, 2, none⟩ = some (.slice a m c) ∧ w1.cell? ⟨tb, 3, none⟩ = some (.string ⟨#[]⟩) ∧ w1.frozen? ⟨tb, 2, none⟩ = false := by
  obtain ⟨F1, i, G, hB, hF, c1, g1, o, r, n1, n2, n3⟩ := k
  exact ⟨(o.cell 0).trans rfl, (o.cell 1).trans rfl, (o.cell 2).trans rfl, (o.cell 3).trans rfl, o.frozen 2⟩
theorem opGo_fail (k : OpGo B F w w1 b s tb nm a m c l) : RGo B F w w1 b s := by
  obtain ⟨F1, i, G, hB, hF, c1, g1, o, r, n1, n2, n3⟩ := k
  exact ⟨F1, i, G, hB, hF, c1, g1⟩
theorem oTag (k : OpGo B F w w1 b s tb nm a m c l) (hl : s.toks.length ≤ 90000) :
    Calls Tryz.prog 48 #[.pointer (some ⟨b, 0, none⟩), .agg #[.int .i64 1, .string (mk nm), .slice a m c, .string ⟨#[]⟩]] w1 fun e w2 => e = .returned (.tuple #[]) ∧ RGo B F w w2 b ⟨s.rest, [], s.toks ++ endW s.words ++ [openT nm l]⟩ := by
  obtain ⟨F1, i, G, hB, hF, c1, g1, o, r, n1, n2, n3⟩ := k
  have hz := c1.size
  refine (rTag_to i hl (openT nm l) a m c r.rAt (fun g hg => ⟨(n3 g hg).1, ownsRow_lt r g hg⟩)).mono fun e w2 ⟨h1, F2, i2, c2, g2⟩ => ⟨h1, F2, i2, ?_, hB, fun x hx => ?_, ?_, fun x hx => ?_⟩
  · refine G.below (c2.below (Nat.le_trans hB hz) (fun x hx => ?_))
    rcases hx with hx | hx
    · exact hF x hx
    · have := (n3 x hx).2.2; omega
  · rcases g2 x hx with (e | e) | e
    · exact hF x e
    · have := (n3 x e).2.2; omega
    · omega
  · refine c1.trans c2 (fun x hx => ?_)
    rcases hx with hx | hx
    · exact g1 x hx
    · right; exact (n3 x hx).2.2
  · rcases g2 x hx with (e | e) | e
    · exact g1 x e
    · right; exact (n3 x e).2.2
    · right; omega
/-- One attribute more. -/
theorem opGo_push (k : OpGo B F w w1 b s tb nm a m c l) (hl : l.length ≤ 100000) (x : AtX) :
    ∃ a2 c2 w6, (Builtin.append_ #[27, 27] 27 #[.slice a m c, .slice (some ⟨w1.heap.size, 0, none⟩) 1 1]).run Tryz.prog (w1.alloc (.cells #[.string (mk x.n), .string (mk x.v)] 51)) = .ok (.slice a2 (l.length + 1) c2) w6 ∧
      w6.cell? ⟨tb, 2, none⟩ = some (.slice a m c) ∧ w6.frozen? ⟨tb, 2, none⟩ = false ∧ OpGo B F w (w6.setCell ⟨tb, 2, none⟩ (.slice a2 (l.length + 1) c2)) b s tb nm a2 (l.length + 1) c2 (l ++ [x]) := by
  have hB0 : Below w1.heap.size w1 (w1.alloc (.cells #[.string (mk x.n), .string (mk x.v)] 51)) := (Below.refl _ _).alloc (Nat.le_refl _) _
  have hz0 : (w1.alloc (.cells #[.string (mk x.n), .string (mk x.v)] 51)).heap.size = w1.heap.size + 1 := by simp
  obtain ⟨F1, i, G, hB, hF, c1, g1, o, r, n1, n2, n3⟩ := opGo_later k hB0
  obtain ⟨_, _, _, _, _, _, _, o', r', _⟩ := k
  have hz := c1.size
  obtain ⟨a2, c2, w6, e, hro, hg, hat⟩ := run_app atTy_ok (w1.alloc (.cells #[.string (mk x.n), .string (mk x.v)] 51)) 27 (.slice a m c) _ l [x] r (rAt_box atTy_ok (own.new w1 _ _) rfl) (by simp; omega)
  simp only [List.length_singleton] at e hro hat
  have hcg : Chg (fun y => (Value.slice a m c).ownBlock = some y) _ w6 := Chg.of_grown hg
  have o6 := o.chg hcg (fun e => (n3 _ e).2.1 rfl)
  have z6 := hcg.size
  have lt1 := o'.lt
  have hnew : ∀ g, (Value.slice a2 (l.length + 1) c2).ownBlock = some g → (Value.slice a m c).ownBlock = some g ∨ g = w1.heap.size + 1 := fun g hg2 => by
    rcases hat with q | q
    · left; rw [← q]; exact hg2
    · right; rw [q, hz0] at hg2; cases hg2; rfl
  have hne : ∀ g, (Value.slice a2 (l.length + 1) c2).ownBlock = some g → ¬ F1 g ∧ g ≠ tb ∧ w.heap.size ≤ g := fun g hg2 => by
    rcases hnew g hg2 with q | q
    · exact n3 g q
    · exact ⟨fun e2 => by have := i.lt g e2; omega, by omega, by omega⟩
  have hS : ∀ y, F1 y → ¬ (y = tb) ∧ ¬ ((Value.slice a m c).ownBlock = some y) := fun y hy => ⟨fun e2 => n1 (by rw [← e2]; exact hy), fun e2 => (n3 y e2).1 hy⟩
  have hsz := setCell_size w6 ⟨tb, 2, none⟩ (.slice a2 (l.length + 1) c2)
  have hbk : ∀ y, y ≠ tb → (w6.setCell ⟨tb, 2, none⟩ (.slice a2 (l.length + 1) c2)).heap[y]? = w6.heap[y]? := fun y hy => Below.heap_setCell _ _ _ _ hy
  refine ⟨a2, c2, w6, e, (o6.cell 2).trans rfl, o6.frozen 2, F1, rIs_same i (by rw [hsz]; exact z6) (fun y hy => (hbk y (hS y hy).1).trans (hcg.block y (i.lt y hy) (hS y hy).2)), ?_, hB, hF, ?_, g1, ?_, ownsRow_same hro (fun g hg2 => hbk g (hne g hg2).2.1), n1, n2, hne⟩
  · have b1 : Below B (w1.alloc (.cells #[.string (mk x.n), .string (mk x.v)] 51)) w6 := hcg.below (Nat.le_trans hB hz) (fun y hy => by have := (n3 y hy).2.2; omega)
    exact (G.below b1).below ((Below.refl _ _).setCell (p := ⟨tb, 2, none⟩) (show B ≤ tb by omega) _)
  · refine (c1.trans hcg (fun y hy => .inr (n3 y hy).2.2)).trans (Chg.setCell w6 ⟨tb, 2, none⟩ _) (fun y hy => .inr (by rw [hy]; exact n2))
  · have := o6.set 2 (.slice a2 (l.length + 1) c2); simpa using this
end
end Go.Proofs.YtjoeamlidmmioaaGreatDoor
/-
  LAYER 11 (xml), THE PROGRAM: opening.
-/
namespace Go.Proofs.YtjoeamlidmmioaaGreatDoor
open Go.RowKit
set_option linter.unusedVariables false
set_option maxRecDepth 100000

theorem attrs_cases (rest : List UInt8) (l : List AtX) : (∃ q, past [62] (rest.dropWhile spcX) = some q ∧ attrsX rest l = some (l, false, q)) ∨
    (past [62] (rest.dropWhile spcX) = none ∧ ∃ q, past [47, 62] (rest.dropWhile spcX) = some q ∧ attrsX rest l = some (l, true, q)) ∨
    (past [62] (rest.dropWhile spcX) = none ∧ past [47, 62] (rest.dropWhile spcX) = none ∧ attrsX rest l = (attrX (rest.dropWhile spcX)).bind fun x => if (rest.dropWhile spcX).length < rest.length ∧ hasX l x.1.n = false then attrsX x.2 (l ++ [x.1]) else none) := by
  rw [attrsX_eq]
  unfold attrsG
  split
  · rename_i q e; left; exact ⟨q, by rw [e]; rfl, rfl⟩
  · rename_i q e; right; left; exact ⟨by rw [e]; rfl, q, by rw [e]; rfl, rfl⟩
  · rename_i n1 n2
    right; right
    cases hd : rest.dropWhile spcX with
    | nil => exact ⟨rfl, rfl, rfl⟩
    | cons x xs =>
      have h1 : x ≠ 62 := fun e => n1 xs (by rw [hd, e])
      refine ⟨by simp [past, List.isPrefixOf, Ne.symm h1], ?_, rfl⟩
      cases xs with
      | nil => simp [past, List.isPrefixOf]
      | cons y ys =>
        by_cases h2 : x = 47
        · have h3 : y ≠ 62 := fun e => n2 ys (by rw [hd, e, h2])
          simp [past, List.isPrefixOf, Ne.symm h3]
        · simp [past, List.isPrefixOf, Ne.symm h2]
def restSz (w : World) (b : Nat) : Nat := match w.cell? ⟨b, 0, none⟩ with
  | some v => strSz v
  | none => 0
section
variable {B : Nat} {F : Nat → Prop} {w w1 w2 : World} {b : Nat} {s s' : RSt} {tb : Nat} {nm : List UInt8} {a : Option Addr} {m c : Nat} {l : List AtX}
theorem restSz_go (k : OpGo B F w w1 b s tb nm a m c l) : restSz w1 b = s.rest.length := by
  obtain ⟨F1, i, _⟩ := k
  unfold restSz
  rw [(rIs_rest i).1]
  exact mk_size _
def GOpen (B : Nat) (F : Nat → Prop) (w : World) (b : Nat) (s : RSt) (o : Option (List TkX × List UInt8)) (e : Ending) (w2 : World) : Prop :=
  (∀ x, o = some x → e = .returned (.bool true) ∧ RGo B F w w2 b ⟨x.2, [], s.toks ++ endW s.words ++ x.1⟩) ∧ (o = none → GFail B F w b (.bool false) e w2)
theorem gOpen_no {o : Option (List TkX × List UInt8)} {e : Ending} (ho : o = none) (he : e = .returned (.bool false)) (k : RGo B F w w2 b s') : GOpen B F w b s o e w2 := ⟨fun x hx => (by rw [ho] at hx; cases hx), fun _ => ⟨he, s', k⟩⟩
set_option maxHeartbeats 8000000 in
theorem gOpening (k : RGo B F w w1 b s) (hl : s.rest.length ≤ 50000) (ht : s.toks.length ≤ 80000) :
    Calls Tryz.prog 29 #[.pointer (some ⟨b, 0, none⟩)] w1 (GOpen B F w b s (tagX s.rest)) := by
  have HN := hid (gName k (by omega))
  have hnl := nameX_len s.rest
  by_cases hn : (nameX s.rest).1 = []
  · have hd : decide ((nameX s.rest).1 ≠ []) = false := by simp [hn]
    rw [hd] at HN
    have HT : Hid (tagX s.rest = none) := hid (by unfold tagX; rw [if_pos hn])
    clear k hn hd hnl hl ht
    go_enter Tryz.func29, Tryz.ntmps29
    go_wp2_with (go_at_call 46; (with_reducible refine HN.out.mono ?_); rintro e w2 ⟨rfl, k2⟩)
    go_ret
    exact gOpen_no HT.out rfl k2
  · have hd : decide ((nameX s.rest).1 ≠ []) = true := by simp [hn]
    rw [hd] at HN
    have HT : Hid (tagX s.rest = (attrsX (nameX s.rest).2 []).map fun x => (openT (nameX s.rest).1 x.1 :: (if x.2.1 then [closeT (nameX s.rest).1] else []), x.2.2)) := hid (by unfold tagX; rw [if_neg hn])
    have hnr : (nameX s.rest).2.length ≤ s.rest.length := by omega
    clear k hn hd hnl
    generalize (nameX s.rest).1 = nm at *
    generalize (nameX s.rest).2 = r0 at *
    go_enter Tryz.func29, Tryz.ntmps29
    go_wp2_with (go_at_call 46; (with_reducible refine HN.out.mono ?_))
    first | rintro e w2 rfl k2 | rintro e w2 ⟨rfl, k2⟩
    have HB : Hid (∀ w3, own w3 w2.heap.size #[.int .i64 1, .string (mk nm), .slice none 0 0, .string ⟨#[]⟩] 48 → Below w2.heap.size w2 w3 → OpGo B F w w3 b ⟨r0, s.words, s.toks⟩ w2.heap.size nm none 0 0 []) := hid (fun w3 h1 h2 => opGo_start k2 h1 h2)
    have HI := hid (HB.out _ (own.new w2 _ _) ((Below.refl _ _).alloc (Nat.le_refl _) _))
    clear k2 HB HN
    go_wp2
    generalize w2.heap.size = tb at *
    go_loopw [6] (fun _ wr => ∃ (rest : List UInt8) (l : List AtX) (a : Option Addr) (m c : Nat), Hid (OpGo B F w wr b ⟨rest, s.words, s.toks⟩ tb nm a m c l) ∧ l.length + rest.length ≤ s.rest.length ∧ Hid (attrsX r0 [] = attrsX rest l)) (fun _ wr => restSz wr b)
    case atStart => exact ⟨r0, [], none, 0, 0, HI, by simpa using hnr, hid rfl⟩
    case round =>
      obtain ⟨rest, l, a, m, c, hI, hln, hA⟩ := hrel
      clear HI
      have HMs := hid (restSz_go hI.out)
      have hdl := dropW_len spcX rest
      have HSp := hid (fun (o : Bool) (h : decide ((rest.dropWhile spcX).length < rest.length) = o) => oSpace (s := ⟨rest, s.words, s.toks⟩) hI.out h)
      have hac := attrs_cases rest l
      obtain ⟨o, ho⟩ : ∃ o, decide ((rest.dropWhile spcX).length < rest.length) = o := ⟨_, rfl⟩
      have HS := hid (HSp.out o ho)
      have hrl : (rest.dropWhile spcX).length ≤ 100000 := by omega
      clear HSp hI
      generalize hrr : rest.dropWhile spcX = r' at *
      rcases hac with ⟨q, h1, h2⟩ | ⟨h1, q, h2, h3⟩ | ⟨h1, h2, h3⟩
      · have HP := hid (fun (w3 : World) (k3 : OpGo B F w w3 b ⟨r', s.words, s.toks⟩ tb nm a m c l) => oPast_yes k3 ⟨#[62]⟩ h1)
        have HG := hid (fun (w3 : World) (k3 : OpGo B F w w3 b ⟨q, s.words, s.toks⟩ tb nm a m c l) => oTag k3 (by show s.toks.length ≤ _; omega))
        have HZ : Hid (tagX s.rest = some ([openT nm l], q)) := hid (by rw [HT.out, hA.out, h2]; rfl)
        clear h1 h2 hA HT ho hrr hdl
        go_wp2_with (first
          | (go_at_call 47; (with_reducible refine HS.out.mono ?_); rintro e w3 ⟨rfl, k3⟩)
          | (go_at_call 24; (with_reducible refine (HP.out _ k3).mono ?_); rintro e w4 ⟨rfl, k4⟩; obtain ⟨d0, d1, d2, d3, -⟩ := opGo_box k4)
          | (go_at_call 48; (with_reducible refine (HG.out _ k4).mono ?_); rintro e w5 ⟨rfl, k5⟩))
        go_ret
        exact ⟨fun x hx => (by rw [HZ.out] at hx; cases hx; exact ⟨rfl, k5⟩), fun hx => (by rw [HZ.out] at hx; cases hx)⟩
      · have HP := hid (fun (w3 : World) (k3 : OpGo B F w w3 b ⟨r', s.words, s.toks⟩ tb nm a m c l) => oPast_no k3 ⟨#[62]⟩ h1)
        have HP2 := hid (fun (w3 : World) (k3 : OpGo B F w w3 b ⟨r', s.words, s.toks⟩ tb nm a m c l) => oPast_yes k3 ⟨#[47, 62]⟩ h2)
        have HG := hid (fun (w3 : World) (k3 : OpGo B F w w3 b ⟨q, s.words, s.toks⟩ tb nm a m c l) => oTag k3 (by show s.toks.length ≤ _; omega))
        have hwl : (endW s.words).length ≤ 1 := by unfold endW; split <;> simp
        have HG2 := hid (fun (w3 : World) (k3 : RGo B F w w3 b ⟨q, [], s.toks ++ endW s.words ++ [openT nm l]⟩) => gTag0 k3 (by simp; omega) 2 nm)
        have HZ : Hid (tagX s.rest = some ([openT nm l, closeT nm], q)) := hid (by rw [HT.out, hA.out, h3]; rfl)
        clear h1 h2 h3 hA HT ho hrr hdl hwl
        go_wp2_with (first
          | (go_at_call 47; (with_reducible refine HS.out.mono ?_); rintro e w3 ⟨rfl, k3⟩)
          | (go_at_call 24; (with_reducible refine (HP.out _ k3).mono ?_); rintro e w4 ⟨rfl, k4⟩)
          | (go_at_call 24; (with_reducible refine (HP2.out _ k4).mono ?_); rintro e w5 ⟨rfl, k5⟩; obtain ⟨d0, d1, d2, d3, -⟩ := opGo_box k5)
          | (go_at_call 48; (with_reducible refine (HG.out _ k5).mono ?_); rintro e w6 ⟨rfl, k6⟩)
          | (go_at_call 48; (with_reducible refine (HG2.out _ k6).mono ?_); rintro e w7 ⟨rfl, k7⟩))
        go_ret
        exact ⟨fun x hx => (by rw [HZ.out] at hx; cases hx; exact ⟨rfl, by simpa [endW, closeT] using k7⟩), fun hx => (by rw [HZ.out] at hx; cases hx)⟩
      · have HP := hid (fun (w3 : World) (k3 : OpGo B F w w3 b ⟨r', s.words, s.toks⟩ tb nm a m c l) => oPast_no k3 ⟨#[62]⟩ h1)
        have HP2 := hid (fun (w3 : World) (k3 : OpGo B F w w3 b ⟨r', s.words, s.toks⟩ tb nm a m c l) => oPast_no k3 ⟨#[47, 62]⟩ h2)
        have HAt := hid (fun (w3 : World) (k3 : OpGo B F w w3 b ⟨r', s.words, s.toks⟩ tb nm a m c l) => oAttr k3 (by show r'.length ≤ _; omega))
        clear h1 h2
        cases hx : attrX r' with
        | none =>
          have HA2 : Hid (∀ w3, OpGo B F w w3 b ⟨r', s.words, s.toks⟩ tb nm a m c l → Calls Tryz.prog 49 #[.pointer (some ⟨b, 0, none⟩)] w3 fun e w4 => ∃ x y s', e = .returned (.tuple #[.agg #[.string x, .string y], .bool false]) ∧ RGo B F w w4 b s') := hid (fun w3 k3 => (HAt.out w3 k3).mono fun e w4 ⟨s', ⟨_, h⟩, k4⟩ => by
            obtain ⟨x, y, he⟩ := h hx
            exact ⟨x, y, s', he, opGo_fail k4⟩)
          have HZ : Hid (tagX s.rest = none) := hid (by rw [HT.out, hA.out, h3, hx]; rfl)
          clear h3 hA HT ho hrr hdl hx HAt
          cases o
          all_goals
            go_wp2_with (first
              | (go_at_call 47; (with_reducible refine HS.out.mono ?_); rintro e w3 ⟨rfl, k3⟩)
              | (go_at_call 24; (with_reducible refine (HP.out _ k3).mono ?_); rintro e w4 ⟨rfl, k4⟩)
              | (go_at_call 24; (with_reducible refine (HP2.out _ k4).mono ?_); rintro e w5 ⟨rfl, k5⟩)
              | (go_at_call 49; (with_reducible refine (HA2.out _ k5).mono ?_); rintro e w6 ⟨x, y, s6, rfl, k6⟩))
            go_ret
            exact gOpen_no HZ.out rfl (rGo_later k6 ((Below.refl _ _).alloc (Nat.le_refl _) _))
        | some xq =>
          obtain ⟨x, q⟩ := xq
          have hql := attrX_lt hx
          rw [hx, Option.bind_some] at h3
          simp only at h3
          have HA2 : Hid (∀ w3, OpGo B F w w3 b ⟨r', s.words, s.toks⟩ tb nm a m c l → Calls Tryz.prog 49 #[.pointer (some ⟨b, 0, none⟩)] w3 fun e w4 => e = .returned (.tuple #[.agg #[.string (mk x.n), .string (mk x.v)], .bool true]) ∧ OpGo B F w w4 b ⟨q, s.words, s.toks⟩ tb nm a m c l) := hid (fun w3 k3 => (HAt.out w3 k3).mono fun e w4 ⟨s', ⟨h, _⟩, k4⟩ => by
            obtain ⟨he, hs⟩ := h _ hx
            rw [hs] at k4
            exact ⟨he, k4⟩)
          have HLa : Hid (∀ w3, OpGo B F w w3 b ⟨q, s.words, s.toks⟩ tb nm a m c l → OpGo B F w (w3.alloc (.cells #[.string (mk x.n), .string (mk x.v)] 51)) b ⟨q, s.words, s.toks⟩ tb nm a m c l ∧ own (w3.alloc (.cells #[.string (mk x.n), .string (mk x.v)] 51)) w3.heap.size #[.string (mk x.n), .string (mk x.v)] 51) := hid (fun w3 k3 => ⟨opGo_later k3 ((Below.refl _ _).alloc (Nat.le_refl _) _), own.new w3 _ _⟩)
          have HH := hid (fun (w3 : World) (k3 : OpGo B F w w3 b ⟨q, s.words, s.toks⟩ tb nm a m c l) => oHas k3 (by omega) x.n)
          clear hx HAt
          have hlt3 : l.length ≤ 100000 := by omega
          cases o with
          | false =>
            have hno : ¬ (r'.length < rest.length) := by simpa using ho
            have HZ : Hid (tagX s.rest = none) := hid (by rw [HT.out, hA.out, h3, if_neg (fun h => hno h.1)]; rfl)
            clear h3 hA HT ho hrr hdl hno
            go_wp2_with (first
              | (go_at_call 47; (with_reducible refine HS.out.mono ?_); rintro e w3 ⟨rfl, k3⟩)
              | (go_at_call 24; (with_reducible refine (HP.out _ k3).mono ?_); rintro e w4 ⟨rfl, k4⟩)
              | (go_at_call 24; (with_reducible refine (HP2.out _ k4).mono ?_); rintro e w5 ⟨rfl, k5⟩)
              | (go_at_call 49; (with_reducible refine (HA2.out _ k5).mono ?_); rintro e w6 ⟨rfl, k6⟩; have k6f := opGo_fail (HLa.out _ k6).1))
            go_ret
            exact gOpen_no HZ.out rfl k6f
          | true =>
            have hyes : r'.length < rest.length := by simpa using ho
            cases hh : hasX l x.n with
            | true =>
              have HZ : Hid (tagX s.rest = none) := hid (by rw [HT.out, hA.out, h3, if_neg (fun h => by rw [hh] at h; exact absurd h.2 (by decide))]; rfl)
              rw [hh] at HH
              clear h3 hA HT ho hrr hdl hyes hh
              go_wp2_with (first
                | (go_at_call 47; (with_reducible refine HS.out.mono ?_); rintro e w3 ⟨rfl, k3⟩)
                | (go_at_call 24; (with_reducible refine (HP.out _ k3).mono ?_); rintro e w4 ⟨rfl, k4⟩)
                | (go_at_call 24; (with_reducible refine (HP2.out _ k4).mono ?_); rintro e w5 ⟨rfl, k5⟩)
                | (go_at_call 49; (with_reducible refine (HA2.out _ k5).mono ?_); rintro e w6 ⟨rfl, k6⟩; obtain ⟨k7, ob⟩ := HLa.out _ k6; obtain ⟨d0, d1, d2, d3, -⟩ := opGo_box k7)
                | (go_at_call 50; (with_reducible refine (HH.out _ k7).mono ?_); rintro e w8 ⟨rfl, k8, hb8⟩))
              go_ret
              exact gOpen_no HZ.out rfl (opGo_fail k8)
            | false =>
              have HZ : Hid (attrsX r0 [] = attrsX q (l ++ [x])) := hid (by rw [hA.out, h3, if_pos ⟨hyes, hh⟩])
              rw [hh] at HH
              have HL : Hid ((l ++ [x]).length + q.length ≤ s.rest.length ∧ q.length < rest.length) := hid (by rw [List.length_append]; simp; omega)
              have HPu := hid (fun (w8 : World) (k8 : OpGo B F w w8 b ⟨q, s.words, s.toks⟩ tb nm a m c l) => opGo_push k8 hlt3 x)
              clear h3 hA HT ho hrr hdl hyes hh
              go_wp2_with (first
                | (go_at_call 47; (with_reducible refine HS.out.mono ?_); rintro e w3 ⟨rfl, k3⟩)
                | (go_at_call 24; (with_reducible refine (HP.out _ k3).mono ?_); rintro e w4 ⟨rfl, k4⟩)
                | (go_at_call 24; (with_reducible refine (HP2.out _ k4).mono ?_); rintro e w5 ⟨rfl, k5⟩)
                | (go_at_call 49; (with_reducible refine (HA2.out _ k5).mono ?_); rintro e w6 ⟨rfl, k6⟩; obtain ⟨k7, ob⟩ := HLa.out _ k6; obtain ⟨d0, d1, d2, d3, -⟩ := opGo_box k7)
                | (go_at_call 50; (with_reducible refine (HH.out _ k7).mono ?_); rintro e w8 ⟨rfl, k8, hb8⟩; obtain ⟨e0, e1, e2, e3, -⟩ := opGo_box k8; have ob8 := ob.same (hb8.block _ ob.lt); have n0 := ob8.cell 0; have n1 := ob8.cell 1; simp at n0 n1; obtain ⟨a2, c2, w9, hrun, g0, g1, k9⟩ := HPu.out _ k8; have HRUN := hid hrun; have HK9 := hid k9; clear hrun k9 ob8)
                | (at_builtin; refine wpList_append_at HRUN.out (by with_reducible rfl) rfl _ _ rfl rfl rfl rfl ?_))
              go_roundw
              case rel => exact ⟨q, l ++ [x], a2, _, c2, HK9, HL.out.1, HZ⟩
              case measure => rw [restSz_go HK9.out, HMs.out]; exact HL.out.2
end
end Go.Proofs.YtjoeamlidmmioaaGreatDoor

