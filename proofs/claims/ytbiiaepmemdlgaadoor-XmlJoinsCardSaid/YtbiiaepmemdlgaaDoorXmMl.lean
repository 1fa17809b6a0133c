/-
  LAYER 11 (xml), THE PROGRAM: a token put behind the others; endWords.
-/
import Derived.Test.YtbiiaepmemdlgaaDoorXmMk
import Derived.Deep.RegionLaw
namespace Go.Proofs.YtbiiaepmemdlgaaDoor
open Go.RowKit
set_option linter.unusedVariables false
set_option maxRecDepth 100000

/-- A token has been put behind the others. -/
structure PushAt (W : World) (b : Nat) (rs : ByteArray) (p v tv tv' : Value) (V : List TkV) (L : List TkX) (w6 : World) : Prop where
  blk : own w6 b #[.string rs, p, v, tv'] 55
  row : ROwn tkTy w6 tv' V
  tks : TksIs w6 V L
  chg : Chg (fun y => y = b ∨ tv.ownBlock = some y) W w6
  ap : tv'.ownBlock ≠ some b
  new : ∀ g, tv'.ownBlock = some g → tv.ownBlock = some g ∨ W.heap.size ≤ g
theorem typ_ne2 : (55 : Nat) ≠ 36 := by decide
theorem r_push {W : World} {b gb : Nat} {rs : ByteArray} {p v tv : Value} {V : List TkV} {L : List TkX} {x : TkV} {tk : TkX} {cs : Array Value} (ho : own W b #[.string rs, p, v, tv] 55) (hr : ROwn tkTy W tv V) (ht : TksIs W V L) (hx : TkIs W x tk) (h4 : tv.ownBlock ≠ some b)
    (h6 : ∀ y ∈ V ++ [x], ∀ g, (Value.slice y.a y.m y.c).ownBlock = some g → g ≠ b ∧ tv.ownBlock ≠ some g ∧ g < W.heap.size) (hb : own W gb cs 36) (hc : cs.toList = tkTy.cs x) (hl : V.length ≤ 100000) :
    ∃ a cap w5, (Builtin.append_ #[23, 23] 23 #[tv, .slice (some ⟨gb, 0, none⟩) 1 1]).run Tryd.prog W = .ok (.slice a (V.length + 1) cap) w5 ∧ w5.cell? ⟨b, 3, none⟩ = some tv ∧ w5.frozen? ⟨b, 3, none⟩ = false ∧
      PushAt W b rs p v tv (.slice a (V.length + 1) cap) (V ++ [x]) (L ++ [tk]) (w5.setCell ⟨b, 3, none⟩ (.slice a (V.length + 1) cap)) := by
  obtain ⟨a, cap, w5, e, hro, hg, hat⟩ := run_app tkTy_ok W 23 tv _ V [x] hr (rAt_box tkTy_ok hb hc) (by simp; omega)
  simp only [List.length_singleton] at e hro hat
  have hcg : Chg (fun y => tv.ownBlock = some y) W w5 := Chg.of_grown hg
  have ho5 := ho.chg hcg h4
  have hne : (Value.slice a (V.length + 1) cap).ownBlock ≠ some b := by
    intro eb
    rcases hro.2 with ⟨hv, _⟩ | ⟨g, cap', cur, hv, _, hg', _⟩
    · rw [hv] at eb; simp [Value.ownBlock] at eb
    · rw [hv] at eb
      simp [Value.ownBlock] at eb
      subst eb
      unfold own at ho5
      rw [ho5] at hg'
      simp only [Option.some.injEq, Obj.cells.injEq] at hg'
      exact typ_ne2 hg'.2.1
  refine ⟨a, cap, w5, e, by rw [ho5.cell]; rfl, ho5.frozen 3, ⟨?_, ?_, ?_, ?_, hne, ?_⟩⟩
  · have := ho5.set 3 (.slice a (V.length + 1) cap); simpa using this
  · exact ownsRow_same hro (fun g hg2 => by rw [Below.heap_setCell _ _ _ _ (fun e2 => hne (by rw [hg2]; simp [e2]))])
  · refine (ht.push hx).same (fun y hy g hg2 hgl => ?_) (by rw [setCell_size]; exact hcg.size)
    obtain ⟨q1, q2, q3⟩ := h6 y hy g hg2
    rw [Below.heap_setCell _ _ _ _ (fun e2 => q1 (by simpa using e2)), hcg.block g q3 q2]
  · exact (hcg.mono (T := fun y => y = b ∨ tv.ownBlock = some y) (fun y e2 => .inr e2)).trans ((Chg.setCell w5 ⟨b, 3, none⟩ _).mono (T := fun y => y = b ∨ tv.ownBlock = some y) (fun y e2 => .inl e2)) (fun y e2 => .inl e2)
  · intro g hg2
    rcases hat with k | k
    · left; rw [← k]; exact hg2
    · right; rw [k] at hg2; cases hg2; exact Nat.le_refl _

section
variable {F : Nat → Prop} {w : World} {b : Nat} {s : RSt}
/-- What endWords needs behind String. -/
structure EwMid (F : Nat → Prop) (w : World) (b : Nat) (s : RSt) (tv : Value) (n : Nat) (w1 : World) : Prop where
  c3 : w1.cell? ⟨b, 3, none⟩ = some tv
  c3b : (w1.alloc (.cells #[.int .i64 3, .string ⟨#[]⟩, .slice none 0 0, .string (mk s.words)] 36)).cell? ⟨b, 3, none⟩ = some tv
  run : ∃ a cap w5, (Builtin.append_ #[23, 23] 23 #[tv, .slice (some ⟨w1.heap.size, 0, none⟩) 1 1]).run Tryd.prog (w1.alloc (.cells #[.int .i64 3, .string ⟨#[]⟩, .slice none 0 0, .string (mk s.words)] 36)) = .ok (.slice a (n + 1) cap) w5 ∧ w5.cell? ⟨b, 3, none⟩ = some tv ∧ w5.frozen? ⟨b, 3, none⟩ = false ∧
    Hid (∃ p v, own (w5.setCell ⟨b, 3, none⟩ (.slice a (n + 1) cap)) b #[.string (mk s.rest), p, v, .slice a (n + 1) cap] 55 ∧
      ∀ w7, RdAt w7 b (mk s.rest) (.pointer none) (.slice none 0 0) (.slice a (n + 1) cap) [] → Chg (fun x => x = b) (w5.setCell ⟨b, 3, none⟩ (.slice a (n + 1) cap)) w7 → RTo F w w7 b ⟨s.rest, [], s.toks ++ [wordsT s.words]⟩)
theorem ew_mid {p v tv : Value} {V : List TkV} {w1 : World} (h1 : RdAt w b (mk s.rest) p v tv s.words) (h2 : ROwn tkTy w tv V) (h3 : TksIs w V s.toks) (h4 : tv.ownBlock ≠ some b) (h5 : ∀ g, tv.ownBlock = some g → v.ownBlock ≠ some g)
    (h6 : ∀ x ∈ V, ∀ g, (Value.slice x.a x.m x.c).ownBlock = some g → F g ∧ g ≠ b ∧ v.ownBlock ≠ some g ∧ tv.ownBlock ≠ some g) (fb : F b) (fv : ∀ g, v.ownBlock = some g → F g) (ft : ∀ g, tv.ownBlock = some g → F g) (hlt : ∀ x, F x → x < w.heap.size) (hl : s.toks.length ≤ 100000)
    (hc : Chg (fun x => v.ownBlock = some x) w w1) : EwMid F w b s tv s.toks.length w1 := by
  have hz := hc.size
  have hB : Below w1.heap.size w1 (w1.alloc (.cells #[.int .i64 3, .string ⟨#[]⟩, .slice none 0 0, .string (mk s.words)] 36)) := (Below.refl _ _).alloc (Nat.le_refl _) _
  have o1 : own w1 b #[.string (mk s.rest), p, v, tv] 55 := h1.blk.chg hc h1.apart
  have o2 := o1.same (hB.block _ o1.lt)
  have hVl : V.length = s.toks.length := h3.1
  generalize hW : w1.alloc (.cells #[.int .i64 3, .string ⟨#[]⟩, .slice none 0 0, .string (mk s.words)] 36) = W at *
  have hob : own W w1.heap.size #[.int .i64 3, .string ⟨#[]⟩, .slice none 0 0, .string (mk s.words)] 36 := by rw [← hW]; exact own.new w1 _ _
  have hWz := hB.size
  have hcW : Chg (fun x => v.ownBlock = some x) w W := hc.trans (Chg.of_below (S := fun x => v.ownBlock = some x) hB) (fun x e => .inl e)
  have r2 : ROwn tkTy W tv V := ownsRow_same h2 (fun g hg => hcW.block g (hlt g (ft g hg)) (h5 g hg))
  have t2 : TksIs W V s.toks := h3.same (fun x hx g hg hgl => hcW.block g hgl (h6 x hx g hg).2.2.1) hcW.size
  obtain ⟨a, cap, w5, e, e1, e2, P⟩ := r_push (x := ⟨3, [], none, 0, 0, s.words⟩) (tk := wordsT s.words) o2 r2 t2 ⟨rfl, rfl, rfl, rAt_nil W⟩ h4 (fun y hy g hg => by
    rcases List.mem_append.1 hy with hy | hy
    · obtain ⟨q1, q2, q3, q4⟩ := h6 y hy g hg
      exact ⟨q2, q4, by have := hlt g q1; omega⟩
    · simp at hy; subst hy; simp [Value.ownBlock] at hg) hob rfl (by omega)
  rw [hVl] at e P
  refine ⟨by rw [o1.cell]; rfl, by rw [hW, o2.cell]; rfl, a, cap, w5, by rw [hW]; exact e, e1, e2, hid ⟨p, v, P.blk, fun w7 k7 c7 => ?_⟩⟩
  have hP := P.chg.size
  have h7 := c7.size
  refine ⟨fun x => F x ∨ (Value.slice a (s.toks.length + 1) cap).ownBlock = some x, ⟨⟨.pointer none, .slice none 0 0, .slice a (s.toks.length + 1) cap, V ++ [(⟨3, [], none, 0, 0, s.words⟩ : TkV)], k7, ownsRow_same P.row (fun g hg => c7.block g (ownsRow_lt P.row g hg) (fun e => P.ap (by rw [hg, e]))), P.tks.same (fun x hx g hg hgl => c7.block g hgl (fun e => ?_)) h7, P.ap, fun g hg => by simp [Value.ownBlock], fun x hx g hg => ?_, .inl fb, fun g hg => by simp [Value.ownBlock] at hg, fun g hg => .inr hg⟩, fun x hx => ?_⟩, ?_, fun x hx => ?_⟩
  · rcases List.mem_append.1 hx with hx | hx
    · exact (h6 x hx g hg).2.1 e
    · simp at hx; subst hx; simp [Value.ownBlock] at hg
  · rcases List.mem_append.1 hx with hx | hx
    · obtain ⟨q1, q2, q3, q4⟩ := h6 x hx g hg
      refine ⟨.inl q1, q2, by simp [Value.ownBlock], fun e => ?_⟩
      rcases P.new g e with e' | e'
      · exact q4 e'
      · have := hlt g q1; omega
    · simp at hx; subst hx; simp [Value.ownBlock] at hg
  · rcases hx with hx | hx
    · have := hlt x hx; omega
    · have := ownsRow_lt P.row x hx; omega
  · refine ((hcW.mono (T := F) (fun x e => fv x e)).trans P.chg (fun x e => ?_)).trans c7 (fun x e => .inl (by rw [e]; exact fb))
    left
    rcases e with e | e
    · rw [e]; exact fb
    · exact ft x e
  · rcases hx with hx | hx
    · exact .inl hx
    · rcases P.new x hx with e | e
      · exact .inl (ft x e)
      · right; omega
set_option maxHeartbeats 4000000 in
theorem rEndWords_to (h : RIs w F b s) (hl : s.toks.length ≤ 100000) :
    Calls Tryd.prog 26 #[.pointer (some ⟨b, 0, none⟩)] w fun e w' => e = .returned (.tuple #[]) ∧ RTo F w w' b ⟨s.rest, [], s.toks ++ endW s.words⟩ := by
  have h' := h
  obtain ⟨⟨p, v, tv, V, h1, h2, h3, h4, h5, h6, fb, fv, ft⟩, hlt⟩ := h
  have HL := hid (rdLen_any h1)
  by_cases h0 : s.words = []
  · have hw : s.words.length = 0 := by rw [h0]; rfl
    rw [hw] at HL
    have HE : Hid (RTo F w w b ⟨s.rest, [], s.toks ++ endW s.words⟩) := hid (by
      refine ⟨F, ?_, Chg.refl _ _, fun x hx => .inl hx⟩
      have e : (⟨s.rest, [], s.toks ++ endW s.words⟩ : RSt) = s := by
        obtain ⟨a, c, d⟩ := s
        simp only at h0
        subst h0
        simp [endW]
      rw [e]; exact h')
    clear h' h0 hw h1 h2 h3 h4 h5 h6 fb fv ft hlt hl
    go_enter Tryd.func26, Tryd.ntmps26
    go_wp2_with (go_at_call 42; (with_reducible refine HL.out.mono ?_); rintro e w1 ⟨rfl, rfl⟩)
    go_end0
    exact ⟨rfl, HE.out⟩
  · have hw : 0 < s.words.length := List.length_pos_iff.2 h0
    have HS := hid (rdString_any (h1.below (Below.drew (Below.refl w.heap.size w))) h0)
    have HM := hid (fun (w1 : World) (hc : Chg (fun x => v.ownBlock = some x) w.drew w1) => ew_mid h1 h2 h3 h4 h5 h6 fb fv ft hlt hl (Chg.trans (Chg.of_below (Below.drew (Below.refl w.heap.size w))) hc (fun x e => .inl e)))
    have HR := hid (fun (w6 : World) (p v tv : Value) (ho : own w6 b #[.string (mk s.rest), p, v, tv] 55) => rdReset_any ho)
    have hE : endW s.words = [wordsT s.words] := by unfold endW; rw [if_neg h0]
    obtain ⟨ta, tc, rfl, _⟩ := h2.slice
    have c3 : w.cell? ⟨b, 3, none⟩ = some (.slice ta V.length tc) := h1.cells.2.2.2.1
    have c3d : w.drew.cell? ⟨b, 3, none⟩ = some (.slice ta V.length tc) := c3
    rw [hE]
    have hwI : (0 : Int) < (s.words.length : Int) := by omega
    clear h' h1 h2 h3 h4 h5 h6 fb fv ft hlt hl hE h0 hw
    generalize V.length = vn at *
    go_enter Tryd.func26, Tryd.ntmps26
    go_wp2_with (go_at_call 42; (with_reducible refine HL.out.mono ?_); rintro e w1 ⟨rfl, rfl⟩)
    go_region_law (first
      | (refine step_append_at hrun (by with_reducible rfl) rfl _ _ rfl rfl rfl rfl ?_)
      | (go_simp; go_wp2_with (go_at_call 31; (with_reducible refine HS.out.mono ?_); rintro e w1 ⟨rfl, hc⟩; obtain ⟨d3, d3b, a, cap, w5, hrun, k1, k2, HF⟩ := HM.out w1 hc; clear hc)))
    all_goals
      obtain ⟨p', v', ho, hfin⟩ := HF.out
      have HR2 := hid (HR.out _ _ _ _ ho)
      have HZ := hid hfin
      clear hfin ho HF HR
      go_wp2_with (go_at_call 43; (with_reducible refine HR2.out.mono ?_); rintro e w7 ⟨rfl, k7, c7⟩)
      go_end0
      exact ⟨rfl, HZ.out w7 k7 c7⟩
end
end Go.Proofs.YtbiiaepmemdlgaaDoor
