/-
  LAYER 5 (agenda): container/heap's Remove over the queue; take.
-/
import Derived.Test.YtmjgkhjjnfoolaaAgDown
namespace Go.Proofs.Ytmjgkhjjnfoolaa
open Go.RowKit Go.Maps
set_option linter.unusedVariables false
set_option maxRecDepth 100000

/-- What Remove leaves. -/
structure RemEnd (w w' : World) (p : Nat) (F : Nat → Prop) (L : List It) (x : It) (L' : List It) : Prop where
  hp : Hp L' L'.length
  perm : (x :: L').Perm L
  q : QTo w w' p F L'
theorem QTo.weak {w w' : World} {p : Nat} {F G : Nat → Prop} {L : List It} (h : QTo w w' p F L) (hs : ∀ b, F b → G b) (hl : ∀ b, G b → b < w.heap.size) : QTo w w' p G L :=
  ⟨h.is.mono (fun b hb => hb.imp (hs b) id) (grow_lt hl h.chg.size), h.chg.mono hs⟩
theorem snoc_take {L : List It} {m : Nat} (h : L.length = m + 1) : L = L.take m ++ [gt L m] := by
  rw [gt_of (by omega)]
  have := List.take_append_getElem (l := L) (i := m) (by omega)
  rw [this, List.take_of_length_le (by omega)]
/-- Behind all that Remove does ahead of Pop. -/
theorem rem_of {w w1 w2 : World} {p : Nat} {F : Nat → Prop} {L L4 : List It} {m : Nat} {x : It} (hl : ∀ b, F b → b < w.heap.size) (hm : L4.length = m + 1) (hp : L4.Perm L) (hh : Hp L4 m) (hx : gt L4 m = x) (hq : QTo w w1 p F L4) (hq2 : QTo w1 w2 p (grow F w w1) (L4.take m)) :
    RemEnd w w2 p F L x (L4.take m) := by
  have hlen : (L4.take m).length = m := by rw [List.length_take]; omega
  refine ⟨?_, ?_, hq.trans hq2 hl⟩
  · rw [hlen]; exact hh.take (by omega)
  · refine List.Perm.trans ?_ hp
    have := snoc_take hm
    rw [hx] at this
    refine List.Perm.trans (List.perm_append_comm (l₁ := [x]) (l₂ := L4.take m)) ?_
    rw [← this]
theorem pop_at {w : World} {p : Nat} {F : Nat → Prop} {L4 : List It} {m : Nat} {x : It} (h : QIs w p F L4) (hm : L4.length = m + 1) (hx : gt L4 m = x) :
    Calls Try.prog 50 #[.pointer (some ⟨p, 0, none⟩)] w fun e w' => e = .returned (.iface 60 (.agg #[.int .i64 x.1, .int .i64 x.2])) ∧ QTo w w' p F (L4.take m) := by
  have e := snoc_take hm
  rw [hx] at e
  have h' : QIs w p F (L4.take m ++ [x]) := by rw [← e]; exact h
  exact pop_any h'
set_option maxHeartbeats 8000000 in
theorem remove_any {w : World} {p : Nat} {F : Nat → Prop} {L : List It} {i : Nat} (h : QIs w p F L) (hh : Hp L L.length) (hi : i < L.length) :
    Calls Try.prog 29 #[.iface 65 (.pointer (some ⟨p, 0, none⟩)), .int .i64 (i : Int)] w fun e w' => e = .returned (.iface 60 (.agg #[.int .i64 (gt L i).1, .int .i64 (gt L i).2])) ∧ ∃ L', RemEnd w w' p F L (gt L i) L' := by
  obtain ⟨m, hm⟩ : ∃ m, L.length = m + 1 := ⟨L.length - 1, by omega⟩
  have hlen := h.len
  have HLen := hid (lenQ h)
  rw [hm] at HLen
  have hW : IntKind.i64.wrap (((m + 1 : Nat) : Int) - 1) = (m : Int) := by rw [show ((m + 1 : Nat) : Int) - 1 = (m : Int) by omega]; exact IntWalk.i64_in _ (by omega)
  have HL := hid h.lt
  have HH := hid h
  have HM := hid hm
  have HHp := hid hh
  rw [hm] at hh hi hlen
  by_cases him : i = m
  · subst him
    have hq : ((i : Int) != (i : Int)) = false := by simp
    have HPop := hid (pop_at h hm rfl)
    clear h hh hm
    generalize hx : gt L i = x at *
    have HX := hid hx
    clear hx
    go_enter Try.func29, Try.ntmps29
    go_wp2_with (first
      | (go_at_call 28; (with_reducible refine HLen.out.mono ?_); rintro e w1 ⟨rfl, rfl⟩)
      | (go_at_call 50; (with_reducible refine HPop.out.mono ?_); rintro e w2 ⟨rfl, hq2⟩; have HQ := hid hq2; clear hq2))
    go_ret
    refine ⟨rfl, L.take i, rem_of HL.out HM.out (List.Perm.refl _) (HHp.out.less (by have := HM.out; omega)) HX.out (QTo.of_is HH.out (Below.refl _ _)) ?_⟩
    exact HQ.out.weak (fun b hb => .inl hb) (grow_lt HL.out (Nat.le_refl _))
  · have hq : ((m : Int) != (i : Int)) = true := bne_iff_ne.2 (by omega)
    have hg := gt_sw (L := L) (i := i) (j := m) (by omega) (by omega)
    have hgm : gt (sw L i m) m = gt L i := by rw [hg, if_pos rfl]
    have HSwap := hid (swapQ h (i := i) (j := m) (by omega) (by omega) him)
    have HDown := hid (fun w1 (hq : QTo w w1 p F (sw L i m)) => down_any hq.is (n := m) (i0 := i) (by rw [sw_length]; omega) (by omega) (DownInv.start hh (by omega) (by omega)))
    have HUp := hid (fun w1 w2 L2 (hq : QTo w w1 p F (sw L i m)) (hd : DownEnd w1 p (grow F w w1) (sw L i m) m i false L2 w2) => up_any hd.s.q.is (n := m) (j := i) (by rw [hd.s.perm.length_eq, sw_length]; omega) (hd.no rfl))
    have HPopD := hid (fun w1 w2 L2 b (hq : QTo w w1 p F (sw L i m)) (hd : DownEnd w1 p (grow F w w1) (sw L i m) m i b L2 w2) => pop_at (m := m) hd.s.q.is (by rw [hd.s.perm.length_eq, sw_length]; exact hm) ((hd.s.rest m (Nat.le_refl _)).trans hgm))
    have HPopU := hid (fun w1 w2 L2 w3 L3 (hq : QTo w w1 p F (sw L i m)) (hd : DownEnd w1 p (grow F w w1) (sw L i m) m i false L2 w2) (hu : SiftRel w2 p (grow (grow F w w1) w1 w2) L2 m L3 w3) => pop_at (m := m) hu.q.is (by rw [hu.perm.length_eq, hd.s.perm.length_eq, sw_length]; exact hm) ((hu.rest m (Nat.le_refl _)).trans ((hd.s.rest m (Nat.le_refl _)).trans hgm)))
    have hpm : (sw L i m).Perm L := sw_perm (by omega) (by omega)
    have HPm := hid hpm
    have HG := hid hgm
    clear h hh hm hg hgm hpm
    generalize gt L i = x at *
    generalize sw L i m = M at *
    go_enter Try.func29, Try.ntmps29
    go_wp2_with (first
      | (go_at_call 28; (with_reducible refine HLen.out.mono ?_); rintro e w1 ⟨rfl, rfl⟩)
      | (go_at_call 52; (with_reducible refine HSwap.out.mono ?_); rintro e w1 ⟨rfl, hq1⟩; have HQ1 := hid hq1; clear hq1)
      | (go_at_call 31; (with_reducible refine (HDown.out _ HQ1.out).mono ?_); rintro e w2 ⟨b, L2, rfl, hq2⟩; cases b <;> (have HQ2 := hid hq2; clear hq2))
      | (go_at_call 30; (with_reducible refine (HUp.out _ _ _ HQ1.out HQ2.out).mono ?_); rintro e w3 ⟨rfl, L3, hh3, hq3⟩; have HQ3 := hid hq3; have HH3 := hid hh3; clear hq3 hh3)
      | (go_at_call 50; first
        | ((with_reducible refine (HPopU.out _ _ _ _ _ HQ1.out HQ2.out HQ3.out).mono ?_); rintro e w4 ⟨rfl, hq4⟩; have HQ4 := hid hq4; clear hq4)
        | ((with_reducible refine (HPopD.out _ _ _ _ HQ1.out HQ2.out).mono ?_); rintro e w4 ⟨rfl, hq4⟩; have HQ4 := hid hq4; clear hq4)))
    · go_ret
      have h12 := HQ1.out.trans HQ2.out.s.q HL.out
      have h23 := HQ3.out.q.weak (grow_grow HQ1.out.chg.size HQ2.out.s.q.chg.size) (grow_lt HL.out h12.chg.size)
      have h13 := h12.trans h23 HL.out
      have hL3 := HQ3.out.perm.trans (HQ2.out.s.perm.trans HPm.out)
      refine ⟨rfl, L3.take m, rem_of HL.out (hL3.length_eq.trans HM.out) hL3 HH3.out ((HQ3.out.rest m (Nat.le_refl _)).trans ((HQ2.out.s.rest m (Nat.le_refl _)).trans HG.out)) h13 (HQ4.out.weak (fun b hb => ?_) (grow_lt HL.out h13.chg.size))⟩
      exact grow_grow h12.chg.size HQ3.out.q.chg.size b (hb.imp (grow_grow HQ1.out.chg.size HQ2.out.s.q.chg.size b) id)
    · go_ret
      have h12 := HQ1.out.trans HQ2.out.s.q HL.out
      have hL3 := HQ2.out.s.perm.trans HPm.out
      exact ⟨rfl, L2.take m, rem_of HL.out (hL3.length_eq.trans HM.out) hL3 (HQ2.out.yes rfl) ((HQ2.out.s.rest m (Nat.le_refl _)).trans HG.out) h12 (HQ4.out.weak (grow_grow HQ1.out.chg.size HQ2.out.s.q.chg.size) (grow_lt HL.out h12.chg.size))⟩
theorem take_any {w : World} {p : Nat} {F : Nat → Prop} {L : List It} {i : Nat} (h : QIs w p F L) (hh : Hp L L.length) (hi : i < L.length) :
    Calls Try.prog 25 #[.pointer (some ⟨p, 0, none⟩), .int .i64 (i : Int)] w fun e w' => e = .returned (.agg #[.int .i64 (gt L i).1, .int .i64 (gt L i).2]) ∧ ∃ L', RemEnd w w' p F L (gt L i) L' := by
  have hz : (w.alloc (.cells #[.int .i64 0, .int .i64 0] 60)).heap.size = w.heap.size + 1 := by simp
  have hb0 : Below w.heap.size w (w.alloc (.cells #[.int .i64 0, .int .i64 0] 60)) := (Below.refl _ _).alloc (Nat.le_refl _) _
  have HRem := hid (remove_any (h.below hb0) hh hi)
  have o := own.new w #[.int .i64 0, .int .i64 0] 60
  have HEnd : Hid (∀ w2 L', RemEnd (w.alloc (.cells #[.int .i64 0, .int .i64 0] 60)) w2 p F L (gt L i) L' → own w2 w.heap.size #[.int .i64 0, .int .i64 0] 60 ∧ ∀ a b : Value, RemEnd w ((w2.setCell ⟨w.heap.size, 0, none⟩ a).setCell ⟨w.heap.size, 1, none⟩ b) p F L (gt L i) L') := hid (fun w2 L' hr => by
    have hsz := hr.q.chg.size
    have ho : own w2 w.heap.size #[.int .i64 0, .int .i64 0] 60 := o.chg hr.q.chg (fun e => by have := h.lt _ e; omega)
    refine ⟨ho, fun a b => ⟨hr.hp, hr.perm, ?_⟩⟩
    have hq := QTo.of_below hb0 hr.q h.lt
    have hs : ∀ b', b' ≠ w.heap.size → ((w2.setCell ⟨w.heap.size, 0, none⟩ a).setCell ⟨w.heap.size, 1, none⟩ b).heap[b']? = w2.heap[b']? := fun b' hb' => by
      rw [Below.heap_setCell _ _ _ _ hb', Below.heap_setCell _ _ _ _ hb']
    have hz2 : ((w2.setCell ⟨w.heap.size, 0, none⟩ a).setCell ⟨w.heap.size, 1, none⟩ b).heap.size = w2.heap.size := by rw [setCell_size, setCell_size]
    have hg : ∀ b', grow F (w.alloc (.cells #[.int .i64 0, .int .i64 0] 60)) w2 b' → b' ≠ w.heap.size := fun b' hb' e => by
      rcases hb' with k | k
      · have := h.lt _ k; omega
      · omega
    refine ⟨(hr.q.is.same (fun b' hb' => hs b' (hg b' hb')) (by omega)).mono (fun b' hb' => hb'.imp id (fun k => ⟨by omega, by rw [hz2]; exact k.2⟩)) (grow_lt h.lt (by omega)), ?_⟩
    exact (hq.chg.trans (Chg.setCell w2 ⟨w.heap.size, 0, none⟩ a) (fun x e => .inr (by subst e; exact Nat.le_refl _))).trans (Chg.setCell _ ⟨w.heap.size, 1, none⟩ b) (fun x e => .inr (by subst e; exact Nat.le_refl _)))
  have ta := fun (v : Value) (wx : World) => assert_item v wx
  clear h hh hi o hz hb0
  generalize gt L i = x at *
  go_enter Try.func25, Try.ntmps25
  go_wp2_with (go_at_call 29; (with_reducible refine HRem.out.mono ?_); rintro e w2 ⟨rfl, L', hr⟩; obtain ⟨o2, hr2⟩ := HEnd.out _ _ hr; have HR := hid hr2; have k0 : w2.cell? ⟨w.heap.size, 0, none⟩ = some (.int .i64 0) := (o2.cell 0).trans rfl; have k1 : w2.cell? ⟨w.heap.size, 1, none⟩ = some (.int .i64 0) := (o2.cell 1).trans rfl; have f0 := o2.frozen 0; have f1 := o2.frozen 1; have e0 : (w2.setCell ⟨w.heap.size, 0, none⟩ (.int .i64 x.1)).cell? ⟨w.heap.size, 0, none⟩ = some (.int .i64 x.1) := ((o2.set 0 (.int .i64 x.1)).cell 0).trans rfl; have e1 : ((w2.setCell ⟨w.heap.size, 0, none⟩ (.int .i64 x.1)).setCell ⟨w.heap.size, 1, none⟩ (.int .i64 x.2)).cell? ⟨w.heap.size, 1, none⟩ = some (.int .i64 x.2) := (((o2.set 0 (.int .i64 x.1)).set 1 (.int .i64 x.2)).cell 1).trans rfl; clear hr hr2 o2)
  exact bodyPost_ret (v := .agg #[.int .i64 x.1, .int .i64 x.2]) (by simp [results, Try.results25, go_sem, e0, e1]) rfl ⟨rfl, L', HR.out _ _⟩
end Go.Proofs.Ytmjgkhjjnfoolaa
