/-
  LAYER 5 (agenda): an agenda in a set of blocks; Pop.
-/
import Derived.Test.YtmjgkhjjnfoolaaAgA
import Derived.StillTailTactics
namespace Go.Proofs.Ytmjgkhjjnfoolaa
open Go.RowKit Go.Maps
set_option linter.unusedVariables false
set_option maxRecDepth 100000

/-- The queue L lies at p, all its blocks in F. -/
structure QIs (w : World) (p : Nat) (F : Nat → Prop) (L : List It) : Prop where
  rep : ∃ v mv, QRep w p v mv L ∧ ∀ b, Foot p v mv b → F b
  lt : ∀ b, F b → b < w.heap.size
theorem QIs.same {w w' : World} {p : Nat} {F : Nat → Prop} {L : List It} (h : QIs w p F L) (hs : ∀ b, F b → w'.heap[b]? = w.heap[b]?) (hz : w.heap.size ≤ w'.heap.size) : QIs w' p F L := by
  obtain ⟨⟨v, mv, hr, hf⟩, hl⟩ := h
  exact ⟨⟨v, mv, hr.same (fun b hb => hs b (hf b hb)), hf⟩, fun b hb => Nat.lt_of_lt_of_le (hl b hb) hz⟩
theorem QIs.below {w w' : World} {p : Nat} {F : Nat → Prop} {L : List It} (h : QIs w p F L) (hb : Below w.heap.size w w') : QIs w' p F L := h.same (fun b hf => hb.block b (h.lt b hf)) hb.size
theorem QIs.drew {w : World} {p : Nat} {F : Nat → Prop} {L : List It} (h : QIs w p F L) : QIs w.drew p F L := h.same (fun _ _ => rfl) (Nat.le_refl _)
theorem QIs.grow {w w' : World} {p : Nat} {F : Nat → Prop} {L : List It} (h : QIs w p F L) (hb : Below w.heap.size w w') : QIs w' p (grow F w w') L := by
  obtain ⟨⟨v, mv, hr, hf⟩, hl⟩ := h.below hb
  exact ⟨⟨v, mv, hr, fun b hb => .inl (hf b hb)⟩, grow_lt h.lt hb.size⟩
theorem grow_grow {F : Nat → Prop} {w w1 w2 : World} (h1 : w.heap.size ≤ w1.heap.size) (h2 : w1.heap.size ≤ w2.heap.size) : ∀ b, grow (grow F w w1) w1 w2 b → grow F w w2 b := by
  intro b hb
  rcases hb with (hb | hb) | hb
  · exact .inl hb
  · exact .inr ⟨hb.1, by omega⟩
  · exact .inr ⟨by omega, hb.2⟩
theorem QIs.mono {w : World} {p : Nat} {F G : Nat → Prop} {L : List It} (h : QIs w p F L) (hs : ∀ b, F b → G b) (hl : ∀ b, G b → b < w.heap.size) : QIs w p G L := by
  obtain ⟨⟨v, mv, hr, hf⟩, _⟩ := h
  exact ⟨⟨v, mv, hr, fun b hb => hs b (hf b hb)⟩, hl⟩
/-- What a call that turns the queue leaves. -/
structure QTo (w w' : World) (p : Nat) (F : Nat → Prop) (L : List It) : Prop where
  is : QIs w' p (grow F w w') L
  chg : Chg F w w'
theorem QTo.trans {w w1 w2 : World} {p : Nat} {F : Nat → Prop} {L1 L2 : List It} (h : QTo w w1 p F L1) (k : QTo w1 w2 p (grow F w w1) L2) (hF : ∀ b, F b → b < w.heap.size) : QTo w w2 p F L2 :=
  ⟨k.is.mono (grow_grow h.chg.size k.chg.size) (grow_lt hF (Nat.le_trans h.chg.size k.chg.size)), h.chg.trans k.chg (fun x hx => by
    rcases hx with hx | hx
    · exact .inl hx
    · exact .inr hx.1)⟩
theorem QTo.of_below {w w1 w2 : World} {p : Nat} {F : Nat → Prop} {L : List It} (hb : Below w.heap.size w w1) (k : QTo w1 w2 p F L) (hF : ∀ b, F b → b < w.heap.size) : QTo w w2 p F L :=
  ⟨k.is.mono (fun b hb' => by
      rcases hb' with hb' | hb'
      · exact .inl hb'
      · exact .inr ⟨by have := hb.size; omega, hb'.2⟩) (grow_lt hF (Nat.le_trans hb.size k.chg.size)), (Chg.of_below hb).trans k.chg (fun x hx => .inl hx)⟩
theorem QTo.then_below {w w1 w2 : World} {p : Nat} {F : Nat → Prop} {L : List It} (k : QTo w w1 p F L) (hb : Below w1.heap.size w1 w2) (hF : ∀ b, F b → b < w.heap.size) : QTo w w2 p F L :=
  ⟨(k.is.below hb).mono (fun b hb' => by
      rcases hb' with hb' | hb'
      · exact .inl hb'
      · exact .inr ⟨hb'.1, by have := hb.size; omega⟩) (grow_lt hF (Nat.le_trans k.chg.size hb.size)), k.chg.trans (Chg.of_below hb) (fun x hx => .inl hx)⟩
theorem QTo.of_is {w w' : World} {p : Nat} {F : Nat → Prop} {L : List It} (h : QIs w p F L) (hb : Below w.heap.size w w') : QTo w w' p F L := ⟨h.grow hb, Chg.of_below hb⟩
theorem QTo.of_rep {w w' : World} {p : Nat} {v mv v' mv' : Value} {F : Nat → Prop} {L L' : List It} (hF : ∀ b, Foot p v mv b → F b) (hl : ∀ b, F b → b < w.heap.size) (hr : QRep w' p v' mv' L') (hc : Chg (Foot p v mv) w w')
    (hf : ∀ b, Foot p v' mv' b → Foot p v mv b ∨ w.heap.size ≤ b) : QTo w w' p F L' :=
  ⟨⟨⟨v', mv', hr, fun b hb => by
    rcases hf b hb with h | h
    · exact .inl (hF b h)
    · exact .inr ⟨h, hr.lt b hb⟩⟩, grow_lt hl hc.size⟩, hc.mono hF⟩

theorem items_to (wx : World) (g n cap i : Nat) (hi : i ≤ cap) : (Instr.slice 53 (.slice (some ⟨g, 0, none⟩) n cap) none (some (.int .i64 (i : Int))) none).run Try.prog wx = .ok (.slice (some ⟨g, 0, none⟩) i cap) wx := by
  simp [go_sem, Instr.slice, run_underlying Try.underlying53, hi]
abbrev popW (w : World) (p g n cap : Nat) (x : It) : World := ((w.setCell ⟨p, 0, none⟩ (.slice (some ⟨g, 0, none⟩) n cap)).alloc (.cells #[.int .i64 x.1, .int .i64 x.2] 60)).drew
theorem popHead {w : World} {p g n cap m : Nat} {L : List It} (h : QRep w p (.slice (some ⟨g, 0, none⟩) n cap) (.map (some m)) L) (k : Nat) (x : It) : own (popW w p g k cap x) p #[.slice (some ⟨g, 0, none⟩) k cap, .map (some m)] 58 := by
  have h1 := h.head.set 0 (.slice (some ⟨g, 0, none⟩) k cap)
  have h2 : own (w.setCell ⟨p, 0, none⟩ (.slice (some ⟨g, 0, none⟩) k cap)) p #[.slice (some ⟨g, 0, none⟩) k cap, .map (some m)] 58 := h1
  exact h2.same (Below.heap_alloc _ _ _ h2.lt)
theorem popBox (w : World) (p g k cap : Nat) (x : It) : own (popW w p g k cap x) w.heap.size #[.int .i64 x.1, .int .i64 x.2] 60 := by
  have h := own.new (w.setCell ⟨p, 0, none⟩ (.slice (some ⟨g, 0, none⟩) k cap)) #[.int .i64 x.1, .int .i64 x.2] 60
  rw [setCell_size] at h
  exact h
theorem popEnd {w : World} {p g n cap m : Nat} {M : List It} {x : It} {F : Nat → Prop} (h : QRep w p (.slice (some ⟨g, 0, none⟩) n cap) (.map (some m)) (M ++ [x])) (hF : ∀ b, Foot p (.slice (some ⟨g, 0, none⟩) n cap) (.map (some m)) b → F b) (hl : ∀ b, F b → b < w.heap.size) :
    ∃ D, PMap (popW w p g M.length cap x) m D ∧ ∀ w3, w3.ownsMap Try.prog 3 EL m (Maps.size D) (D.del (ky x.2)) → (popW w p g M.length cap x).mapTurned w3 m → QTo w w3 p F M ∧ w3.cell? ⟨w.heap.size, 0, none⟩ = some (.int .i64 x.1) ∧ w3.cell? ⟨w.heap.size, 1, none⟩ = some (.int .i64 x.2) := by
  have hp := h.head.lt
  have hmp := (h.ap2 m rfl).1
  have hmg := (h.ap2 m rfl).2
  have hgp : g ≠ p := fun e => h.ap1 (by rw [e]; rfl)
  have hm0 := h.lt m (.inr (.inr rfl))
  have hg0 := h.lt g (.inr (.inl rfl))
  have hsame : ∀ b, b < w.heap.size → b ≠ p → (popW w p g M.length cap x).heap[b]? = w.heap[b]? := fun b hb hne => by
    show ((w.setCell _ _).alloc _).heap[b]? = _
    rw [Below.heap_alloc _ _ _ (by simpa [World.setCell] using hb), Below.heap_setCell _ _ _ _ hne]
  rcases h.map with ⟨e, _⟩ | ⟨m', D, e, hm, hP⟩
  · cases e
  · cases e
    refine ⟨D, hm.same (hsame m hm0 hmp), fun w3 ho ht => ?_⟩
    have hc1 : Chg (fun b => b = p) w (popW w p g M.length cap x) := ⟨rfl, rfl, rfl, by show _ ≤ ((w.setCell _ _).alloc _).heap.size; simp [World.setCell], fun b hb hne => hsame b hb hne⟩
    have hc2 := mapTurned_chg ht
    have hc : Chg (Foot p (.slice (some ⟨g, 0, none⟩) n cap) (.map (some m))) w w3 := (hc1.mono (T := Foot p (.slice (some ⟨g, 0, none⟩) n cap) (.map (some m))) (fun b e => .inl e)).trans hc2 (fun b e => .inl (by subst e; exact .inr (.inr rfl)))
    have hhead : own w3 p #[.slice (some ⟨g, 0, none⟩) M.length cap, .map (some m)] 58 := by
      have h3 := popHead h M.length x
      exact h3.chg hc2 (fun e => hmp e.symm)
    have hrow : ItRow w3 (.slice (some ⟨g, 0, none⟩) M.length cap) M := by
      have h1 := h.row.cut (k := M.length) (by simp)
      rw [List.take_left' rfl] at h1
      refine h1.same (fun b hb => ?_)
      cases hb
      rw [hc2.block g (by show g < ((w.setCell _ _).alloc _).heap.size; simp [World.setCell]; omega) (fun e => hmg (by rw [e]; rfl)), hsame g hg0 hgp]
    have hids := h.ids
    have ob : own w3 w.heap.size #[.int .i64 x.1, .int .i64 x.2] 60 := (popBox w p g M.length cap x).chg hc2 (fun e => by omega)
    refine ⟨?_, (ob.cell 0).trans rfl, (ob.cell 1).trans rfl⟩
    refine QTo.of_rep (L := M ++ [x]) hF hl (v' := .slice (some ⟨g, 0, none⟩) M.length cap) (mv' := .map (some m)) ⟨hhead, hrow, .inr ⟨m, D.del (ky x.2), rfl, ownsMap_tight ho, hP.pop hids⟩, h.ap1, h.ap2, ?_, fun z hz => h.inr z (by simp [hz]), by have := h.len; simp at this; omega⟩ hc (fun b hb => .inl hb)
    rw [List.map_append, List.nodup_append] at hids
    exact hids.1
set_option maxHeartbeats 4000000 in
theorem pop_any {w : World} {p : Nat} {F : Nat → Prop} {M : List It} {x : It} (h : QIs w p F (M ++ [x])) :
    Calls Try.prog 50 #[.pointer (some ⟨p, 0, none⟩)] w fun e w' => e = .returned (.iface 60 (.agg #[.int .i64 x.1, .int .i64 x.2])) ∧ QTo w w' p F M := by
  obtain ⟨⟨v, mv, hr, hF⟩, hl⟩ := h
  obtain ⟨ao, cap, rfl, hcap, _, _⟩ := hr.row.slice
  have hlen := hr.len
  have hL : (M ++ [x]).length = M.length + 1 := by simp
  obtain ⟨g, rfl, hg, hcs, hfz⟩ := hr.row.at (by omega)
  obtain ⟨c1, c2⟩ := hcs M.length (by omega)
  rw [gt_snoc_eq] at c1 c2
  have hm : ∃ m, mv = .map (some m) := by
    rcases hr.map with ⟨_, e⟩ | ⟨m, D, e, _⟩
    · simp at e
    · exact ⟨m, e⟩
  obtain ⟨m, rfl⟩ := hm
  obtain ⟨D, hD, hE⟩ := popEnd hr hF hl
  have HE := hid hE
  have HD := hid hD
  have hpk : keyOf Try.prog 3 (.int .i64 x.2) = some (ky x.2) := keyInt (hr.inr x (by simp)).2
  have HK := hid hpk
  have c0 : w.cell? ⟨p, 0, none⟩ = some (.slice (some ⟨g, 0, none⟩) (M ++ [x]).length cap) := (hr.head.cell 0).trans rfl
  have cm : w.cell? ⟨p, 1, none⟩ = some (.map (some m)) := (hr.head.cell 1).trans rfl
  have fp : w.frozen? ⟨p, 0, none⟩ = false := hr.head.frozen 0
  have hp := hr.head.lt
  rw [hL] at c0 hcap hlen
  clear hcs hE hF hl hD hpk hL
  have l1 := fun wx => items_to wx g (M.length + 1) cap M.length (by omega)
  have hnp : w.heap.size ≠ p := by omega
  have HPH := hid (popHead hr M.length x)
  have HPB := hid (popBox w p g M.length cap x)
  clear hr
  unfold popW at *
  generalize M.length = n at *
  push_cast at *
  go_enter Try.func50, Try.ntmps50
  go_wp2
  generalize (w.setCell ⟨p, 0, none⟩ (.slice (some ⟨g, 0, none⟩) n cap)).alloc (.cells #[.int .i64 x.1, .int .i64 x.2] 60) = W at *
  have q1 : W.cell? ⟨p, 1, none⟩ = some (.map (some m)) := (HPH.out.cell 1).trans rfl
  have q2 : W.cell? ⟨w.heap.size, 0, none⟩ = some (.int .i64 x.1) := (HPB.out.cell 0).trans rfl
  have q3 : W.cell? ⟨w.heap.size, 1, none⟩ = some (.int .i64 x.2) := (HPB.out.cell 1).trans rfl
  clear c0 c1 c2 cm fp l1
  go_still_tail 6, (by kernel_rfl)
  change wpList _ _ _ _ _ W.drew
  go_wp2_with (at_delete; refine wpList_delete_own _ rfl _ _ 54 3 rfl 3 keyedInt Try.underlying54 EL m _ D rfl HD.out _ _ rfl HK.out ?_; intro w3 ho ht; obtain ⟨hQ, q4, q5⟩ := HE.out w3 ho ht; have HQ := hid hQ; clear ho ht hQ)
  go_ret
  exact ⟨rfl, HQ.out⟩
end Go.Proofs.Ytmjgkhjjnfoolaa
