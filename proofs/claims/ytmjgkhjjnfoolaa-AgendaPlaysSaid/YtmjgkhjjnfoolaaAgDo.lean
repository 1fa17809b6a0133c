/-
  LAYER 5 (agenda): the agenda's methods but Due.
-/
import Derived.Test.YtmjgkhjjnfoolaaAgWith
namespace Go.Proofs.Ytmjgkhjjnfoolaa
open Go.RowKit Go.Maps
set_option linter.unusedVariables false
set_option maxRecDepth 100000

/-- An agenda at p, in blocks F, that has the things of S. -/
structure AgIs (w : World) (p : Nat) (F : Nat → Prop) (S : List It) : Prop where
  q : ∃ L, QIs w p F L ∧ Hp L L.length ∧ L.Perm S
  ok : AgOk S
structure AgTo (w w' : World) (p : Nat) (F F' : Nat → Prop) (S : List It) : Prop where
  is : AgIs w' p F' S
  sub : ∀ b, F' b → grow F w w' b
  chg : Chg F w w'
theorem AgIs.lt {w : World} {p : Nat} {F : Nat → Prop} {S : List It} (h : AgIs w p F S) : ∀ b, F b → b < w.heap.size := by
  obtain ⟨⟨L, hq, _⟩, _⟩ := h
  exact hq.lt
theorem AgIs.same {w w' : World} {p : Nat} {F : Nat → Prop} {S : List It} (h : AgIs w p F S) (hs : ∀ b, F b → w'.heap[b]? = w.heap[b]?) (hz : w.heap.size ≤ w'.heap.size) : AgIs w' p F S := by
  obtain ⟨⟨L, hq, h2⟩, ho⟩ := h
  exact ⟨⟨L, hq.same hs hz, h2⟩, ho⟩
theorem AgIs.below {w w' : World} {p : Nat} {F : Nat → Prop} {S : List It} (h : AgIs w p F S) (hb : Below w.heap.size w w') : AgIs w' p F S := h.same (fun b hf => hb.block b (h.lt b hf)) hb.size
theorem AgTo.of_below {w w' : World} {p : Nat} {F : Nat → Prop} {S : List It} (h : AgIs w p F S) (hb : Below w.heap.size w w') : AgTo w w' p F F S := ⟨h.below hb, fun _ hf => .inl hf, Chg.of_below hb⟩
theorem AgTo.of_rem {w w' : World} {p : Nat} {F : Nat → Prop} {S L L' : List It} {x : It} (ho : AgOk S) (hp : L.Perm S) (h : RemEnd w w' p F L x L') : AgTo w w' p F (grow F w w') (delS x.2 S) := by
  have hd := (delS_perm (id := x.2) hp).symm.trans (del_of_perm h.perm ((hp.map Prod.snd).nodup_iff.2 ho.ids))
  exact ⟨⟨⟨L', h.q.is, h.hp, hd.symm⟩, ho.del _⟩, fun _ hb => hb, h.q.chg⟩
theorem AgTo.trans {w w1 w2 : World} {p : Nat} {F F1 F2 : Nat → Prop} {S1 S2 : List It} (h : AgTo w w1 p F F1 S1) (k : AgTo w1 w2 p F1 F2 S2) : AgTo w w2 p F F2 S2 := by
  refine ⟨k.is, fun b hb => ?_, h.chg.trans k.chg (fun b hb => ?_)⟩
  · exact grow_grow h.chg.size k.chg.size b ((k.sub b hb).imp (h.sub b) id)
  · rcases h.sub b hb with h | h
    · exact .inl h
    · exact .inr h.1
theorem fnd_at {S L : List It} {id : Int} {x : It} (hp : L.Perm S) (h : fndS id S = some x) : ∃ k, k < L.length ∧ gt L k = x ∧ x.2 = id := by
  obtain ⟨h1, h2⟩ := fndS_mem h
  obtain ⟨k, hk, he⟩ := List.getElem_of_mem (hp.mem_iff.2 h1)
  exact ⟨k, hk, by rw [gt_of hk]; exact he, h2⟩
theorem findQ {w : World} {p : Nat} {F : Nat → Prop} {L : List It} (h : QIs w p F L) {k : Nat} (hk : k < L.length) {id : Int} (hid' : id = (gt L k).2) :
    Calls Try.prog 24 #[.pointer (some ⟨p, 0, none⟩), .int .i64 id] w fun e w' => e = .returned (.int .i64 (k : Int)) ∧ w = w' := by
  obtain ⟨⟨v, mv, hr, _⟩, _⟩ := h
  exact find_some hr k hk id hid'
theorem findQ_none {w : World} {p : Nat} {F : Nat → Prop} {L : List It} (h : QIs w p F L) {id : Int} (hi : I64 id) (hno : ∀ x ∈ L, x.2 ≠ id) :
    Calls Try.prog 24 #[.pointer (some ⟨p, 0, none⟩), .int .i64 id] w fun e w' => e = .returned (.int .i64 (-1)) ∧ w = w' := by
  obtain ⟨⟨v, mv, hr, _⟩, _⟩ := h
  exact find_none hr id hi hno
theorem alen_any {w : World} {p : Nat} {F : Nat → Prop} {S : List It} (h : AgIs w p F S) :
    Calls Try.prog 19 #[.pointer (some ⟨p, 0, none⟩)] w fun e w' => e = .returned (.int .i64 (S.length : Int)) ∧ w = w' := by
  obtain ⟨⟨L, hq, _, hp⟩, _⟩ := h
  rw [← hp.length_eq]
  exact alenQ hq
theorem adrop_any {w : World} {p : Nat} {F : Nat → Prop} {S : List It} (h : AgIs w p F S) {id : Int} (hi : I64 id) :
    Calls Try.prog 11 #[.pointer (some ⟨p, 0, none⟩), .int .i64 id] w fun e w' => e = .returned (.bool (fndS id S).isSome) ∧ ∃ F', AgTo w w' p F F' (delS id S) := by
  have HH := hid h
  obtain ⟨⟨L, hq, hh, hp⟩, ho⟩ := h
  have HP := hid hp
  have HO := hid ho
  cases hf : fndS id S with
  | none =>
    have hno := fndS_none_iff hf
    have hF := hid (findQ_none hq hi (fun x hx => hno x (hp.mem_iff.1 hx)))
    have hW := hid (with_out hq (k := -1) (.inl (by omega)) (.func (.func 25) #[] #[]))
    rw [delS_none hno]
    clear hq hh hp ho hno hf
    go_enter Try.func11, Try.ntmps11
    go_wp2_with (first
      | (go_at_call 24; (with_reducible refine hF.out.mono ?_); rintro e w1 ⟨rfl, rfl⟩)
      | (go_at_call 23; (with_reducible refine hW.out.mono ?_); rintro e w2 ⟨rfl, hb2⟩))
    go_ret
    exact ⟨rfl, F, AgTo.of_below HH.out (hb2.alloc hb2.size _)⟩
  | some x =>
    obtain ⟨k, hk, hx, hxi⟩ := fnd_at hp hf
    have hF := hid (findQ hq hk (id := id) (by rw [hx, hxi]))
    have hW := hid (with_take hq hh hk)
    rw [hx] at hW
    have HXI := hid hxi
    clear hq hh hp ho hf hx hxi
    go_enter Try.func11, Try.ntmps11
    go_wp2_with (first
      | (go_at_call 24; (with_reducible refine hF.out.mono ?_); rintro e w1 ⟨rfl, rfl⟩)
      | (go_at_call 23; (with_reducible refine hW.out.mono ?_); rintro e w2 ⟨rfl, L', hr2⟩; have HR := hid hr2; clear hr2))
    go_ret
    have h1 := AgTo.of_rem HO.out HP.out HR.out
    rw [HXI.out] at h1
    exact ⟨rfl, _, h1.trans (AgTo.of_below h1.is ((Below.refl _ _).alloc (Nat.le_refl _) _))⟩
def atV : Option It → Value
  | none => .tuple #[.int .i64 0, .bool false]
  | some x => .tuple #[.int .i64 x.1, .bool true]
theorem aat_any {w : World} {p : Nat} {F : Nat → Prop} {S : List It} (h : AgIs w p F S) {id : Int} (hi : I64 id) :
    Calls Try.prog 20 #[.pointer (some ⟨p, 0, none⟩), .int .i64 id] w fun e w' => e = .returned (atV (fndS id S)) ∧ Below w.heap.size w w' := by
  obtain ⟨⟨L, hq, hh, hp⟩, ho⟩ := h
  cases hf : fndS id S with
  | none =>
    have hno := fndS_none_iff hf
    have hF := hid (findQ_none hq hi (fun x hx => hno x (hp.mem_iff.1 hx)))
    have hW := hid (with_out hq (k := -1) (.inl (by omega)) (.func (.func 26) #[] #[]))
    clear hq hh hp ho hno hf
    go_enter Try.func20, Try.ntmps20
    go_wp2_with (first
      | (go_at_call 24; (with_reducible refine hF.out.mono ?_); rintro e w1 ⟨rfl, rfl⟩)
      | (go_at_call 23; (with_reducible refine hW.out.mono ?_); rintro e w2 ⟨rfl, hb2⟩))
    go_ret2
    exact ⟨rfl, hb2.alloc hb2.size _⟩
  | some x =>
    obtain ⟨k, hk, hx, hxi⟩ := fnd_at hp hf
    have hF := hid (findQ hq hk (id := id) (by rw [hx, hxi]))
    have hW := hid (with_look hq hk)
    rw [hx] at hW
    clear hq hh hp ho hf hx hxi
    go_enter Try.func20, Try.ntmps20
    go_wp2_with (first
      | (go_at_call 24; (with_reducible refine hF.out.mono ?_); rintro e w1 ⟨rfl, rfl⟩)
      | (go_at_call 23; (with_reducible refine hW.out.mono ?_); rintro e w2 ⟨rfl, hb2⟩))
    go_ret2
    exact ⟨rfl, hb2.alloc hb2.size _⟩
def nextV : List It → Value
  | [] => .tuple #[.int .i64 0, .int .i64 0, .bool false]
  | x :: _ => .tuple #[.int .i64 x.1, .int .i64 x.2, .bool true]
/-- What with of look says at the root. -/
def rootV : List It → Value
  | [] => .tuple #[.agg #[.int .i64 0, .int .i64 0], .bool false]
  | x :: _ => .tuple #[.agg #[.int .i64 x.1, .int .i64 x.2], .bool true]
theorem root_any {w : World} {p : Nat} {F : Nat → Prop} {S : List It} (h : AgIs w p F S) :
    Calls Try.prog 23 #[.pointer (some ⟨p, 0, none⟩), .int .i64 0, .func (.func 26) #[] #[]] w fun e w' => e = .returned (rootV S) ∧ Below w.heap.size w w' := by
  obtain ⟨⟨L, hq, hh, hp⟩, ho⟩ := h
  cases S with
  | nil => exact with_out hq (k := 0) (.inr (by rw [hp.length_eq]; simp)) _
  | cons x r =>
    have h0 : 0 < L.length := by rw [hp.length_eq]; simp
    have hhd := Srt.head hh rfl hp ho.srt h0
    rw [List.tail_cons, List.cons.injEq] at hhd
    have := with_look hq h0
    rw [← hhd.1] at this
    exact this
theorem anext_any {w : World} {p : Nat} {F : Nat → Prop} {S : List It} (h : AgIs w p F S) :
    Calls Try.prog 18 #[.pointer (some ⟨p, 0, none⟩)] w fun e w' => e = .returned (nextV S) ∧ Below w.heap.size w w' := by
  have HW := hid (root_any h)
  clear h
  cases S with
  | nil =>
    simp only [rootV] at HW
    go_enter Try.func18, Try.ntmps18
    go_wp2_with (go_at_call 23; (with_reducible refine HW.out.mono ?_); rintro e w2 ⟨rfl, hb2⟩)
    go_quiet (fail)
    go_wp2
    go_ret3
    exact ⟨rfl, below_drew (hb2.alloc hb2.size _) _⟩
  | cons x r =>
    simp only [rootV] at HW
    go_enter Try.func18, Try.ntmps18
    go_wp2_with (go_at_call 23; (with_reducible refine HW.out.mono ?_); rintro e w2 ⟨rfl, hb2⟩)
    go_quiet (fail)
    go_wp2
    go_ret3
    exact ⟨rfl, below_drew (hb2.alloc hb2.size _) _⟩
theorem AgIs.push {w w' : World} {p : Nat} {F : Nat → Prop} {S L L' : List It} {x : It} (h : AgOk S) (hp : L.Perm (delS x.2 S)) (hx : InR x) (hh : Hp L' L'.length) (hp2 : L'.Perm (x :: L)) (q : QTo w w' p F L') : AgTo w w' p F (grow F w w') (insS x (delS x.2 S)) :=
  ⟨⟨⟨L', q.is, hh, hp2.trans ((hp.cons x).trans (insS_perm x _).symm)⟩, h.put x hx⟩, fun _ hb => hb, q.chg⟩
theorem apush_any {w : World} {p : Nat} {F : Nat → Prop} {S : List It} {x : It} (ho : AgOk S) (h : AgIs w p F (delS x.2 S)) (hx : InR x) (hl : (delS x.2 S).length + 1 ≤ 1000) :
    Calls Try.prog 27 #[.iface 65 (.pointer (some ⟨p, 0, none⟩)), .iface 60 (.agg #[.int .i64 x.1, .int .i64 x.2])] w fun e w' => e = .returned (.tuple #[]) ∧ ∃ F', AgTo w w' p F F' (insS x (delS x.2 S)) := by
  obtain ⟨L, hq, hh, hp⟩ := h.q
  refine (hpush_any hq hx (fun y hy => (delS_mem.1 (hp.mem_iff.1 hy)).2) (by rw [hp.length_eq]; exact hl) hh).mono ?_
  rintro e w' ⟨he, L', h1, h2, h3⟩
  exact ⟨he, _, AgIs.push ho hp hx h1 h2 h3⟩
theorem aput_any {w : World} {p : Nat} {F : Nat → Prop} {S : List It} (h : AgIs w p F S) {x : It} (hx : InR x) (hl : S.length + 1 ≤ 1000) :
    Calls Try.prog 16 #[.pointer (some ⟨p, 0, none⟩), .int .i64 x.1, .int .i64 x.2] w fun e w' => e = .returned (.tuple #[]) ∧ ∃ F', AgTo w w' p F F' (insS x (delS x.2 S)) := by
  have HD := hid (adrop_any h hx.2)
  have hl2 : (delS x.2 S).length ≤ S.length := List.length_filter_le _ _
  have HO := hid h.ok
  have HX := hid hx
  have HP := hid (fun w1 F1 (ht : AgTo w w1 p F F1 (delS x.2 S)) => apush_any HO.out ht.is HX.out (by omega))
  clear h hx hl2
  go_enter Try.func16, Try.ntmps16
  go_wp2_with (first
    | (go_at_call 11; (with_reducible refine HD.out.mono ?_); rintro e w1 ⟨rfl, F1, ht1⟩; have HT := hid ht1; clear ht1)
    | (go_at_call 27; (with_reducible refine (HP.out _ _ HT.out).mono ?_); rintro e w2 ⟨rfl, F2, ht2⟩; have HT2 := hid ht2; clear ht2))
  go_end0
  exact ⟨rfl, F2, HT.out.trans HT2.out⟩
theorem anew_any (w : World) :
    Calls Try.prog 9 #[] w fun e w' => ∃ p, e = .returned (.pointer (some ⟨p, 0, none⟩)) ∧ w.heap.size ≤ p ∧ AgIs w' p (fun b => b = p) [] ∧ Below w.heap.size w w' := by
  go_enter Try.func9, Try.ntmps9
  go_wp2
  go_ret
  have o := own.new w #[.slice none 0 0, .map none] 58
  refine ⟨w.heap.size, rfl, Nat.le_refl _, ⟨⟨[], ⟨⟨.slice none 0 0, .map none, ⟨o, ⟨rfl, .inl ⟨rfl, rfl⟩⟩, .inl ⟨rfl, rfl⟩, (by simp [Value.ownBlock]), (fun m e => by cases e), List.nodup_nil, (by simp), (by simp)⟩, fun b hb => ?_⟩, fun b hb => ?_⟩, fun c h0 hc => absurd hc (by simp), List.Perm.refl _⟩, agOk_nil⟩, (Below.refl _ _).alloc (Nat.le_refl _) _⟩
  · rcases hb with hb | hb | hb
    · exact hb
    · simp [Value.ownBlock] at hb
    · cases hb
  · subst hb; simp
end Go.Proofs.Ytmjgkhjjnfoolaa
