/-
  LAYER 5 (agenda): an agenda that the law has made; shown.
-/
import Derived.Test.YtmjgkhjjnfoolaaAgLaw
namespace Go.Proofs.Ytmjgkhjjnfoolaa
open Go.RowKit Go.Maps
set_option linter.unusedVariables false
set_option maxRecDepth 100000

/-- An agenda that was made since w. -/
structure Own (w wx : World) (p : Nat) (F : Nat → Prop) (S : List It) : Prop where
  is : AgIs wx p F S
  new : ∀ b, F b → w.heap.size ≤ b
  below : Below w.heap.size w wx
theorem Own.to {w wx wy : World} {p : Nat} {F F' : Nat → Prop} {S S' : List It} (h : Own w wx p F S) (k : AgTo wx wy p F F' S') : Own w wy p F' S' :=
  ⟨k.is, fun b hb => by
    rcases k.sub b hb with hb | hb
    · exact h.new b hb
    · have := h.below.size; omega, h.below.trans (k.chg.below h.below.size h.new)⟩
theorem Own.later {w wx wy : World} {p : Nat} {F : Nat → Prop} {S : List It} (h : Own w wx p F S) (hb : Below wx.heap.size wx wy) : Own w wy p F S :=
  ⟨h.is.below hb, h.new, h.below.trans (hb.mono h.below.size)⟩
theorem own_made {w wx wy : World} {p : Nat} (hw : Below w.heap.size w wx) (hp : wx.heap.size ≤ p) (h : AgIs wy p (fun b => b = p) []) (hb : Below wx.heap.size wx wy) : Own w wy p (fun b => b = p) [] :=
  ⟨h, fun b e => by subst e; have := hw.size; omega, hw.trans (hb.mono hw.size)⟩
theorem put_own {w wx : World} {p : Nat} {F : Nat → Prop} {S S' : List It} (h : Own w wx p F S) (at_ id : Int) (hx : InR (at_, id)) (hl : S.length + 1 ≤ 1000) (e : insS (at_, id) (delS id S) = S') :
    Calls Try.prog 16 #[.pointer (some ⟨p, 0, none⟩), .int .i64 at_, .int .i64 id] wx fun e wy => e = .returned (.tuple #[]) ∧ ∃ F', Own w wy p F' S' := by
  subst e
  exact (aput_any h.is hx hl).mono fun e wy ⟨he, F', ht⟩ => ⟨he, F', h.to ht⟩
theorem drop_own {w wx : World} {p : Nat} {F : Nat → Prop} {S S' : List It} (h : Own w wx p F S) (id : Int) (hx : I64 id) (e : delS id S = S') (r : Bool) (hr : (fndS id S).isSome = r) :
    Calls Try.prog 11 #[.pointer (some ⟨p, 0, none⟩), .int .i64 id] wx fun e wy => e = .returned (.bool r) ∧ ∃ F', Own w wy p F' S' := by
  subst e hr
  exact (adrop_any h.is hx).mono fun e wy ⟨he, F', ht⟩ => ⟨he, F', h.to ht⟩
/-- What Due hands out: a row that lies apart. -/
structure Told (w wy : World) (F : Nat → Prop) (v : Value) (xs : List Int) : Prop where
  row : NumRow wy v xs
  new : ∀ b, v.ownBlock = some b → w.heap.size ≤ b ∧ ¬ F b
theorem Told.ints {w wy : World} {F : Nat → Prop} {v : Value} {xs : List Int} (h : Told w wy F v xs) : IntsAt wy wy.heap.size v xs := h.row.ints h.row.lt
theorem Told.later {w wx wy : World} {F : Nat → Prop} {v : Value} {xs : List Int} (h : Told w wx F v xs) (hb : Below wx.heap.size wx wy) : Told w wy F v xs := ⟨h.row.same (fun b e => hb.block b (h.row.lt b e)), h.new⟩
/-- .. and stays when the agenda goes on. -/
theorem Told.to {w wx wy : World} {p : Nat} {F F' : Nat → Prop} {S : List It} {v : Value} {xs : List Int} (h : Told w wx F v xs) (k : AgTo wx wy p F F' S) : Told w wy F' v xs :=
  ⟨h.row.same (fun b e => k.chg.block b (h.row.lt b e) (h.new b e).2), fun b e => ⟨(h.new b e).1, fun hf => by
    rcases k.sub b hf with hf | hf
    · exact (h.new b e).2 hf
    · have := h.row.lt b e; omega⟩⟩
theorem due_own {w wx : World} {p : Nat} {F : Nat → Prop} {S D R : List It} (h : Own w wx p F S) (hl : S.length ≤ 1000) (now : Int) (e1 : dueS now S = D) (e2 : restS now S = R) :
    Calls Try.prog 15 #[.pointer (some ⟨p, 0, none⟩), .int .i64 now] wx fun e wy => ∃ v F', e = .returned v ∧ Own w wy p F' R ∧ Told w wy F' v (D.map Prod.snd) := by
  subst e1 e2
  refine (adue_any h.is hl now).mono fun e wy ⟨v, F', he, hd⟩ => ⟨v, F', he, h.to hd.ag, hd.row, fun b hb => ?_⟩
  have := h.below.size
  exact ⟨by have := (hd.ap b hb).1; omega, (hd.ap b hb).2⟩
theorem ints_lit (w : World) (xs : List Int) (n : Nat) (hn : n = xs.length) : IntsAt (w.alloc (.cells (xs.map (Value.int .i64)).toArray 3)) (w.alloc (.cells (xs.map (Value.int .i64)).toArray 3)).heap.size (.slice (some ⟨w.heap.size, 0, none⟩) n n) xs := by
  subst hn
  refine ⟨some ⟨w.heap.size, 0, none⟩, xs.length, rfl, fun _ => ⟨w.heap.size, 0, rfl, by simp, fun j x hj => ?_⟩⟩
  have := (own.new w (xs.map (Value.int .i64)).toArray 3).cell j
  rw [Nat.zero_add, this]
  simp [hj]
theorem same_lit1 {w wy : World} {F : Nat → Prop} {v : Value} {xs : List Int} (h : Told w wy F v xs) (hx : xs.length ≤ 1000) (x : Int) (r : Bool) (hr : decide (xs = [x]) = r) :
    Calls Try.prog 14 #[v, .slice (some ⟨wy.heap.size, 0, none⟩) 1 1] (wy.alloc (.cells #[.int .i64 x] 3)) fun e wz => e = .returned (.bool r) ∧ Below wy.heap.size wy wz := by
  subst hr
  have hb : Below wy.heap.size wy (wy.alloc (.cells #[.int .i64 x] 3)) := (Below.refl _ _).alloc (Nat.le_refl _) _
  refine (same_any _ v _ xs [x] ((h.later hb).ints) (ints_lit wy [x] 1 rfl) (by omega) (by simp)).mono fun e wz ⟨he, h2⟩ => ⟨he, hb.trans (h2.mono hb.size)⟩
theorem same_lit2 {w wy : World} {F : Nat → Prop} {v : Value} {xs : List Int} (h : Told w wy F v xs) (hx : xs.length ≤ 1000) (x y : Int) (r : Bool) (hr : decide (xs = [x, y]) = r) :
    Calls Try.prog 14 #[v, .slice (some ⟨wy.heap.size, 0, none⟩) 2 2] (wy.alloc (.cells #[.int .i64 x, .int .i64 y] 3)) fun e wz => e = .returned (.bool r) ∧ Below wy.heap.size wy wz := by
  subst hr
  have hb : Below wy.heap.size wy (wy.alloc (.cells #[.int .i64 x, .int .i64 y] 3)) := (Below.refl _ _).alloc (Nat.le_refl _) _
  refine (same_any _ v _ xs [x, y] ((h.later hb).ints) (ints_lit wy [x, y] 2 rfl) (by omega) (by simp)).mono fun e wz ⟨he, h2⟩ => ⟨he, hb.trans (h2.mono hb.size)⟩
theorem inR_small {a b : Int} (h1 : 0 ≤ a) (h2 : a ≤ 1000) (h3 : 0 ≤ b) (h4 : b ≤ 1000) : InR (a, b) := by
  unfold InR I64
  simp only
  omega
set_option maxHeartbeats 4000000 in
theorem shown_any (w : World) :
    Calls Try.prog 8 #[] w fun e w' => e = .returned (.bool true) ∧ Below w.heap.size w w' := by
  have hNew := hid (anew_any w)
  have P1 := hid (fun wx p F (h : Own w wx p F []) => put_own h 5 1 (S' := [(5, 1)]) (inR_small (by omega) (by omega) (by omega) (by omega)) (by simp) (by decide))
  have P2 := hid (fun wx p F (h : Own w wx p F [(5, 1)]) => put_own h 3 2 (S' := [(3, 2), (5, 1)]) (inR_small (by omega) (by omega) (by omega) (by omega)) (by simp) (by decide))
  have P3 := hid (fun wx p F (h : Own w wx p F [(3, 2), (5, 1)]) => put_own h 5 0 (S' := [(3, 2), (5, 0), (5, 1)]) (inR_small (by omega) (by omega) (by omega) (by omega)) (by simp) (by decide))
  have N1 := hid (fun wx p F (h : Own w wx p F [(3, 2), (5, 0), (5, 1)]) => anext_any h.is)
  have D1 := hid (fun wx p F (h : Own w wx p F [(3, 2), (5, 0), (5, 1)]) => due_own h (by simp) 4 (D := [(3, 2)]) (R := [(5, 0), (5, 1)]) (by decide) (by decide))
  have S1 := hid (fun wx F v (h : Told w wx F v ([((3, 2) : It)].map Prod.snd)) => same_lit1 h (by simp) 2 true (by decide))
  have L1 := hid (fun wx p F (h : Own w wx p F [(5, 0), (5, 1)]) => alen_any h.is)
  have D2 := hid (fun wx p F (h : Own w wx p F [(5, 0), (5, 1)]) => due_own h (by simp) 9 (D := [(5, 0), (5, 1)]) (R := []) (by decide) (by decide))
  have S2 := hid (fun wx F v (h : Told w wx F v ([((5, 0) : It), (5, 1)].map Prod.snd)) => same_lit2 h (by simp) 0 1 true (by decide))
  have P4 := hid (fun wx p F (h : Own w wx p F []) => put_own h 7 1 (S' := [(7, 1)]) (inR_small (by omega) (by omega) (by omega) (by omega)) (by simp) (by decide))
  have P5 := hid (fun wx p F (h : Own w wx p F [(7, 1)]) => put_own h 1 1 (S' := [(1, 1)]) (inR_small (by omega) (by omega) (by omega) (by omega)) (by simp) (by decide))
  have A1 := hid (fun wx p F (h : Own w wx p F [(1, 1)]) => aat_any h.is (id := 1) (by unfold I64; omega))
  have X1 := hid (fun wx p F (h : Own w wx p F [(1, 1)]) => drop_own h 1 (S' := []) (by unfold I64; omega) (by decide) true (by decide))
  have X2 := hid (fun wx p F (h : Own w wx p F []) => drop_own h 1 (S' := []) (by unfold I64; omega) (by decide) false (by decide))
  have e1 : nextV [(3, 2), (5, 0), (5, 1)] = .tuple #[.int .i64 3, .int .i64 2, .bool true] := rfl
  have e2 : atV (fndS 1 [(1, 1)]) = .tuple #[.int .i64 1, .bool true] := by rw [show fndS 1 [((1, 1) : It)] = some (1, 1) by decide]; rfl
  rw [e1] at N1
  rw [e2] at A1
  clear e1 e2
  go_enter Try.func8, Try.ntmps8
  go_wp2_with (first
    | (go_at_call 9; (with_reducible refine hNew.out.mono ?_); rintro e w1 ⟨p, rfl, hp, hi, hb⟩; have HO := hid (own_made (Below.refl _ w) hp hi hb); clear hi hb)
    | (go_at_call 16; first
      | ((with_reducible refine (P1.out _ _ _ HO.out).mono ?_); rintro e w2 ⟨rfl, F, hO⟩; have HO := hid hO; clear hO)
      | ((with_reducible refine (P2.out _ _ _ HO.out).mono ?_); rintro e w2 ⟨rfl, F, hO⟩; have HO := hid hO; clear hO)
      | ((with_reducible refine (P3.out _ _ _ HO.out).mono ?_); rintro e w2 ⟨rfl, F, hO⟩; have HO := hid hO; clear hO)
      | ((with_reducible refine (P4.out _ _ _ HO.out).mono ?_); rintro e w2 ⟨rfl, F, hO⟩; have HO := hid hO; clear hO)
      | ((with_reducible refine (P5.out _ _ _ HO.out).mono ?_); rintro e w2 ⟨rfl, F, hO⟩; have HO := hid hO; clear hO))
    | (go_at_call 18; (with_reducible refine (N1.out _ _ _ HO.out).mono ?_); rintro e w3 ⟨rfl, hb⟩; have HO := hid (HO.out.later hb); clear hb)
    | (go_at_call 15; first
      | ((with_reducible refine (D1.out _ _ _ HO.out).mono ?_); rintro e w4 ⟨v, F, rfl, hO, hT⟩; have HO := hid hO; have HT := hid hT; clear hO hT)
      | ((with_reducible refine (D2.out _ _ _ HO.out).mono ?_); rintro e w4 ⟨v, F, rfl, hO, hT⟩; have HO := hid hO; have HT := hid hT; clear hO hT))
    | (go_at_call 14; first
      | ((with_reducible refine (S1.out _ _ _ HT.out).mono ?_); rintro e w5 ⟨rfl, hb⟩; have HO := hid (HO.out.later hb); clear hb)
      | ((with_reducible refine (S2.out _ _ _ HT.out).mono ?_); rintro e w5 ⟨rfl, hb⟩; have HO := hid (HO.out.later hb); clear hb))
    | (go_at_call 19; (with_reducible refine (L1.out _ _ _ HO.out).mono ?_); rintro e w6 ⟨rfl, rfl⟩)
    | (go_at_call 20; (with_reducible refine (A1.out _ _ _ HO.out).mono ?_); rintro e w7 ⟨rfl, hb⟩; have HO := hid (HO.out.later hb); clear hb)
    | (go_at_call 11; first
      | ((with_reducible refine (X1.out _ _ _ HO.out).mono ?_); rintro e w8 ⟨rfl, F, hO⟩; have HO := hid hO; clear hO)
      | ((with_reducible refine (X2.out _ _ _ HO.out).mono ?_); rintro e w8 ⟨rfl, F, hO⟩; have HO := hid hO; clear hO)))
  go_ret
  exact ⟨rfl, HO.out.below⟩
end Go.Proofs.Ytmjgkhjjnfoolaa
