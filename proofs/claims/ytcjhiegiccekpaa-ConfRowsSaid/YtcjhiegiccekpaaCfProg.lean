/-
  LAYER 9 (conf): WHAT THE LAWS ASK OF THE PROGRAM: a contract for each exported call, in the words of the lists; shown, the head of every law.
-/
import Derived.Test.YtcjhiegiccekpaaCfRefC
import Derived.Test.YtcjhiegiccekpaaCfRefD
namespace Go.Proofs.Ytcjhiegiccekpaa
open Go.RowKit
set_option linter.unusedVariables false
set_option maxRecDepth 100000

abbrev I64c (n : Int) : Prop := -9223372036854775808 ≤ n ∧ n ≤ 9223372036854775807
/-- A row that the laws hand to the program. -/
structure NumIn (w : World) (v : Value) (l : List Int) : Prop where
  row : RAt numTy w v l
  len : l.length ≤ 1000
  num : ∀ x ∈ l, I64c x
theorem NumIn.below {w w' : World} {v : Value} {l : List Int} (h : NumIn w v l) (hb : Below w.heap.size w w') : NumIn w' v l := ⟨h.row.below hb, h.len, h.num⟩
def BoolPost9 (w : World) (b : Bool) (e : Ending) (w' : World) : Prop := e = .returned (.bool b) ∧ Below w.heap.size w w'
structure CfProg : Prop where
  right : ∀ {w : World} {v : Value} {l : List Int}, NumIn w v l → Calls Try.prog 11 #[v] w (BoolPost9 w (rightC l))
  next : ∀ {w : World} {v u : Value} {l m : List Int}, NumIn w v l → NumIn w u m → Calls Try.prog 13 #[v, u] w (BoolPost9 w (nextC l m))
  has : ∀ {w : World} {v : Value} {l : List Int} (x : Int), NumIn w v l → I64c x → Calls Try.prog 15 #[v, .int .i64 x] w (BoolPost9 w (hasC l x))
  most : ∀ {w : World} {v u : Value} {l m : List Int}, NumIn w v l → NumIn w u m → Calls Try.prog 22 #[v, u] w (BoolPost9 w (mostC l m))
  agreed : ∀ {w : World} {v : Value} {l : List Int}, NumIn w v l → Calls Try.prog 24 #[v] w fun e w' => e = .returned (.int .i64 (agreedC l)) ∧ Below w.heap.size w w'
  with_ : ∀ {w : World} {v : Value} {l : List Int} (x : Int), NumIn w v l → I64c x → Calls Try.prog 18 #[v, .int .i64 x] w (NumPost w (withC l x))
  without : ∀ {w : World} {v : Value} {l : List Int} (x : Int), NumIn w v l → I64c x → Calls Try.prog 20 #[v, .int .i64 x] w (NumPost w (withoutC l x))
theorem with_mem {l : List Int} {x y : Int} (h : y ∈ withC l x) : y = x ∨ y ∈ l := by
  unfold withC at h
  split at h
  · exact .inr h
  · rcases List.mem_append.1 h with e | e
    · exact .inr ((List.takeWhile_sublist _).subset e)
    · rcases List.mem_cons.1 e with e | e
      · exact .inl e
      · exact .inr ((List.dropWhile_sublist _).subset e)
theorem with_len (l : List Int) (x : Int) : (withC l x).length ≤ l.length + 1 := by
  unfold withC
  split
  · omega
  · have := congrArg List.length (List.takeWhile_append_dropWhile (p := fun y => decide (y ≤ x)) (l := l))
    rw [List.length_append] at this ⊢
    rw [List.length_cons]
    omega
/-- What With and Without answer may be handed on. -/
theorem in_with {w w' : World} {v u : Value} {l : List Int} {x : Int} (h : NumIn w v l) (hx : I64c x) (hl : l.length < 1000) (hr : RAt numTy w' u (withC l x)) : NumIn w' u (withC l x) := ⟨hr, by have := with_len l x; omega, fun y hy => by
  rcases with_mem hy with e | e
  · rw [e]; exact hx
  · exact h.num y e⟩
theorem in_without {w w' : World} {v u : Value} {l : List Int} {x : Int} (h : NumIn w v l) (hr : RAt numTy w' u (withoutC l x)) : NumIn w' u (withoutC l x) := ⟨hr, by have := without_len l x; have := h.len; omega, fun y hy => h.num y (List.mem_filter.1 hy).1⟩
theorem lit1 (W : World) (cs : Array Value) (L : List Int) (n : Nat) (hc : cs.toList = numTy.flat L) (hn : n = L.length) (hl : n ≤ 1000) (hx : ∀ x ∈ L, I64c x) : NumIn (W.alloc (.cells cs 3)) (.slice (some ⟨W.heap.size, 0, none⟩) n n) L :=
  ⟨rAt_own numTy_ok (own.new W cs _) hc n hn (by unfold maxLen; omega), by omega, hx⟩
theorem below_lit (W : World) (o : Obj) : Below W.heap.size W (W.alloc o) := (Below.refl _ _).alloc (Nat.le_refl _) _
theorem lit2 (W : World) (cs : Array Value) (L : List Int) (n : Nat) (o : Obj) (hc : cs.toList = numTy.flat L) (hn : n = L.length) (hl : n ≤ 1000) (hx : ∀ x ∈ L, I64c x) : NumIn ((W.alloc (.cells cs 3)).alloc o) (.slice (some ⟨W.heap.size, 0, none⟩) n n) L := (lit1 W cs L n hc hn hl hx).below (below_lit _ _)
theorem lit3 (W : World) (o : Obj) (cs : Array Value) (L : List Int) (n : Nat) (hc : cs.toList = numTy.flat L) (hn : n = L.length) (hl : n ≤ 1000) (hx : ∀ x ∈ L, I64c x) : NumIn ((W.alloc o).alloc (.cells cs 3)) (.slice (some ⟨W.heap.size + 1, 0, none⟩) n n) L := by
  have := lit1 (W.alloc o) cs L n hc hn hl hx
  rwa [show (W.alloc o).heap.size = W.heap.size + 1 by simp] at this
theorem below_lit2 (W : World) (o p : Obj) : Below W.heap.size W ((W.alloc o).alloc p) := (below_lit W o).alloc (by simp) _
def ShownPost9 (w : World) (e : Ending) (w' : World) : Prop := BoolPost9 w true e w'
set_option maxHeartbeats 8000000 in
theorem shown_any9 (HP : CfProg) (w : World) : Calls Try.prog 10 #[] w (ShownPost9 w) := by
  have R1 : Hid (∀ W, Calls Try.prog 11 #[.slice (some ⟨W.heap.size, 0, none⟩) 3 3] (W.alloc (.cells #[.int .i64 1, .int .i64 2, .int .i64 3] 3)) (BoolPost9 W true)) := hid (fun W => (HP.right (lit1 W #[.int .i64 1, .int .i64 2, .int .i64 3] [1, 2, 3] 3 rfl rfl (by decide) (by decide))).mono fun e w' ⟨he, h⟩ => ⟨he, (below_lit W _).trans (h.mono (below_lit W _).size)⟩)
  have R2 : Hid (∀ W, Calls Try.prog 11 #[.slice (some ⟨W.heap.size, 0, none⟩) 2 2] (W.alloc (.cells #[.int .i64 1, .int .i64 2] 3)) (BoolPost9 W false)) := hid (fun W => (HP.right (lit1 W #[.int .i64 1, .int .i64 2] [1, 2] 2 rfl rfl (by decide) (by decide))).mono fun e w' ⟨he, h⟩ => ⟨he, (below_lit W _).trans (h.mono (below_lit W _).size)⟩)
  have R3 : Hid (∀ W, Calls Try.prog 11 #[.slice (some ⟨W.heap.size, 0, none⟩) 3 3] (W.alloc (.cells #[.int .i64 2, .int .i64 1, .int .i64 3] 3)) (BoolPost9 W false)) := hid (fun W => (HP.right (lit1 W #[.int .i64 2, .int .i64 1, .int .i64 3] [2, 1, 3] 3 rfl rfl (by decide) (by decide))).mono fun e w' ⟨he, h⟩ => ⟨he, (below_lit W _).trans (h.mono (below_lit W _).size)⟩)
  have N1 : Hid (∀ W, Calls Try.prog 13 #[.slice (some ⟨W.heap.size, 0, none⟩) 3 3, .slice (some ⟨W.heap.size + 1, 0, none⟩) 4 4] ((W.alloc (.cells #[.int .i64 1, .int .i64 2, .int .i64 3] 3)).alloc (.cells #[.int .i64 1, .int .i64 2, .int .i64 3, .int .i64 4] 3)) (BoolPost9 W true)) := hid (fun W => (HP.next (lit2 W #[.int .i64 1, .int .i64 2, .int .i64 3] [1, 2, 3] 3 _ rfl rfl (by decide) (by decide)) (lit3 W _ #[.int .i64 1, .int .i64 2, .int .i64 3, .int .i64 4] [1, 2, 3, 4] 4 rfl rfl (by decide) (by decide))).mono fun e w' ⟨he, h⟩ => ⟨he, (below_lit2 W _ _).trans (h.mono (below_lit2 W _ _).size)⟩)
  have N2 : Hid (∀ W, Calls Try.prog 13 #[.slice (some ⟨W.heap.size, 0, none⟩) 3 3, .slice (some ⟨W.heap.size + 1, 0, none⟩) 3 3] ((W.alloc (.cells #[.int .i64 1, .int .i64 2, .int .i64 3] 3)).alloc (.cells #[.int .i64 1, .int .i64 2, .int .i64 4] 3)) (BoolPost9 W false)) := hid (fun W => (HP.next (lit2 W #[.int .i64 1, .int .i64 2, .int .i64 3] [1, 2, 3] 3 _ rfl rfl (by decide) (by decide)) (lit3 W _ #[.int .i64 1, .int .i64 2, .int .i64 4] [1, 2, 4] 3 rfl rfl (by decide) (by decide))).mono fun e w' ⟨he, h⟩ => ⟨he, (below_lit2 W _ _).trans (h.mono (below_lit2 W _ _).size)⟩)
  have M1 : Hid (∀ W, Calls Try.prog 22 #[.slice (some ⟨W.heap.size, 0, none⟩) 3 3, .slice (some ⟨W.heap.size + 1, 0, none⟩) 2 2] ((W.alloc (.cells #[.int .i64 1, .int .i64 2, .int .i64 3] 3)).alloc (.cells #[.int .i64 1, .int .i64 3] 3)) (BoolPost9 W true)) := hid (fun W => (HP.most (lit2 W #[.int .i64 1, .int .i64 2, .int .i64 3] [1, 2, 3] 3 _ rfl rfl (by decide) (by decide)) (lit3 W _ #[.int .i64 1, .int .i64 3] [1, 3] 2 rfl rfl (by decide) (by decide))).mono fun e w' ⟨he, h⟩ => ⟨he, (below_lit2 W _ _).trans (h.mono (below_lit2 W _ _).size)⟩)
  have M2 : Hid (∀ W, Calls Try.prog 22 #[.slice (some ⟨W.heap.size, 0, none⟩) 4 4, .slice (some ⟨W.heap.size + 1, 0, none⟩) 2 2] ((W.alloc (.cells #[.int .i64 1, .int .i64 2, .int .i64 3, .int .i64 4] 3)).alloc (.cells #[.int .i64 1, .int .i64 2] 3)) (BoolPost9 W false)) := hid (fun W => (HP.most (lit2 W #[.int .i64 1, .int .i64 2, .int .i64 3, .int .i64 4] [1, 2, 3, 4] 4 _ rfl rfl (by decide) (by decide)) (lit3 W _ #[.int .i64 1, .int .i64 2] [1, 2] 2 rfl rfl (by decide) (by decide))).mono fun e w' ⟨he, h⟩ => ⟨he, (below_lit2 W _ _).trans (h.mono (below_lit2 W _ _).size)⟩)
  have A1 : Hid (∀ W, Calls Try.prog 24 #[.slice (some ⟨W.heap.size, 0, none⟩) 4 4] (W.alloc (.cells #[.int .i64 5, .int .i64 7, .int .i64 2, .int .i64 9] 3)) fun e w' => e = .returned (.int .i64 5) ∧ Below W.heap.size W w') := hid (fun W => (HP.agreed (lit1 W #[.int .i64 5, .int .i64 7, .int .i64 2, .int .i64 9] [5, 7, 2, 9] 4 rfl rfl (by decide) (by decide))).mono fun e w' ⟨he, h⟩ => ⟨he, (below_lit W _).trans (h.mono (below_lit W _).size)⟩)
  have hb : Below w.heap.size w w := Below.refl _ _
  clear HP
  go_enter Try.func10, Try.ntmps10
  go_wp2_with (first
    | (go_at_call 11; (with_reducible refine (R1.out _).mono ?_); rintro e w1 ⟨rfl, h⟩; have hb := hb.trans (h.mono hb.size); clear h)
    | (go_at_call 11; (with_reducible refine (R2.out _).mono ?_); rintro e w1 ⟨rfl, h⟩; have hb := hb.trans (h.mono hb.size); clear h)
    | (go_at_call 11; (with_reducible refine (R3.out _).mono ?_); rintro e w1 ⟨rfl, h⟩; have hb := hb.trans (h.mono hb.size); clear h)
    | (go_at_call 13; (with_reducible refine (N1.out _).mono ?_); rintro e w1 ⟨rfl, h⟩; have hb := hb.trans (h.mono hb.size); clear h)
    | (go_at_call 13; (with_reducible refine (N2.out _).mono ?_); rintro e w1 ⟨rfl, h⟩; have hb := hb.trans (h.mono hb.size); clear h)
    | (go_at_call 22; (with_reducible refine (M1.out _).mono ?_); rintro e w1 ⟨rfl, h⟩; have hb := hb.trans (h.mono hb.size); clear h)
    | (go_at_call 22; (with_reducible refine (M2.out _).mono ?_); rintro e w1 ⟨rfl, h⟩; have hb := hb.trans (h.mono hb.size); clear h)
    | (go_at_call 24; (with_reducible refine (A1.out _).mono ?_); rintro e w1 ⟨rfl, h⟩; have hb := hb.trans (h.mono hb.size); clear h))
  go_ret
  exact ⟨rfl, hb⟩
end Go.Proofs.Ytcjhiegiccekpaa
