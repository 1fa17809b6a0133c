/-
  LAYER 11 (xml): rows of attributes and of tokens, as they lie in memory; the reader, as a thing that lies in blocks of its own.
-/
import Derived.Test.YtaefdknaidbplaaGreatDoorXmBld
import Derived.Test.YtaefdknaidbplaaGreatDoorXmGb
import Derived.Test.YtaefdknaidbplaaGreatDoorGRep
namespace Go.Proofs.YtaefdknaidbplaaGreatDoor
open Go.RowKit
set_option linter.unusedVariables false
set_option maxRecDepth 100000

def atTy : RowTy AtX := ⟨58, 61, 2, 32, fun a => [.string (mk a.n), .string (mk a.v)], .agg #[.string ⟨#[]⟩, .string ⟨#[]⟩]⟩
theorem atTy_ok : atTy.Ok := ⟨fun _ => rfl, fun x u hu => by simp [atTy] at hu; rcases hu with rfl | rfl <;> rfl, by decide, Tryz.underlying58, by kernel_rfl, by kernel_rfl, rfl, by decide⟩
/-- A token's four cells: its attributes are a slice. -/
structure TkV where
  k : Int
  n : List UInt8
  a : Option Addr
  m : Nat
  c : Nat
  t : List UInt8
def tkTy : RowTy TkV := ⟨23, 60, 4, 64, fun x => [.int .i64 x.k, .string (mk x.n), .slice x.a x.m x.c, .string (mk x.t)], .agg #[.int .i64 0, .string ⟨#[]⟩, .slice none 0 0, .string ⟨#[]⟩]⟩
theorem tkTy_ok : tkTy.Ok := ⟨fun _ => rfl, fun x u hu => by simp [tkTy] at hu; rcases hu with rfl | rfl | rfl | rfl <;> rfl, by decide, Tryz.underlying23, by kernel_rfl, by kernel_rfl, rfl, by decide⟩
/-- The cells are those of a token. -/
structure TkIs (w : World) (x : TkV) (t : TkX) : Prop where
  hk : x.k = t.k
  hn : x.n = t.n
  ht : x.t = t.t
  ha : RAt atTy w (.slice x.a x.m x.c) t.as
theorem TkIs.same {w w' : World} {x : TkV} {t : TkX} (h : TkIs w x t) (hs : ∀ b, (Value.slice x.a x.m x.c).ownBlock = some b → b < w.heap.size → w'.heap[b]? = w.heap[b]?) (hz : w.heap.size ≤ w'.heap.size) : TkIs w' x t := ⟨h.hk, h.hn, h.ht, h.ha.same hs hz⟩
/-- A row of them. -/
def TksIs (w : World) (V : List TkV) (L : List TkX) : Prop := V.length = L.length ∧ ∀ (i : Nat) x t, V[i]? = some x → L[i]? = some t → TkIs w x t
theorem tksIs_nil (w : World) : TksIs w [] [] := ⟨rfl, fun i x t h => by simp at h⟩
theorem TksIs.push {w : World} {V : List TkV} {L : List TkX} {x : TkV} {t : TkX} (h : TksIs w V L) (hx : TkIs w x t) : TksIs w (V ++ [x]) (L ++ [t]) := by
  refine ⟨by simp [h.1], fun i y u hy hu => ?_⟩
  by_cases hi : i < V.length
  · rw [List.getElem?_append_left hi] at hy
    rw [List.getElem?_append_left (by rw [← h.1]; exact hi)] at hu
    exact h.2 i y u hy hu
  · rw [List.getElem?_append_right (by omega)] at hy
    rw [List.getElem?_append_right (by rw [← h.1]; omega)] at hu
    have hl : i - V.length < 1 := by
      rcases Nat.lt_or_ge (i - V.length) 1 with k | k
      · exact k
      · rw [List.getElem?_eq_none (by simpa using k)] at hy; cases hy
    have h0 : i - V.length = 0 := by omega
    rw [h0] at hy
    rw [← h.1, h0] at hu
    simp at hy hu
    subst hy hu
    exact hx
theorem TksIs.same {w w' : World} {V : List TkV} {L : List TkX} (h : TksIs w V L) (hs : ∀ x ∈ V, ∀ b, (Value.slice x.a x.m x.c).ownBlock = some b → b < w.heap.size → w'.heap[b]? = w.heap[b]?) (hz : w.heap.size ≤ w'.heap.size) : TksIs w' V L :=
  ⟨h.1, fun i x t hx ht => (h.2 i x t hx ht).same (hs x (List.mem_of_getElem? hx)) hz⟩
/-- Tokens that lie somewhere. -/
def TokAt (w : World) (v : Value) (L : List TkX) : Prop := ∃ V, RAt tkTy w v V ∧ TksIs w V L
theorem TokAt.below {w w' : World} {v : Value} {L : List TkX} (h : TokAt w v L) (hb : Below w.heap.size w w') : TokAt w' v L := by
  obtain ⟨V, h1, h2⟩ := h
  exact ⟨V, h1.below hb, h2.same (fun x _ b _ hl => hb.block b hl) hb.size⟩

/-- What a reader knows: the rest, the words, the tokens. -/
structure RSt where
  rest : List UInt8
  words : List UInt8
  toks : List TkX
/-- It lies in the blocks F. -/
structure RIs (w : World) (F : Nat → Prop) (b : Nat) (s : RSt) : Prop where
  is : ∃ p v tv V, RdAt w b (mk s.rest) p v tv s.words ∧ ROwn tkTy w tv V ∧ TksIs w V s.toks ∧ tv.ownBlock ≠ some b ∧ (∀ g, tv.ownBlock = some g → v.ownBlock ≠ some g) ∧
    (∀ x ∈ V, ∀ g, (Value.slice x.a x.m x.c).ownBlock = some g → F g ∧ g ≠ b ∧ v.ownBlock ≠ some g ∧ tv.ownBlock ≠ some g) ∧ F b ∧ (∀ g, v.ownBlock = some g → F g) ∧ (∀ g, tv.ownBlock = some g → F g)
  lt : ∀ x, F x → x < w.heap.size
theorem rIs_same {w w' : World} {F : Nat → Prop} {b : Nat} {s : RSt} (h : RIs w F b s) (hz : w.heap.size ≤ w'.heap.size) (hs : ∀ x, F x → w'.heap[x]? = w.heap[x]?) : RIs w' F b s := by
  obtain ⟨⟨p, v, tv, V, h1, h2, h3, h4, h5, h6, fb, fv, ft⟩, hl⟩ := h
  refine ⟨⟨p, v, tv, V, ⟨h1.blk.same (hs b fb), h1.ptr, ownsRow_same h1.row (fun g hg => hs g (fv g hg)), h1.apart⟩, ownsRow_same h2 (fun g hg => hs g (ft g hg)), h3.same (fun x hx g hg _ => hs g (h6 x hx g hg).1) hz, h4, h5, h6, fb, fv, ft⟩, fun x hx => Nat.lt_of_lt_of_le (hl x hx) hz⟩
def rdRep : Rep RSt := ⟨RIs, fun h hz hs => rIs_same h hz hs, fun h => h.lt⟩
/-- A reader at hand: made since w0. -/
abbrev RHas (w0 w : World) (F : Nat → Prop) (b : Nat) (s : RSt) : Prop := rdRep.Has w0 w F b s
/-- .. turned by a call. -/
abbrev RTo (F : Nat → Prop) (w w' : World) (b : Nat) (s : RSt) : Prop := rdRep.Turn F w w' b s
theorem rIs_rest {w : World} {F : Nat → Prop} {b : Nat} {s : RSt} (h : RIs w F b s) : w.cell? ⟨b, 0, none⟩ = some (.string (mk s.rest)) ∧ w.frozen? ⟨b, 0, none⟩ = false ∧ b < w.heap.size := by
  obtain ⟨⟨p, v, tv, V, h1, _⟩, _⟩ := h
  exact ⟨h1.cells.1, h1.cells.2.2.2.2 0, h1.lt⟩
/-- What was laid behind changes nothing; then the rest is stored. -/
theorem rIs_store {w w1 : World} {F : Nat → Prop} {b : Nat} {s : RSt} (h : RIs w F b s) (hb : Below w.heap.size w w1) (l : List UInt8) : RTo F w (w1.setCell ⟨b, 0, none⟩ (.string (mk l))) b { s with rest := l } := by
  have h' : RIs w1 F b s := rIs_same h hb.size (fun x hx => hb.block x (h.lt x hx))
  have hl := h.lt
  obtain ⟨⟨p, v, tv, V, h1, h2, h3, h4, h5, h6, fb, fv, ft⟩, hl'⟩ := h'
  have hz : (w1.setCell ⟨b, 0, none⟩ (.string (mk l))).heap.size = w1.heap.size := setCell_size _ _ _
  refine ⟨F, ⟨⟨p, v, tv, V, h1.setRest (mk l), ownsRow_same h2 (fun g hg => by rw [Below.heap_setCell _ _ _ _ (fun e => h4 (by rw [hg]; simp [e]))]), h3.same (fun x hx g hg _ => by rw [Below.heap_setCell _ _ _ _ (fun e => (h6 x hx g hg).2.1 e)]) (by rw [hz]; exact Nat.le_refl _), h4, h5, h6, fb, fv, ft⟩, fun x hx => by rw [hz]; exact hl' x hx⟩, ?_, fun x hx => .inl hx⟩
  exact (Chg.of_below (S := F) hb).trans ((Chg.setCell w1 ⟨b, 0, none⟩ _).mono (T := F) (fun x e => by cases e; exact fb)) (fun x e => .inl e)
theorem rTo_trans {F : Nat → Prop} {w w1 w2 : World} {b : Nat} {s s1 s2 : RSt} (h : RTo F w w1 b s1) (k : ∀ F1, RIs w1 F1 b s1 → RTo F1 w1 w2 b s2) : RTo F w w2 b s2 := by
  obtain ⟨F1, h1, h2, h3⟩ := h
  obtain ⟨F2, k1, k2, k3⟩ := k F1 h1
  refine ⟨F2, k1, h2.trans k2 h3, fun x hx => ?_⟩
  rcases k3 x hx with e | e
  · exact h3 x e
  · have := h2.size; right; omega
end Go.Proofs.YtaefdknaidbplaaGreatDoor
