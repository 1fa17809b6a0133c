import Derived.Test.YtbccikefccdekaaGreatDoorSnFiJ
import Derived.Test.YtbccikefccdekaaGreatDoorSnPkJ
/-
  LAYER 4 (snap), THE PROGRAM: a disk beside replace's boxes.
-/
namespace Go.Proofs.YtbccikefccdekaaGreatDoor
open Go.RowKit Go.Shelf
attribute [local go_sem] Oper.semAt_some
set_option linter.unusedVariables false
set_option maxRecDepth 100000

/-- The disk a in the blocks T, made of those of S; the boxes q2 (the disk), q3 (the base), q4 (the answer). -/
structure Rp (w : World) (S : Nat → Prop) (a q2 q3 q4 : Nat) (b : Bs) (vv : Value) (T : Nat → Prop) (s : Dk) (W : World) : Prop where
  disk : DiskIs W T a s
  sub : ∀ x, T x → S x ∨ w.heap.size ≤ x
  n2 : ¬ T q2
  n3 : ¬ T q3
  n4 : ¬ T q4
  o2 : own W q2 #[.pointer (some ⟨a, 0, none⟩)] 37
  o3 : own W q3 (bcells b vv) 24
  o4 : ∃ e, own W q4 #[.int .i64 e] 27
  chg : Chg S w W
section
variable {w : World} {S : Nat → Prop} {a q2 q3 q4 : Nat} {b : Bs} {vv : Value} {T : Nat → Prop} {s : Dk} {W W' : World}
theorem Rp.lt (h : Rp w S a q2 q3 q4 b vv T s W) : ∀ x, T x → x < W.heap.size := diskIs_ltS h.disk
theorem Rp.abide (h : Rp w S a q2 q3 q4 b vv T s W) {B : Nat} (hw : w.heap.size ≤ B) (h2 : q2 < B) (h3 : q3 < B) (h4 : q4 < B) (hc : Chg (fun x => B ≤ x ∧ ¬ T x) W W') : Rp w S a q2 q3 q4 b vv T s W' :=
  ⟨diskIs_chg h.disk hc (fun x e k => k.2 e), h.sub, h.n2, h.n3, h.n4, h.o2.chg hc (fun e => by omega), h.o3.chg hc (fun e => by omega), by obtain ⟨e, ho⟩ := h.o4; exact ⟨e, ho.chg hc (fun e => by omega)⟩, h.chg.trans hc (fun x e => .inr (by omega))⟩
theorem Rp.below (h : Rp w S a q2 q3 q4 b vv T s W) (hb : Below W.heap.size W W') : Rp w S a q2 q3 q4 b vv T s W' :=
  ⟨diskIs_below h.disk hb, h.sub, h.n2, h.n3, h.n4, h.o2.same (hb.block _ h.o2.lt), h.o3.same (hb.block _ h.o3.lt), by obtain ⟨e, ho⟩ := h.o4; exact ⟨e, ho.same (hb.block _ ho.lt)⟩, h.chg.trans (Chg.of_below (S := S) hb) (fun x e => .inl e)⟩
theorem Rp.op {s2 : Dk} {k : Int} {e : Ending} (h : Rp w S a q2 q3 q4 b vv T s W) (ho : OpPost W T a (s2, k) e W') : Rp w S a q2 q3 q4 b vv (grow T W W') s2 W' := by
  obtain ⟨-, hd, hc⟩ := ho
  have hz := h.chg.size
  refine ⟨hd, fun x e => ?_, fun e => ?_, fun e => ?_, fun e => ?_, h.o2.chg hc h.n2, h.o3.chg hc h.n3, ?_, h.chg.trans hc (fun x e => h.sub x e)⟩
  · rcases e with e | e
    · exact h.sub x e
    · exact .inr (by omega)
  · rcases e with e | e
    · exact h.n2 e
    · have := h.o2.lt; omega
  · rcases e with e | e
    · exact h.n3 e
    · have := h.o3.lt; omega
  · obtain ⟨e4, o4⟩ := h.o4
    rcases e with e | e
    · exact h.n4 e
    · have := o4.lt; omega
  · obtain ⟨e4, o4⟩ := h.o4
    exact ⟨e4, o4.chg hc h.n4⟩
/-- The answer stored: what replace has made. -/
theorem Rp.fin (h : Rp w S a q2 q3 q4 b vv T s W) (hS : ∀ x, S x → x < w.heap.size) (h4 : w.heap.size ≤ q4) (k : Int) :
    (∃ e, W.cell? ⟨q4, 0, none⟩ = some (.int .i64 e)) ∧ W.frozen? ⟨q4, 0, none⟩ = false ∧ (W.setCell ⟨q4, 0, none⟩ (.int .i64 k)).cell? ⟨q4, 0, none⟩ = some (.int .i64 k) ∧ Hid (OpPost w S a (s, k) (.returned (.int .i64 k)) (W.setCell ⟨q4, 0, none⟩ (.int .i64 k))) := by
  obtain ⟨e4, o4⟩ := h.o4
  have o5 : own (W.setCell ⟨q4, 0, none⟩ (.int .i64 k)) q4 #[.int .i64 k] 27 := o4.set 0 _
  have hc := Chg.setCell W ⟨q4, 0, none⟩ (.int .i64 k)
  have hd := diskIs_chg h.disk hc (fun x e k => h.n4 (by rw [← show x = q4 from k]; exact e))
  have hz := h.chg.size
  refine ⟨⟨e4, (o4.cell 0).trans rfl⟩, o4.frozen 0, (o5.cell 0).trans rfl, ⟨rfl, diskIs_widen hd (fun x e => ?_) (fun x e => ?_), h.chg.trans hc (fun x e => .inr (by rw [show x = q4 from e]; exact h4))⟩⟩
  · rcases h.sub x e with k | k
    · exact .inl k
    · exact .inr ⟨k, diskIs_ltS hd x e⟩
  · rcases e with e | e
    · have := hS x e; rw [setCell_size]; omega
    · exact e.2
theorem Rp.ans (h : Rp w S a q2 q3 q4 b vv T s W) (h4 : w.heap.size ≤ q4) (n24 : q2 ≠ q4) (n34 : q3 ≠ q4) (k : Int) : Rp w S a q2 q3 q4 b vv T s (W.setCell ⟨q4, 0, none⟩ (.int .i64 k)) ∧ own (W.setCell ⟨q4, 0, none⟩ (.int .i64 k)) q4 #[.int .i64 k] 27 := by
  obtain ⟨e4, o4⟩ := h.o4
  have o5 : own (W.setCell ⟨q4, 0, none⟩ (.int .i64 k)) q4 #[.int .i64 k] 27 := o4.set 0 _
  have hc := Chg.setCell W ⟨q4, 0, none⟩ (.int .i64 k)
  exact ⟨⟨diskIs_chg h.disk hc (fun x e k => h.n4 (by rw [← show x = q4 from k]; exact e)), h.sub, h.n2, h.n3, h.n4, h.o2.other (p := ⟨q4, 0, none⟩) n24 _, h.o3.other (p := ⟨q4, 0, none⟩) n34 _, ⟨_, o5⟩, h.chg.trans hc (fun x e => .inr (by rw [show x = q4 from e]; exact h4))⟩, o5⟩
/-- .. with the block of the loop's deferred calls beside it. -/
structure RpK (w : World) (S : Nat → Prop) (a q2 q3 q4 : Nat) (b : Bs) (vv : Value) (K : Nat) (T : Nat → Prop) (s : Dk) (W : World) : Prop where
  rp : Rp w S a q2 q3 q4 b vv T s W
  k : W.heap[K]? = some (.deferred (some []))
  nk : ¬ T K
variable {K : Nat}
theorem RpK.klt (h : RpK w S a q2 q3 q4 b vv K T s W) : K < W.heap.size := (Array.getElem?_eq_some_iff.1 h.k).1
theorem RpK.below (h : RpK w S a q2 q3 q4 b vv K T s W) (hb : Below W.heap.size W W') : RpK w S a q2 q3 q4 b vv K T s W' := ⟨h.rp.below hb, (hb.block _ h.klt).trans h.k, h.nk⟩
theorem RpK.op {s2 : Dk} {k : Int} {e : Ending} (h : RpK w S a q2 q3 q4 b vv K T s W) (ho : OpPost W T a (s2, k) e W') : RpK w S a q2 q3 q4 b vv K (grow T W W') s2 W' :=
  ⟨h.rp.op ho, (ho.2.2.block _ h.klt h.nk).trans h.k, fun e => by
    rcases e with e | e
    · exact h.nk e
    · have := h.klt; omega⟩
/-- What stands at a return behind the loop. -/
structure RpE (w : World) (S : Nat → Prop) (a q4 : Nat) (K : Nat) (r : Dk × Int) (W : World) : Prop where
  c4 : ∃ e, W.cell? ⟨q4, 0, none⟩ = some (.int .i64 e)
  f4 : W.frozen? ⟨q4, 0, none⟩ = false
  k : (W.setCell ⟨q4, 0, none⟩ (.int .i64 r.2)).heap[K]? = some (.deferred (some []))
  c5 : ((W.setCell ⟨q4, 0, none⟩ (.int .i64 r.2)).putObj K (.deferred none)).cell? ⟨q4, 0, none⟩ = some (.int .i64 r.2)
  post : Hid (OpPost w S a r (.returned (.int .i64 r.2)) ((W.setCell ⟨q4, 0, none⟩ (.int .i64 r.2)).putObj K (.deferred none)))
theorem opPost_put {r : Dk × Int} {e : Ending} (h : OpPost w S a r e W) (hK : w.heap.size ≤ K) (hd : ∃ U, DiskIs W U a r.1 ∧ (∀ x, U x → grow S w W x) ∧ ¬ U K) : OpPost w S a r e (W.putObj K (.deferred none)) := by
  obtain ⟨he, hd0, hc⟩ := h
  obtain ⟨U, h1, h2, h3⟩ := hd
  have hp := chg_putObj W K (.deferred none)
  refine ⟨he, diskIs_widen (diskIs_chg h1 hp (fun x e k => h3 (by rw [← k]; exact e))) (fun x e => ?_) (fun x e => ?_), hc.trans hp (fun x e => .inr (by rw [e]; exact hK))⟩
  · rcases h2 x e with k | k
    · exact .inl k
    · exact .inr ⟨k.1, by rw [putObj_size]; exact k.2⟩
  · rw [putObj_size]
    rcases e with e | e
    · exact diskIs_ltS hd0 x (.inl e)
    · exact (by have := e.2; rw [putObj_size] at this; exact this)
theorem RpK.fin (h : RpK w S a q2 q3 q4 b vv K T s W) (hS : ∀ x, S x → x < w.heap.size) (h4 : w.heap.size ≤ q4) (hK : w.heap.size ≤ K) (n24 : q2 ≠ q4) (n34 : q3 ≠ q4) (hk4 : K ≠ q4) (k : Int) : RpE w S a q4 K (s, k) W := by
  obtain ⟨c4, f4, _, hp⟩ := h.rp.fin hS h4 k
  obtain ⟨hr, o5⟩ := h.rp.ans h4 n24 n34 k
  have hk : (W.setCell ⟨q4, 0, none⟩ (.int .i64 k)).heap[K]? = some (.deferred (some [])) := (Below.heap_setCell _ _ _ _ hk4).trans h.k
  have o6 : own ((W.setCell ⟨q4, 0, none⟩ (.int .i64 k)).putObj K (.deferred none)) q4 #[.int .i64 k] 27 := o5.same (World.putObj_heap_other (fun e => hk4 e.symm))
  refine ⟨c4, f4, hk, (o6.cell 0).trans rfl, opPost_put hp.out hK ⟨T, hr.disk, fun x e => ?_, h.nk⟩⟩
  rcases h.rp.sub x e with q | q
  · exact .inl q
  · exact .inr ⟨q, diskIs_ltS hr.disk x e⟩
end
theorem appsS_cons (s : Dk) (f : List UInt8) (r : List (List UInt8)) : appsS s (f :: r) = if (app s draftN f).2 = 0 then appsS (app s draftN f).1 r else app s draftN f := rfl
theorem appsS_append : ∀ (l m : List (List UInt8)) (s : Dk), appsS s (l ++ m) = if (appsS s l).2 = 0 then appsS (appsS s l).1 m else appsS s l
  | [], m, s => by simp [appsS]
  | f :: r, m, s => by
    rw [List.cons_append, appsS_cons, appsS_cons]
    by_cases h : (app s draftN f).2 = 0
    · rw [if_pos h, if_pos h]; exact appsS_append r m _
    · rw [if_neg h, if_neg h, if_neg h]
def rawB (l : List ByteArray) : List (List UInt8) := l.map (·.data.toList)
theorem rawB_frames (b : Bs) : rawB (framesB b) = framesS b := by
  rw [framesB_is]
  unfold rawB
  rw [List.map_map]
  conv => rhs; rw [← List.map_id (framesS b)]
  apply List.map_congr_left
  intro x _
  rfl
theorem rawB_snoc (l : List ByteArray) (x : ByteArray) : rawB (l ++ [x]) = rawB l ++ [x.data.toList] := by unfold rawB; simp
theorem apps_stop {s : Dk} {l m : List ByteArray} (h : l <+: m) (he : (appsS s (rawB l)).2 ≠ 0) : appsS s (rawB m) = appsS s (rawB l) := by
  obtain ⟨q, rfl⟩ := h
  unfold rawB at *
  rw [List.map_append, appsS_append, if_neg he]
/-- Between two frames. -/
def RpI (w : World) (S : Nat → Prop) (a q2 q3 q4 : Nat) (b : Bs) (vv : Value) (s0 : Dk) (F : Nat → Prop) (pre : List ByteArray) (W : World) : Prop := ∃ T s', F = (fun x => T x ∨ x = q4) ∧ Rp w S a q2 q3 q4 b vv T s' W ∧ appsS s0 (rawB pre) = (s', 0)
/-- Behind a frame that was refused: the answer stands in its box. -/
def RpX (w : World) (S : Nat → Prop) (a q2 q3 q4 : Nat) (b : Bs) (vv : Value) (s0 : Dk) (F : Nat → Prop) (pre : List ByteArray) (W : World) : Prop := ∃ T s' k, F = (fun x => T x ∨ x = q4) ∧ Rp w S a q2 q3 q4 b vv T s' W ∧ appsS s0 (rawB pre) = (s', k) ∧ k ≠ 0 ∧ own W q4 #[.int .i64 k] 27
theorem rpI_lt {w : World} {S : Nat → Prop} {a q2 q3 q4 : Nat} {b : Bs} {vv : Value} {s0 : Dk} {F : Nat → Prop} {pre : List ByteArray} {W : World} (h : RpI w S a q2 q3 q4 b vv s0 F pre W) : ∀ x, F x → x < W.heap.size := by
  obtain ⟨T, s', rfl, hr, _⟩ := h
  rintro x (e | e)
  · exact hr.lt x e
  · obtain ⟨_, o4⟩ := hr.o4; rw [e]; exact o4.lt
theorem rpX_lt {w : World} {S : Nat → Prop} {a q2 q3 q4 : Nat} {b : Bs} {vv : Value} {s0 : Dk} {F : Nat → Prop} {pre : List ByteArray} {W : World} (h : RpX w S a q2 q3 q4 b vv s0 F pre W) : ∀ x, F x → x < W.heap.size := by
  obtain ⟨T, s', k, rfl, hr, _, _, _⟩ := h
  rintro x (e | e)
  · exact hr.lt x e
  · obtain ⟨_, o4⟩ := hr.o4; rw [e]; exact o4.lt
theorem rpI_abide (w : World) (S : Nat → Prop) (a q2 q3 q4 : Nat) (b : Bs) (vv : Value) (s0 : Dk) (B : Nat) (hw : w.heap.size ≤ B) (h2 : q2 < B) (h3 : q3 < B) (h4 : q4 < B) : Abide B (RpI w S a q2 q3 q4 b vv s0) := by
  rintro F pre A C ⟨T, s', rfl, hr, he⟩ hc
  exact ⟨T, s', rfl, hr.abide hw h2 h3 h4 (hc.mono (fun x e => ⟨e.1, fun k => e.2 (.inl k)⟩)), he⟩
theorem rpX_abide (w : World) (S : Nat → Prop) (a q2 q3 q4 : Nat) (b : Bs) (vv : Value) (s0 : Dk) (B : Nat) (hw : w.heap.size ≤ B) (h2 : q2 < B) (h3 : q3 < B) (h4 : q4 < B) : Abide B (RpX w S a q2 q3 q4 b vv s0) := by
  rintro F pre A C ⟨T, s', k, rfl, hr, he, hk, o4⟩ hc
  exact ⟨T, s', k, rfl, hr.abide hw h2 h3 h4 (hc.mono (fun x e => ⟨e.1, fun k => e.2 (.inl k)⟩)), he, hk, o4.chg hc (fun e => by omega)⟩
end Go.Proofs.YtbccikefccdekaaGreatDoor

