/-
  LAYER 6 (net), THE PROGRAM: pull, Lose.
-/
import Derived.Test.YtclkhkoappjgdaaNpLook
import Derived.Test.YtclkhkoappjgdaaNtTake
namespace Go.Proofs.Ytclkhkoappjgdaa
open Go.RowKit Go.Maps
set_option linter.unusedVariables false
set_option maxRecDepth 100000

section
variable {w : World} {T : Nat → Prop} {r : Nat} {lv fv : Value} {s : Nt}
abbrev st3 (w : World) (b : Nat) (u0 u1 u2 : Value) : World := ((w.setCell ⟨b, 0, none⟩ u0).setCell ⟨b, 1, none⟩ u1).setCell ⟨b, 2, none⟩ u2
/-- A box of three cells that the call has laid is stored. -/
theorem PTurn.store3 {w2 : World} {lv' : Value} {s' : Nt} (h : PNet w T r lv fv s) (ht : PTurn w w2 T r lv lv' fv s') {b : Nat} (hb : w.heap.size ≤ b) (hne : lv'.ownBlock ≠ some b) (u0 u1 u2 : Value) : PTurn w (st3 w2 b u0 u1 u2) T r lv lv' fv s' := by
  have hr := h.head.lt
  have hs : ∀ q, q ≠ b → (st3 w2 b u0 u1 u2).heap[q]? = w2.heap[q]? := fun q hq => by
    unfold st3
    rw [Below.heap_setCell _ _ _ _ hq, Below.heap_setCell _ _ _ _ hq, Below.heap_setCell _ _ _ _ hq]
  have hsz : (st3 w2 b u0 u1 u2).heap.size = w2.heap.size := by unfold st3; rw [setCell_size, setCell_size, setCell_size]
  refine ⟨ht.is.same (by omega) (fun q e _ => hs q ?_), ?_, fun q e => by rw [hsz]; exact ht.new q e⟩
  · rcases e with e | e | e
    · omega
    · exact fun h' => hne (by rw [e, h'])
    · have := h.tlt q e; omega
  · exact (((ht.chg.trans (Chg.setCell w2 ⟨b, 0, none⟩ u0) (fun q e => .inr (by subst e; exact hb))).trans (Chg.setCell _ ⟨b, 1, none⟩ u1) (fun q e => .inr (by subst e; exact hb))).trans (Chg.setCell _ ⟨b, 2, none⟩ u2) (fun q e => .inr (by subst e; exact hb)))
theorem mem_outL {L : List Lt} {k : Nat} {x : Lt} (h : x ∈ outL L k) : x ∈ L := by
  unfold outL at h
  rcases List.mem_append.1 h with h | h
  · exact List.mem_of_mem_take h
  · exact List.mem_of_mem_drop h
/-- The row cut by one, the net's slice stored. -/
theorem PNet.cut (h : PNet w T r lv fv s) {g cap k : Nat} (hv : lv = .slice (some ⟨g, 0, none⟩) s.L.length cap) (hk : k < s.L.length) {w2 : World} {e : Ending} (hd : DelPost w g cap s.L k e w2) :
    PTurn w (w2.setCell ⟨r, 0, none⟩ (.slice (some ⟨g, 0, none⟩) (s.L.length - 1) cap)) T r lv (.slice (some ⟨g, 0, none⟩) (s.L.length - 1) cap) fv (s.out k) := by
  obtain ⟨_, hrow, hc⟩ := hd
  have hgr : g ≠ r := fun e => h.ap1 (by rw [hv, e]; rfl)
  have hgl : g < w.heap.size := h.row.lt g (by rw [hv]; rfl)
  have hs : ∀ b, b ≠ r → (w2.setCell ⟨r, 0, none⟩ (.slice (some ⟨g, 0, none⟩) (s.L.length - 1) cap)).heap[b]? = w2.heap[b]? := fun b hb => Below.heap_setCell _ _ _ _ hb
  have hsz : (w2.setCell ⟨r, 0, none⟩ (.slice (some ⟨g, 0, none⟩) (s.L.length - 1) cap)).heap.size = w2.heap.size := setCell_size _ _ _
  have hz := hc.size
  refine ⟨⟨(h.head.chg hc (Ne.symm hgr)).set 0 _, hrow.same (fun b e => hs b (by cases e; exact hgr)), h.grp.same (fun b hb => (hs b (fun e => h.tr (by rw [← e]; exact hb))).trans (hc.block b (h.tlt b hb) (fun e => h.tl g (by rw [hv]; rfl) (by rw [← e]; exact hb)))), fun e => hgr (by cases e; rfl), h.tr, fun b e => h.tl b (by rw [hv]; cases e; rfl), fun b hb => by rw [hsz]; have := h.tlt b hb; omega, ?_, h.lo, fun x hx => h.sane x (mem_outL hx)⟩, ?_, fun b e => .inl (by rw [hv]; cases e; rfl)⟩
  · show (outL s.L k).length ≤ 300
    rw [outL_len hk]
    have := h.ll
    omega
  · exact (hc.mono (fun b e => .inr (by rw [e, hv]; rfl))).trans (Chg.setCell w2 ⟨r, 0, none⟩ _) (fun b e => .inl (.inl e))
theorem pPull_no (h : PNet w T r lv fv s) {k : Int} (hk : k < 0 ∨ (s.L.length : Int) ≤ k) :
    Calls Try.prog 37 #[.pointer (some ⟨r, 0, none⟩), .int .i64 k] w fun e w' => e = .returned (.tuple #[.agg #[.int .i64 0, .int .i64 0, .string ⟨#[]⟩], .bool false]) ∧ Below w.heap.size w w' := by
  have hb0 : Below w.heap.size w (w.alloc pl0) := (Below.refl _ _).alloc (Nat.le_refl _) _
  have hz : (w.alloc pl0).heap.size = w.heap.size + 1 := by simp
  have HL := hid (pLook_no (h.below hb0) hk)
  have HB : Hid (∀ w1, Below (w.alloc pl0).heap.size (w.alloc pl0) w1 → ¬ w1.heap.size = w.heap.size ∧ ¬ w.heap.size = w1.heap.size ∧ w1.cell? ⟨w.heap.size, 0, none⟩ = some (.int .i64 0) ∧ w1.cell? ⟨w.heap.size, 1, none⟩ = some (.int .i64 0) ∧ w1.cell? ⟨w.heap.size, 2, none⟩ = some (.string ⟨#[]⟩) ∧ w1.frozen? ⟨w.heap.size, 0, none⟩ = false ∧ w1.frozen? ⟨w.heap.size, 1, none⟩ = false ∧ w1.frozen? ⟨w.heap.size, 2, none⟩ = false ∧
      Box3 (w1.alloc pl0) w.heap.size (.int .i64 0) (.int .i64 0) (.string ⟨#[]⟩) (.int .i64 0) (.int .i64 0) (.string ⟨#[]⟩) ∧ Hid (Below w.heap.size w (st3 (w1.alloc pl0) w.heap.size (.int .i64 0) (.int .i64 0) (.string ⟨#[]⟩)))) := hid (fun w1 hb => by
    have z := hb.size
    have o1 : own w1 w.heap.size #[.int .i64 0, .int .i64 0, .string ⟨#[]⟩] 37 := (own.new w _ _).same (hb.block _ (by omega))
    have o2 : own (w1.alloc pl0) w.heap.size #[.int .i64 0, .int .i64 0, .string ⟨#[]⟩] 37 := o1.same (Below.heap_alloc _ _ _ (by omega))
    refine ⟨by omega, by omega, (o1.cell 0).trans rfl, (o1.cell 1).trans rfl, (o1.cell 2).trans rfl, o1.frozen 0, o1.frozen 1, o1.frozen 2, box3_of o2 _ _ _, hid ?_⟩
    exact (((((hb0.trans (hb.mono (by omega))).alloc (by omega) _).setCell (Nat.le_refl _) _).setCell (Nat.le_refl _) _).setCell (Nat.le_refl _) _))
  unfold pl0 at *
  clear h hk hb0 hz
  go_enter Try.func37, Try.ntmps37
  go_wp2_with (go_at_call 36; (with_reducible refine HL.out.mono ?_); rintro e w1 ⟨rfl, hb⟩; obtain ⟨n1, n2, c0, c1, c2, f0, f1, f2, ⟨k0, k1, k2, g0, g1, g2, e0, e1, e2⟩, HT⟩ := HB.out _ hb; clear hb)
  exact bodyPost_ret (v := .tuple #[.agg #[.int .i64 0, .int .i64 0, .string ⟨#[]⟩], .bool false]) (by simp [results, Try.results37, go_sem, e0, e1, e2]) rfl ⟨rfl, HT.out⟩
def PullPost (w : World) (T : Nat → Prop) (r : Nat) (lv fv : Value) (s : Nt) (k : Nat) (x : Lt) (e : Ending) (w' : World) : Prop :=
  e = .returned (.tuple #[.agg #[.int .i64 x.fr, .int .i64 x.to_, .string x.dt], .bool true]) ∧ ∃ lv', PTurn w w' T r lv lv' fv (s.out k)
end
end Go.Proofs.Ytclkhkoappjgdaa
