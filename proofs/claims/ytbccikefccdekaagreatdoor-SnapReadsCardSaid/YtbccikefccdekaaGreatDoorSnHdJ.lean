import Derived.Test.YtbccikefccdekaaGreatDoorSnRtJ
import Derived.Deep.RegionHeld3
/-
  LAYER 4 (snap), THE PROGRAM: head.
-/
namespace Go.Proofs.YtbccikefccdekaaGreatDoor
open Go.RowKit
set_option linter.unusedVariables false
set_option maxRecDepth 100000

/-! ### a block through the shapes of a world (one step each, for drawn regions) -/
theorem sown_al {w : World} {b : Nat} {cs : Array Value} {T : TypeId} (o : Obj) (h : own w b cs T) : own (w.alloc o) b cs T := h.same (Below.heap_alloc _ _ _ h.lt)
theorem sown_nw {w : World} {g : Nat} {cs : Array Value} {T : TypeId} (h : w.heap.size = g) : own (w.alloc (.cells cs T)) g cs T := by subst h; exact own.new w cs T
theorem sown_dr {w : World} {b : Nat} {cs : Array Value} {T : TypeId} (h : own w b cs T) : own w.drew b cs T := h
theorem sown_be {w w' : World} {b : Nat} {cs : Array Value} {T : TypeId} (hb : Below w.heap.size w w') (h : own w b cs T) : own w' b cs T := h.same (hb.block _ h.lt)
theorem sInts_own (xs : List Int) (wy : World) (g n : Nat) (cs : Array Value) (ho : own wy g cs 3) (hc : cs.toList = xs.map (Value.int .i64)) (hn : n = xs.length) (hx : ∀ n ∈ xs, I64s n) (hl : n ≤ 1000000) : Calls Tryz.prog 75 #[.slice (some ⟨g, 0, none⟩) n n] wy fun e w' => e = .returned (.string (mk (encs xs))) ∧ Below wy.heap.size wy w' := by
  subst hn
  refine int_any _ xs wy ⟨_, _, rfl, fun _ => ⟨g, 0, rfl, ho.lt, fun j x hj => ?_⟩⟩ hx (by omega)
  rw [Nat.zero_add, ho.cell j]
  have : cs[j]? = (cs.toList)[j]? := by simp
  rw [this, hc, List.getElem?_map, hj]
  rfl
set_option maxHeartbeats 8000000 in
theorem snHead_any {w : World} {b : Bs} {vv : Value} (h : BAt w vv b) : Calls Tryz.prog 47 #[bval b vv] w fun e w' => e = .returned (.string (mk (headS b))) ∧ Below w.heap.size w w' := by
  dsimp only [bval]
  obtain ⟨va, vc, hve⟩ : ∃ va vc, vv = .slice va b.vot.length vc := by
    obtain ⟨a, c, e, _⟩ := h.vot
    exact ⟨a, c, e⟩
  subst hve
  obtain ⟨wB, hwB⟩ : ∃ wB, w.alloc (.cells #[.int .i64 b.ix, .int .i64 b.tm, .slice va b.vot.length vc, .string (mk b.data)] 24) = wB := ⟨_, rfl⟩
  have hbB : Below w.heap.size w wB := by rw [← hwB]; exact (Below.refl _ _).alloc (Nat.le_refl _) _
  have obx : own wB w.heap.size #[.int .i64 b.ix, .int .i64 b.tm, .slice va b.vot.length vc, .string (mk b.data)] 24 := by rw [← hwB]; exact own.new w _ _
  have hvl := h.vl
  have hdl := h.dl
  have hI1 : ∀ n ∈ [b.ix, b.tm, (b.vot.length : Int)], I64s n := by
    intro n hn; simp at hn
    rcases hn with rfl | rfl | rfl
    · exact h.ix
    · exact h.tm
    · unfold I64s; omega
  have hI3 : ∀ n ∈ [(b.data.length : Int)], I64s n := by intro n hn; simp at hn; subst hn; unfold I64s; omega
  have H1 : Hid (∀ wy g, own wy g #[.int .i64 b.ix, .int .i64 b.tm, .int .i64 (b.vot.length : Int)] 3 → Calls Tryz.prog 75 #[.slice (some ⟨g, 0, none⟩) 3 3] wy fun e w' => e = .returned (.string (mk (encs [b.ix, b.tm, (b.vot.length : Int)]))) ∧ Below wy.heap.size wy w') := hid (fun wy g h => sInts_own _ wy g 3 _ h rfl rfl hI1 (by omega))
  have H2 : Hid (∀ wx, Below wB.heap.size wB wx → Calls Tryz.prog 75 #[.slice va b.vot.length vc] wx fun e w' => e = .returned (.string (mk (encs b.vot))) ∧ Below wx.heap.size wx w') := hid (fun wx hx => int_any _ b.vot wx ((h.below hbB).below hx).vot h.v64 (by omega))
  have H3 : Hid (∀ wy g, own wy g #[.int .i64 (b.data.length : Int)] 3 → Calls Tryz.prog 75 #[.slice (some ⟨g, 0, none⟩) 1 1] wy fun e w' => e = .returned (.string (mk (encs [(b.data.length : Int)]))) ∧ Below wy.heap.size wy w') := hid (fun wy g h => sInts_own _ wy g 1 _ h rfl rfl hI3 (by omega))
  have z1 := encs_length _ hI1
  have z2 := encs_length _ h.v64
  have z3 := encs_length _ hI3
  rw [← mk_size] at z1 z2 z3
  have HE : Hid (mk (encs [b.ix, b.tm, (b.vot.length : Int)]) ++ mk (encs b.vot) ++ mk (encs [(b.data.length : Int)]) = mk (headS b)) := hid (by
    rw [mk_append, mk_append]
    have e : headN b = [b.ix, b.tm, (b.vot.length : Int)] ++ b.vot ++ [(b.data.length : Int)] := rfl
    unfold headS
    rw [e]
    unfold encs
    simp only [List.flatMap_append])
  simp only [List.length_cons, List.length_nil] at z1 z3
  have hsz : ((mk b.data).size : Int) = (b.data.length : Int) := by rw [mk_size]
  generalize mk (encs [b.ix, b.tm, (b.vot.length : Int)]) = s1 at *
  generalize mk (encs b.vot) = s2 at *
  generalize mk (encs [(b.data.length : Int)]) = s3 at *
  have q1 : ¬ 9223372036854775807 < s1.size + s2.size := by omega
  have q2 : ¬ 9223372036854775807 < s1.size + s2.size + s3.size := by omega
  have HCs : Hid (∀ wx, Below wB.heap.size wB wx → (wx.cell? ⟨w.heap.size, 0, none⟩ = some (.int .i64 b.ix) ∧ wx.cell? ⟨w.heap.size, 1, none⟩ = some (.int .i64 b.tm) ∧ wx.cell? ⟨w.heap.size, 2, none⟩ = some (.slice va b.vot.length vc) ∧ wx.cell? ⟨w.heap.size, 3, none⟩ = some (.string (mk b.data))) ∧ Below wB.heap.size wB wx) := hid (fun wx h => by
    have o := obx.same (h.block _ obx.lt)
    exact ⟨⟨(o.cell 0).trans rfl, (o.cell 1).trans rfl, (o.cell 2).trans rfl, (o.cell 3).trans rfl⟩, h⟩)
  have HPoss : Hid (∀ wx, Below wB.heap.size wB wx → Below w.heap.size w wx) := hid (fun wx h => hbB.trans (h.mono hbB.size))
  have HDr : Hid (∀ wx, Below wB.heap.size wB wx → Below wB.heap.size wB wx.drew) := hid (fun wx h => Below.drew h)
  have HAm : Hid (∀ wx cs T, Below wB.heap.size wB wx → Below wB.heap.size wB (wx.alloc (.cells cs T))) := hid (fun wx cs T h => (h.alloc h.size _))
  have HTr : Hid (∀ wx wy, Below wB.heap.size wB wx → Below wx.heap.size wx wy → Below wB.heap.size wB wy) := hid (fun wx wy h k => h.trans (k.mono h.size))
  have HRf := hid (Below.refl wB.heap.size wB)
  clear z1 z2 z3 h hbB obx hI1 hI3 hvl hdl
  rw [← hsz] at H3
  clear hsz
  generalize mk b.data = ds at *
  generalize b.vot.length = vl at *
  generalize mk (headS b) = hs at *
  generalize b.ix = ix at *
  generalize b.tm = tm at *
  go_enter Tryz.func47, Tryz.ntmps47
  go_wp2
  clear hwB
  go_region_held3 (fun wx => (wx.cell? ⟨w.heap.size, 0, none⟩ = some (.int .i64 ix) ∧ wx.cell? ⟨w.heap.size, 1, none⟩ = some (.int .i64 tm) ∧ wx.cell? ⟨w.heap.size, 2, none⟩ = some (.slice va vl vc) ∧ wx.cell? ⟨w.heap.size, 3, none⟩ = some (.string ds)) ∧ Below wB.heap.size wB wx)
    (first | (with_reducible exact HCs.out _ hbk) | (with_reducible (refine HCs.out _ ?_; repeat (first | exact HRf.out | exact And.right (by assumption) | refine HDr.out _ ?_ | refine HAm.out _ _ _ ?_))) | (with_reducible assumption))
    (first
      | (go_at_call 75; (with_reducible refine (H1.out _ _ (by with_reducible (repeat (first | exact own.new _ _ _ | exact sown_nw (by simp; done) | refine sown_dr ?_ | refine sown_al _ ?_ | refine sown_be hbv ?_ | refine sown_be hbi ?_ | refine sown_be hb3 ?_)))).mono ?_); rintro e w3 ⟨rfl, hbi⟩; have hbk : Below wB.heap.size wB w3 := HTr.out _ _ (And.right (by assumption)) hbi)
      | (go_at_call 75; (with_reducible refine (H2.out _ (And.right (by assumption))).mono ?_); rintro e w3 ⟨rfl, hbv⟩; have hbk : Below wB.heap.size wB w3 := HTr.out _ _ (And.right (by assumption)) hbv)
      | (go_at_call 75; (with_reducible refine (H3.out _ _ (by with_reducible (repeat (first | exact own.new _ _ _ | exact sown_nw (by simp; done) | refine sown_dr ?_ | refine sown_al _ ?_ | refine sown_be hbv ?_ | refine sown_be hbi ?_ | refine sown_be hb3 ?_)))).mono ?_); rintro e w3 ⟨rfl, hb3⟩; have hbk : Below wB.heap.size wB w3 := HTr.out _ _ (And.right (by assumption)) hb3))
  all_goals
    have HFN := hid (HPoss.out _ hbk)
    clear hbk
    go_wp2
    go_ret
    exact ⟨by rw [← HE.out]; rfl, HFN.out⟩
end Go.Proofs.YtbccikefccdekaaGreatDoor

