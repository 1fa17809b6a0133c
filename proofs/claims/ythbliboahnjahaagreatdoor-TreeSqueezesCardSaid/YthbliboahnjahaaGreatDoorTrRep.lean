/-
  LAYER 12 (tree): trees as they lie in memory; what the builder holds, each block with the part that it plays.
-/
import Derived.Test.YthbliboahnjahaaGreatDoorXmTok
import Derived.Test.YthbliboahnjahaaGreatDoorGStrs
import Derived.Test.YthbliboahnjahaaGreatDoorTrMath
namespace Go.Proofs.YthbliboahnjahaaGreatDoor
open Go.RowKit
set_option linter.unusedVariables false
set_option maxRecDepth 100000

/-- An element's four cells. -/
structure NdV where
  n : List UInt8
  a : Option Addr
  am : Nat
  ac : Nat
  t : List UInt8
  k : Option Addr
  km : Nat
  kc : Nat
def ndCs (x : NdV) : List Value := [.string (mk x.n), .slice x.a x.am x.ac, .string (mk x.t), .slice x.k x.km x.kc]
def ndV (x : NdV) : Value := .agg #[.string (mk x.n), .slice x.a x.am x.ac, .string (mk x.t), .slice x.k x.km x.kc]
def ndZ : Value := .agg #[.string ⟨#[]⟩, .slice none 0 0, .string ⟨#[]⟩, .slice none 0 0]
def ndTy : RowTy NdV := ⟨28, 30, 4, 80, ndCs, ndZ⟩
theorem ndTy_ok : ndTy.Ok := ⟨fun _ => rfl, fun x u hu => by simp [ndTy, ndCs] at hu; rcases hu with rfl | rfl | rfl | rfl <;> rfl, by decide, Tryz.underlying28, by kernel_rfl, by kernel_rfl, rfl, by decide⟩
/-- An open element's five cells. -/
structure ElV where
  x : NdV
  w : Option Addr
  wm : Nat
  wc : Nat
def elCs (y : ElV) : List Value := [.string (mk y.x.n), .slice y.x.a y.x.am y.x.ac, .string (mk y.x.t), .slice y.x.k y.x.km y.x.kc, .slice y.w y.wm y.wc]
def elTy : RowTy ElV := ⟨71, 119, 5, 104, elCs, .agg #[.string ⟨#[]⟩, .slice none 0 0, .string ⟨#[]⟩, .slice none 0 0, .slice none 0 0]⟩
theorem elTy_ok : elTy.Ok := ⟨fun _ => rfl, fun x u hu => by simp [elTy, elCs] at hu; rcases hu with rfl | rfl | rfl | rfl | rfl <;> rfl, by decide, Tryz.underlying71, by kernel_rfl, by kernel_rfl, rfl, by decide⟩

theorem rAt_same2 {α : Type} {R : RowTy α} {w w' : World} {v : Value} {L : List α} (h : RAt R w v L) (hs : L ≠ [] → ∀ b, v.ownBlock = some b → b < w.heap.size → w'.heap[b]? = w.heap[b]?) (hz : w.heap.size ≤ w'.heap.size) : RAt R w' v L := by
  obtain ⟨a, cap, rfl, h1, h2, h3, h4⟩ := h
  refine ⟨a, cap, rfl, h1, h2, h3, fun hne => ?_⟩
  obtain ⟨sb, so, rfl, hlt, hc⟩ := h4 hne
  refine ⟨sb, so, rfl, by omega, fun j u hj => ?_⟩
  have := hc j u hj
  unfold World.cell? at *
  rw [hs hne sb rfl hlt]
  exact this
/-- A tree that lies in the blocks F: the rows of types A (attributes) and N (elements). -/
inductive NdIn (A : RowTy AtX) (N : RowTy NdV) (w : World) (F : Nat → Prop) : NdV → Tr → Prop where
  | at (x : NdV) (t : Tr) (V : List NdV) (hn : x.n = trN t) (ht : x.t = trT t) (ha : RAt A w (.slice x.a x.am x.ac) (trA t)) (hfa : trA t ≠ [] → ∀ g, (Value.slice x.a x.am x.ac).ownBlock = some g → F g)
      (hk : RAt N w (.slice x.k x.km x.kc) V) (hfk : V ≠ [] → ∀ g, (Value.slice x.k x.km x.kc).ownBlock = some g → F g) (hl : V.length = (trK t).length) (hv : ∀ (i : Nat) y u, V[i]? = some y → (trK t)[i]? = some u → NdIn A N w F y u) : NdIn A N w F x t
theorem ndIn_same {A : RowTy AtX} {N : RowTy NdV} {w w' : World} {F F' : Nat → Prop} {x : NdV} {t : Tr} (h : NdIn A N w F x t) (hs : ∀ b, F b → b < w.heap.size → w'.heap[b]? = w.heap[b]?) (hF : ∀ b, F b → F' b) (hz : w.heap.size ≤ w'.heap.size) : NdIn A N w' F' x t := by
  induction h with
  | «at» x t V hn ht ha hfa hk hfk hl hv ih =>
    exact .at x t V hn ht (rAt_same2 ha (fun hne b hb => hs b (hfa hne b hb)) hz) (fun hne g hg => hF g (hfa hne g hg)) (rAt_same2 hk (fun hne b hb => hs b (hfk hne b hb)) hz) (fun hne g hg => hF g (hfk hne g hg)) hl (fun i y u hy hu => ih i y u hy hu)
theorem ndIn_below {A : RowTy AtX} {N : RowTy NdV} {w w' : World} {F : Nat → Prop} {x : NdV} {t : Tr} (h : NdIn A N w F x t) (hb : Below w.heap.size w w') : NdIn A N w' F x t := ndIn_same h (fun b _ hl => hb.block b hl) (fun b e => e) hb.size
/-- A tree that lies anywhere. -/
abbrev NdAt (w : World) (x : NdV) (t : Tr) : Prop := NdIn atTy ndTy w (fun _ => True) x t
theorem ndIn_any {A : RowTy AtX} {N : RowTy NdV} {w : World} {F : Nat → Prop} {x : NdV} {t : Tr} (h : NdIn A N w F x t) : NdIn A N w (fun _ => True) x t := ndIn_same h (fun _ _ _ => rfl) (fun _ _ => trivial) (Nat.le_refl _)
def nd0 : NdV := ⟨[], none, 0, 0, [], none, 0, 0⟩
theorem ndIn_zero {A : RowTy AtX} {N : RowTy NdV} (w : World) (F : Nat → Prop) : NdIn A N w F nd0 tr0 := .at nd0 tr0 [] rfl rfl (rAt_nil w) (fun h => absurd rfl h) (rAt_nil w) (fun h => absurd rfl h) rfl (fun i y u h => by simp at h)

/-! ### the builder: ρ tells what part a block plays: 0 none, 1 a tree's that has ended, or no more in use, 2 the builder's own, 3 the open elements' row, 4 + 2 i the kids of the i-th of them, 5 + 2 i its words -/
structure ElIs (w : World) (ρ : Nat → Nat) (i : Nat) (y : ElV) (e : OpX) : Prop where
  hn : y.x.n = e.n
  ht : y.x.t = []
  ha : RAt atTy w (.slice y.x.a y.x.am y.x.ac) e.as
  hfa : e.as ≠ [] → ∀ g, (Value.slice y.x.a y.x.am y.x.ac).ownBlock = some g → ρ g = 1
  hk : ∃ V, ROwn ndTy w (.slice y.x.k y.x.km y.x.kc) V ∧ V.length = e.ks.length ∧ ∀ (i : Nat) z u, V[i]? = some z → e.ks[i]? = some u → NdIn atTy ndTy w (fun g => ρ g = 1) z u
  hfk : ∀ g, (Value.slice y.x.k y.x.km y.x.kc).ownBlock = some g → ρ g = 4 + 2 * i
  hw : ROwn strTy w (.slice y.w y.wm y.wc) (e.ws.map mk)
  hfw : ∀ g, (Value.slice y.w y.wm y.wc).ownBlock = some g → ρ g = 5 + 2 * i
theorem elIs_to {w w' : World} {ρ ρ' : Nat → Nat} {i : Nat} {y : ElV} {e : OpX} (h : ElIs w ρ i y e) (hs : ∀ g, ρ g = 1 ∨ ρ g = 4 + 2 * i ∨ ρ g = 5 + 2 * i → w'.heap[g]? = w.heap[g]? ∧ ρ' g = ρ g) (hz : w.heap.size ≤ w'.heap.size) : ElIs w' ρ' i y e := by
  obtain ⟨V, k1, k2, k3⟩ := h.hk
  refine ⟨h.hn, h.ht, rAt_same2 h.ha (fun hne b hb _ => (hs b (.inl (h.hfa hne b hb))).1) hz, fun hne g hg => ?_, ⟨V, k1.same (fun b hb => (hs b (.inr (.inl (h.hfk b hb)))).1), k2, fun j z u hz1 hu => ndIn_same (k3 j z u hz1 hu) (fun b hb _ => (hs b (.inl hb)).1) (fun b hb => by rw [(hs b (.inl hb)).2]; exact hb) hz⟩, fun g hg => ?_, h.hw.same (fun b hb => (hs b (.inr (.inr (h.hfw b hb)))).1), fun g hg => ?_⟩
  · have := h.hfa hne g hg
    rw [(hs g (.inl this)).2]; exact this
  · have := h.hfk g hg
    rw [(hs g (.inr (.inl this))).2]; exact this
  · have := h.hfw g hg
    rw [(hs g (.inr (.inr this))).2]; exact this
def bdCs (ao : Option Addr) (n cap : Nat) (x : NdV) (e : Bool) : Array Value := #[.slice ao n cap, .string (mk x.n), .slice x.a x.am x.ac, .string (mk x.t), .slice x.k x.km x.kc, .bool e]
structure BdAt (w0 w : World) (ρ : Nat → Nat) (b : Nat) (s : BdX) (ao : Option Addr) (cap : Nat) (V : List ElV) (rx : NdV) : Prop where
  blk : own w b (bdCs ao V.length cap rx s.root.isSome) 73
  opn : ROwn elTy w (.slice ao V.length cap) V
  len : V.length = s.op.length
  els : ∀ (i : Nat) y e, V[i]? = some y → s.op.reverse[i]? = some e → ElIs w ρ i y e
  root : ∀ t, s.root = some t → NdIn atTy ndTy w (fun g => ρ g = 1) rx t
  rb : ρ b = 2
  ro : ∀ g, (Value.slice ao V.length cap).ownBlock = some g → ρ g = 3
  new : ∀ g, ρ g ≠ 0 → w0.heap.size ≤ g ∧ g < w.heap.size
  below : Below w0.heap.size w0 w
/-- The builder at hand. -/
def BdHas (w0 w : World) (b : Nat) (s : BdX) : Prop := ∃ ρ ao cap V rx, BdAt w0 w ρ b s ao cap V rx
section
variable {w0 w w' : World} {ρ : Nat → Nat} {b : Nat} {s : BdX} {ao : Option Addr} {cap : Nat} {V : List ElV} {rx : NdV}
theorem bdAt_later (h : BdAt w0 w ρ b s ao cap V rx) (hb : Below w.heap.size w w') : BdAt w0 w' ρ b s ao cap V rx := by
  have hk : ∀ g, ρ g ≠ 0 → w'.heap[g]? = w.heap[g]? := fun g hg => hb.block g (h.new g hg).2
  have hz := hb.size
  exact ⟨h.blk.same (hk b (by rw [h.rb]; decide)), h.opn.below hb, h.len, fun i y e hy he => elIs_to (h.els i y e hy he) (fun g hg => ⟨hk g (by omega), rfl⟩) hz,
    fun t ht => ndIn_below (h.root t ht) hb, h.rb, h.ro, fun g hg => ⟨(h.new g hg).1, by have := (h.new g hg).2; omega⟩, h.below.trans (hb.mono h.below.size)⟩
theorem bdHas_later (h : BdHas w0 w b s) (hb : Below w.heap.size w w') : BdHas w0 w' b s := by
  obtain ⟨ρ, ao, cap, V, rx, h⟩ := h
  exact ⟨ρ, ao, cap, V, rx, bdAt_later h hb⟩
/-- The builder, just laid. -/
theorem bdHas_new (w : World) : BdHas w (w.alloc (.cells (bdCs none 0 0 nd0 false) 73)) w.heap.size bdX0 := by
  have hz : (w.alloc (.cells (bdCs none 0 0 nd0 false) 73)).heap.size = w.heap.size + 1 := by simp
  refine ⟨fun g => if g = w.heap.size then 2 else 0, none, 0, [], nd0, own.new w _ _, rOwn_nil _, rfl, fun i y e hy => by simp at hy, fun t ht => (by cases ht), if_pos rfl, fun g hg => by simp [Value.ownBlock] at hg, fun g hg => ?_, (Below.refl _ _).alloc (Nat.le_refl _) _⟩
  by_cases e : g = w.heap.size
  · omega
  · exact absurd (if_neg e) hg
/-- An element is opened: its box has been laid, its attributes are a row of their own. -/
theorem bd_push (h : BdAt w0 w ρ b s ao cap V rx) (t : TkX) (cl : Option Addr) (cn cc : Nat) (hcl : RAt atTy w (.slice cl cn cc) t.as) (hcn : ∀ g, (Value.slice cl cn cc).ownBlock = some g → ρ g = 0 ∧ w0.heap.size ≤ g) {gb : Nat} {cs : Array Value} {T : TypeId}
    (hob : own w gb cs T) (hc : cs.toList = elTy.cs ⟨⟨t.n, cl, cn, cc, [], none, 0, 0⟩, none, 0, 0⟩) (hl : V.length ≤ 100) :
    ∃ a c' w5, (Builtin.append_ #[71, 71] 71 #[.slice ao V.length cap, .slice (some ⟨gb, 0, none⟩) 1 1]).run Tryz.prog w = .ok (.slice a (V.length + 1) c') w5 ∧ w5.cell? ⟨b, 0, none⟩ = some (.slice ao V.length cap) ∧ w5.frozen? ⟨b, 0, none⟩ = false ∧
      BdHas w0 (w5.setCell ⟨b, 0, none⟩ (.slice a (V.length + 1) c')) b ⟨⟨t.n, t.as, [], []⟩ :: s.op, s.root⟩ := by
  obtain ⟨a, c', w5, e, hro, hg, hat⟩ := run_app elTy_ok w 71 _ _ V [⟨⟨t.n, cl, cn, cc, [], none, 0, 0⟩, none, 0, 0⟩] h.opn (rAt_box elTy_ok hob hc) (by simp; omega)
  simp only [List.length_singleton] at e hro hat
  have hcg := Chg.of_grown hg
  have hz := hcg.size
  have hk : ∀ g, ρ g ≠ 0 → ρ g ≠ 3 → w5.heap[g]? = w.heap[g]? := fun g h0 h3 => hcg.block g (h.new g h0).2 (fun q => h3 (h.ro g q))
  have ho5 : own w5 b (bdCs ao V.length cap rx s.root.isSome) 73 := h.blk.same (hk b (by rw [h.rb]; decide) (by rw [h.rb]; decide))
  have hat2 : ∀ g, (Value.slice a (V.length + 1) c').ownBlock = some g → ρ g = 3 ∨ g = w.heap.size := fun g hg2 => by
    rcases hat with q | q
    · rw [q] at hg2; exact .inl (h.ro g hg2)
    · rw [q] at hg2; cases hg2; exact .inr rfl
  have hout : ∀ g, w.heap.size ≤ g → ρ g = 0 := fun g hg2 => by
    by_cases h0 : ρ g = 0
    · exact h0
    · have := (h.new g h0).2; omega
  have hcl5 : ∀ g, (Value.slice cl cn cc).ownBlock = some g → g < w.heap.size → (w5.setCell ⟨b, 0, none⟩ (.slice a (V.length + 1) c')).heap[g]? = w.heap[g]? := fun g hg2 hl2 => by
    have h0 := (hcn g hg2).1
    rw [Below.heap_setCell _ _ _ _ (fun q => by rw [show g = b from q, h.rb] at h0; cases h0)]
    exact hcg.block g hl2 (fun q => by rw [h.ro g q] at h0; cases h0)
  let ρ' : Nat → Nat := fun g => if (t.as ≠ [] ∧ (Value.slice cl cn cc).ownBlock = some g) then 1 else if (Value.slice a (V.length + 1) c').ownBlock = some g then 3 else ρ g
  have hrs : ∀ g, ρ g ≠ 0 → ρ g ≠ 3 → ρ' g = ρ g := fun g h0 h3 => by
    show (if _ then _ else _) = _
    rw [if_neg (fun q => h0 (hcn g q.2).1), if_neg (fun q => by
      rcases hat2 g q with k | k
      · exact h3 k
      · exact h0 (hout g (by omega)))]
  have hkeep : ∀ g, ρ g ≠ 0 → ρ g ≠ 3 → ρ g ≠ 2 → (w5.setCell ⟨b, 0, none⟩ (.slice a (V.length + 1) c')).heap[g]? = w.heap[g]? := fun g h0 h3 h2 => by
    rw [Below.heap_setCell _ _ _ _ (fun q => h2 (by rw [show g = b from q]; exact h.rb))]
    exact hk g h0 h3
  have hne : (Value.slice a (V.length + 1) c').ownBlock ≠ some b := fun q => by
    rcases hat2 b q with k | k
    · rw [h.rb] at k; cases k
    · have := h.blk.lt; omega
  refine ⟨a, c', w5, e, by rw [ho5.cell]; rfl, ho5.frozen 0, ρ', a, c', V ++ [⟨⟨t.n, cl, cn, cc, [], none, 0, 0⟩, none, 0, 0⟩], rx, ?_, ?_, ?_, ?_, ?_, ?_, ?_, ?_, ?_⟩
  · rw [List.length_append, List.length_singleton]
    have := ho5.set 0 (.slice a (V.length + 1) c'); simpa [bdCs] using this
  · rw [List.length_append, List.length_singleton]
    exact hro.same (fun g hg2 => by rw [Below.heap_setCell _ _ _ _ (fun q => hne (by rw [hg2]; exact congrArg some q))])
  · simp [h.len]
  · intro i y u hy hu
    rw [List.reverse_cons] at hu
    by_cases hi : i < V.length
    · rw [List.getElem?_append_left hi] at hy
      rw [List.getElem?_append_left (by simp; rw [← h.len]; exact hi)] at hu
      exact elIs_to (h.els i y u hy hu) (fun g hg2 => ⟨hkeep g (by omega) (by omega) (by omega), hrs g (by omega) (by omega)⟩) (by rw [setCell_size]; exact hz)
    · have hi2 : i = V.length := by
        have := (List.getElem?_eq_some_iff.1 hy).1
        simp at this; omega
      subst hi2
      rw [List.getElem?_append_right (by omega)] at hy
      rw [List.getElem?_append_right (by simp [h.len])] at hu
      simp at hy
      simp [h.len] at hu
      subst hy hu
      refine ⟨rfl, rfl, hcl.same (fun g hg2 hl2 => hcl5 g hg2 hl2) (by rw [setCell_size]; exact hz), fun hne2 g hg2 => if_pos ⟨hne2, hg2⟩, ⟨[], rOwn_nil _, rfl, fun j z u hz2 => by simp at hz2⟩, fun g hg2 => by simp [Value.ownBlock] at hg2, rOwn_nil _, fun g hg2 => by simp [Value.ownBlock] at hg2⟩
  · intro u hu
    exact ndIn_same (h.root u hu) (fun g hg2 _ => hkeep g (by omega) (by omega) (by omega)) (fun g hg2 => by rw [hrs g (by omega) (by omega)]; exact hg2) (by rw [setCell_size]; exact hz)
  · rw [hrs b (by rw [h.rb]; decide) (by rw [h.rb]; decide)]; exact h.rb
  · intro g hg2
    rw [List.length_append, List.length_singleton] at hg2
    show (if _ then _ else _) = _
    rw [if_neg (fun q => by
      have h0 := (hcn g q.2).1
      rcases hat2 g hg2 with k | k
      · omega
      · have hlt : g < w.heap.size := by
          obtain ⟨_, _, e1, _, _, _, h4⟩ := hcl
          obtain ⟨sb, so, e2, hlt, _⟩ := h4 q.1
          cases e1
          rw [e2] at q
          have := q.2
          simp [Value.ownBlock] at this
          omega
        omega), if_pos hg2]
  · intro g hg2
    rw [setCell_size]
    by_cases q1 : t.as ≠ [] ∧ (Value.slice cl cn cc).ownBlock = some g
    · obtain ⟨_, _, e1, _, _, _, h4⟩ := hcl
      obtain ⟨sb, so, e2, hlt, _⟩ := h4 q1.1
      cases e1
      have := (hcn g q1.2).2
      rw [e2] at q1
      have q2 := q1.2
      simp [Value.ownBlock] at q2
      omega
    · by_cases q2 : (Value.slice a (V.length + 1) c').ownBlock = some g
      · have := hro.lt g q2
        refine ⟨?_, by omega⟩
        rcases hat2 g q2 with k | k
        · exact (h.new g (by omega)).1
        · have := h.below.size; omega
      · have e1 : ρ' g = ρ g := by
          show (if _ then _ else _) = _
          rw [if_neg q1, if_neg q2]
        rw [e1] at hg2
        have := h.new g hg2
        omega
  · exact (h.below.grown hg h.below.size (fun g q => (h.new g (by rw [h.ro g q]; decide)).1)).setCell (h.new b (by rw [h.rb]; decide)).1 _
end
end Go.Proofs.YthbliboahnjahaaGreatDoor
