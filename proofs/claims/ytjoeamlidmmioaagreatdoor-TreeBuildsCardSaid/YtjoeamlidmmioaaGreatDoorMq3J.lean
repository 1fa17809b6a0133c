import Derived.Test.YtjoeamlidmmioaaGreatDoorMq2J
import Derived.Test.YtjoeamlidmmioaaGreatDoorTrMathJ
import Derived.Test.YtjoeamlidmmioaaGreatDoorMq0J
/-
  LAYER 12 (tree): trees as they lie in memory; what the builder holds, each block with the part that it plays.
-/
namespace Go.Proofs.YtjoeamlidmmioaaGreatDoor
open Go.RowKit
set_option linter.unusedVariables false
set_option maxRecDepth 100000

/-- An element's four cells. -/
structure NdV where
  n : List UInt8
  a : Option Addr
  am : Nat
  ac : Nat
  t : List UInt8
  k : Option Addr
  km : Nat
  kc : Nat
def ndCs (x : NdV) : List Value := [.string (mk x.n), .slice x.a x.am x.ac, .string (mk x.t), .slice x.k x.km x.kc]
def ndV (x : NdV) : Value := .agg #[.string (mk x.n), .slice x.a x.am x.ac, .string (mk x.t), .slice x.k x.km x.kc]
def ndZ : Value := .agg #[.string ⟨#[]⟩, .slice none 0 0, .string ⟨#[]⟩, .slice none 0 0]
def ndTy : RowTy NdV := ⟨28, 30, 4, 80, ndCs, ndZ⟩
theorem ndTy_ok : ndTy.Ok := ⟨fun _ => rfl, fun x u hu => by simp [ndTy, ndCs] at hu; rcases hu with rfl | rfl | rfl | rfl <;> rfl, by decide, Tryz.underlying28, by kernel_rfl, by kernel_rfl, rfl, by decide⟩
/-- An open element's five cells. -/
structure ElV where
  x : NdV
  w : Option Addr
  wm : Nat
  wc : Nat
def elCs (y : ElV) : List Value := [.string (mk y.x.n), .slice y.x.a y.x.am y.x.ac, .string (mk y.x.t), .slice y.x.k y.x.km y.x.kc, .slice y.w y.wm y.wc]
def elTy : RowTy ElV := ⟨52, 95, 5, 104, elCs, .agg #[.string ⟨#[]⟩, .slice none 0 0, .string ⟨#[]⟩, .slice none 0 0, .slice none 0 0]⟩
theorem elTy_ok : elTy.Ok := ⟨fun _ => rfl, fun x u hu => by simp [elTy, elCs] at hu; rcases hu with rfl | rfl | rfl | rfl | rfl <;> rfl, by decide, Tryz.underlying52, by kernel_rfl, by kernel_rfl, rfl, by decide⟩

theorem rAt_same2 {α : Type} {R : RowTy α} {w w' : World} {v : Value} {L : List α} (h : RAt R w v L) (hs : L ≠ [] → ∀ b, v.ownBlock = some b → b < w.heap.size → w'.heap[b]? = w.heap[b]?) (hz : w.heap.size ≤ w'.heap.size) : RAt R w' v L := by
  obtain ⟨a, cap, rfl, h1, h2, h3, h4⟩ := h
  refine ⟨a, cap, rfl, h1, h2, h3, fun hne => ?_⟩
  obtain ⟨sb, so, rfl, hlt, hc⟩ := h4 hne
  refine ⟨sb, so, rfl, by omega, fun j u hj => ?_⟩
  have := hc j u hj
  unfold World.cell? at *
  rw [hs hne sb rfl hlt]
  exact this
/-- A tree that lies in the blocks F: the rows of types A (attributes) and N (elements). -/
inductive NdIn (A : RowTy AtX) (N : RowTy NdV) (w : World) (F : Nat → Prop) : NdV → Tr → Prop where
  | at (x : NdV) (t : Tr) (V : List NdV) (hn : x.n = trN t) (ht : x.t = trT t) (ha : RAt A w (.slice x.a x.am x.ac) (trA t)) (hfa : trA t ≠ [] → ∀ g, (Value.slice x.a x.am x.ac).ownBlock = some g → F g)
      (hk : RAt N w (.slice x.k x.km x.kc) V) (hfk : V ≠ [] → ∀ g, (Value.slice x.k x.km x.kc).ownBlock = some g → F g) (hl : V.length = (trK t).length) (hv : ∀ (i : Nat) y u, V[i]? = some y → (trK t)[i]? = some u → NdIn A N w F y u) : NdIn A N w F x t
theorem ndIn_same {A : RowTy AtX} {N : RowTy NdV} {w w' : World} {F F' : Nat → Prop} {x : NdV} {t : Tr} (h : NdIn A N w F x t) (hs : ∀ b, F b → b < w.heap.size → w'.heap[b]? = w.heap[b]?) (hF : ∀ b, F b → F' b) (hz : w.heap.size ≤ w'.heap.size) : NdIn A N w' F' x t := by
  induction h with
  | «at» x t V hn ht ha hfa hk hfk hl hv ih =>
    exact .at x t V hn ht (rAt_same2 ha (fun hne b hb => hs b (hfa hne b hb)) hz) (fun hne g hg => hF g (hfa hne g hg)) (rAt_same2 hk (fun hne b hb => hs b (hfk hne b hb)) hz) (fun hne g hg => hF g (hfk hne g hg)) hl (fun i y u hy hu => ih i y u hy hu)
theorem ndIn_below {A : RowTy AtX} {N : RowTy NdV} {w w' : World} {F : Nat → Prop} {x : NdV} {t : Tr} (h : NdIn A N w F x t) (hb : Below w.heap.size w w') : NdIn A N w' F x t := ndIn_same h (fun b _ hl => hb.block b hl) (fun b e => e) hb.size
/-- A tree that lies anywhere. -/
abbrev NdAt (w : World) (x : NdV) (t : Tr) : Prop := NdIn atTy ndTy w (fun _ => True) x t
theorem ndIn_any {A : RowTy AtX} {N : RowTy NdV} {w : World} {F : Nat → Prop} {x : NdV} {t : Tr} (h : NdIn A N w F x t) : NdIn A N w (fun _ => True) x t := ndIn_same h (fun _ _ _ => rfl) (fun _ _ => trivial) (Nat.le_refl _)
def nd0 : NdV := ⟨[], none, 0, 0, [], none, 0, 0⟩
theorem ndIn_zero {A : RowTy AtX} {N : RowTy NdV} (w : World) (F : Nat → Prop) : NdIn A N w F nd0 tr0 := .at nd0 tr0 [] rfl rfl (rAt_nil w) (fun h => absurd rfl h) (rAt_nil w) (fun h => absurd rfl h) rfl (fun i y u h => by simp at h)

/-! ### the builder: ρ tells what part a block plays: 0 none, 1 a tree's that has ended, or no more in use, 2 the builder's own, 3 the open elements' row, 4 + 2 i the kids of the i-th of them, 5 + 2 i its words -/
structure ElIs (w : World) (ρ : Nat → Nat) (i : Nat) (y : ElV) (e : OpX) : Prop where
  hn : y.x.n = e.n
  ht : y.x.t = []
  ha : RAt atTy w (.slice y.x.a y.x.am y.x.ac) e.as
  hfa : e.as ≠ [] → ∀ g, (Value.slice y.x.a y.x.am y.x.ac).ownBlock = some g → ρ g = 1
  hk : ∃ V, ROwn ndTy w (.slice y.x.k y.x.km y.x.kc) V ∧ V.length = e.ks.length ∧ ∀ (i : Nat) z u, V[i]? = some z → e.ks[i]? = some u → NdIn atTy ndTy w (fun g => ρ g = 1) z u
  hfk : ∀ g, (Value.slice y.x.k y.x.km y.x.kc).ownBlock = some g → ρ g = 4 + 2 * i
  hw : ROwn strTy w (.slice y.w y.wm y.wc) (e.ws.map mk)
  hfw : ∀ g, (Value.slice y.w y.wm y.wc).ownBlock = some g → ρ g = 5 + 2 * i
theorem elIs_to {w w' : World} {ρ ρ' : Nat → Nat} {i : Nat} {y : ElV} {e : OpX} (h : ElIs w ρ i y e) (hs : ∀ g, ρ g = 1 ∨ ρ g = 4 + 2 * i ∨ ρ g = 5 + 2 * i → w'.heap[g]? = w.heap[g]? ∧ ρ' g = ρ g) (hz : w.heap.size ≤ w'.heap.size) : ElIs w' ρ' i y e := by
  obtain ⟨V, k1, k2, k3⟩ := h.hk
  refine ⟨h.hn, h.ht, rAt_same2 h.ha (fun hne b hb _ => (hs b (.inl (h.hfa hne b hb))).1) hz, fun hne g hg => ?_, ⟨V, k1.same (fun b hb => (hs b (.inr (.inl (h.hfk b hb)))).1), k2, fun j z u hz1 hu => ndIn_same (k3 j z u hz1 hu) (fun b hb _ => (hs b (.inl hb)).1) (fun b hb => by rw [(hs b (.inl hb)).2]; exact hb) hz⟩, fun g hg => ?_, h.hw.same (fun b hb => (hs b (.inr (.inr (h.hfw b hb)))).1), fun g hg => ?_⟩
  · have := h.hfa hne g hg
    rw [(hs g (.inl this)).2]; exact this
  · have := h.hfk g hg
    rw [(hs g (.inr (.inl this))).2]; exact this
  · have := h.hfw g hg
    rw [(hs g (.inr (.inr this))).2]; exact this
def bdCs (ao : Option Addr) (n cap : Nat) (x : NdV) (e : Bool) : Array Value := #[.slice ao n cap, .string (mk x.n), .slice x.a x.am x.ac, .string (mk x.t), .slice x.k x.km x.kc, .bool e]
structure BdAt (w0 w : World) (ρ : Nat → Nat) (b : Nat) (s : BdX) (ao : Option Addr) (cap : Nat) (V : List ElV) (rx : NdV) : Prop where
  blk : own w b (bdCs ao V.length cap rx s.root.isSome) 54
  opn : ROwn elTy w (.slice ao V.length cap) V
  len : V.length = s.op.length
  els : ∀ (i : Nat) y e, V[i]? = some y → s.op.reverse[i]? = some e → ElIs w ρ i y e
  root : ∀ t, s.root = some t → NdIn atTy ndTy w (fun g => ρ g = 1) rx t
  rb : ρ b = 2
  ro : ∀ g, (Value.slice ao V.length cap).ownBlock = some g → ρ g = 3
  new : ∀ g, ρ g ≠ 0 → w0.heap.size ≤ g ∧ g < w.heap.size
  below : Below w0.heap.size w0 w
/-- The builder at hand. -/
def BdHas (w0 w : World) (b : Nat) (s : BdX) : Prop := ∃ ρ ao cap V rx, BdAt w0 w ρ b s ao cap V rx
section
variable {w0 w w' : World} {ρ : Nat → Nat} {b : Nat} {s : BdX} {ao : Option Addr} {cap : Nat} {V : List ElV} {rx : NdV}
theorem bdAt_later (h : BdAt w0 w ρ b s ao cap V rx) (hb : Below w.heap.size w w') : BdAt w0 w' ρ b s ao cap V rx := by
  have hk : ∀ g, ρ g ≠ 0 → w'.heap[g]? = w.heap[g]? := fun g hg => hb.block g (h.new g hg).2
  have hz := hb.size
  exact ⟨h.blk.same (hk b (by rw [h.rb]; decide)), h.opn.below hb, h.len, fun i y e hy he => elIs_to (h.els i y e hy he) (fun g hg => ⟨hk g (by omega), rfl⟩) hz,
    fun t ht => ndIn_below (h.root t ht) hb, h.rb, h.ro, fun g hg => ⟨(h.new g hg).1, by have := (h.new g hg).2; omega⟩, h.below.trans (hb.mono h.below.size)⟩
theorem bdHas_later (h : BdHas w0 w b s) (hb : Below w.heap.size w w') : BdHas w0 w' b s := by
  obtain ⟨ρ, ao, cap, V, rx, h⟩ := h
  exact ⟨ρ, ao, cap, V, rx, bdAt_later h hb⟩
/-- The builder, just laid. -/
theorem bdHas_new (w : World) : BdHas w (w.alloc (.cells (bdCs none 0 0 nd0 false) 54)) w.heap.size bdX0 := by
  have hz : (w.alloc (.cells (bdCs none 0 0 nd0 false) 54)).heap.size = w.heap.size + 1 := by simp
  refine ⟨fun g => if g = w.heap.size then 2 else 0, none, 0, [], nd0, own.new w _ _, rOwn_nil _, rfl, fun i y e hy => by simp at hy, fun t ht => (by cases ht), if_pos rfl, fun g hg => by simp [Value.ownBlock] at hg, fun g hg => ?_, (Below.refl _ _).alloc (Nat.le_refl _) _⟩
  by_cases e : g = w.heap.size
  · omega
  · exact absurd (if_neg e) hg
/-- An element is opened: its box has been laid, its attributes are a row of their own. -/
theorem bd_push (h : BdAt w0 w ρ b s ao cap V rx) (t : TkX) (cl : Option Addr) (cn cc : Nat) (hcl : RAt atTy w (.slice cl cn cc) t.as) (hcn : ∀ g, (Value.slice cl cn cc).ownBlock = some g → ρ g = 0 ∧ w0.heap.size ≤ g) {gb : Nat} {cs : Array Value} {T : TypeId}
    (hob : own w gb cs T) (hc : cs.toList = elTy.cs ⟨⟨t.n, cl, cn, cc, [], none, 0, 0⟩, none, 0, 0⟩) (hl : V.length ≤ 100) :
    ∃ a c' w5, (Builtin.append_ #[52, 52] 52 #[.slice ao V.length cap, .slice (some ⟨gb, 0, none⟩) 1 1]).run Tryz.prog w = .ok (.slice a (V.length + 1) c') w5 ∧ w5.cell? ⟨b, 0, none⟩ = some (.slice ao V.length cap) ∧ w5.frozen? ⟨b, 0, none⟩ = false ∧
      BdHas w0 (w5.setCell ⟨b, 0, none⟩ (.slice a (V.length + 1) c')) b ⟨⟨t.n, t.as, [], []⟩ :: s.op, s.root⟩ := by
  obtain ⟨a, c', w5, e, hro, hg, hat⟩ := run_app elTy_ok w 52 _ _ V [⟨⟨t.n, cl, cn, cc, [], none, 0, 0⟩, none, 0, 0⟩] h.opn (rAt_box elTy_ok hob hc) (by simp; omega)
  simp only [List.length_singleton] at e hro hat
  have hcg := Chg.of_grown hg
  have hz := hcg.size
  have hk : ∀ g, ρ g ≠ 0 → ρ g ≠ 3 → w5.heap[g]? = w.heap[g]? := fun g h0 h3 => hcg.block g (h.new g h0).2 (fun q => h3 (h.ro g q))
  have ho5 : own w5 b (bdCs ao V.length cap rx s.root.isSome) 54 := h.blk.same (hk b (by rw [h.rb]; decide) (by rw [h.rb]; decide))
  have hat2 : ∀ g, (Value.slice a (V.length + 1) c').ownBlock = some g → ρ g = 3 ∨ g = w.heap.size := fun g hg2 => by
    rcases hat with q | q
    · rw [q] at hg2; exact .inl (h.ro g hg2)
    · rw [q] at hg2; cases hg2; exact .inr rfl
  have hout : ∀ g, w.heap.size ≤ g → ρ g = 0 := fun g hg2 => by
    by_cases h0 : ρ g = 0
    · exact h0
    · have := (h.new g h0).2; omega
  have hcl5 : ∀ g, (Value.slice cl cn cc).ownBlock = some g → g < w.heap.size → (w5.setCell ⟨b, 0, none⟩ (.slice a (V.length + 1) c')).heap[g]? = w.heap[g]? := fun g hg2 hl2 => by
    have h0 := (hcn g hg2).1
    rw [Below.heap_setCell _ _ _ _ (fun q => by rw [show g = b from q, h.rb] at h0; cases h0)]
    exact hcg.block g hl2 (fun q => by rw [h.ro g q] at h0; cases h0)
  let ρ' : Nat → Nat := fun g => if (t.as ≠ [] ∧ (Value.slice cl cn cc).ownBlock = some g) then 1 else if (Value.slice a (V.length + 1) c').ownBlock = some g then 3 else ρ g
  have hrs : ∀ g, ρ g ≠ 0 → ρ g ≠ 3 → ρ' g = ρ g := fun g h0 h3 => by
    show (if _ then _ else _) = _
    rw [if_neg (fun q => h0 (hcn g q.2).1), if_neg (fun q => by
      rcases hat2 g q with k | k
      · exact h3 k
      · exact h0 (hout g (by omega)))]
  have hkeep : ∀ g, ρ g ≠ 0 → ρ g ≠ 3 → ρ g ≠ 2 → (w5.setCell ⟨b, 0, none⟩ (.slice a (V.length + 1) c')).heap[g]? = w.heap[g]? := fun g h0 h3 h2 => by
    rw [Below.heap_setCell _ _ _ _ (fun q => h2 (by rw [show g = b from q]; exact h.rb))]
    exact hk g h0 h3
  have hne : (Value.slice a (V.length + 1) c').ownBlock ≠ some b := fun q => by
    rcases hat2 b q with k | k
    · rw [h.rb] at k; cases k
    · have := h.blk.lt; omega
  refine ⟨a, c', w5, e, by rw [ho5.cell]; rfl, ho5.frozen 0, ρ', a, c', V ++ [⟨⟨t.n, cl, cn, cc, [], none, 0, 0⟩, none, 0, 0⟩], rx, ?_, ?_, ?_, ?_, ?_, ?_, ?_, ?_, ?_⟩
  · rw [List.length_append, List.length_singleton]
    have := ho5.set 0 (.slice a (V.length + 1) c'); simpa [bdCs] using this
  · rw [List.length_append, List.length_singleton]
    exact hro.same (fun g hg2 => by rw [Below.heap_setCell _ _ _ _ (fun q => hne (by rw [hg2]; exact congrArg some q))])
  · simp [h.len]
  · intro i y u hy hu
    rw [List.reverse_cons] at hu
    by_cases hi : i < V.length
    · rw [List.getElem?_append_left hi] at hy
      rw [List.getElem?_append_left (by simp; rw [← h.len]; exact hi)] at hu
      exact elIs_to (h.els i y u hy hu) (fun g hg2 => ⟨hkeep g (by omega) (by omega) (by omega), hrs g (by omega) (by omega)⟩) (by rw [setCell_size]; exact hz)
    · have hi2 : i = V.length := by
        have := (List.getElem?_eq_some_iff.1 hy).1
        simp at this; omega
      subst hi2
      rw [List.getElem?_append_right (by omega)] at hy
      rw [List.getElem?_append_right (by simp [h.len])] at hu
      simp at hy
      simp [h.len] at hu
      subst hy hu
      refine ⟨rfl, rfl, hcl.same (fun g hg2 hl2 => hcl5 g hg2 hl2) (by rw [setCell_size]; exact hz), fun hne2 g hg2 => if_pos ⟨hne2, hg2⟩, ⟨[], rOwn_nil _, rfl, fun j z u hz2 => by simp at hz2⟩, fun g hg2 => by simp [Value.ownBlock] at hg2, rOwn_nil _, fun g hg2 => by simp [Value.ownBlock] at hg2⟩
  · intro u hu
    exact ndIn_same (h.root u hu) (fun g hg2 _ => hkeep g (by omega) (by omega) (by omega)) (fun g hg2 => by rw [hrs g (by omega) (by omega)]; exact hg2) (by rw [setCell_size]; exact hz)
  · rw [hrs b (by rw [h.rb]; decide) (by rw [h.rb]; decide)]; exact h.rb
  · intro g hg2
    rw [List.length_append, List.length_singleton] at hg2
    show (if _ then _ else _) = _
    rw [if_neg (fun q => by
      have h0 := (hcn g q.2).1
      rcases hat2 g hg2 with k | k
      · omega
      · have hlt : g < w.heap.size := by
          obtain ⟨_, _, e1, _, _, _, h4⟩ := hcl
          obtain ⟨sb, so, e2, hlt, _⟩ := h4 q.1
          cases e1
          rw [e2] at q
          have := q.2
          simp [Value.ownBlock] at this
          omega
        omega), if_pos hg2]
  · intro g hg2
    rw [setCell_size]
    by_cases q1 : t.as ≠ [] ∧ (Value.slice cl cn cc).ownBlock = some g
    · obtain ⟨_, _, e1, _, _, _, h4⟩ := hcl
      obtain ⟨sb, so, e2, hlt, _⟩ := h4 q1.1
      cases e1
      have := (hcn g q1.2).2
      rw [e2] at q1
      have q2 := q1.2
      simp [Value.ownBlock] at q2
      omega
    · by_cases q2 : (Value.slice a (V.length + 1) c').ownBlock = some g
      · have := hro.lt g q2
        refine ⟨?_, by omega⟩
        rcases hat2 g q2 with k | k
        · exact (h.new g (by omega)).1
        · have := h.below.size; omega
      · have e1 : ρ' g = ρ g := by
          show (if _ then _ else _) = _
          rw [if_neg q1, if_neg q2]
        rw [e1] at hg2
        have := h.new g hg2
        omega
  · exact (h.below.grown hg h.below.size (fun g q => (h.new g (by rw [h.ro g q]; decide)).1)).setCell (h.new b (by rw [h.rb]; decide)).1 _
end
end Go.Proofs.YtjoeamlidmmioaaGreatDoor

/-
  LAYER 11 (xml): the document's rows of attributes and of tokens; where a token lies.
-/
namespace Go.Proofs.YtjoeamlidmmioaaGreatDoor
open Go.RowKit
set_option linter.unusedVariables false
set_option maxRecDepth 100000

def raTy : RowTy AtX := ⟨34, 45, 2, 32, fun a => [.string (mk a.n), .string (mk a.v)], .agg #[.string ⟨#[]⟩, .string ⟨#[]⟩]⟩
theorem raTy_ok : raTy.Ok := ⟨fun _ => rfl, fun x u hu => by simp [raTy] at hu; rcases hu with rfl | rfl <;> rfl, by decide, Tryz.underlying34, by kernel_rfl, by kernel_rfl, rfl, by decide⟩
def rkTy : RowTy TkV := ⟨24, 50, 4, 64, fun x => [.int .i64 x.k, .string (mk x.n), .slice x.a x.m x.c, .string (mk x.t)], .agg #[.int .i64 0, .string ⟨#[]⟩, .slice none 0 0, .string ⟨#[]⟩]⟩
theorem rkTy_ok : rkTy.Ok := ⟨fun _ => rfl, fun x u hu => by simp [rkTy] at hu; rcases hu with rfl | rfl | rfl | rfl <;> rfl, by decide, Tryz.underlying24, by kernel_rfl, by kernel_rfl, rfl, by decide⟩
/-- The document's tokens. -/
structure RkIs (w : World) (x : TkV) (t : TkX) : Prop where
  hk : x.k = t.k
  hn : x.n = t.n
  ht : x.t = t.t
  ha : RAt raTy w (.slice x.a x.m x.c) t.as
def RksIs (w : World) (V : List TkV) (L : List TkX) : Prop := V.length = L.length ∧ ∀ (i : Nat) x t, V[i]? = some x → L[i]? = some t → RkIs w x t
def RokAt (w : World) (v : Value) (L : List TkX) : Prop := ∃ V, RAt rkTy w v V ∧ RksIs w V L
theorem RokAt.below {w w' : World} {v : Value} {L : List TkX} (h : RokAt w v L) (hb : Below w.heap.size w w') : RokAt w' v L := by
  obtain ⟨V, h1, h2, h3⟩ := h
  exact ⟨V, h1.below hb, h2, fun i x t hx ht => have k := h3 i x t hx ht; ⟨k.hk, k.hn, k.ht, k.ha.below hb⟩⟩
theorem ras_at {w : World} {v : Value} {L : List AtX} (h : RAt raTy w v L) : ∃ a cap, v = .slice a L.length cap ∧ ∀ (k : Nat) x, L[k]? = some x → ∃ sb so, a = some ⟨sb, so, none⟩ ∧ ∀ wx, Below w.heap.size w wx → wx.cell? ⟨sb, so + k * 2, none⟩ = some (.string (mk x.n)) ∧ wx.cell? ⟨sb, so + k * 2 + 1, none⟩ = some (.string (mk x.v)) := by
  obtain ⟨a, cap, rfl, _, _, hc⟩ := h.at raTy_ok
  refine ⟨a, cap, rfl, fun k x hk => ?_⟩
  obtain ⟨sb, so, e, hlt, hcs⟩ := hc k x hk
  exact ⟨sb, so, e, fun wx hb => ⟨(hb.cell (p := ⟨sb, _, none⟩) hlt).trans (hcs 0 _ rfl), (hb.cell (p := ⟨sb, _, none⟩) hlt).trans (hcs 1 _ rfl)⟩⟩
theorem tks_at {w : World} {v : Value} {L : List TkX} (h : TokAt w v L) : ∃ a cap, v = .slice a L.length cap ∧ ∀ (k : Nat) t, L[k]? = some t → ∃ sb so aa ac, a = some ⟨sb, so, none⟩ ∧ RAt atTy w (.slice aa t.as.length ac) t.as ∧ ∀ wx, Below w.heap.size w wx → wx.cell? ⟨sb, so + k * 4, none⟩ = some (.int .i64 t.k) ∧ wx.cell? ⟨sb, so + k * 4 + 1, none⟩ = some (.string (mk t.n)) ∧ wx.cell? ⟨sb, so + k * 4 + 2, none⟩ = some (.slice aa t.as.length ac) ∧ wx.cell? ⟨sb, so + k * 4 + 3, none⟩ = some (.string (mk t.t)) := by
  obtain ⟨V, h1, h2, h3⟩ := h
  obtain ⟨a, cap, rfl, _, _, hc⟩ := h1.at tkTy_ok
  refine ⟨a, cap, by rw [h2], fun k t hk => ?_⟩
  have hlt : k < V.length := by rw [h2]; exact (List.getElem?_eq_some_iff.1 hk).1
  obtain ⟨x, hx⟩ : ∃ x, V[k]? = some x := ⟨V[k], by simp [hlt]⟩
  have hi := h3 k x t hx hk
  obtain ⟨sb, so, e, hlt2, hcs⟩ := hc k x hx
  obtain ⟨aa, ac, e2, _⟩ := hi.ha.at atTy_ok
  have hl : x.m = t.as.length := by simp only [Value.slice.injEq] at e2; exact e2.2.1
  refine ⟨sb, so, x.a, x.c, e, by rw [← hl]; exact hi.ha, fun wx hb => ⟨?_, ?_, ?_, ?_⟩⟩
  · rw [← hi.hk]; exact (hb.cell (p := ⟨sb, _, none⟩) hlt2).trans (hcs 0 _ rfl)
  · rw [← hi.hn]; exact (hb.cell (p := ⟨sb, _, none⟩) hlt2).trans (hcs 1 _ rfl)
  · rw [← hl]; exact (hb.cell (p := ⟨sb, _, none⟩) hlt2).trans (hcs 2 _ rfl)
  · rw [← hi.ht]; exact (hb.cell (p := ⟨sb, _, none⟩) hlt2).trans (hcs 3 _ rfl)
theorem rks_at {w : World} {v : Value} {L : List TkX} (h : RokAt w v L) : ∃ a cap, v = .slice a L.length cap ∧ ∀ (k : Nat) t, L[k]? = some t → ∃ sb so aa ac, a = some ⟨sb, so, none⟩ ∧ RAt raTy w (.slice aa t.as.length ac) t.as ∧ ∀ wx, Below w.heap.size w wx → wx.cell? ⟨sb, so + k * 4, none⟩ = some (.int .i64 t.k) ∧ wx.cell? ⟨sb, so + k * 4 + 1, none⟩ = some (.string (mk t.n)) ∧ wx.cell? ⟨sb, so + k * 4 + 2, none⟩ = some (.slice aa t.as.length ac) ∧ wx.cell? ⟨sb, so + k * 4 + 3, none⟩ = some (.string (mk t.t)) := by
  obtain ⟨V, h1, h2, h3⟩ := h
  obtain ⟨a, cap, rfl, _, _, hc⟩ := h1.at rkTy_ok
  refine ⟨a, cap, by rw [h2], fun k t hk => ?_⟩
  have hlt : k < V.length := by rw [h2]; exact (List.getElem?_eq_some_iff.1 hk).1
  obtain ⟨x, hx⟩ : ∃ x, V[k]? = some x := ⟨V[k], by simp [hlt]⟩
  have hi := h3 k x t hx hk
  obtain ⟨sb, so, e, hlt2, hcs⟩ := hc k x hx
  obtain ⟨aa, ac, e2, _⟩ := hi.ha.at raTy_ok
  have hl : x.m = t.as.length := by simp only [Value.slice.injEq] at e2; exact e2.2.1
  refine ⟨sb, so, x.a, x.c, e, by rw [← hl]; exact hi.ha, fun wx hb => ⟨?_, ?_, ?_, ?_⟩⟩
  · rw [← hi.hk]; exact (hb.cell (p := ⟨sb, _, none⟩) hlt2).trans (hcs 0 _ rfl)
  · rw [← hi.hn]; exact (hb.cell (p := ⟨sb, _, none⟩) hlt2).trans (hcs 1 _ rfl)
  · rw [← hl]; exact (hb.cell (p := ⟨sb, _, none⟩) hlt2).trans (hcs 2 _ rfl)
  · rw [← hi.ht]; exact (hb.cell (p := ⟨sb, _, none⟩) hlt2).trans (hcs 3 _ rfl)
end Go.Proofs.YtjoeamlidmmioaaGreatDoor

/-
  LAYER 12 (tree): the document's trees in memory.
-/
namespace Go.Proofs.YtjoeamlidmmioaaGreatDoor
open Go.RowKit
set_option linter.unusedVariables false
set_option maxRecDepth 100000

def rdTy : RowTy NdV := ⟨35, 37, 4, 80, ndCs, ndZ⟩
theorem rdTy_ok : rdTy.Ok := ⟨fun _ => rfl, fun x u hu => by simp [rdTy, ndCs] at hu; rcases hu with rfl | rfl | rfl | rfl <;> rfl, by decide, Tryz.underlying35, by kernel_rfl, by kernel_rfl, rfl, by decide⟩
/-- The document's tree that lies anywhere. -/
abbrev RnAt (w : World) (x : NdV) (t : Tr) : Prop := NdIn raTy rdTy w (fun _ => True) x t
theorem nd_open {A : RowTy AtX} {N : RowTy NdV} (oA : A.Ok) (oN : N.Ok) (hn : N.n = 4) (hcs : N.cs = ndCs) {w : World} {F : Nat → Prop} {x : NdV} {n : List UInt8} {la : List AtX} {t : List UInt8} {ks : List Tr} (h : NdIn A N w F x (.nd n la t ks)) :
    ∃ a ac k kc, x = ⟨n, a, la.length, ac, t, k, ks.length, kc⟩ ∧ RAt A w (.slice a la.length ac) la ∧ (la ≠ [] → ∀ g, (Value.slice a la.length ac).ownBlock = some g → F g) ∧ (∃ V, RAt N w (.slice k ks.length kc) V ∧ V.length = ks.length ∧ (V ≠ [] → ∀ g, (Value.slice k ks.length kc).ownBlock = some g → F g) ∧ ∀ (i : Nat) y u, V[i]? = some y → ks[i]? = some u → NdIn A N w F y u) ∧
      ∀ (i : Nat) u, ks[i]? = some u → ∃ (y : NdV) (sb so : Nat), k = some ⟨sb, so, none⟩ ∧ NdIn A N w F y u ∧ ∀ wx, Below w.heap.size w wx → wx.cell? ⟨sb, so + i * 4, none⟩ = some (.string (mk y.n)) ∧ wx.cell? ⟨sb, so + i * 4 + 1, none⟩ = some (.slice y.a y.am y.ac) ∧ wx.cell? ⟨sb, so + i * 4 + 2, none⟩ = some (.string (mk y.t)) ∧ wx.cell? ⟨sb, so + i * 4 + 3, none⟩ = some (.slice y.k y.km y.kc) := by
  cases h with
  | «at» x t V h1 h2 h3 h4 h5 h6 h7 h8 =>
    obtain ⟨xn, xa, xam, xac, xt, xk, xkm, xkc⟩ := x
    simp only [trN, trA, trT, trK] at h1 h2 h3 h4 h5 h6 h7 h8
    subst h1 h2
    have hm : xam = la.length := by
      obtain ⟨_, _, e, _⟩ := h3.at oA
      simp only [Value.slice.injEq] at e
      exact e.2.1
    have hkm : xkm = ks.length := by
      obtain ⟨_, _, e, _⟩ := h5.at oN
      simp only [Value.slice.injEq] at e
      rw [e.2.1]; exact h7
    subst hm hkm
    refine ⟨xa, xac, xk, xkc, rfl, h3, h4, ⟨V, h5, h7, h6, h8⟩, fun i u hu => ?_⟩
    have hi : i < V.length := by rw [h7]; exact (List.getElem?_eq_some_iff.1 hu).1
    obtain ⟨a, cap, e, _, _, hc⟩ := h5.at oN
    simp only [Value.slice.injEq] at e
    obtain ⟨rfl, _, rfl⟩ := e
    obtain ⟨sb, so, e2, hlt, hcc⟩ := hc i V[i] (by simp [hi])
    rw [hcs, hn] at hcc
    exact ⟨V[i], sb, so, e2, h8 i _ u (by simp [hi]) hu, fun wx hb => ⟨(hb.cell (p := ⟨sb, _, none⟩) hlt).trans (hcc 0 _ rfl), (hb.cell (p := ⟨sb, _, none⟩) hlt).trans (hcc 1 _ rfl), (hb.cell (p := ⟨sb, _, none⟩) hlt).trans (hcc 2 _ rfl), (hb.cell (p := ⟨sb, _, none⟩) hlt).trans (hcc 3 _ rfl)⟩⟩
end Go.Proofs.YtjoeamlidmmioaaGreatDoor

/-
  GENERAL: the runs of 'append(append([]T{}, L..), x)', for any row: in the three orders in which the empty row and x's box may be laid. (After XNtSend's put_runs; how it is used: XRlRef5, XNtSend.)
-/
namespace Go.Proofs.YtjoeamlidmmioaaGreatDoor
open Go.RowKit
set_option linter.unusedVariables false
set_option maxRecDepth 100000

section
variable {α : Type} {T : RowTy α}
structure GPut (T : RowTy α) (w : World) (lv : Value) (L : List α) (x : α) (cs : Array Value) (W : World) (g0 gF : Nat) (lay : Bool) (a1 : Option Addr) (b1 : Nat) (w1 : World) (a2 : Option Addr) (b2 : Nat) (w2 : World) : Prop where
  e1 : (Builtin.append_ #[T.st, T.st] T.st #[.slice (some ⟨g0, 0, none⟩) 0 0, lv]).run Tryz.prog W = .ok (.slice a1 L.length b1) w1
  b1w : Below w.heap.size w w1
  e2 : (Builtin.append_ #[T.st, T.st] T.st #[.slice a1 L.length b1, .slice (some ⟨if lay then w1.heap.size else gF, 0, none⟩) 1 1]).run Tryz.prog (if lay then w1.alloc (.cells cs T.el) else w1) = .ok (.slice a2 (L.length + 1) b2) w2
  row : RMid T w w2 (.slice a2 (L.length + 1) b2) (L ++ [x])
theorem gput_plan1 (o : T.Ok) {w wx : World} {lv : Value} {L : List α} {g0 : Nat} (hv : RAt T w lv L) (hl : L.length ≤ 100000) (hm : RMid T w wx (.slice (some ⟨g0, 0, none⟩) 0 0) []) :
    ∃ a1 b1 w1, (Builtin.append_ #[T.st, T.st] T.st #[.slice (some ⟨g0, 0, none⟩) 0 0, lv]).run Tryz.prog wx = .ok (.slice a1 L.length b1) w1 ∧ RMid T w w1 (.slice a1 L.length b1) L ∧ (∀ b, b < wx.heap.size → b ≠ g0 → w1.heap[b]? = wx.heap[b]?) := by
  obtain ⟨a1, b1, w1, e1, m1, k1⟩ := hm.app o T.st (hv.below hm.below) (by simp; omega)
  have z1 : ([] : List α).length + L.length = L.length := by simp
  rw [z1] at e1 m1
  rw [List.nil_append] at m1
  exact ⟨a1, b1, w1, e1, m1, fun b hb hne => k1 b hb (fun e => hne (by cases e; rfl))⟩
theorem gput_plan2 (o : T.Ok) {w wx : World} {L : List α} (hl : L.length ≤ 100000) {v1 : Value} {gF : Nat} {x : α} {cs : Array Value} (hcs : cs.toList = T.cs x) (hm : RMid T w wx v1 L) (ho : own wx gF cs T.el) :
    ∃ a2 b2 w2, (Builtin.append_ #[T.st, T.st] T.st #[v1, .slice (some ⟨gF, 0, none⟩) 1 1]).run Tryz.prog wx = .ok (.slice a2 (L.length + 1) b2) w2 ∧ RMid T w w2 (.slice a2 (L.length + 1) b2) (L ++ [x]) := by
  obtain ⟨a2, b2, w2, e2, m2, _⟩ := hm.app o T.st (rAt_box o ho hcs) (by simp; omega)
  exact ⟨a2, b2, w2, e2, m2⟩
theorem gput_runs (o : T.Ok) {w : World} {lv : Value} {L : List α} (hv : RAt T w lv L) (hl : L.length ≤ 100000) (x : α) (cs : Array Value) (hcs : cs.toList = T.cs x) :
    (∃ a1 b1 w1 a2 b2 w2, GPut T w lv L x cs ((w.alloc (.cells #[] T.el)).alloc (.cells cs T.el)).drew w.heap.size (w.heap.size + 1) false a1 b1 w1 a2 b2 w2) ∧
    (∃ a1 b1 w1 a2 b2 w2, GPut T w lv L x cs ((w.alloc (.cells cs T.el)).alloc (.cells #[] T.el)).drew (w.heap.size + 1) w.heap.size false a1 b1 w1 a2 b2 w2) ∧
    (∃ a1 b1 w1 a2 b2 w2, GPut T w lv L x cs (w.alloc (.cells #[] T.el)).drew w.heap.size 0 true a1 b1 w1 a2 b2 w2) := by
  have z0 : (w.alloc (.cells #[] T.el)).heap.size = w.heap.size + 1 := by simp
  have z1 : (w.alloc (.cells cs T.el)).heap.size = w.heap.size + 1 := by simp
  have B0 : Below w.heap.size w (w.alloc (.cells #[] T.el)).drew := (Below.alloc (Below.refl _ _) (Nat.le_refl _) _).drew
  have B01 : Below w.heap.size w ((w.alloc (.cells #[] T.el)).alloc (.cells cs T.el)).drew := (Below.alloc (Below.alloc (Below.refl _ _) (Nat.le_refl _) _) (by simp) _).drew
  have B10 : Below w.heap.size w ((w.alloc (.cells cs T.el)).alloc (.cells #[] T.el)).drew := (Below.alloc (Below.alloc (Below.refl _ _) (Nat.le_refl _) _) (by simp) _).drew
  have R0 : RMid T w _ (.slice (some ⟨w.heap.size, 0, none⟩) 0 0) [] := rMid_empty B0 (own.new w #[] _) (Nat.le_refl _)
  have R01 : RMid T w _ (.slice (some ⟨w.heap.size, 0, none⟩) 0 0) [] := rMid_empty B01 (own.same (own.new w #[] T.el) ((Below.alloc (Below.refl _ _) (Nat.le_refl _) (.cells cs T.el)).block _ (by rw [z0]; omega))) (Nat.le_refl _)
  have R10 : RMid T w _ (.slice (some ⟨w.heap.size + 1, 0, none⟩) 0 0) [] := rMid_empty B10 (by rw [← z1]; exact own.new (w.alloc (.cells cs T.el)) #[] _) (by omega)
  have O01 : own ((w.alloc (.cells #[] T.el)).alloc (.cells cs T.el)).drew (w.heap.size + 1) cs T.el := by rw [← z0]; exact own.new (w.alloc (.cells #[] T.el)) _ _
  have O10 : own ((w.alloc (.cells cs T.el)).alloc (.cells #[] T.el)).drew w.heap.size cs T.el := own.same (own.new w _ T.el) ((Below.alloc (Below.refl _ _) (Nat.le_refl _) (.cells #[] T.el)).block _ (by rw [z1]; omega))
  refine ⟨?_, ?_, ?_⟩
  · obtain ⟨a1, b1, w1, e1, m1, k1⟩ := gput_plan1 o hv hl R01
    obtain ⟨a2, b2, w2, e2, hT⟩ := gput_plan2 o hl hcs m1 (own.same O01 (k1 _ O01.lt (by omega)))
    exact ⟨a1, b1, w1, a2, b2, w2, e1, m1.below, e2, hT⟩
  · obtain ⟨a1, b1, w1, e1, m1, k1⟩ := gput_plan1 o hv hl R10
    obtain ⟨a2, b2, w2, e2, hT⟩ := gput_plan2 o hl hcs m1 (own.same O10 (k1 _ O10.lt (by omega)))
    exact ⟨a1, b1, w1, a2, b2, w2, e1, m1.below, e2, hT⟩
  · obtain ⟨a1, b1, w1, e1, m1, k1⟩ := gput_plan1 o hv hl R0
    have bC : Below w1.heap.size w1 (w1.alloc (.cells cs T.el)) := Below.alloc (Below.refl _ _) (Nat.le_refl _) _
    obtain ⟨a2, b2, w2, e2, hT⟩ := gput_plan2 o hl hcs (m1.later bC) (own.new w1 _ T.el)
    exact ⟨a1, b1, w1, a2, b2, w2, e1, m1.below, e2, hT⟩
end
end Go.Proofs.YtjoeamlidmmioaaGreatDoor

/-
  LAYER 12 (tree), THE DOCUMENT's: what Build holds: a row of open elements, the first one at the front; the box of what has ended.
-/
namespace Go.Proofs.YtjoeamlidmmioaaGreatDoor
open Go.RowKit
set_option linter.unusedVariables false
set_option maxRecDepth 100000

/-- A block with two texts beside one another: none of a tree's. -/
def Two (w : World) (g : Nat) : Prop := ∃ o a b, w.cell? ⟨g, o, none⟩ = some (.string a) ∧ w.cell? ⟨g, o + 1, none⟩ = some (.string b)
theorem two_of {w : World} {v : Value} {L : List AtX} (h : RAt raTy w v L) (hne : L ≠ []) : ∀ g, v.ownBlock = some g → g < w.heap.size ∧ Two w g := by
  obtain ⟨a, cap, rfl, _, _, hc⟩ := h.at raTy_ok
  intro g hg
  cases L with
  | nil => exact absurd rfl hne
  | cons x r =>
    obtain ⟨sb, so, rfl, hlt, hcs⟩ := hc 0 x rfl
    cases hg
    exact ⟨hlt, _, _, _, hcs 0 _ rfl, hcs 1 _ rfl⟩
/-- The blocks that trees may lie in: not the two boxes at B, not the row of open elements. -/
def RbF (W : World) (B : Nat) (wr : World) (v : Value) (g : Nat) : Prop := g < wr.heap.size ∧ ((g < B ∧ Two W g) ∨ B + 2 ≤ g) ∧ v.ownBlock ≠ some g
structure RbIs (B : Nat) (W wr : World) (s : BdX) (ao : Option Addr) (n cap : Nat) (V : List NdV) (rx : NdV) : Prop where
  below : Below B W wr
  res : own wr B (ndCs nd0).toArray 37
  done : own wr (B + 1) (ndCs rx).toArray 37
  row : ROwn rdTy wr (.slice ao n cap) V
  len1 : n = V.length
  len : V.length = s.op.length
  new : ∀ g, (Value.slice ao n cap).ownBlock = some g → B + 2 ≤ g
  els : ∀ (i : Nat) y e, V[i]? = some y → s.op.reverse[i]? = some e → NdIn raTy rdTy wr (RbF W B wr (.slice ao n cap)) y (shutX e)
  root : ∀ t, s.root = some t → NdIn raTy rdTy wr (RbF W B wr (.slice ao n cap)) rx t
theorem rbF_later {W : World} {B : Nat} {wr wx : World} {v : Value} (hb : wr.heap.size ≤ wx.heap.size) : ∀ g, RbF W B wr v g → RbF W B wx v g := fun g h => ⟨Nat.lt_of_lt_of_le h.1 hb, h.2⟩
section
variable {B : Nat} {W wr wx : World} {s : BdX} {ao : Option Addr} {n cap : Nat} {V : List NdV} {rx : NdV}
theorem rbIs_later (h : RbIs B W wr s ao n cap V rx) (hb : Below wr.heap.size wr wx) : RbIs B W wx s ao n cap V rx := by
  have hz := hb.size
  have hlt := h.done.lt
  exact ⟨h.below.trans (hb.mono (by omega)), h.res.same (hb.block _ h.res.lt), h.done.same (hb.block _ h.done.lt), h.row.below hb, h.len1, h.len, h.new,
    fun i y e hy he => ndIn_same (h.els i y e hy he) (fun g hg _ => hb.block g hg.1) (rbF_later hz) hz, fun t ht => ndIn_same (h.root t ht) (fun g hg _ => hb.block g hg.1) (rbF_later hz) hz⟩
/-- Another row of open elements, in new memory. -/
theorem rb_push (h : RbIs B W wr s ao n cap V rx) {a2 : Option Addr} {n2 c2 : Nat} {x : NdV} {e : OpX} (hm : RMid rdTy wr wx (.slice a2 n2 c2) (V ++ [x])) (hn2 : n2 = V.length + 1) (hx : NdIn raTy rdTy wx (RbF W B wr (.slice none 0 0)) x (shutX e)) :
    RbIs B W wx ⟨e :: s.op, s.root⟩ a2 n2 c2 (V ++ [x]) rx := by
  have hb := hm.below
  have hz := hb.size
  have hlt := h.done.lt
  have hF : ∀ v g, RbF W B wr v g → RbF W B wx (.slice a2 n2 c2) g := fun v g hg => ⟨by have := hg.1; omega, hg.2.1, fun q => by have := hm.new g q; have := hg.1; omega⟩
  refine ⟨h.below.trans (hb.mono (by omega)), h.res.same (hb.block _ h.res.lt), h.done.same (hb.block _ h.done.lt), hm.row, by rw [hn2]; simp, by simp [h.len], fun g q => by have := hm.new g q; omega, fun i y u hy hu => ?_, fun t ht => ndIn_same (h.root t ht) (fun g hg _ => hb.block g hg.1) (hF _) hz⟩
  rw [List.reverse_cons] at hu
  rcases Nat.lt_or_ge i V.length with hi | hi
  · rw [List.getElem?_append_left hi] at hy
    rw [List.getElem?_append_left (by simp; rw [← h.len]; exact hi)] at hu
    exact ndIn_same (h.els i y u hy hu) (fun g hg _ => hb.block g hg.1) (hF _) hz
  · have hi2 : i = V.length := by
      have := (List.getElem?_eq_some_iff.1 hy).1
      simp at this; omega
    subst hi2
    simp at hy
    rw [h.len] at hu
    simp at hu
    subst hy hu
    exact ndIn_same hx (fun g _ _ => rfl) (hF _) (Nat.le_refl _)
/-- A cell of an open element is stored. -/
theorem rb_put (h : RbIs B W wr s ao n cap V rx) {i j : Nat} {y y' : NdV} {u : Value} {op' : List OpX} (hi : V[i]? = some y) (hj : j < 4) (hc : ndCs y' = (ndCs y).set j u) (hop : op'.length = s.op.length)
    (hsame : ∀ (k : Nat) e, k ≠ i → op'.reverse[k]? = some e → s.op.reverse[k]? = some e) (hy : ∀ e, op'.reverse[i]? = some e → NdIn raTy rdTy wr (RbF W B wr (.slice ao n cap)) y' (shutX e)) :
    ∃ g, ao = some ⟨g, 0, none⟩ ∧ wr.cell? ⟨g, i * 4 + j, none⟩ = (ndCs y)[j]? ∧ wr.frozen? ⟨g, i * 4 + j, none⟩ = false ∧ RbIs B W (wr.setCell ⟨g, i * 4 + j, none⟩ u) ⟨op', s.root⟩ ao n cap (V.set i y') rx := by
  have hlt0 : i < V.length := (List.getElem?_eq_some_iff.1 hi).1
  have hn := h.len1
  subst hn
  obtain ⟨g, rfl, hg, hcell, hfr⟩ := h.row.at rdTy_ok (by omega)
  have hnew := h.new g rfl
  have hjj : ∃ q, (ndCs y)[j]? = some q := by
    have : (ndCs y).length = 4 := rfl
    exact ⟨_, List.getElem?_eq_getElem (by omega)⟩
  obtain ⟨q, hq⟩ := hjj
  have hne : ∀ b, RbF W B wr (.slice (some ⟨g, 0, none⟩) V.length cap) b → b ≠ g := fun b hb e => hb.2.2 (by rw [e]; rfl)
  have hk : ∀ b, b ≠ g → (wr.setCell ⟨g, i * 4 + j, none⟩ u).heap[b]? = wr.heap[b]? := fun b hb => Below.heap_setCell _ _ _ _ hb
  have hz : (wr.setCell ⟨g, i * 4 + j, none⟩ u).heap.size = wr.heap.size := setCell_size _ _ _
  have hF : ∀ b, RbF W B wr (.slice (some ⟨g, 0, none⟩) V.length cap) b → RbF W B (wr.setCell ⟨g, i * 4 + j, none⟩ u) (.slice (some ⟨g, 0, none⟩) V.length cap) b := fun b hb => ⟨by rw [hz]; exact hb.1, hb.2⟩
  refine ⟨g, rfl, (hcell i y hi j q hq).trans hq.symm, hfr _, ⟨h.below.setCell (p := ⟨g, _, none⟩) (by show B ≤ g; omega) u, h.res.same (hk _ (by omega)), h.done.same (hk _ (by omega)), h.row.put rdTy_ok hi hj hc, by simp, by simp [h.len, hop], h.new, fun k z e hz2 he => ?_, fun t ht => ndIn_same (h.root t ht) (fun b hb _ => hk b (hne b hb)) hF (by rw [hz]; exact Nat.le_refl _)⟩⟩
  by_cases hki : k = i
  · subst hki
    rw [List.getElem?_set_self hlt0] at hz2
    cases hz2
    exact ndIn_same (hy e he) (fun b hb _ => hk b (hne b hb)) hF (by rw [hz]; exact Nat.le_refl _)
  · rw [List.getElem?_set_ne (fun q => hki q.symm)] at hz2
    exact ndIn_same (h.els k z e hz2 (hsame k e hki he)) (fun b hb _ => hk b (hne b hb)) hF (by rw [hz]; exact Nat.le_refl _)
/-- The last open element is left out of the row. -/
theorem rb_cut (h : RbIs B W wr s ao n cap V rx) {e : OpX} {st : List OpX} (hs : s.op = e :: st) : RbIs B W wr ⟨st, s.root⟩ ao st.length cap (V.take st.length) rx := by
  have hl : V.length = st.length + 1 := by rw [h.len, hs]; rfl
  have hn := h.len1
  subst hn
  have hv : (Value.slice ao st.length cap).ownBlock = (Value.slice ao V.length cap).ownBlock := by cases ao <;> rfl
  have hF : ∀ b, RbF W B wr (.slice ao V.length cap) b → RbF W B wr (.slice ao st.length cap) b := fun b hb => ⟨hb.1, hb.2.1, by rw [hv]; exact hb.2.2⟩
  refine ⟨h.below, h.res, h.done, h.row.cut rdTy_ok (by omega), by rw [List.length_take]; omega, by rw [List.length_take]; show min st.length V.length = st.length; omega, fun g q => h.new g (by rw [← hv]; exact q), fun i y u hy hu => ?_, fun t ht => ndIn_same (h.root t ht) (fun _ _ _ => rfl) hF (Nat.le_refl _)⟩
  have hi : i < st.length := by
    have := (List.getElem?_eq_some_iff.1 hy).1
    rw [List.length_take] at this; omega
  rw [List.getElem?_take_of_lt hi] at hy
  refine ndIn_same (h.els i y u hy ?_) (fun _ _ _ => rfl) hF (Nat.le_refl _)
  rw [hs, List.reverse_cons, List.getElem?_append_left (by simp; exact hi)]
  exact hu
/-- The last open element, where there is one. -/
theorem rb_last (h : RbIs B W wr s ao n cap V rx) {e : OpX} {st : List OpX} (hs : s.op = e :: st) : ∃ x, V[st.length]? = some x ∧ NdIn raTy rdTy wr (RbF W B wr (.slice ao n cap)) x (shutX e) := by
  have hl : V.length = st.length + 1 := by rw [h.len, hs]; rfl
  refine ⟨V[st.length], by simp [hl], h.els st.length _ e (by simp [hl]) ?_⟩
  rw [hs, List.reverse_cons]
  simp
/-- What has ended is stored in its box. -/
theorem rb_root (h : RbIs B W wr ⟨[], s.root⟩ ao n cap V rx) {x : NdV} {t : Tr} (hx : NdIn raTy rdTy wr (RbF W B wr (.slice ao n cap)) x t) :
    RbIs B W ((((wr.setCell ⟨B + 1, 0, none⟩ (.string (mk x.n))).setCell ⟨B + 1, 1, none⟩ (.slice x.a x.am x.ac)).setCell ⟨B + 1, 2, none⟩ (.string (mk x.t))).setCell ⟨B + 1, 3, none⟩ (.slice x.k x.km x.kc)) ⟨[], some t⟩ ao n cap V x := by
  have hk : ∀ b, b ≠ B + 1 → ((((wr.setCell ⟨B + 1, 0, none⟩ (.string (mk x.n))).setCell ⟨B + 1, 1, none⟩ (.slice x.a x.am x.ac)).setCell ⟨B + 1, 2, none⟩ (.string (mk x.t))).setCell ⟨B + 1, 3, none⟩ (.slice x.k x.km x.kc)).heap[b]? = wr.heap[b]? := fun b hb => by
    rw [Below.heap_setCell _ _ _ _ hb, Below.heap_setCell _ _ _ _ hb, Below.heap_setCell _ _ _ _ hb, Below.heap_setCell _ _ _ _ hb]
  have hz : ((((wr.setCell ⟨B + 1, 0, none⟩ (.string (mk x.n))).setCell ⟨B + 1, 1, none⟩ (.slice x.a x.am x.ac)).setCell ⟨B + 1, 2, none⟩ (.string (mk x.t))).setCell ⟨B + 1, 3, none⟩ (.slice x.k x.km x.kc)).heap.size = wr.heap.size := by simp only [setCell_size]
  have ho := (((h.done.set 0 (.string (mk x.n))).set 1 (.slice x.a x.am x.ac)).set 2 (.string (mk x.t))).set 3 (.slice x.k x.km x.kc)
  have hbel := (((h.below.setCell (p := ⟨B + 1, 0, none⟩) (by show B ≤ B + 1; omega) (.string (mk x.n))).setCell (p := ⟨B + 1, 1, none⟩) (by show B ≤ B + 1; omega) (.slice x.a x.am x.ac)).setCell (p := ⟨B + 1, 2, none⟩) (by show B ≤ B + 1; omega) (.string (mk x.t))).setCell (p := ⟨B + 1, 3, none⟩) (by show B ≤ B + 1; omega) (.slice x.k x.km x.kc)
  generalize ((((wr.setCell ⟨B + 1, 0, none⟩ (.string (mk x.n))).setCell ⟨B + 1, 1, none⟩ (.slice x.a x.am x.ac)).setCell ⟨B + 1, 2, none⟩ (.string (mk x.t))).setCell ⟨B + 1, 3, none⟩ (.slice x.k x.km x.kc)) = w2 at *
  have hF : ∀ b, RbF W B wr (.slice ao n cap) b → RbF W B w2 (.slice ao n cap) b := fun b hb => ⟨by rw [hz]; exact hb.1, hb.2⟩
  have hne : ∀ b, RbF W B wr (.slice ao n cap) b → b ≠ B + 1 := fun b hb e => by have := hb.2.1; omega
  have hV : V = [] := List.length_eq_zero_iff.1 h.len
  refine ⟨?_, h.res.same (hk _ (by omega)), by simpa [ndCs] using ho, h.row.same (fun b hb => hk b (by have := h.new b hb; omega)), h.len1, h.len, h.new, fun i y e hy => by rw [hV] at hy; simp at hy, fun t' ht => ?_⟩
  · exact hbel
  · cases ht
    exact ndIn_same hx (fun b hb _ => hk b (hne b hb)) hF (by rw [hz]; exact Nat.le_refl _)
end
end Go.Proofs.YtjoeamlidmmioaaGreatDoor

