/-
  LAYER 2 (disk), the laws' own helpers: the program's disk and the document's beside one another, in one world.
-/
import Derived.Test.YtcinegkikahchaaRkM
import Derived.Test.YtcinegkikahchaaDkOne
namespace Go.Proofs.Ytcinegkikahchaa
open Go.RowKit Go.Maps
set_option linter.unusedVariables false
set_option maxRecDepth 100000

def Both (W : World) (a r : Nat) (s c : Dk) (w : World) : Prop :=
  ∃ S1 S2, DiskIs w S1 a s ∧ RefIs w S2 r c ∧ (∀ b, S1 b → ¬ S2 b) ∧ (∀ b, S1 b → W.heap.size ≤ b) ∧ (∀ b, S2 b → W.heap.size ≤ b) ∧ Below W.heap.size W w
section
variable {W w w' : World} {a r : Nat} {s c : Dk}
theorem RefIs.lt {S : Nat → Prop} (h : RefIs w S r s) : ∀ b, S b → b < w.heap.size := by obtain ⟨v, h⟩ := h; exact h.lt
theorem Both.base (h : Both W a r s c w) : Below W.heap.size W w := by obtain ⟨_, _, _, _, _, _, _, h⟩ := h; exact h
theorem Both.later (h : Both W a r s c w) (hb : Below w.heap.size w w') : Both W a r s c w' := by
  obtain ⟨S1, S2, h1, h2, h3, h4, h5, h6⟩ := h
  exact ⟨S1, S2, h1.below hb, h2.below hb, h3, h4, h5, h6.trans (hb.mono h6.size)⟩
theorem Both.left {S1 S2 : Nat → Prop} (h1 : DiskIs w S1 a s) (h2 : RefIs w S2 r c) (h3 : ∀ b, S1 b → ¬ S2 b) (h4 : ∀ b, S1 b → W.heap.size ≤ b) (h5 : ∀ b, S2 b → W.heap.size ≤ b) (h6 : Below W.heap.size W w) {s' : Dk}
    (hD : DiskIs w' (grow S1 w w') a s') (hc : Chg S1 w w') : Both W a r s' c w' := by
  refine ⟨_, S2, hD, h2.same hc.size (fun b hb => hc.block b (h2.lt b hb) (fun hS => h3 b hS hb)), fun b hb hb2 => ?_, fun b hb => ?_, h5, h6.trans (hc.below h6.size h4)⟩
  · rcases hb with hb | hb
    · exact h3 b hb hb2
    · have := h2.lt b hb2; omega
  · rcases hb with hb | hb
    · exact h4 b hb
    · have := h6.size; omega
theorem Both.right {S1 S2 : Nat → Prop} (h1 : DiskIs w S1 a s) (h2 : RefIs w S2 r c) (h3 : ∀ b, S1 b → ¬ S2 b) (h4 : ∀ b, S1 b → W.heap.size ≤ b) (h5 : ∀ b, S2 b → W.heap.size ≤ b) (h6 : Below W.heap.size W w) {c' : Dk}
    (hD : RefIs w' (grow S2 w w') r c') (hc : Chg S2 w w') : Both W a r s c' w' := by
  refine ⟨S1, _, h1.same hc.size (fun b hb => hc.block b (h1.lt b hb) (fun hS => h3 b hb hS)), hD, fun b hb hb2 => ?_, h4, fun b hb => ?_, h6.trans (hc.below h6.size h5)⟩
  · rcases hb2 with hb2 | hb2
    · exact h3 b hb hb2
    · have := h1.lt b hb; omega
  · rcases hb with hb | hb
    · exact h5 b hb
    · have := h6.size; omega
theorem Both.does (h : Both W a r s c w) (ac : Ac) (ho : AcOk ac) (kv nv : Value) (hk : IntsAt w W.heap.size kv ac.keep) (hn : IntsAt w W.heap.size nv ac.noise) :
    Calls Try.prog 16 #[.pointer (some ⟨a, 0, none⟩), .agg #[.int .i64 ac.op, .int .i64 ac.n, .string ac.name, .string ac.to, .string ac.data, kv, nv]] w fun e w' => e = .returned (.tuple #[.string (mk (act s ac).2.1), .int .i64 (act s ac).2.2]) ∧ Both W a r (act s ac).1 c w' := by
  obtain ⟨S1, S2, h1, h2, h3, h4, h5, h6⟩ := h
  exact (does_any h1 h6.size h4 ac ho kv nv hk hn).mono fun e w' ⟨he, hD, hc⟩ => ⟨he, Both.left h1 h2 h3 h4 h5 h6 hD hc⟩
theorem Both.model (h : Both W a r s c w) (ac : Ac) (ho : AcOk ac) (kv nv : Value) (hk : IntsAt w W.heap.size kv ac.keep) (hn : IntsAt w W.heap.size nv ac.noise) :
    Calls Try.prog 17 #[.pointer (some ⟨r, 0, none⟩), .agg #[.int .i64 ac.op, .int .i64 ac.n, .string ac.name, .string ac.to, .string ac.data, kv, nv]] w fun e w' => e = .returned (.tuple #[.string (mk (act c ac).2.1), .int .i64 (act c ac).2.2]) ∧ Both W a r s (act c ac).1 w' := by
  obtain ⟨S1, S2, h1, h2, h3, h4, h5, h6⟩ := h
  exact (model_any h2 h6.size h5 ac ho kv nv hk hn).mono fun e w' ⟨he, hD, hc⟩ => ⟨he, Both.right h1 h2 h3 h4 h5 h6 hD hc⟩
theorem Both.gone (h : Both W a r s c w) : w.cell? ⟨r, 3, none⟩ = some (.bool c.dead) := by
  obtain ⟨_, _, _, ⟨v, h⟩, _⟩ := h
  exact (h.head.cell 3).trans rfl
theorem Both.deadCall (h : Both W a r s c w) : Calls Try.prog 18 #[.pointer (some ⟨a, 0, none⟩)] w fun e w' => e = .returned (.bool s.dead) ∧ w = w' := by
  obtain ⟨_, _, ⟨mb, F, h⟩, _⟩ := h
  exact dead_any h
theorem Both.sizeCall (h : Both W a r s c w) : Calls Try.prog 19 #[.pointer (some ⟨a, 0, none⟩)] w fun e w' => e = .returned (.int .i64 (sz s.L)) ∧ Both W a r s c w' := by
  have h' := h
  obtain ⟨_, _, ⟨mb, F, h⟩, _⟩ := h
  exact (size_any h).mono fun e w' ⟨he, hb⟩ => ⟨he, h'.later hb⟩
theorem Both.refSizeCall (h : Both W a r s c w) : Calls Try.prog 20 #[.pointer (some ⟨r, 0, none⟩)] w fun e w' => e = .returned (.int .i64 (sz c.L)) ∧ w = w' := by
  obtain ⟨_, _, _, ⟨v, h⟩, _⟩ := h
  exact refSize_any h
theorem Both.made {w1 w2 : World} {S1 S2 : Nat → Prop} (h0 : Below W.heap.size W w) (hD : DiskIs w1 S1 a s) (hS : ∀ b, S1 b → w.heap.size ≤ b) (hb : Below w.heap.size w w1) (hR : RefIs w2 S2 r c) (hS2 : ∀ b, S2 b → w1.heap.size ≤ b) (hb2 : Below w1.heap.size w1 w2) : Both W a r s c w2 :=
  ⟨S1, S2, hD.below hb2, hR, fun b h1 h2 => by have := hD.lt b h1; have := hS2 b h2; omega, fun b h => by have := hS b h; have := h0.size; omega, fun b h => by have := hS2 b h; have := hb.size; have := h0.size; omega, (h0.trans (hb.mono h0.size)).trans (hb2.mono (by have := hb.size; have := h0.size; omega))⟩
end

def PlayRel (W : World) (a r n : Nat) (u : Value) (w : World) : Prop := ∃ (k : Nat) (s : Dk), k ≤ n ∧ u = .int .i64 k ∧ Both W a r s s w
def LookRel (w5 : World) (n : Nat) (u : Value) (w : World) : Prop := ∃ k : Nat, k ≤ n ∧ u = .int .i64 k ∧ Below w5.heap.size w5 w
end Go.Proofs.Ytcinegkikahchaa
