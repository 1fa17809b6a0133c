/-
  LAYER 2 (disk): a disk of the call's own, through a row of calls.
-/
import Derived.Test.YtcinegkikahchaaDkLaw
import Derived.Test.YtcinegkikahchaaDkMath2
namespace Go.Proofs.Ytcinegkikahchaa
open Go.RowKit Go.Maps
set_option linter.unusedVariables false
set_option maxRecDepth 100000

def One (W : World) (a : Nat) (s : Dk) (w : World) : Prop := ∃ S, DiskIs w S a s ∧ (∀ b, S b → W.heap.size ≤ b) ∧ Below W.heap.size W w
section
variable {W w w' : World} {a : Nat} {s : Dk}
theorem One.step {S : Nat → Prop} (h1 : DiskIs w S a s) (h4 : ∀ b, S b → W.heap.size ≤ b) (h6 : Below W.heap.size W w) {s' : Dk} (hD : DiskIs w' (grow S w w') a s') (hc : Chg S w w') : One W a s' w' :=
  ⟨_, hD, grow_ge h4 h6.size, h6.trans (hc.below h6.size h4)⟩
theorem One.op {f : FuncId} {args : Array Value} {s' : Dk} {k : Int} (h : One W a s w) (hf : ∀ S, DiskIs w S a s → Calls Try.prog f args w (OpPost w S a (s', k))) : Calls Try.prog f args w fun e w' => e = .returned (.int .i64 k) ∧ One W a s' w' := by
  obtain ⟨S1, h1, h4, h6⟩ := h
  exact (hf S1 h1).mono fun e w' ⟨he, hD, hc⟩ => ⟨he, One.step h1 h4 h6 hD hc⟩
theorem One.tail {f : FuncId} {args : Array Value} {s' : Dk} (h : One W a s w) (hf : ∀ S, DiskIs w S a s → Calls Try.prog f args w (CrashTail w S a s')) : Calls Try.prog f args w fun e w' => e = .returned (.tuple #[]) ∧ One W a s' w' := by
  obtain ⟨S1, h1, h4, h6⟩ := h
  exact (hf S1 h1).mono fun e w' ⟨he, hD, hc⟩ => ⟨he, One.step h1 h4 h6 hD hc⟩
theorem One.made {e : Ending} {W w : World} {w' : World} (hb : Below W.heap.size W w) (h : MadePost w s e w') : ∃ a, e = .returned (.tuple #[.pointer (some ⟨a, 0, none⟩), .bool true]) ∧ One W a s w' := by
  obtain ⟨a, S, he, hD, hS, hb2⟩ := h
  exact ⟨a, he, S, hD, fun b h => by have := hS b h; have := hb.size; omega, hb.trans (hb2.mono hb.size)⟩
theorem One.below' (h : One W a s w) : Below W.heap.size W w := by obtain ⟨_, _, _, h⟩ := h; exact h
theorem One.crashOne (h : One W a s w) (k z : Int) (hk : -9223372036854775808 ≤ k ∧ k ≤ 9223372036854775807) (s' : Dk) (hr : crash s [k] [z] = s') :
    Calls Try.prog 24 #[.pointer (some ⟨a, 0, none⟩), .slice (some ⟨w.heap.size, 0, none⟩) 1 1, .slice (some ⟨w.heap.size + 1, 0, none⟩) 1 1] ((w.alloc (.cells #[.int .i64 k] 3)).alloc (.cells #[.int .i64 z] 3)) fun e w' => e = .returned (.tuple #[]) ∧ One W a s' w' := by
  obtain ⟨S1, h1, h4, h6⟩ := h
  exact (crash_one h1 k z hk s' hr).mono fun e w' ⟨he, hD, hc⟩ => ⟨he, One.step h1 h4 h6 hD hc⟩
theorem One.crashLone (h : One W a s w) (k : Int) (hk : -9223372036854775808 ≤ k ∧ k ≤ 9223372036854775807) (s' : Dk) (hr : crash s [k] [] = s') :
    Calls Try.prog 24 #[.pointer (some ⟨a, 0, none⟩), .slice (some ⟨w.heap.size, 0, none⟩) 1 1, .slice none 0 0] (w.alloc (.cells #[.int .i64 k] 3)) fun e w' => e = .returned (.tuple #[]) ∧ One W a s' w' := by
  obtain ⟨S1, h1, h4, h6⟩ := h
  have hb1 : Below w.heap.size w (w.alloc (.cells #[.int .i64 k] 3)) := (Below.refl _ w).alloc (Nat.le_refl _) _
  have hz : (w.alloc (.cells #[.int .i64 k] 3)).heap.size = w.heap.size + 1 := by simp
  have g1 := own.new w #[.int .i64 k] 3
  have hlt := h1.lt
  rw [← hr]
  refine (crash_in (h1.below hb1) (T := fun b => b = w.heap.size) (fun b hb => ⟨by rw [hz]; omega, fun hS => by have := hlt b hS; omega⟩) (ks := [k]) (ns := []) ⟨_, 1, rfl, fun _ => ⟨w.heap.size, 0, rfl, rfl, fun j x hj => ?_⟩⟩ ⟨none, 0, rfl, fun h => absurd rfl h⟩ (by simp) (by simp) (by simpa using hk)).mono ?_
  · match j, hj with
    | 0, hj => simp at hj; subst hj; rw [g1.cell]; rfl
    | j + 1, hj => simp at hj
  · rintro e w' ⟨he, hD, hc⟩
    obtain ⟨q1, q2⟩ := DiskIs.from hb1 hlt hD hc
    exact ⟨he, One.step h1 h4 h6 q1 q2⟩
theorem One.read (h : One W a s w) (n : ByteArray) (hn : n.size ≤ maxLen) (l : List UInt8) (k : Int) (hr : rd s n.data.toList = (l, k)) : Calls Try.prog 22 #[.pointer (some ⟨a, 0, none⟩), .string n] w fun e w' => e = .returned (.tuple #[.string ⟨l.toArray⟩, .int .i64 k]) ∧ w = w' := by
  obtain ⟨S1, h1, _⟩ := h
  exact read_is h1 n hn l k hr
theorem One.del (h : One W a s w) (n : ByteArray) (hn : n.size ≤ maxLen) (s' : Dk) (k : Int) (hr : dele s n.data.toList = (s', k)) : Calls Try.prog 26 #[.pointer (some ⟨a, 0, none⟩), .string n] w fun e w' => e = .returned (.int .i64 k) ∧ One W a s' w' :=
  h.op fun S hS => by rw [← hr]; exact dele_any hS n hn
theorem One.ren (h : One W a s w) (n t : ByteArray) (hn : n.size ≤ maxLen) (ht : t.size ≤ maxLen) (s' : Dk) (k : Int) (hr : ren s n.data.toList t.data.toList = (s', k)) : Calls Try.prog 29 #[.pointer (some ⟨a, 0, none⟩), .string n, .string t] w fun e w' => e = .returned (.int .i64 k) ∧ One W a s' w' :=
  h.op fun S hS => by rw [← hr]; exact ren_any hS n t hn ht
theorem One.ok (h : One W a s w) : s.Ok := by
  obtain ⟨S, ⟨mb, F, h⟩, _⟩ := h
  exact h.ok
end
end Go.Proofs.Ytcinegkikahchaa
