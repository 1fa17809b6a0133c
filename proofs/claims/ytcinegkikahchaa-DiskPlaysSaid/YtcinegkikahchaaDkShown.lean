/-
  LAYER 2 (disk): the chapter's examples hold ('shown' returns true).
-/
import Derived.Test.YtcinegkikahchaaDkM
namespace Go.Proofs.Ytcinegkikahchaa
open Go.RowKit Go.Maps
set_option linter.unusedVariables false
set_option maxRecDepth 100000

def shS1 : Dk := ⟨100, [⟨[97], [120, 121], 0⟩], -1, false⟩
def shS2 : Dk := ⟨100, [⟨[97], [120, 121], 2⟩], -1, false⟩
def shS3 : Dk := ⟨100, [⟨[97], [120, 121, 122, 122, 122], 2⟩], -1, false⟩
def shS4 : Dk := ⟨100, [⟨[97], [120, 121, 122, 123], 4⟩], -1, false⟩
def shC1 : Dk := ⟨3, [], 1, false⟩
def shC2 : Dk := ⟨3, [⟨[97], [49], 0⟩], 0, false⟩
def shC3 : Dk := ⟨3, [⟨[97], [49], 0⟩], 0, true⟩
def shC4 : Dk := ⟨3, [⟨[97], [], 0⟩], -1, false⟩
theorem shE1 : app (newD 100) [97] [120, 121] = (shS1, 0) := by rfl
theorem shE2 : syn shS1 [97] = (shS2, 0) := by rfl
theorem shE3 : app shS2 [97] [122, 122, 122] = (shS3, 0) := by rfl
theorem shE4 : crash shS3 [2] [1] = shS4 := by rfl
theorem shE5 : rd shS4 [97] = ([120, 121, 122, 123], 0) := by rfl
theorem shF1 : app (newD 3) [97] [49, 50, 51, 52] = (newD 3, 6) := by rfl
theorem shF2 : app (newD 3) [65] [49] = (newD 3, 3) := by rfl
theorem shF3 : syn (newD 3) [98] = (newD 3, 4) := by rfl
theorem shF4 : setFuse (newD 3) 1 = shC1 := by rfl
theorem shF5 : app shC1 [97] [49] = (shC2, 0) := by rfl
theorem shF6 : syn shC2 [97] = (shC3, 7) := by rfl
theorem shF7 : rd shC3 [97] = ([], 7) := by rfl
theorem shF8 : crash shC3 [] [] = shC4 := by rfl
theorem shF9 : rd shC4 [97] = ([], 0) := by rfl

/-- Two disks that share nothing. -/
def Two (W : World) (a1 : Nat) (s : Dk) (a2 : Nat) (c : Dk) (w : World) : Prop :=
  ∃ S1 S2, DiskIs w S1 a1 s ∧ DiskIs w S2 a2 c ∧ (∀ b, S1 b → ¬ S2 b) ∧ (∀ b, S1 b → W.heap.size ≤ b) ∧ (∀ b, S2 b → W.heap.size ≤ b) ∧ Below W.heap.size W w
section
variable {W w w' : World} {a1 a2 : Nat} {s c : Dk}
theorem DiskIs.lt {S : Nat → Prop} {a : Nat} (h : DiskIs w S a s) : ∀ b, S b → b < w.heap.size := by obtain ⟨mb, F, h⟩ := h; exact h.lt
theorem Two.symm (h : Two W a1 s a2 c w) : Two W a2 c a1 s w := by
  obtain ⟨S1, S2, h1, h2, h3, h4, h5, h6⟩ := h
  exact ⟨S2, S1, h2, h1, fun b hb hb' => h3 b hb' hb, h5, h4, h6⟩
theorem Two.step {S1 S2 : Nat → Prop} (h1 : DiskIs w S1 a1 s) (h2 : DiskIs w S2 a2 c) (h3 : ∀ b, S1 b → ¬ S2 b) (h4 : ∀ b, S1 b → W.heap.size ≤ b) (h5 : ∀ b, S2 b → W.heap.size ≤ b) (h6 : Below W.heap.size W w) {s' : Dk}
    (hD : DiskIs w' (grow S1 w w') a1 s') (hc : Chg S1 w w') : Two W a1 s' a2 c w' := by
  refine ⟨_, S2, hD, h2.same hc.size (fun b hb => hc.block b (h2.lt b hb) (fun hS => h3 b hS hb)), fun b hb hb2 => ?_, fun b hb => ?_, h5, h6.trans (hc.below h6.size h4)⟩
  · rcases hb with hb | hb
    · exact h3 b hb hb2
    · have := h2.lt b hb2; omega
  · rcases hb with hb | hb
    · exact h4 b hb
    · have := h6.size; omega
theorem Two.opL {f : FuncId} {args : Array Value} {s' : Dk} {k : Int} (h : Two W a1 s a2 c w) (hf : ∀ S, DiskIs w S a1 s → Calls Try.prog f args w (OpPost w S a1 (s', k))) : Calls Try.prog f args w fun e w' => e = .returned (.int .i64 k) ∧ Two W a1 s' a2 c w' := by
  obtain ⟨S1, S2, h1, h2, h3, h4, h5, h6⟩ := h
  exact (hf S1 h1).mono fun e w' ⟨he, hD, hc⟩ => ⟨he, Two.step h1 h2 h3 h4 h5 h6 hD hc⟩
theorem Two.tailL {f : FuncId} {args : Array Value} {s' : Dk} (h : Two W a1 s a2 c w) (hf : ∀ S, DiskIs w S a1 s → Calls Try.prog f args w (CrashTail w S a1 s')) : Calls Try.prog f args w fun e w' => e = .returned (.tuple #[]) ∧ Two W a1 s' a2 c w' := by
  obtain ⟨S1, S2, h1, h2, h3, h4, h5, h6⟩ := h
  exact (hf S1 h1).mono fun e w' ⟨he, hD, hc⟩ => ⟨he, Two.step h1 h2 h3 h4 h5 h6 hD hc⟩
theorem Two.opR {f : FuncId} {args : Array Value} {c' : Dk} {k : Int} (h : Two W a1 s a2 c w) (hf : ∀ S, DiskIs w S a2 c → Calls Try.prog f args w (OpPost w S a2 (c', k))) : Calls Try.prog f args w fun e w' => e = .returned (.int .i64 k) ∧ Two W a1 s a2 c' w' :=
  (h.symm.opL hf).mono fun _ _ ⟨he, h⟩ => ⟨he, h.symm⟩
theorem Two.tailR {f : FuncId} {args : Array Value} {c' : Dk} (h : Two W a1 s a2 c w) (hf : ∀ S, DiskIs w S a2 c → Calls Try.prog f args w (CrashTail w S a2 c')) : Calls Try.prog f args w fun e w' => e = .returned (.tuple #[]) ∧ Two W a1 s a2 c' w' :=
  (h.symm.tailL hf).mono fun _ _ ⟨he, h⟩ => ⟨he, h.symm⟩
theorem Two.below (h : Two W a1 s a2 c w) (hb : Below w.heap.size w w') : Two W a1 s a2 c w' := by
  obtain ⟨S1, S2, h1, h2, h3, h4, h5, h6⟩ := h
  exact ⟨S1, S2, h1.below hb, h2.below hb, h3, h4, h5, h6.trans (hb.mono h6.size)⟩

theorem read_is {S : Nat → Prop} {a : Nat} (h : DiskIs w S a s) (n : ByteArray) (hn : n.size ≤ maxLen) (l : List UInt8) (k : Int) (hr : rd s n.data.toList = (l, k)) : Calls Try.prog 22 #[.pointer (some ⟨a, 0, none⟩), .string n] w fun e w' => e = .returned (.tuple #[.string ⟨l.toArray⟩, .int .i64 k]) ∧ w = w' := by
  obtain ⟨mb, F, h⟩ := h
  have := read_any h n hn
  rw [hr] at this
  exact this
theorem app_is {S : Nat → Prop} {a : Nat} (h : DiskIs w S a s) (n d : ByteArray) (hn : n.size ≤ 100) (hd : d.size ≤ 1000) (s' : Dk) (k : Int) (hr : app s n.data.toList d.data.toList = (s', k)) : Calls Try.prog 27 #[.pointer (some ⟨a, 0, none⟩), .string n, .string d] w (OpPost w S a (s', k)) := by
  rw [← hr]; exact append_any h n d (by unfold maxLen; omega) (by omega)
theorem syn_is {S : Nat → Prop} {a : Nat} (h : DiskIs w S a s) (n : ByteArray) (hn : n.size ≤ 100) (s' : Dk) (k : Int) (hr : syn s n.data.toList = (s', k)) : Calls Try.prog 28 #[.pointer (some ⟨a, 0, none⟩), .string n] w (OpPost w S a (s', k)) := by
  rw [← hr]; exact sync_any h n (by unfold maxLen; omega)
theorem fuse_is {S : Nat → Prop} {a : Nat} (h : DiskIs w S a s) (k : Int) (hk : k ≤ 1000) (s' : Dk) (hr : setFuse s k = s') : Calls Try.prog 25 #[.pointer (some ⟨a, 0, none⟩), .int .i64 k] w (CrashTail w S a s') := by
  rw [← hr]; exact fuse_any h k (by omega)
theorem crash_nil {S : Nat → Prop} {a : Nat} (h : DiskIs w S a s) (s' : Dk) (hr : crash s [] [] = s') : Calls Try.prog 24 #[.pointer (some ⟨a, 0, none⟩), .slice none 0 0, .slice none 0 0] w (CrashTail w S a s') := by
  rw [← hr]
  exact crash_in h (T := fun _ => False) (fun b hb => hb.elim) ⟨none, 0, rfl, fun h => absurd rfl h⟩ ⟨none, 0, rfl, fun h => absurd rfl h⟩ (by simp) (by simp) (by simp)
/-- Crash of two slices of one number each, laid just ahead of it. -/
theorem crash_one {S : Nat → Prop} {a : Nat} (h : DiskIs w S a s) (k z : Int) (hk : -9223372036854775808 ≤ k ∧ k ≤ 9223372036854775807) (s' : Dk) (hr : crash s [k] [z] = s') :
    Calls Try.prog 24 #[.pointer (some ⟨a, 0, none⟩), .slice (some ⟨w.heap.size, 0, none⟩) 1 1, .slice (some ⟨w.heap.size + 1, 0, none⟩) 1 1] ((w.alloc (.cells #[.int .i64 k] 3)).alloc (.cells #[.int .i64 z] 3)) (CrashTail w S a s') := by
  have hb1 : Below w.heap.size w ((w.alloc (.cells #[.int .i64 k] 3)).alloc (.cells #[.int .i64 z] 3)) := ((Below.refl _ w).alloc (Nat.le_refl _) _).alloc (by simp) _
  have hz : (w.alloc (.cells #[.int .i64 k] 3)).heap.size = w.heap.size + 1 := by simp
  have hz2 : ((w.alloc (.cells #[.int .i64 k] 3)).alloc (.cells #[.int .i64 z] 3)).heap.size = w.heap.size + 2 := by simp
  have h1 : own ((w.alloc (.cells #[.int .i64 k] 3)).alloc (.cells #[.int .i64 z] 3)) w.heap.size #[.int .i64 k] 3 := (own.new w _ _).same (Below.heap_alloc _ _ _ (by rw [hz]; omega))
  have h2 : own ((w.alloc (.cells #[.int .i64 k] 3)).alloc (.cells #[.int .i64 z] 3)) (w.heap.size + 1) #[.int .i64 z] 3 := by
    have := own.new (w.alloc (.cells #[.int .i64 k] 3)) #[.int .i64 z] 3
    rw [hz] at this; exact this
  have hlt := h.lt
  rw [← hr]
  refine (crash_in (h.below hb1) (T := fun b => b = w.heap.size ∨ b = w.heap.size + 1) (fun b hb => ⟨by rw [hz2]; omega, fun hS => by have := hlt b hS; omega⟩) (ks := [k]) (ns := [z]) ⟨_, 1, rfl, fun _ => ⟨w.heap.size, 0, rfl, .inl rfl, fun j x hj => ?_⟩⟩ ⟨_, 1, rfl, fun _ => ⟨w.heap.size + 1, 0, rfl, .inr rfl, fun j x hj => ?_⟩⟩ (by simp) (by simp) (by simpa using hk)).mono ?_
  · match j, hj with
    | 0, hj => simp at hj; subst hj; rw [h1.cell]; rfl
    | j + 1, hj => simp at hj
  · match j, hj with
    | 0, hj => simp at hj; subst hj; rw [h2.cell]; rfl
    | j + 1, hj => simp at hj
  · rintro e w' ⟨he, hD, hc⟩
    obtain ⟨g1, g2⟩ := DiskIs.from hb1 hlt hD hc
    exact ⟨he, g1, g2⟩
end

/-- What each call of the examples does, whatever the two disks' addresses. -/
structure ShownSteps (W : World) (s0 s1 s2 s3 s4 c0 c1 c2 c3 c4 : Dk) : Prop where
  A1 : ∀ a1 a2 w, Two W a1 s0 a2 c0 w → Calls Try.prog 27 #[.pointer (some ⟨a1, 0, none⟩), .string ⟨#[97]⟩, .string ⟨#[120, 121]⟩] w fun e w' => e = .returned (.int .i64 0) ∧ Two W a1 s1 a2 c0 w'
  A2 : ∀ a1 a2 w, Two W a1 s1 a2 c0 w → Calls Try.prog 28 #[.pointer (some ⟨a1, 0, none⟩), .string ⟨#[97]⟩] w fun e w' => e = .returned (.int .i64 0) ∧ Two W a1 s2 a2 c0 w'
  A3 : ∀ a1 a2 w, Two W a1 s2 a2 c0 w → Calls Try.prog 27 #[.pointer (some ⟨a1, 0, none⟩), .string ⟨#[97]⟩, .string ⟨#[122, 122, 122]⟩] w fun e w' => e = .returned (.int .i64 0) ∧ Two W a1 s3 a2 c0 w'
  A4 : ∀ a1 a2 w, Two W a1 s3 a2 c0 w → Calls Try.prog 24 #[.pointer (some ⟨a1, 0, none⟩), .slice (some ⟨w.heap.size, 0, none⟩) 1 1, .slice (some ⟨w.heap.size + 1, 0, none⟩) 1 1] ((w.alloc (.cells #[.int .i64 2] 3)).alloc (.cells #[.int .i64 1] 3)) fun e w' => e = .returned (.tuple #[]) ∧ Two W a1 s4 a2 c0 w'
  A5 : ∀ a1 a2 w, Two W a1 s4 a2 c0 w → Calls Try.prog 22 #[.pointer (some ⟨a1, 0, none⟩), .string ⟨#[97]⟩] w fun e w' => e = .returned (.tuple #[.string ⟨#[120, 121, 122, 123]⟩, .int .i64 0]) ∧ w = w'
  B1 : ∀ a1 a2 w, Two W a1 s4 a2 c0 w → Calls Try.prog 27 #[.pointer (some ⟨a2, 0, none⟩), .string ⟨#[97]⟩, .string ⟨#[49, 50, 51, 52]⟩] w fun e w' => e = .returned (.int .i64 6) ∧ Two W a1 s4 a2 c0 w'
  B2 : ∀ a1 a2 w, Two W a1 s4 a2 c0 w → Calls Try.prog 27 #[.pointer (some ⟨a2, 0, none⟩), .string ⟨#[65]⟩, .string ⟨#[49]⟩] w fun e w' => e = .returned (.int .i64 3) ∧ Two W a1 s4 a2 c0 w'
  B3 : ∀ a1 a2 w, Two W a1 s4 a2 c0 w → Calls Try.prog 28 #[.pointer (some ⟨a2, 0, none⟩), .string ⟨#[98]⟩] w fun e w' => e = .returned (.int .i64 4) ∧ Two W a1 s4 a2 c0 w'
  B4 : ∀ a1 a2 w, Two W a1 s4 a2 c0 w → Calls Try.prog 25 #[.pointer (some ⟨a2, 0, none⟩), .int .i64 1] w fun e w' => e = .returned (.tuple #[]) ∧ Two W a1 s4 a2 c1 w'
  B5 : ∀ a1 a2 w, Two W a1 s4 a2 c1 w → Calls Try.prog 27 #[.pointer (some ⟨a2, 0, none⟩), .string ⟨#[97]⟩, .string ⟨#[49]⟩] w fun e w' => e = .returned (.int .i64 0) ∧ Two W a1 s4 a2 c2 w'
  B6 : ∀ a1 a2 w, Two W a1 s4 a2 c2 w → Calls Try.prog 28 #[.pointer (some ⟨a2, 0, none⟩), .string ⟨#[97]⟩] w fun e w' => e = .returned (.int .i64 7) ∧ Two W a1 s4 a2 c3 w'
  B7 : ∀ a1 a2 w, Two W a1 s4 a2 c3 w → Calls Try.prog 22 #[.pointer (some ⟨a2, 0, none⟩), .string ⟨#[97]⟩] w fun e w' => e = .returned (.tuple #[.string ⟨#[]⟩, .int .i64 7]) ∧ w = w'
  B8 : ∀ a1 a2 w, Two W a1 s4 a2 c3 w → Calls Try.prog 18 #[.pointer (some ⟨a2, 0, none⟩)] w fun e w' => e = .returned (.bool true) ∧ w = w'
  B9 : ∀ a1 a2 w, Two W a1 s4 a2 c3 w → Calls Try.prog 24 #[.pointer (some ⟨a2, 0, none⟩), .slice none 0 0, .slice none 0 0] w fun e w' => e = .returned (.tuple #[]) ∧ Two W a1 s4 a2 c4 w'
  B10 : ∀ a1 a2 w, Two W a1 s4 a2 c4 w → Calls Try.prog 22 #[.pointer (some ⟨a2, 0, none⟩), .string ⟨#[97]⟩] w fun e w' => e = .returned (.tuple #[.string ⟨#[]⟩, .int .i64 0]) ∧ w = w'
theorem shownSteps (W : World) : ShownSteps W (newD 100) shS1 shS2 shS3 shS4 (newD 3) shC1 shC2 shC3 shC4 where
  A1 := fun a1 a2 w h => h.opL (fun S hS => app_is hS ⟨#[97]⟩ ⟨#[120, 121]⟩ (by decide) (by decide) _ _ shE1)
  A2 := fun a1 a2 w h => h.opL (fun S hS => syn_is hS ⟨#[97]⟩ (by decide) _ _ shE2)
  A3 := fun a1 a2 w h => h.opL (fun S hS => app_is hS ⟨#[97]⟩ ⟨#[122, 122, 122]⟩ (by decide) (by decide) _ _ shE3)
  A4 := fun a1 a2 w h => by
    obtain ⟨S1, S2, h1, h2, h3, h4, h5, h6⟩ := h
    exact (crash_one h1 2 1 (by omega) _ shE4).mono fun e w' ⟨he, hD, hc⟩ => ⟨he, Two.step h1 h2 h3 h4 h5 h6 hD hc⟩
  A5 := fun a1 a2 w h => by
    obtain ⟨S1, S2, h1, _⟩ := h
    exact read_is h1 ⟨#[97]⟩ (by decide) _ _ shE5
  B1 := fun a1 a2 w h => h.opR (fun S hS => app_is hS ⟨#[97]⟩ ⟨#[49, 50, 51, 52]⟩ (by decide) (by decide) _ _ shF1)
  B2 := fun a1 a2 w h => h.opR (fun S hS => app_is hS ⟨#[65]⟩ ⟨#[49]⟩ (by decide) (by decide) _ _ shF2)
  B3 := fun a1 a2 w h => h.opR (fun S hS => syn_is hS ⟨#[98]⟩ (by decide) _ _ shF3)
  B4 := fun a1 a2 w h => h.tailR (fun S hS => fuse_is hS 1 (by omega) _ shF4)
  B5 := fun a1 a2 w h => h.opR (fun S hS => app_is hS ⟨#[97]⟩ ⟨#[49]⟩ (by decide) (by decide) _ _ shF5)
  B6 := fun a1 a2 w h => h.opR (fun S hS => syn_is hS ⟨#[97]⟩ (by decide) _ _ shF6)
  B7 := fun a1 a2 w h => by
    obtain ⟨S1, S2, _, h2, _⟩ := h
    exact read_is h2 ⟨#[97]⟩ (by decide) _ _ shF7
  B8 := fun a1 a2 w h => by
    obtain ⟨S1, S2, _, ⟨mb, F, h2⟩, _⟩ := h
    exact dead_any h2
  B9 := fun a1 a2 w h => h.tailR (fun S hS => crash_nil hS _ shF8)
  B10 := fun a1 a2 w h => by
    obtain ⟨S1, S2, _, h2, _⟩ := h
    exact read_is h2 ⟨#[97]⟩ (by decide) _ _ shF9

theorem isName_a1 : isName (ByteArray.mk #[97, 49]).data.toList = true := by decide
theorem isName_none : isName (ByteArray.mk #[]).data.toList = false := by decide

set_option maxHeartbeats 8000000 in
theorem shown_any (w : World) : Calls Try.prog 9 #[] w fun e w' => e = .returned (.bool true) ∧ Below w.heap.size w w' := by
  have H := shownSteps w
  have HN1 := hid (new_ok 100 w (by omega) (by omega))
  have HN2 := hid (fun wx => new_ok 3 wx (by omega) (by omega))
  have HN3 := hid (fun wx => new_bad (-1) wx (by omega))
  have HM1 := hid (fun wx => name_is ⟨#[97, 49]⟩ (by decide) true isName_a1 wx)
  have HM2 := hid (fun wx => name_is ⟨#[]⟩ (by decide) false isName_none wx)
  generalize newD 100 = s0 at *
  generalize newD 3 = c0 at *
  generalize shS1 = s1 at *
  generalize shS2 = s2 at *
  generalize shS3 = s3 at *
  generalize shS4 = s4 at *
  generalize shC1 = c1 at *
  generalize shC2 = c2 at *
  generalize shC3 = c3 at *
  generalize shC4 = c4 at *
  have HH := hid H
  clear H
  go_enter Try.func9, Try.ntmps9
  go_wp2_with (first
    | (go_at_call 11; first
        | ((with_reducible refine HN1.out.mono ?_); rintro e w1 ⟨a1, S1, rfl, hD1, hS1, hb1⟩; have HD1 := hid hD1; have HS1 := hid hS1; clear hD1 hS1)
        | ((with_reducible refine (HN2.out _).mono ?_); rintro e w2 ⟨a2, S2, rfl, hD2, hS2, hb2⟩; have hT : Hid (Two w a1 s0 a2 c0 w2) := hid ⟨S1, S2, HD1.out.below hb2, hD2, fun b h1 h2 => by have := HD1.out.lt b h1; have := hS2 b h2; omega, HS1.out, fun b h => by have := hS2 b h; have := hb1.size; omega, hb1.trans (hb2.mono hb1.size)⟩; clear hD2 hS2 hb2)
        | ((with_reducible refine (HN3.out _).mono ?_); rintro e w3 ⟨rfl, rfl⟩))
    | (go_at_call 27; first
        | ((with_reducible refine (HH.out.A1 _ _ _ hT.out).mono ?_); rintro e w3 ⟨rfl, hT⟩; have hT := hid hT)
        | ((with_reducible refine (HH.out.A3 _ _ _ hT.out).mono ?_); rintro e w3 ⟨rfl, hT⟩; have hT := hid hT)
        | ((with_reducible refine (HH.out.B1 _ _ _ hT.out).mono ?_); rintro e w3 ⟨rfl, hT⟩; have hT := hid hT)
        | ((with_reducible refine (HH.out.B2 _ _ _ hT.out).mono ?_); rintro e w3 ⟨rfl, hT⟩; have hT := hid hT)
        | ((with_reducible refine (HH.out.B5 _ _ _ hT.out).mono ?_); rintro e w3 ⟨rfl, hT⟩; have hT := hid hT))
    | (go_at_call 28; first
        | ((with_reducible refine (HH.out.A2 _ _ _ hT.out).mono ?_); rintro e w3 ⟨rfl, hT⟩; have hT := hid hT)
        | ((with_reducible refine (HH.out.B3 _ _ _ hT.out).mono ?_); rintro e w3 ⟨rfl, hT⟩; have hT := hid hT)
        | ((with_reducible refine (HH.out.B6 _ _ _ hT.out).mono ?_); rintro e w3 ⟨rfl, hT⟩; have hT := hid hT))
    | (go_at_call 25; ((with_reducible refine (HH.out.B4 _ _ _ hT.out).mono ?_); rintro e w3 ⟨rfl, hT⟩; have hT := hid hT))
    | (go_at_call 24; first
        | ((with_reducible refine (HH.out.A4 _ _ _ hT.out).mono ?_); rintro e w3 ⟨rfl, hT⟩; have hT := hid hT)
        | ((with_reducible refine (HH.out.B9 _ _ _ hT.out).mono ?_); rintro e w3 ⟨rfl, hT⟩; have hT := hid hT))
    | (go_at_call 22; first
        | ((with_reducible refine (HH.out.A5 _ _ _ hT.out).mono ?_); rintro e w3 ⟨rfl, rfl⟩)
        | ((with_reducible refine (HH.out.B7 _ _ _ hT.out).mono ?_); rintro e w3 ⟨rfl, rfl⟩)
        | ((with_reducible refine (HH.out.B10 _ _ _ hT.out).mono ?_); rintro e w3 ⟨rfl, rfl⟩))
    | (go_at_call 18; ((with_reducible refine (HH.out.B8 _ _ _ hT.out).mono ?_); rintro e w3 ⟨rfl, rfl⟩))
    | (go_at_call 13; first
        | ((with_reducible refine (HM1.out _).mono ?_); rintro e w3 ⟨rfl, rfl⟩)
        | ((with_reducible refine (HM2.out _).mono ?_); rintro e w3 ⟨rfl, rfl⟩)))
  go_ret
  obtain ⟨_, _, _, _, _, _, _, hbf⟩ := hT.out
  exact ⟨rfl, hbf⟩
end Go.Proofs.Ytcinegkikahchaa
