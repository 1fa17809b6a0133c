import Derived.Test.YtbccikefccdekaaGreatDoorSnShownJ
import Derived.Test.YtbccikefccdekaaGreatDoorMq7J
/-
  LAYER 4 (snap), the law SnapKeeps: what stands between two Saves.
-/
namespace Go.Proofs.YtbccikefccdekaaGreatDoor
open Go.RowKit Go.Shelf
attribute [local go_sem] Oper.semAt_some
set_option linter.unusedVariables false
set_option maxRecDepth 100000

/-- A base in a box of the law's: its row lies below W, or it has none. -/
def KBox (W : World) (g : Nat) (b : Bs) (wr : World) : Prop := ∃ vv, own wr g (bcells b vv) 24 ∧ BAt wr vv b ∧ (b.vot ≠ [] → ∀ x, vv.ownBlock = some x → x < W.heap.size)
/-- Between two Saves: o was saved last; nx is what may stand besides; dead or not. -/
structure KSt (W : World) (a P Q : Nat) (o : Option Bs) (nx : Bs) (s : Dk) (wr : World) : Prop where
  disk : ∃ T, DiskIs wr T a s ∧ (∀ x, T x → W.heap.size ≤ x) ∧ ¬ T P ∧ ¬ T Q
  was : KBox W P (o.getD bs0) wr
  nxt : KBox W Q nx wr
  bel : Below W.heap.size W wr
  gP : W.heap.size ≤ P
  gQ : W.heap.size ≤ Q
  ne : P ≠ Q
  ro : oRight o
  most : s.dead = false → s.most = 100000
  len : oLen o ≤ 10000
  st : (Hs s o none ∧ nx = o.getD bs0) ∨ (rightS nx = true ∧ s.dead = true ∧ (Dies s o ∨ (s.Ok ∧ s.dead = true ∧ s.L = bothL o nx)))
section
variable {W wr w' : World} {a P Q : Nat} {o : Option Bs} {nx : Bs} {s : Dk}
theorem KBox.below {g : Nat} {b : Bs} (h : KBox W g b wr) (hb : Below wr.heap.size wr w') : KBox W g b w' := by
  obtain ⟨vv, h1, h2, h3⟩ := h
  exact ⟨vv, h1.same (hb.block _ h1.lt), h2.below hb, h3⟩
theorem KBox.chg {g : Nat} {b : Bs} {T : Nat → Prop} (h : KBox W g b wr) (hc : Chg T wr w') (hT : ∀ x, T x → W.heap.size ≤ x) (hg : ¬ T g) : KBox W g b w' := by
  obtain ⟨vv, h1, h2, h3⟩ := h
  exact ⟨vv, h1.chg hc hg, bAt_chg0 h2 hc (fun hn x hx e => by have := h3 hn x hx; have := hT x e; omega), h3⟩
theorem KSt.later (h : KSt W a P Q o nx s wr) (hb : Below wr.heap.size wr w') : KSt W a P Q o nx s w' := by
  obtain ⟨T, h1, h2, h3, h4⟩ := h.disk
  exact ⟨⟨T, diskIs_below h1 hb, h2, h3, h4⟩, h.was.below hb, h.nxt.below hb, h.bel.trans (hb.mono h.bel.size), h.gP, h.gQ, h.ne, h.ro, h.most, h.len, h.st⟩
theorem small_pack {b : Bs} (hr : rightS b = true) (hs : smallB b = true) : (packS b).length ≤ 6000 := by
  have h1 := headS_len hr
  have h2 := packS_len b
  unfold smallB at hs
  simp only [Bool.and_eq_true, decide_eq_true_eq] at hs
  omega
theorem KSt.dead (h : KSt W a P Q o nx s wr) : Calls Tryz.prog 18 #[.pointer (some ⟨a, 0, none⟩)] wr fun e w' => e = .returned (.bool s.dead) ∧ wr = w' := by
  obtain ⟨T, ⟨mb, F, h1⟩, _⟩ := h.disk
  exact dead_any h1
/-- What Load gives behind the crash. -/
theorem KSt.load (h : KSt W a P Q o nx s wr) (ks ns : List Int) : (crash s ks ns).dead = false ∧ (loadS (crash s ks ns) = o ∨ (rightS nx = true ∧ loadS (crash s ks ns) = some nx)) := by
  refine ⟨rfl, ?_⟩
  rcases h.st with ⟨h1, _⟩ | ⟨h1, _, h2⟩
  · exact .inl (calm_load h.ro h1 ks ns)
  · rcases died_load h.ro h1 h2 ks ns with k | k
    · exact .inl k
    · exact .inr ⟨h1, k⟩
/-- What a Save answers, and what the law then makes of its boxes. -/
def KSv (W : World) (a P Q : Nat) (o : Option Bs) (nx b : Bs) (s : Dk) (k : Int) (w' : World) : Prop :=
  ∃ s', (∃ T, DiskIs w' T a s' ∧ (∀ x, T x → W.heap.size ≤ x) ∧ ¬ T P ∧ ¬ T Q) ∧ KBox W P (o.getD bs0) w' ∧ KBox W Q nx w' ∧ Below W.heap.size W w' ∧ (s'.dead = false → s'.most = 100000) ∧
    ((k = 0 ∧ rightS b = true ∧ Hs s' (some b) none) ∨ (k = 1 ∧ Hs s' o none) ∨ (k = 7 ∧ rightS b = true ∧ s'.dead = true ∧ (Dies s' o ∨ (s'.Ok ∧ s'.dead = true ∧ s'.L = bothL o b))))
theorem KSt.save {B0 : Nat} {b : Bs} {vv : Value} (h : KSt W a P Q o nx s wr) (hd : Hs s o none) (hb : BAt wr vv b) (hv : b.vot ≠ [] → ∀ x, vv.ownBlock = some x → x < W.heap.size) (hs : smallB b = true) (hg : Sn.Glob W B0) (hB0 : B0 ≤ W.heap.size) :
    Calls Tryz.prog 19 #[.pointer (some ⟨a, 0, none⟩), bval b vv] wr fun e w' => e = .returned (.int .i64 (saveS s b).2) ∧ KSv W a P Q o nx b s (saveS s b).2 w' := by
  obtain ⟨T, h1, h2, h3, h4⟩ := h.disk
  have := save_any0 (B0 := B0) h1 hb (hg.below h.bel hB0) (Nat.le_trans hB0 h.bel.size) (fun x e => Nat.le_trans hB0 (h2 x e)) (fun hn x e q => by have := hv hn x e; have := h2 x q; omega)
  refine this.mono ?_
  rintro e w' ⟨he, hdk, hc⟩
  have hz := h.bel.size
  have hlt := diskIs_ltS h1
  obtain ⟨v1, oP, _, _⟩ := h.was
  obtain ⟨v2, oQ, _, _⟩ := h.nxt
  have hPl := oP.lt
  have hQl := oQ.lt
  refine ⟨he, _, ⟨_, hdk, fun x e => ?_, fun e => ?_, fun e => ?_⟩, h.was.chg hc h2 h3, h.nxt.chg hc h2 h4, h.bel.trans (hc.below hz h2), ?_⟩
  · rcases e with e | e
    · exact h2 x e
    · omega
  · rcases e with e | e
    · exact h3 e
    · omega
  · rcases e with e | e
    · exact h4 e
    · omega
  · cases hr : rightS b with
    | false =>
      rw [save_bad hr]
      exact ⟨h.most, .inr (.inl ⟨rfl, hd⟩)⟩
    | true =>
      have hp := small_pack hr hs
      have hl := h.len
      rcases save_cases hd h.ro hr (by rw [h.most hd.dead]; omega) with ⟨k1, _, k2⟩ | ⟨k1, k2, k3, _⟩
      · have hdd : (saveS s b).1.dead = true := by
          rcases k2 with k | k
          · exact k.2.1
          · exact k.2.1
        exact ⟨(fun e => by rw [hdd] at e; cases e), .inr (.inr ⟨k1, rfl, hdd, k2⟩)⟩
      · exact ⟨fun _ => k3.trans (h.most hd.dead), .inl ⟨k1, rfl, k2⟩⟩
theorem KSt.outs {b : Bs} (h : KSt W a P Q o nx s wr) (hd : Hs s o none) (hs : smallB b = true) : (saveS s b).2 = 0 ∨ (saveS s b).2 = 1 ∨ (saveS s b).2 = 7 := by
  cases hr : rightS b with
  | false => rw [save_bad hr]; exact .inr (.inl rfl)
  | true =>
    have hp := small_pack hr hs
    have hl := h.len
    rcases save_cases hd h.ro hr (by rw [h.most hd.dead]; omega) with ⟨k1, _⟩ | ⟨k1, _⟩
    · exact .inr (.inr k1)
    · exact .inl k1
/-- A base stored into a box. -/
abbrev kst (w : World) (g : Nat) (b : Bs) (vv : Value) : World := qst4 w g (.int .i64 b.ix) (.int .i64 b.tm) vv (.string (mk b.data))
theorem KBox.put {g : Nat} {b0 b : Bs} {vv : Value} (h : KBox W g b0 wr) (hb : BAt wr vv b) (hv : b.vot ≠ [] → ∀ x, vv.ownBlock = some x → x < W.heap.size) (hg : W.heap.size ≤ g) : KBox W g b (kst wr g b vv) := by
  obtain ⟨v0, h1, _, _⟩ := h
  exact ⟨vv, qst4_own h1 _ _ _ _, bAt_chg0 hb (qst4_chg wr g _ _ _ _) (fun hn x hx e => by have := hv hn x hx; have e' : x = g := e; omega), hv⟩
theorem KBox.beside {g q : Nat} {b0 b : Bs} {vv : Value} (h : KBox W g b0 wr) (hq : W.heap.size ≤ q) (hne : g ≠ q) : KBox W g b0 (kst wr q b vv) :=
  h.chg (qst4_chg wr q _ _ _ _) (fun x e => by rw [show x = q from e]; exact hq) (fun e => hne e)
theorem disk_beside {q : Nat} {b : Bs} {vv : Value} {T : Nat → Prop} (h : DiskIs wr T a s) (hq : ¬ T q) : DiskIs (kst wr q b vv) T a s :=
  diskIs_chg h (qst4_chg wr q _ _ _ _) (fun x e k => hq (by rw [← show x = q from k]; exact e))
end
end Go.Proofs.YtbccikefccdekaaGreatDoor

