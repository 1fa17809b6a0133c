/-
  LAYER 6 (net), THE PROGRAM: the net in memory; New, Split, Whole, Lost, Flight, Apart, look.
-/
import Derived.Test.YtclkhkoappjgdaaNpIn
import Derived.Deep.RegionHeld3
import Derived.StillTailTactics
import Derived.Laws.EntriesVeiled
namespace Go.Proofs.Ytclkhkoappjgdaa
open Go.RowKit Go.Maps
set_option linter.unusedVariables false
set_option maxRecDepth 100000

/-- The program's net at r; T: the blocks of the group. -/
structure PNet (w : World) (T : Nat → Prop) (r : Nat) (lv fv : Value) (s : Nt) : Prop where
  head : own w r #[lv, .int .i64 (s.lost : Int), fv] 57
  row : ROwn plTy w lv s.L
  grp : InAt w T fv s.G
  ap1 : lv.ownBlock ≠ some r
  tr : ¬ T r
  tl : ∀ b, lv.ownBlock = some b → ¬ T b
  tlt : ∀ b, T b → b < w.heap.size
  ll : s.L.length ≤ 300
  lo : s.lost ≤ 100000
  sane : ∀ x ∈ s.L, I64' x.fr ∧ I64' x.to_
theorem PNet.same {w w' : World} {T : Nat → Prop} {r : Nat} {lv fv : Value} {s : Nt} (h : PNet w T r lv fv s) (hz : w.heap.size ≤ w'.heap.size) (hs : ∀ b, b = r ∨ lv.ownBlock = some b ∨ T b → b < w.heap.size → w'.heap[b]? = w.heap[b]?) : PNet w' T r lv fv s :=
  ⟨h.head.same (hs r (.inl rfl) h.head.lt), h.row.same (fun b e => hs b (.inr (.inl e)) (h.row.lt b e)), h.grp.same (fun b e => hs b (.inr (.inr e)) (h.tlt b e)), h.ap1, h.tr, h.tl, fun b e => Nat.lt_of_lt_of_le (h.tlt b e) hz, h.ll, h.lo, h.sane⟩
theorem PNet.below {w w' : World} {T : Nat → Prop} {r : Nat} {lv fv : Value} {s : Nt} (h : PNet w T r lv fv s) (hb : Below w.heap.size w w') : PNet w' T r lv fv s := h.same hb.size (fun b _ hl => hb.block b hl)
/-- What a call that turns the net leaves. -/
structure PTurn (w w' : World) (T : Nat → Prop) (r : Nat) (lv lv' fv : Value) (s' : Nt) : Prop where
  is : PNet w' T r lv' fv s'
  chg : Chg (fun b => b = r ∨ lv.ownBlock = some b) w w'
  new : ∀ b, lv'.ownBlock = some b → lv.ownBlock = some b ∨ (w.heap.size ≤ b ∧ b < w'.heap.size)
theorem PTurn.of_below {w w' : World} {T : Nat → Prop} {r : Nat} {lv fv : Value} {s : Nt} (h : PNet w T r lv fv s) (hb : Below w.heap.size w w') : PTurn w w' T r lv lv fv s := ⟨h.below hb, Chg.of_below hb, fun _ e => .inl e⟩
theorem PTurn.trans {w w1 w2 : World} {T : Nat → Prop} {r : Nat} {lv lv1 lv2 fv : Value} {s1 s2 : Nt} (h : PTurn w w1 T r lv lv1 fv s1) (k : PTurn w1 w2 T r lv1 lv2 fv s2) : PTurn w w2 T r lv lv2 fv s2 :=
  ⟨k.is, h.chg.trans k.chg (fun b e => by
    rcases e with e | e
    · exact .inl (.inl e)
    · rcases h.new b e with e | e
      · exact .inl (.inr e)
      · exact .inr e.1), fun b e => by
    have z1 := h.chg.size
    have z2 := k.chg.size
    rcases k.new b e with e | e
    · rcases h.new b e with e | e
      · exact .inl e
      · exact .inr ⟨e.1, by omega⟩
    · exact .inr ⟨by omega, e.2⟩⟩
section
variable {w : World} {T : Nat → Prop} {r : Nat} {lv fv : Value} {s : Nt}
theorem pLost_any (h : PNet w T r lv fv s) : Calls Try.prog 17 #[.pointer (some ⟨r, 0, none⟩)] w fun e w' => e = .returned (.int .i64 (s.lost : Int)) ∧ w = w' := by
  have c1 : w.cell? ⟨r, 1, none⟩ = some (.int .i64 (s.lost : Int)) := (h.head.cell 1).trans rfl
  clear h
  go_enter Try.func17, Try.ntmps17
  go_wp2
  go_ret
  exact ⟨rfl, rfl⟩
theorem pWhole_any (h : PNet w T r lv fv s) : Calls Try.prog 23 #[.pointer (some ⟨r, 0, none⟩)] w fun e w' => e = .returned (.tuple #[]) ∧ PTurn w w' T r lv lv .nilFunc { s with G := [] } := by
  have c2 : w.cell? ⟨r, 2, none⟩ = some fv := (h.head.cell 2).trans rfl
  have f2 := h.head.frozen 2
  have hs : ∀ b, b ≠ r → (w.setCell ⟨r, 2, none⟩ .nilFunc).heap[b]? = w.heap[b]? := fun b hb => Below.heap_setCell _ _ _ _ hb
  have hsz : (w.setCell ⟨r, 2, none⟩ .nilFunc).heap.size = w.heap.size := setCell_size _ _ _
  have HT : Hid (PTurn w (w.setCell ⟨r, 2, none⟩ .nilFunc) T r lv lv .nilFunc { s with G := [] }) := hid
    ⟨⟨h.head.set 2 _, h.row.same (fun b e => hs b (fun h' => h.ap1 (by rw [e, h']))), .inl ⟨rfl, rfl⟩, h.ap1, h.tr, h.tl, by rw [hsz]; exact h.tlt, h.ll, h.lo, h.sane⟩, (Chg.setCell w ⟨r, 2, none⟩ _).mono (fun b e => .inl e), fun b e => .inl e⟩
  clear h hs
  go_enter Try.func23, Try.ntmps23
  go_wp2
  go_end0
  exact ⟨rfl, HT.out⟩
def SplitPost (w : World) (r : Nat) (lv : Value) (s : Nt) (G : List Int) (e : Ending) (w' : World) : Prop :=
  e = .returned (.tuple #[]) ∧ ∃ T fv, PNet w' T r lv fv { s with G := G } ∧ Chg (fun b => b = r) w w' ∧ ∀ b, T b → w.heap.size ≤ b ∧ b < w'.heap.size
theorem pSplit_any (h : PNet w T r lv fv s) {gv : Value} {G : List Int} (hg : RAt numTy w gv G) (hx : ∀ n ∈ G, I64' n) (hl : G.length ≤ 1000) :
    Calls Try.prog 21 #[.pointer (some ⟨r, 0, none⟩), gv] w (SplitPost w r lv s G) := by
  have HA := hid (among_any hg hx hl)
  obtain ⟨ao, cap, rfl, _⟩ := nums_at hg
  have hr := h.head.lt
  have HP : Hid (∀ w1 c T1, InAt w1 T1 (.func (.func 39) #[] #[.pointer (some ⟨c, 0, none⟩)]) G → Below w.heap.size w w1 → (∀ b, T1 b → w.heap.size ≤ b ∧ b < w1.heap.size) →
      w1.cell? ⟨r, 2, none⟩ = some fv ∧ w1.frozen? ⟨r, 2, none⟩ = false ∧ Hid (SplitPost w r lv s G (.returned (.tuple #[])) (w1.setCell ⟨r, 2, none⟩ (.func (.func 39) #[] #[.pointer (some ⟨c, 0, none⟩)])))) := hid (fun w1 c T1 hi hb hT => by
    have h1 := h.below hb
    have hs : ∀ b, b ≠ r → (w1.setCell ⟨r, 2, none⟩ (.func (.func 39) #[] #[.pointer (some ⟨c, 0, none⟩)])).heap[b]? = w1.heap[b]? := fun b hb => Below.heap_setCell _ _ _ _ hb
    have hsz : (w1.setCell ⟨r, 2, none⟩ (.func (.func 39) #[] #[.pointer (some ⟨c, 0, none⟩)])).heap.size = w1.heap.size := setCell_size _ _ _
    refine ⟨(h1.head.cell 2).trans rfl, h1.head.frozen 2, hid ⟨rfl, T1, _, ⟨h1.head.set 2 _, h1.row.same (fun b e => hs b (fun h' => h1.ap1 (by rw [e, h']))), hi.same (fun b e => hs b (by have := hT b e; omega)), h1.ap1, fun e => by have := hT r e; omega, fun b e e' => ?_, fun b e => by rw [hsz]; exact (hT b e).2, h1.ll, h1.lo, h1.sane⟩, (Chg.of_below hb).trans (Chg.setCell w1 ⟨r, 2, none⟩ _) (fun b e => .inl e), fun b e => by rw [hsz]; exact hT b e⟩⟩
    have := hT b e'
    have := h.row.lt b e
    omega)
  clear h hg hx
  go_enter Try.func21, Try.ntmps21
  go_wp2_with (go_at_call 35; (with_reducible refine HA.out.mono ?_); rintro e w1 ⟨c, T1, rfl, hi, hb, hT⟩; obtain ⟨c2, f2, hP⟩ := HP.out _ _ _ hi hb hT; clear hi hb hT)
  go_end0
  exact hP.out
def LookPost (w : World) (s : Nt) (k : Int) (e : Ending) (w' : World) : Prop :=
  (∃ n x, ∃ hn : n < s.L.length, s.L[n] = x ∧ k = (n : Int) ∧ e = .returned (.tuple #[.agg #[.int .i64 x.fr, .int .i64 x.to_, .string x.dt], .bool true]) ∧ Below w.heap.size w w') ∨
  ((k < 0 ∨ (s.L.length : Int) ≤ k) ∧ e = .returned (.tuple #[.agg #[.int .i64 0, .int .i64 0, .string ⟨#[]⟩], .bool false]) ∧ Below w.heap.size w w')
abbrev pl0 : Obj := .cells #[.int .i64 0, .int .i64 0, .string ⟨#[]⟩] 37
theorem pLook_no (h : PNet w T r lv fv s) {k : Int} (hk : k < 0 ∨ (s.L.length : Int) ≤ k) :
    Calls Try.prog 36 #[.pointer (some ⟨r, 0, none⟩), .int .i64 k] w fun e w' => e = .returned (.tuple #[.agg #[.int .i64 0, .int .i64 0, .string ⟨#[]⟩], .bool false]) ∧ Below w.heap.size w w' := by
  have hb0 : Below w.heap.size w (w.alloc pl0) := (Below.refl _ _).alloc (Nat.le_refl _) _
  have h' := h.below hb0
  obtain ⟨ao, cap, rfl, _⟩ := h.row.slice
  have c0 : (w.alloc (.cells #[.int .i64 0, .int .i64 0, .string ⟨#[]⟩] 37)).cell? ⟨r, 0, none⟩ = some (.slice ao s.L.length cap) := (h'.head.cell 0).trans rfl
  clear h h'
  by_cases h0 : k < 0
  · clear hk
    go_enter Try.func36, Try.ntmps36
    go_wp2
    exact bodyPost_ret (v := .tuple #[.agg #[.int .i64 0, .int .i64 0, .string ⟨#[]⟩], .bool false]) (by simp [results, Try.results36, go_sem]) rfl ⟨rfl, hb0⟩
  · have h1 : 0 ≤ k := by omega
    have h2 : (s.L.length : Int) ≤ k := by omega
    clear hk
    go_enter Try.func36, Try.ntmps36
    go_wp2
    exact bodyPost_ret (v := .tuple #[.agg #[.int .i64 0, .int .i64 0, .string ⟨#[]⟩], .bool false]) (by simp [results, Try.results36, go_sem]) rfl ⟨rfl, hb0⟩
end
end Go.Proofs.Ytclkhkoappjgdaa
