/-
  LAYER 7 (msg), THE PROGRAM: toBase.
-/
import Derived.Test.YtppjojjejabaeaaMsOne
namespace Go.Proofs.Ytppjojjejabaeaa
open Go.RowKit
set_option linter.unusedVariables false
set_option maxRecDepth 100000

/-- A base, read: its Index, Term, voters and data. -/
def dBs (l : List UInt8) : Option ((Int × Int × List Int × ByteArray) × List UInt8) := (dNs 2 l).bind fun e => (dV e.2).bind fun f => (dT f.2).map fun g => ((e.1.getD 0 0, e.1.getD 1 0, f.1, g.1), g.2)
theorem dNs_shorter {n : Nat} {l r : List UInt8} {xs : List Int} (h : dNs n l = some (xs, r)) : r.length ≤ l.length := by
  have := (dNs_sound n l xs r h).2.2
  rw [this, List.length_append]
  omega
/-- What toBase leaves. -/
def TBPost (w : World) (q : Option ((Int × Int × List Int × ByteArray) × List UInt8)) (e : Ending) (w' : World) : Prop :=
  Below w.heap.size w w' ∧ ∃ x y a n c d s, e = .returned (.tuple #[.agg #[.int .i64 x, .int .i64 y, .slice a n c, .string d], .string s, .bool q.isSome]) ∧ ∀ p, q = some p → s = mk p.2 ∧ p.1.1 = x ∧ p.1.2.1 = y ∧ p.1.2.2.2 = d ∧ n = p.1.2.2.1.length ∧ ROwn numTy w' (.slice a n c) p.1.2.2.1 ∧ ∀ b, (Value.slice a n c).ownBlock = some b → w.heap.size ≤ b
def snG (k : Nat) : FuncId := if k = 0 then 89 else 90
def snFs (mb : Nat) : Array Value := #[.func (.func 89) #[.pointer (some ⟨mb, 0, none⟩)] #[], .func (.func 90) #[.pointer (some ⟨mb, 0, none⟩)] #[]]
theorem snG_en : ∀ k, k < 2 → Enters (snG k)
  | 0, _ => en_s_index
  | 1, _ => en_s_term
  | k + 2, h => by omega
theorem snG_fs (mb : Nat) : ∀ k, k < 2 → (snFs mb)[k]? = some (takerV snG (fun _ => .pointer (some ⟨mb, 0, none⟩)) k)
  | 0, _ => rfl
  | 1, _ => rfl
  | k + 2, h => by omega
theorem snG_set (mb : Nat) : ∀ k, k < 2 → ∀ (wx : World) (cs : Array Value), own wx mb cs 125 → k < cs.size → ∀ x : Int, Calls Try.prog (snG k) #[.pointer (some ⟨mb, 0, none⟩), .int .i64 x] wx fun e w' => e = .returned (.tuple #[]) ∧ w' = wx.setCell ⟨mb, k, none⟩ (.int .i64 x)
  | 0, _ => fun wx cs h hk x => set_s_index h hk x
  | 1, _ => fun wx cs h hk x => set_s_term h hk x
  | k + 2, h => by omega
def fnV : TypeId := 127
def bsRest : List Value := [.slice none 0 0, .string ⟨#[]⟩]
def voF (mb : Nat) : Array Value := #[.func (.func 92) #[.pointer (some ⟨mb, 0, none⟩)] #[]]
def sdF (mb : Nat) : Array Value := #[.func (.func 93) #[.pointer (some ⟨mb, 0, none⟩)] #[]]
structure TBEnd (w : World) (eb mb rb : Nat) (q : Option ((Int × Int × List Int × ByteArray) × List UInt8)) (wx : World) (x y : Int) (a : Option Addr) (n c : Nat) (d s : ByteArray) : Prop where
  res : own wx eb #[.int .i64 0, .int .i64 0, .slice none 0 0, .string ⟨#[]⟩] 25
  box : own wx mb #[.int .i64 x, .int .i64 y, .slice a n c, .string d] 125
  rd : own wx rb (rdrCells s q.isSome) 95
  below : Below w.heap.size w wx
  eq : ∀ p, q = some p → s = mk p.2 ∧ p.1.1 = x ∧ p.1.2.1 = y ∧ p.1.2.2.2 = d ∧ n = p.1.2.2.1.length ∧ ROwn numTy wx (.slice a n c) p.1.2.2.1 ∧ ∀ b, (Value.slice a n c).ownBlock = some b → eb < b
theorem tb_nums (l : List UInt8) (hl : l.length ≤ 10000000) (wB : World) (eb mb rb : Nat) (hz : wB.heap.size = rb + 1) (hrm : rb = mb + 1) (hme : mb = eb + 1)
    (hbox : own wB mb #[.int .i64 0, .int .i64 0, .slice none 0 0, .string ⟨#[]⟩] 125) (hrd : own wB rb #[.string (mk l), .bool true] 95) :
    Calls Try.prog 59 #[.pointer (some ⟨rb, 0, none⟩), .func (.func 43) #[] #[], .slice (some ⟨rb + 1, 0, none⟩) 2 2] (wB.alloc (.cells (snFs mb) fnI)) fun e w' => e = .returned (.tuple #[]) ∧ Hid (∃ ns, NmPost (wB.alloc (.cells (snFs mb) fnI)) mb rb 2 125 bsRest l w' ns) := by
  have ho := own.nw (w := wB) (cs := snFs mb) (T := fnI) hz
  exact readNums (w := wB.alloc (.cells (snFs mb) fnI)) (rest := bsRest) snG_en (snG_fs mb) (snG_set mb) (by omega) (by omega) (by omega) (by omega) [0, 0] rfl (hbox.al _) (hrd.al _) (by omega) ho
theorem tb_vot {w1 w2 : World} {mb rb : Nat} {l : List UInt8} {ns : List Int} (hl : l.length ≤ 10000000) (hp : NmPost w1 mb rb 2 125 bsRest l w2 ns) (hrm : rb = mb + 1) :
    Calls Try.prog 91 #[.pointer (some ⟨rb, 0, none⟩), .func (.func 21) #[] #[], .slice (some ⟨w2.heap.size, 0, none⟩) 1 1] (w2.alloc (.cells (voF mb) fnV)) fun e w' => e = .returned (.tuple #[]) ∧ Hid (∃ a n c, VxPost (w2.alloc (.cells (voF mb) fnV)) mb rb 2 125 (intsV ns bsRest) ((dNs 2 l).map fun p => p.2) w' a n c) := by
  have hlt := hp.rd.lt
  have hc : (intsV ns bsRest)[2]? = some (.slice none 0 0) := by
    obtain ⟨x, y, rfl⟩ : ∃ x y, ns = [x, y] := by
      match ns, hp.len with
      | [x, y], _ => exact ⟨x, y, rfl⟩
    rfl
  refine readVx (w := w2.alloc (.cells (voF mb) fnV)) en_s_voters (fun wx h a n c => set_s_voters h (by simp [intsV, hp.len, bsRest]) a n c) (by omega) (by omega) (by omega) hc (hp.box.al _) (hp.rd.same (Below.heap_alloc _ _ _ hlt)) ?_ (own.new w2 _ _)
  intro l' hl'
  cases hd : dNs 2 l with
  | none => rw [hd] at hl'; cases hl'
  | some p =>
    rw [hd] at hl'
    cases hl'
    have := dNs_shorter (show dNs 2 l = some (p.1, p.2) from hd)
    show p.2.length ≤ 10000000
    omega
theorem tb_text {w1 w2 w3 w4 : World} {mb rb : Nat} {l : List UInt8} {ns : List Int} {a : Option Addr} {n c : Nat} (hp : NmPost w1 mb rb 2 125 bsRest l w2 ns) (hv : VxPost w3 mb rb 2 125 (intsV ns bsRest) ((dNs 2 l).map fun p => p.2) w4 a n c) (hrm : rb = mb + 1) :
    Calls Try.prog 76 #[.pointer (some ⟨rb, 0, none⟩), .func (.func 77) #[] #[], .slice (some ⟨w4.heap.size, 0, none⟩) 1 1] (w4.alloc (.cells (sdF mb) fnS)) fun e w' => e = .returned (.tuple #[]) ∧ Hid (∃ d, TxPost (w4.alloc (.cells (sdF mb) fnS)) mb rb 3 125 ((intsV ns bsRest).setIfInBounds 2 (.slice a n c)) (((dNs 2 l).map fun p => p.2).bind fun l => (dV l).map fun p => p.2) w' d) := by
  have hlt := hv.rd.lt
  have hc : ((intsV ns bsRest).setIfInBounds 2 (.slice a n c))[3]? = some (.string ⟨#[]⟩) := by
    obtain ⟨x, y, rfl⟩ : ∃ x y, ns = [x, y] := by
      match ns, hp.len with
      | [x, y], _ => exact ⟨x, y, rfl⟩
    rfl
  exact readText (w := w4.alloc (.cells (sdF mb) fnS)) en_s_data (fun wx h s hs => set_s_data h (by simp [intsV, hp.len, bsRest]) s hs) (by omega) (by omega) (by omega) hc (hv.box.al _) (hv.rd.same (Below.heap_alloc _ _ _ hlt)) (own.new w4 _ _)
theorem tb_end {w wB w2 w3 w4 : World} {l : List UInt8} {eb mb rb : Nat} {fs : Array Value} {F F2 F3 : TypeId} {f2 f3 : Array Value} {ns : List Int} {a : Option Addr} {n c : Nat} {d : ByteArray} (hb : Below w.heap.size w wB) (hrm : rb = mb + 1) (hme : mb = eb + 1) (heb : eb = w.heap.size) (hz : wB.heap.size = rb + 1)
    (hres : own wB eb #[.int .i64 0, .int .i64 0, .slice none 0 0, .string ⟨#[]⟩] 25)
    (h1 : NmPost (wB.alloc (.cells fs F)) mb rb 2 125 bsRest l w2 ns) (h2 : VxPost (w2.alloc (.cells f2 F2)) mb rb 2 125 (intsV ns bsRest) ((dNs 2 l).map fun p => p.2) w3 a n c)
    (h3 : TxPost (w3.alloc (.cells f3 F3)) mb rb 3 125 ((intsV ns bsRest).setIfInBounds 2 (.slice a n c)) (((dNs 2 l).map fun p => p.2).bind fun l => (dV l).map fun p => p.2) w4 d) :
    ∃ x y s, TBEnd w eb mb rb (dBs l) w4 x y a n c d s := by
  obtain ⟨x, y, rfl⟩ : ∃ x y, ns = [x, y] := by
    match ns, h1.len with
    | [x, y], _ => exact ⟨x, y, rfl⟩
  have hq : ((((dNs 2 l).map fun p => p.2).bind fun l => (dV l).map fun p => p.2).bind fun l => (dT l).map fun p => p.2) = (dBs l).map fun p => p.2 := by
    unfold dBs
    cases dNs 2 l with
    | none => rfl
    | some p =>
      simp only [Option.map_some, Option.bind_some]
      cases dV p.2 with
      | none => rfl
      | some f =>
        simp only [Option.map_some, Option.bind_some]
        cases dT f.2 <;> rfl
  have hrd := h3.rd
  rw [hq] at hrd
  have c1 : Chg (fun b => b = mb ∨ b = rb) wB w2 := (Chg.alloc _ wB _).trans h1.chg (fun b e => .inl e)
  have c2 : Chg (fun b => b = mb ∨ b = rb) w2 w3 := (Chg.alloc (fun b => b = mb ∨ b = rb) w2 _).trans h2.chg (fun b e => .inl e)
  have c3 : Chg (fun b => b = mb ∨ b = rb) w3 w4 := (Chg.alloc (fun b => b = mb ∨ b = rb) w3 _).trans h3.chg (fun b e => .inl e)
  have c4 : Chg (fun b => b = mb ∨ b = rb) wB w4 := (c1.trans c2 (fun b e => .inl e)).trans c3 (fun b e => .inl e)
  have z2 : rb + 1 ≤ w2.heap.size := by have := c1.size; omega
  obtain ⟨s, hs⟩ := hrd.any
  refine ⟨x, y, s, hres.chg c4 (by rintro (e | e) <;> omega), h3.box, ?_, hb.trans (c4.below hb.size (by rintro b (e | e) <;> omega)), ?_⟩
  · cases hd : dBs l with
    | none => rw [hd] at hs; exact hs
    | some p => rw [hd] at hs; exact hs
  · intro p hp
    have hp0 := hp
    unfold dBs at hp
    cases hn : dNs 2 l with
    | none => rw [hn] at hp; cases hp
    | some p1 =>
      rw [hn] at hp
      simp only [Option.bind_some] at hp
      cases hv : dV p1.2 with
      | none => rw [hv] at hp; cases hp
      | some p3 =>
        rw [hv] at hp
        simp only [Option.bind_some] at hp
        cases ht : dT p3.2 with
        | none => rw [ht] at hp; cases hp
        | some p2 =>
          rw [ht] at hp
          cases hp
          have e1 := h1.eq p1 hn
          have e3 := h2.eq p1.2 p3 (by rw [hn]; rfl) hv
          have e2 := h3.eq p3.2 p2 (by rw [hn]; simp only [Option.map_some, Option.bind_some]; rw [hv]; rfl) ht
          rw [hp0] at hrd
          have e4 := hrd.2.cell 0
          rw [hs.cell 0] at e4
          have e5 : some (Value.string s) = some (Value.string (mk p2.2)) := e4
          cases e5
          have hnew : ∀ b, (Value.slice a n c).ownBlock = some b → rb + 1 ≤ b := fun b hb' => by
            have h5 := e3.2.2 b hb'
            have : (w2.alloc (.cells f2 F2)).heap.size = w2.heap.size + 1 := by simp
            omega
          refine ⟨rfl, by simp only [e1]; rfl, by simp only [e1]; rfl, e2, e3.1, e3.2.1.same (fun b e => c3.block b (e3.2.1.lt b e) (by have := hnew b e; rintro (e' | e') <;> omega)), fun b e => by have := hnew b e; omega⟩
set_option maxHeartbeats 8000000 in
theorem toBase_any (l : List UInt8) (w : World) (hl : l.length ≤ 10000000) : Calls Try.prog 74 #[.string (mk l)] w (TBPost w (dBs l)) := by
  obtain ⟨wE, hwE⟩ : ∃ wE, w.alloc (.cells #[.int .i64 0, .int .i64 0, .slice none 0 0, .string ⟨#[]⟩] 25) = wE := ⟨_, rfl⟩
  obtain ⟨wM, hwM⟩ : ∃ wM, wE.alloc (.cells #[.int .i64 0, .int .i64 0, .slice none 0 0, .string ⟨#[]⟩] 125) = wM := ⟨_, rfl⟩
  obtain ⟨wB, hwB⟩ : ∃ wB, wM.alloc (.cells #[.string (mk l), .bool true] 95) = wB := ⟨_, rfl⟩
  have zE : wE.heap.size = w.heap.size + 1 := by rw [← hwE]; simp
  have zM : wM.heap.size = w.heap.size + 2 := by rw [← hwM]; simp [zE]
  have zB : wB.heap.size = w.heap.size + 3 := by rw [← hwB]; simp [zM]
  have oE : own wB w.heap.size #[.int .i64 0, .int .i64 0, .slice none 0 0, .string ⟨#[]⟩] 25 := by rw [← hwB, ← hwM, ← hwE]; exact ((own.new w _ _).al _).al _
  have oM : own wB (w.heap.size + 1) #[.int .i64 0, .int .i64 0, .slice none 0 0, .string ⟨#[]⟩] 125 := by rw [← hwB, ← hwM]; exact (own.nw zE).al _
  have oR : own wB (w.heap.size + 2) #[.string (mk l), .bool true] 95 := by rw [← hwB]; exact own.nw zM
  have hb : Below w.heap.size w wB := by
    rw [← hwB, ← hwM, ← hwE]
    exact (((Below.refl _ _).alloc (Nat.le_refl _) _).alloc (by simp) _).alloc (by simp; omega) _
  have H1 := hid (tb_nums l hl wB w.heap.size (w.heap.size + 1) (w.heap.size + 2) zB rfl rfl oM oR)
  have H2 : Hid (∀ w2 ns, NmPost (wB.alloc (.cells (snFs (w.heap.size + 1)) fnI)) (w.heap.size + 1) (w.heap.size + 2) 2 125 bsRest l w2 ns → _) := hid (fun w2 ns hp => tb_vot hl hp rfl)
  have H3 : Hid (∀ w2 ns w3 a n c, NmPost (wB.alloc (.cells (snFs (w.heap.size + 1)) fnI)) (w.heap.size + 1) (w.heap.size + 2) 2 125 bsRest l w2 ns → VxPost (w2.alloc (.cells (voF (w.heap.size + 1)) fnV)) (w.heap.size + 1) (w.heap.size + 2) 2 125 (intsV ns bsRest) ((dNs 2 l).map fun p => p.2) w3 a n c → _) := hid (fun w2 ns w3 a n c hp hv => tb_text hp hv rfl)
  have H4 : Hid (∀ w2 ns w3 a n c w4 d, NmPost (wB.alloc (.cells (snFs (w.heap.size + 1)) fnI)) (w.heap.size + 1) (w.heap.size + 2) 2 125 bsRest l w2 ns → VxPost (w2.alloc (.cells (voF (w.heap.size + 1)) fnV)) (w.heap.size + 1) (w.heap.size + 2) 2 125 (intsV ns bsRest) ((dNs 2 l).map fun p => p.2) w3 a n c →
      TxPost (w3.alloc (.cells (sdF (w.heap.size + 1)) fnS)) (w.heap.size + 1) (w.heap.size + 2) 3 125 ((intsV ns bsRest).setIfInBounds 2 (.slice a n c)) (((dNs 2 l).map fun p => p.2).bind fun l => (dV l).map fun p => p.2) w4 d → ∃ x y s, TBEnd w w.heap.size (w.heap.size + 1) (w.heap.size + 2) (dBs l) w4 x y a n c d s) := hid (fun w2 ns w3 a n c w4 d h1 h2 h3 => tb_end hb rfl rfl rfl zB oE h1 h2 h3)
  obtain ⟨q, hq⟩ : ∃ q, dBs l = q := ⟨_, rfl⟩
  rw [hq] at H4 ⊢
  clear oE oM oR hb hq
  unfold snFs voF sdF fnI fnV fnS at *
  go_enter Try.func74, Try.ntmps74
  go_wp2_with (first
    | (go_at_call 59; (with_reducible refine H1.out.mono ?_); rintro e w2 ⟨rfl, h2⟩; obtain ⟨ns, h2'⟩ := h2.out; have HP := hid h2'; clear h2 h2')
    | (go_at_call 91; (with_reducible refine (H2.out _ _ HP.out).mono ?_); rintro e w3 ⟨rfl, h3⟩; obtain ⟨a, n, c, h3'⟩ := h3.out; have HV := hid h3'; clear h3 h3')
    | (go_at_call 76; (with_reducible refine (H3.out _ _ _ _ _ _ HP.out HV.out).mono ?_); rintro e w4 ⟨rfl, h4⟩; obtain ⟨d, h4'⟩ := h4.out; obtain ⟨x, y, s, he⟩ := H4.out _ _ _ _ _ _ _ _ HP.out HV.out h4'; have HE := hid he; clear h4 h4' he))
  obtain ⟨h1, h2, h3, h4, h5⟩ := HE.out
  have m0 : w4.cell? ⟨w.heap.size + 1, 0, none⟩ = some (.int .i64 x) := (h2.cell 0).trans rfl
  have m1 : w4.cell? ⟨w.heap.size + 1, 1, none⟩ = some (.int .i64 y) := (h2.cell 1).trans rfl
  have m2 : w4.cell? ⟨w.heap.size + 1, 2, none⟩ = some (.slice a n c) := (h2.cell 2).trans rfl
  have m3 : w4.cell? ⟨w.heap.size + 1, 3, none⟩ = some (.string d) := (h2.cell 3).trans rfl
  have r0 : w4.cell? ⟨w.heap.size + 2, 0, none⟩ = some (.string s) := (h3.cell 0).trans rfl
  have r1 : w4.cell? ⟨w.heap.size + 2, 1, none⟩ = some (.bool q.isSome) := (h3.cell 1).trans rfl
  have h3b := put4_other h3 (by omega : w.heap.size + 2 ≠ w.heap.size) (.int .i64 x) (.int .i64 y) (.slice a n c) (.string d)
  have s0 : (put4 w4 w.heap.size (.int .i64 x) (.int .i64 y) (.slice a n c) (.string d)).cell? ⟨w.heap.size + 2, 0, none⟩ = some (.string s) := (h3b.cell 0).trans rfl
  have s1 : (put4 w4 w.heap.size (.int .i64 x) (.int .i64 y) (.slice a n c) (.string d)).cell? ⟨w.heap.size + 2, 1, none⟩ = some (.bool q.isSome) := (h3b.cell 1).trans rfl
  obtain ⟨p0, p1, p2, p3, f0, f1, f2, f3, e0, e1, e2, e3⟩ := put4_of h1 (.int .i64 x) (.int .i64 y) (.slice a n c) (.string d)
  have HF : Hid (∀ m, Below w.heap.size w ((put4 w4 w.heap.size (.int .i64 x) (.int .i64 y) (.slice a n c) (.string d)).drewN m)) := hid (fun m => below_drew (h4.trans ((put4_chg w4 w.heap.size _ _ _ _).below h4.size (fun b e => by rw [e]; exact Nat.le_refl _))) m)
  have H5 : Hid (∀ m p, q = some p → s = mk p.2 ∧ p.1.1 = x ∧ p.1.2.1 = y ∧ p.1.2.2.2 = d ∧ n = p.1.2.2.1.length ∧ ROwn numTy ((put4 w4 w.heap.size (.int .i64 x) (.int .i64 y) (.slice a n c) (.string d)).drewN m) (.slice a n c) p.1.2.2.1 ∧ ∀ b, (Value.slice a n c).ownBlock = some b → w.heap.size ≤ b) := hid (fun m p hp => by
    obtain ⟨g1, g2, g3, g4, g5, g6, g7⟩ := h5 p hp
    refine ⟨g1, g2, g3, g4, g5, (g6.same (fun b e => (put4_chg w4 w.heap.size _ _ _ _).block b (g6.lt b e) (by have := g7 b e; omega)) : ROwn numTy (put4 w4 w.heap.size (.int .i64 x) (.int .i64 y) (.slice a n c) (.string d)) _ _), fun b e => by have := g7 b e; omega⟩)
  unfold put4 at *
  clear H1 H2 H3 H4 HP HV HE h1 h2 h3 h3b h4 h5 hwE hwM hwB zE zM zB
  obtain ⟨qb, hqb⟩ : ∃ qb, q.isSome = qb := ⟨_, rfl⟩
  rw [hqb] at r1 s1
  have HQB := hid hqb
  clear hqb
  generalize w.heap.size + 1 = mb at *
  generalize w.heap.size + 2 = rb at *
  generalize w.heap.size + 3 = tb at *
  go_region
  all_goals
    go_wp2
    exact bodyPost_ret (v := .tuple #[.agg #[.int .i64 x, .int .i64 y, .slice a n c, .string d], .string s, .bool qb]) (by simp [results, Try.results74, go_sem, e0, e1, e2, e3]) rfl ⟨HF.out 1, x, y, a, n, c, d, s, by rw [HQB.out], H5.out 1⟩
end Go.Proofs.Ytppjojjejabaeaa
