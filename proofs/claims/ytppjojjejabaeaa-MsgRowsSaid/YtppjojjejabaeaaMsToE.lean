/-
  LAYER 7 (msg), THE PROGRAM: toEntry.
-/
import Derived.Test.YtppjojjejabaeaaMsNums
import Derived.BigRegion
namespace Go.Proofs.Ytppjojjejabaeaa
open Go.RowKit
set_option linter.unusedVariables false
set_option maxRecDepth 100000

/-- Four cells of a block stored one after another: what is read on the way, and behind. -/
structure Put4 (w : World) (b : Nat) (z0 z1 z2 z3 c0 c1 c2 c3 : Value) : Prop where
  p0 : w.cell? ⟨b, 0, none⟩ = some z0
  p1 : (w.setCell ⟨b, 0, none⟩ c0).cell? ⟨b, 1, none⟩ = some z1
  p2 : ((w.setCell ⟨b, 0, none⟩ c0).setCell ⟨b, 1, none⟩ c1).cell? ⟨b, 2, none⟩ = some z2
  p3 : (((w.setCell ⟨b, 0, none⟩ c0).setCell ⟨b, 1, none⟩ c1).setCell ⟨b, 2, none⟩ c2).cell? ⟨b, 3, none⟩ = some z3
  f0 : w.frozen? ⟨b, 0, none⟩ = false
  f1 : (w.setCell ⟨b, 0, none⟩ c0).frozen? ⟨b, 1, none⟩ = false
  f2 : ((w.setCell ⟨b, 0, none⟩ c0).setCell ⟨b, 1, none⟩ c1).frozen? ⟨b, 2, none⟩ = false
  f3 : (((w.setCell ⟨b, 0, none⟩ c0).setCell ⟨b, 1, none⟩ c1).setCell ⟨b, 2, none⟩ c2).frozen? ⟨b, 3, none⟩ = false
  e0 : ((((w.setCell ⟨b, 0, none⟩ c0).setCell ⟨b, 1, none⟩ c1).setCell ⟨b, 2, none⟩ c2).setCell ⟨b, 3, none⟩ c3).cell? ⟨b, 0, none⟩ = some c0
  e1 : ((((w.setCell ⟨b, 0, none⟩ c0).setCell ⟨b, 1, none⟩ c1).setCell ⟨b, 2, none⟩ c2).setCell ⟨b, 3, none⟩ c3).cell? ⟨b, 1, none⟩ = some c1
  e2 : ((((w.setCell ⟨b, 0, none⟩ c0).setCell ⟨b, 1, none⟩ c1).setCell ⟨b, 2, none⟩ c2).setCell ⟨b, 3, none⟩ c3).cell? ⟨b, 2, none⟩ = some c2
  e3 : ((((w.setCell ⟨b, 0, none⟩ c0).setCell ⟨b, 1, none⟩ c1).setCell ⟨b, 2, none⟩ c2).setCell ⟨b, 3, none⟩ c3).cell? ⟨b, 3, none⟩ = some c3
theorem put4_of {w : World} {b : Nat} {z0 z1 z2 z3 : Value} {T : TypeId} (h : own w b #[z0, z1, z2, z3] T) (c0 c1 c2 c3 : Value) : Put4 w b z0 z1 z2 z3 c0 c1 c2 c3 :=
  ⟨(h.cell 0).trans rfl, ((h.set 0 c0).cell 1).trans rfl, (((h.set 0 c0).set 1 c1).cell 2).trans rfl, ((((h.set 0 c0).set 1 c1).set 2 c2).cell 3).trans rfl,
   h.frozen 0, (h.set 0 c0).frozen 1, ((h.set 0 c0).set 1 c1).frozen 2, (((h.set 0 c0).set 1 c1).set 2 c2).frozen 3,
   (((((h.set 0 c0).set 1 c1).set 2 c2).set 3 c3).cell 0).trans rfl, (((((h.set 0 c0).set 1 c1).set 2 c2).set 3 c3).cell 1).trans rfl, (((((h.set 0 c0).set 1 c1).set 2 c2).set 3 c3).cell 2).trans rfl, (((((h.set 0 c0).set 1 c1).set 2 c2).set 3 c3).cell 3).trans rfl⟩
def put4 (w : World) (b : Nat) (c0 c1 c2 c3 : Value) : World := (((w.setCell ⟨b, 0, none⟩ c0).setCell ⟨b, 1, none⟩ c1).setCell ⟨b, 2, none⟩ c2).setCell ⟨b, 3, none⟩ c3
theorem put4_chg (w : World) (b : Nat) (c0 c1 c2 c3 : Value) : Chg (fun x => x = b) w (put4 w b c0 c1 c2 c3) :=
  (((Chg.setCell w ⟨b, 0, none⟩ c0).trans (Chg.setCell _ ⟨b, 1, none⟩ c1) (fun x e => .inl e)).trans (Chg.setCell _ ⟨b, 2, none⟩ c2) (fun x e => .inl e)).trans (Chg.setCell _ ⟨b, 3, none⟩ c3) (fun x e => .inl e)
theorem put4_other {w : World} {b x : Nat} {cs : Array Value} {T : TypeId} (h : own w x cs T) (hx : x ≠ b) (c0 c1 c2 c3 : Value) : own (put4 w b c0 c1 c2 c3) x cs T := h.chg (put4_chg w b c0 c1 c2 c3) hx

/-- What toEntry leaves. -/
def TEPost (w : World) (q : Option (Me × List UInt8)) (e : Ending) (w' : World) : Prop :=
  Below w.heap.size w w' ∧ ∃ x y z d s, e = .returned (.tuple #[.agg #[.int .i64 x, .int .i64 y, .int .i64 z, .string d], .string s, .bool q.isSome]) ∧ ∀ p, q = some p → p.1 = ⟨x, y, z, d⟩ ∧ s = mk p.2
def entG (k : Nat) : FuncId := if k = 0 then 99 else if k = 1 then 100 else 101
def entFs (mb : Nat) : Array Value := #[.func (.func 99) #[.pointer (some ⟨mb, 0, none⟩)] #[], .func (.func 100) #[.pointer (some ⟨mb, 0, none⟩)] #[], .func (.func 101) #[.pointer (some ⟨mb, 0, none⟩)] #[]]
theorem entG_en : ∀ k, k < 3 → Enters (entG k)
  | 0, _ => en_e_index
  | 1, _ => en_e_term
  | 2, _ => en_e_kind
  | k + 3, h => by omega
theorem entG_fs (mb : Nat) : ∀ k, k < 3 → (entFs mb)[k]? = some (takerV entG (fun _ => .pointer (some ⟨mb, 0, none⟩)) k)
  | 0, _ => rfl
  | 1, _ => rfl
  | 2, _ => rfl
  | k + 3, h => by omega
theorem entG_set (mb : Nat) : ∀ k, k < 3 → ∀ (wx : World) (cs : Array Value), own wx mb cs 135 → k < cs.size → ∀ x : Int, Calls Try.prog (entG k) #[.pointer (some ⟨mb, 0, none⟩), .int .i64 x] wx fun e w' => e = .returned (.tuple #[]) ∧ w' = wx.setCell ⟨mb, k, none⟩ (.int .i64 x)
  | 0, _ => fun wx cs h hk x => set_e_index h hk x
  | 1, _ => fun wx cs h hk x => set_e_term h hk x
  | 2, _ => fun wx cs h hk x => set_e_kind h hk x
  | k + 3, h => by omega
theorem dE_is (l : List UInt8) : dE l = (dNs 3 l).bind fun p => (dT p.2).map fun q => (⟨p.1.getD 0 0, p.1.getD 1 0, p.1.getD 2 0, q.1⟩, q.2) := by
  unfold dE
  cases dNs 3 l with
  | none => rfl
  | some p =>
    simp only [Option.bind_some]
    cases dT p.2 with
    | none => rfl
    | some q => rfl
def fnI : TypeId := 82
def fnS : TypeId := 79
/-- The state ahead of the end. -/
structure TEEnd (w : World) (eb mb rb : Nat) (q : Option (Me × List UInt8)) (wx : World) (x y z : Int) (d s : ByteArray) : Prop where
  res : own wx eb #[.int .i64 0, .int .i64 0, .int .i64 0, .string ⟨#[]⟩] 49
  box : own wx mb #[.int .i64 x, .int .i64 y, .int .i64 z, .string d] 135
  rd : own wx rb (rdrCells s q.isSome) 95
  below : Below w.heap.size w wx
  eq : ∀ p, q = some p → p.1 = ⟨x, y, z, d⟩ ∧ s = mk p.2
theorem te_nums (w : World) (l : List UInt8) (hl : l.length ≤ 10000000) (wB : World) (eb mb rb : Nat) (hz : wB.heap.size = rb + 1) (hrm : rb = mb + 1) (hme : mb = eb + 1)
    (hbox : own wB mb #[.int .i64 0, .int .i64 0, .int .i64 0, .string ⟨#[]⟩] 135) (hrd : own wB rb #[.string (mk l), .bool true] 95) :
    Calls Try.prog 59 #[.pointer (some ⟨rb, 0, none⟩), .func (.func 43) #[] #[], .slice (some ⟨rb + 1, 0, none⟩) 3 3] (wB.alloc (.cells (entFs mb) fnI)) fun e w' => e = .returned (.tuple #[]) ∧ Hid (∃ ns, NmPost (wB.alloc (.cells (entFs mb) fnI)) mb rb 3 135 [.string ⟨#[]⟩] l w' ns) := by
  have ho := own.nw (w := wB) (cs := entFs mb) (T := fnI) hz
  exact readNums (w := wB.alloc (.cells (entFs mb) fnI)) (rest := [.string ⟨#[]⟩]) entG_en (entG_fs mb) (entG_set mb) (by omega) (by omega) (by omega) (by omega) [0, 0, 0] rfl (hbox.al _) (hrd.al _) (by omega) ho
theorem te_text {w1 w2 : World} {mb rb : Nat} {l : List UInt8} {ns : List Int} (hp : NmPost w1 mb rb 3 135 [.string ⟨#[]⟩] l w2 ns) (hrm : rb = mb + 1) :
    Calls Try.prog 76 #[.pointer (some ⟨rb, 0, none⟩), .func (.func 77) #[] #[], .slice (some ⟨w2.heap.size, 0, none⟩) 1 1] (w2.alloc (.cells #[.func (.func 102) #[.pointer (some ⟨mb, 0, none⟩)] #[]] fnS)) fun e w' => e = .returned (.tuple #[]) ∧ Hid (∃ d, TxPost (w2.alloc (.cells #[.func (.func 102) #[.pointer (some ⟨mb, 0, none⟩)] #[]] fnS)) mb rb 3 135 (intsV ns [.string ⟨#[]⟩]) ((dNs 3 l).map fun p => p.2) w' d) := by
  have hlt := hp.rd.lt
  have hc : (intsV ns [.string ⟨#[]⟩])[3]? = some (.string ⟨#[]⟩) := by
    obtain ⟨x, y, z, rfl⟩ : ∃ x y z, ns = [x, y, z] := by
      match ns, hp.len with
      | [x, y, z], _ => exact ⟨x, y, z, rfl⟩
    rfl
  refine readText (w := w2.alloc (.cells #[.func (.func 102) #[.pointer (some ⟨mb, 0, none⟩)] #[]] fnS)) en_e_data (fun wx h s hs => set_e_data h (by simp [intsV, hp.len]) s hs) (by omega) (by omega) (by omega) hc (hp.box.al _) (hp.rd.same (Below.heap_alloc _ _ _ hlt)) (own.new w2 _ _)
theorem te_end {w wB w2 w3 : World} {l : List UInt8} {eb mb rb : Nat} {fs : Array Value} {F : TypeId} {ns : List Int} {fv : Value} {F2 : TypeId} {d : ByteArray} (hb : Below w.heap.size w wB) (hrm : rb = mb + 1) (hme : mb = eb + 1) (heb : eb = w.heap.size)
    (hres : own wB eb #[.int .i64 0, .int .i64 0, .int .i64 0, .string ⟨#[]⟩] 49)
    (h1 : NmPost (wB.alloc (.cells fs F)) mb rb 3 135 [.string ⟨#[]⟩] l w2 ns) (h2 : TxPost (w2.alloc (.cells #[fv] F2)) mb rb 3 135 (intsV ns [.string ⟨#[]⟩]) ((dNs 3 l).map fun p => p.2) w3 d) :
    ∃ x y z s, TEEnd w eb mb rb (dE l) w3 x y z d s := by
  obtain ⟨x, y, z, rfl⟩ : ∃ x y z, ns = [x, y, z] := by
    match ns, h1.len with
    | [x, y, z], _ => exact ⟨x, y, z, rfl⟩
  have hq : (((dNs 3 l).map fun p => p.2).bind fun l => (dT l).map fun p => p.2) = (dE l).map fun p => p.2 := by
    rw [dE_is]
    cases dNs 3 l with
    | none => rfl
    | some p =>
      simp only [Option.map_some, Option.bind_some]
      cases dT p.2 <;> rfl
  have hrd := h2.rd
  rw [hq] at hrd
  have c1 : Chg (fun b => b = mb ∨ b = rb) wB w2 := (Chg.alloc _ wB _).trans h1.chg (fun b e => .inl e)
  have c2 : Chg (fun b => b = mb ∨ b = rb) wB w3 := (c1.trans (Chg.alloc (fun b => b = mb ∨ b = rb) w2 _) (fun b e => .inl e)).trans h2.chg (fun b e => .inl e)
  obtain ⟨s, hs⟩ := hrd.any
  refine ⟨x, y, z, s, hres.chg c2 (by rintro (e | e) <;> omega), h2.box, ?_, hb.trans (c2.below hb.size (by rintro b (e | e) <;> omega)), ?_⟩
  · cases hd : dE l with
    | none => rw [hd] at hs; exact hs
    | some p => rw [hd] at hs; exact hs
  · intro p hp
    rw [dE_is] at hp
    cases hn : dNs 3 l with
    | none => rw [hn] at hp; cases hp
    | some p1 =>
      rw [hn] at hp
      simp only [Option.bind_some] at hp
      cases ht : dT p1.2 with
      | none => rw [ht] at hp; cases hp
      | some p2 =>
        rw [ht] at hp
        cases hp
        have e1 := h1.eq p1 hn
        have e2 := h2.eq p1.2 p2 (by rw [hn]; rfl) ht
        refine ⟨by simp only [e1, e2]; rfl, ?_⟩
        rw [dE_is, hn] at hrd
        simp only [Option.bind_some, ht, Option.map_some] at hrd
        have e3 := hrd.2.cell 0
        rw [hs.cell 0] at e3
        have e4 : some (Value.string s) = some (Value.string (mk p2.2)) := e3
        cases e4
        rfl
set_option maxHeartbeats 8000000 in
theorem toEntry_any (l : List UInt8) (w : World) (hl : l.length ≤ 10000000) : Calls Try.prog 88 #[.string (mk l)] w (TEPost w (dE l)) := by
  obtain ⟨wE, hwE⟩ : ∃ wE, w.alloc (.cells #[.int .i64 0, .int .i64 0, .int .i64 0, .string ⟨#[]⟩] 49) = wE := ⟨_, rfl⟩
  obtain ⟨wM, hwM⟩ : ∃ wM, wE.alloc (.cells #[.int .i64 0, .int .i64 0, .int .i64 0, .string ⟨#[]⟩] 135) = wM := ⟨_, rfl⟩
  obtain ⟨wB, hwB⟩ : ∃ wB, wM.alloc (.cells #[.string (mk l), .bool true] 95) = wB := ⟨_, rfl⟩
  have zE : wE.heap.size = w.heap.size + 1 := by rw [← hwE]; simp
  have zM : wM.heap.size = w.heap.size + 2 := by rw [← hwM]; simp [zE]
  have zB : wB.heap.size = w.heap.size + 3 := by rw [← hwB]; simp [zM]
  have oE : own wB w.heap.size #[.int .i64 0, .int .i64 0, .int .i64 0, .string ⟨#[]⟩] 49 := by rw [← hwB, ← hwM, ← hwE]; exact ((own.new w _ _).al _).al _
  have oM : own wB (w.heap.size + 1) #[.int .i64 0, .int .i64 0, .int .i64 0, .string ⟨#[]⟩] 135 := by rw [← hwB, ← hwM]; exact (own.nw zE).al _
  have oR : own wB (w.heap.size + 2) #[.string (mk l), .bool true] 95 := by rw [← hwB]; exact own.nw zM
  have hb : Below w.heap.size w wB := by
    rw [← hwB, ← hwM, ← hwE]
    exact (((Below.refl _ _).alloc (Nat.le_refl _) _).alloc (by simp) _).alloc (by simp; omega) _
  have H1 := hid (te_nums w l hl wB w.heap.size (w.heap.size + 1) (w.heap.size + 2) zB rfl rfl oM oR)
  have H2 : Hid (∀ w2 ns, NmPost (wB.alloc (.cells (entFs (w.heap.size + 1)) fnI)) (w.heap.size + 1) (w.heap.size + 2) 3 135 [.string ⟨#[]⟩] l w2 ns → _) := hid (fun w2 ns hp => te_text hp rfl)
  have H3 : Hid (∀ w2 w3 ns d, NmPost (wB.alloc (.cells (entFs (w.heap.size + 1)) fnI)) (w.heap.size + 1) (w.heap.size + 2) 3 135 [.string ⟨#[]⟩] l w2 ns → TxPost (w2.alloc (.cells #[.func (.func 102) #[.pointer (some ⟨w.heap.size + 1, 0, none⟩)] #[]] fnS)) (w.heap.size + 1) (w.heap.size + 2) 3 135 (intsV ns [.string ⟨#[]⟩]) ((dNs 3 l).map fun p => p.2) w3 d → ∃ x y z s, TEEnd w w.heap.size (w.heap.size + 1) (w.heap.size + 2) (dE l) w3 x y z d s) := hid (fun w2 w3 ns d h1 h2 => te_end hb rfl rfl rfl oE h1 h2)
  obtain ⟨q, hq⟩ : ∃ q, dE l = q := ⟨_, rfl⟩
  rw [hq] at H3 ⊢
  clear oE oM oR hb hq
  unfold entFs fnI fnS at *
  go_enter Try.func88, Try.ntmps88
  go_wp2_with (first
    | (go_at_call 59; (with_reducible refine H1.out.mono ?_); rintro e w2 ⟨rfl, h2⟩; obtain ⟨ns, h2'⟩ := h2.out; have HP := hid h2'; clear h2 h2')
    | (go_at_call 76; (with_reducible refine (H2.out _ _ HP.out).mono ?_); rintro e w3 ⟨rfl, h3⟩; obtain ⟨d, h3'⟩ := h3.out; obtain ⟨x, y, z, s, he⟩ := H3.out _ _ _ _ HP.out h3'; have HE := hid he; clear h3 h3' he))
  obtain ⟨h1, h2, h3, h4, h5⟩ := HE.out
  have m0 : w3.cell? ⟨w.heap.size + 1, 0, none⟩ = some (.int .i64 x) := (h2.cell 0).trans rfl
  have m1 : w3.cell? ⟨w.heap.size + 1, 1, none⟩ = some (.int .i64 y) := (h2.cell 1).trans rfl
  have m2 : w3.cell? ⟨w.heap.size + 1, 2, none⟩ = some (.int .i64 z) := (h2.cell 2).trans rfl
  have m3 : w3.cell? ⟨w.heap.size + 1, 3, none⟩ = some (.string d) := (h2.cell 3).trans rfl
  have r0 : w3.cell? ⟨w.heap.size + 2, 0, none⟩ = some (.string s) := (h3.cell 0).trans rfl
  have r1 : w3.cell? ⟨w.heap.size + 2, 1, none⟩ = some (.bool q.isSome) := (h3.cell 1).trans rfl
  have h3b := put4_other h3 (by omega : w.heap.size + 2 ≠ w.heap.size) (.int .i64 x) (.int .i64 y) (.int .i64 z) (.string d)
  have s0 : (put4 w3 w.heap.size (.int .i64 x) (.int .i64 y) (.int .i64 z) (.string d)).cell? ⟨w.heap.size + 2, 0, none⟩ = some (.string s) := (h3b.cell 0).trans rfl
  have s1 : (put4 w3 w.heap.size (.int .i64 x) (.int .i64 y) (.int .i64 z) (.string d)).cell? ⟨w.heap.size + 2, 1, none⟩ = some (.bool q.isSome) := (h3b.cell 1).trans rfl
  obtain ⟨p0, p1, p2, p3, f0, f1, f2, f3, e0, e1, e2, e3⟩ := put4_of h1 (.int .i64 x) (.int .i64 y) (.int .i64 z) (.string d)
  have HF : Hid (∀ m, Below w.heap.size w ((put4 w3 w.heap.size (.int .i64 x) (.int .i64 y) (.int .i64 z) (.string d)).drewN m)) := hid (fun m => below_drew (h4.trans ((put4_chg w3 w.heap.size _ _ _ _).below h4.size (fun b e => by rw [e]; exact Nat.le_refl _))) m)
  have H5 := hid h5
  unfold put4 at *
  clear H1 H2 H3 HP HE h1 h2 h3 h3b h4 h5 hwE hwM hwB zE zM zB
  obtain ⟨qb, hqb⟩ : ∃ qb, q.isSome = qb := ⟨_, rfl⟩
  rw [hqb] at r1 s1
  have HQB := hid hqb
  clear hqb
  generalize w.heap.size + 1 = mb at *
  generalize w.heap.size + 2 = rb at *
  generalize w.heap.size + 3 = tb at *
  go_region
  all_goals
    go_wp2
    exact bodyPost_ret (v := .tuple #[.agg #[.int .i64 x, .int .i64 y, .int .i64 z, .string d], .string s, .bool qb]) (by simp [results, Try.results88, go_sem, e0, e1, e2, e3]) rfl ⟨HF.out 1, x, y, z, d, s, by rw [HQB.out], H5.out⟩
end Go.Proofs.Ytppjojjejabaeaa
