/-
  LAYER 7 (msg), THE PROGRAM: toMsg: its reads one after another.
-/
import Derived.Test.YtppjojjejabaeaaMsToN
namespace Go.Proofs.Ytppjojjejabaeaa
open Go.RowKit
set_option linter.unusedVariables false
set_option maxRecDepth 100000

def mgG (k : Nat) : FuncId := if k = 0 then 60 else if k = 1 then 61 else if k = 2 then 62 else if k = 3 then 63 else if k = 4 then 64 else if k = 5 then 65 else 66
def mgFs (mb : Nat) : Array Value := #[.func (.func 60) #[.pointer (some ⟨mb, 0, none⟩)] #[], .func (.func 61) #[.pointer (some ⟨mb, 0, none⟩)] #[], .func (.func 62) #[.pointer (some ⟨mb, 0, none⟩)] #[], .func (.func 63) #[.pointer (some ⟨mb, 0, none⟩)] #[], .func (.func 64) #[.pointer (some ⟨mb, 0, none⟩)] #[], .func (.func 65) #[.pointer (some ⟨mb, 0, none⟩)] #[], .func (.func 66) #[.pointer (some ⟨mb, 0, none⟩)] #[]]
theorem mgG_en : ∀ k, k < 7 → Enters (mgG k)
  | 0, _ => en_m_kind
  | 1, _ => en_m_from
  | 2, _ => en_m_to
  | 3, _ => en_m_term
  | 4, _ => en_m_index
  | 5, _ => en_m_logTerm
  | 6, _ => en_m_commit
  | k + 7, h => by omega
theorem mgG_fs (mb : Nat) : ∀ k, k < 7 → (mgFs mb)[k]? = some (takerV mgG (fun _ => .pointer (some ⟨mb, 0, none⟩)) k)
  | 0, _ => rfl
  | 1, _ => rfl
  | 2, _ => rfl
  | 3, _ => rfl
  | 4, _ => rfl
  | 5, _ => rfl
  | 6, _ => rfl
  | k + 7, h => by omega
theorem mgG_set (mb : Nat) : ∀ k, k < 7 → ∀ (wx : World) (cs : Array Value), own wx mb cs 93 → k < cs.size → ∀ x : Int, Calls Try.prog (mgG k) #[.pointer (some ⟨mb, 0, none⟩), .int .i64 x] wx fun e w' => e = .returned (.tuple #[]) ∧ w' = wx.setCell ⟨mb, k, none⟩ (.int .i64 x)
  | 0, _ => fun wx cs h hk x => set_m_kind h hk x
  | 1, _ => fun wx cs h hk x => set_m_from h hk x
  | 2, _ => fun wx cs h hk x => set_m_to h hk x
  | 3, _ => fun wx cs h hk x => set_m_term h hk x
  | 4, _ => fun wx cs h hk x => set_m_index h hk x
  | 5, _ => fun wx cs h hk x => set_m_logTerm h hk x
  | 6, _ => fun wx cs h hk x => set_m_commit h hk x
  | k + 7, h => by omega
def mgRest : List Value := [.bool false, .slice none 0 0, .int .i64 0, .int .i64 0, .slice none 0 0, .string ⟨#[]⟩, .string ⟨#[]⟩]
def fnB : TypeId := 99
def fnL : TypeId := 102
def fnW : TypeId := 105
def mgB (mb : Nat) : Array Value := #[.func (.func 69) #[.pointer (some ⟨mb, 0, none⟩)] #[]]
def mgL (mb : Nat) : Array Value := #[.func (.func 72) #[.pointer (some ⟨mb, 0, none⟩)] #[]]
def mgW (mb : Nat) : Array Value := #[.func (.func 75) #[.pointer (some ⟨mb, 0, none⟩)] #[]]
def mgT (mb : Nat) : Array Value := #[.func (.func 78) #[.pointer (some ⟨mb, 0, none⟩)] #[]]
def q1 (l : List UInt8) : Option (List UInt8) := (dNs 7 l).map fun p => p.2
def q2 (l : List UInt8) : Option (List UInt8) := (q1 l).bind fun l => (dB l).map fun p => p.2
def q3 (l : List UInt8) : Option (List UInt8) := (q2 l).bind fun l => (dL l).map fun p => p.2
def q4 (l : List UInt8) : Option (List UInt8) := (q3 l).bind fun l => (dBs l).map fun p => p.2
def q5 (l : List UInt8) : Option (List UInt8) := (q4 l).bind fun l => (dT l).map fun p => p.2
theorem q1_short {l r : List UInt8} (h : q1 l = some r) : r.length ≤ l.length := by
  unfold q1 at h
  cases hd : dNs 7 l with
  | none => rw [hd] at h; cases h
  | some p => rw [hd] at h; cases h; exact dNs_shorter (show dNs 7 l = some (p.1, p.2) from hd)
theorem bind_short {α : Type} {d : List UInt8 → Option (α × List UInt8)} (hd : ∀ {l r x}, d l = some (x, r) → r.length ≤ l.length) {q : Option (List UInt8)} {n : Nat} (hq : ∀ l, q = some l → l.length ≤ n) : ∀ r, (q.bind fun l => (d l).map fun p => p.2) = some r → r.length ≤ n := by
  intro r h
  cases q with
  | none => cases h
  | some l =>
    simp only [Option.bind_some] at h
    cases hp : d l with
    | none => rw [hp] at h; cases h
    | some p =>
      rw [hp] at h
      cases h
      have h1 := hd (show d l = some (p.1, p.2) from hp)
      have h2 := hq l rfl
      show p.2.length ≤ n
      omega
theorem q1_le {l : List UInt8} {n : Nat} (h : l.length ≤ n) : ∀ r, q1 l = some r → r.length ≤ n := fun r hr => Nat.le_trans (q1_short hr) h
theorem q2_le {l : List UInt8} {n : Nat} (h : l.length ≤ n) : ∀ r, q2 l = some r → r.length ≤ n := bind_short dB_shorter (q1_le h)
theorem q3_le {l : List UInt8} {n : Nat} (h : l.length ≤ n) : ∀ r, q3 l = some r → r.length ≤ n := bind_short dL_shorter (q2_le h)
/-- The states between the reads. -/
def Tm1 (w : World) (mb rb : Nat) (l : List UInt8) (w' : World) (ns : List Int) : Prop := NmPost w mb rb 7 93 mgRest l w' ns
def Tm2 (w : World) (mb rb : Nat) (l : List UInt8) (ns : List Int) (w' : World) (b : Bool) : Prop := BxPost w mb rb 7 93 (intsV ns mgRest) (q1 l) w' b
def Tm3 (w : World) (mb rb : Nat) (l : List UInt8) (ns : List Int) (b : Bool) (w' : World) (a : Option Addr) (n c : Nat) : Prop := LxPost w mb rb 8 93 ((intsV ns mgRest).setIfInBounds 7 (.bool b)) (q2 l) w' a n c
def Tm4 (w : World) (mb rb : Nat) (l : List UInt8) (ns : List Int) (b : Bool) (a : Option Addr) (n c : Nat) (w' : World) (x y : Int) (a' : Option Addr) (n' c' : Nat) (d : ByteArray) : Prop := WxPost w mb rb (((intsV ns mgRest).setIfInBounds 7 (.bool b)).setIfInBounds 8 (.slice a n c)) (q3 l) w' x y a' n' c' d
def Tm5 (w : World) (mb rb : Nat) (l : List UInt8) (ns : List Int) (b : Bool) (a : Option Addr) (n c : Nat) (x y : Int) (a' : Option Addr) (n' c' : Nat) (d : ByteArray) (w' : World) (t : ByteArray) : Prop := TxPost w mb rb 13 93 (set4 (((intsV ns mgRest).setIfInBounds 7 (.bool b)).setIfInBounds 8 (.slice a n c)) x y a' n' c' d) (q4 l) w' t
theorem nums7 {ns : List Int} (h : ns.length = 7) : ∃ a b c d e f g, ns = [a, b, c, d, e, f, g] := by
  match ns, h with
  | [a, b, c, d, e, f, g], _ => exact ⟨a, b, c, d, e, f, g, rfl⟩
theorem lit4 (n0 n1 n2 n3 n4 n5 n6 : Int) (b : Bool) (a : Option Addr) (n c : Nat) (x y : Int) (a' : Option Addr) (n' c' : Nat) (d : ByteArray) : set4 (((intsV [n0, n1, n2, n3, n4, n5, n6] mgRest).setIfInBounds 7 (.bool b)).setIfInBounds 8 (.slice a n c)) x y a' n' c' d = #[.int .i64 n0, .int .i64 n1, .int .i64 n2, .int .i64 n3, .int .i64 n4, .int .i64 n5, .int .i64 n6, .bool b, .slice a n c, .int .i64 x, .int .i64 y, .slice a' n' c', .string d, .string ⟨#[]⟩] := by
  unfold set4 intsV mgRest
  simp
theorem lit5 (n0 n1 n2 n3 n4 n5 n6 : Int) (b : Bool) (a : Option Addr) (n c : Nat) (x y : Int) (a' : Option Addr) (n' c' : Nat) (d t : ByteArray) : (set4 (((intsV [n0, n1, n2, n3, n4, n5, n6] mgRest).setIfInBounds 7 (.bool b)).setIfInBounds 8 (.slice a n c)) x y a' n' c' d).setIfInBounds 13 (.string t) = msCells ⟨n0, n1, n2, n3, n4, n5, n6, b, [], x, y, [], d, t⟩ (.slice a n c) (.slice a' n' c') := by
  rw [lit4]
  unfold msCells
  simp
theorem tm_nums (l : List UInt8) (hl : l.length ≤ 10000000) (wB : World) (eb mb rb : Nat) (hz : wB.heap.size = rb + 1) (hrm : rb = mb + 1) (hme : mb = eb + 1)
    (hbox : own wB mb #[.int .i64 0, .int .i64 0, .int .i64 0, .int .i64 0, .int .i64 0, .int .i64 0, .int .i64 0, .bool false, .slice none 0 0, .int .i64 0, .int .i64 0, .slice none 0 0, .string ⟨#[]⟩, .string ⟨#[]⟩] 93) (hrd : own wB rb #[.string (mk l), .bool true] 95) :
    Calls Try.prog 59 #[.pointer (some ⟨rb, 0, none⟩), .func (.func 43) #[] #[], .slice (some ⟨rb + 1, 0, none⟩) 7 7] (wB.alloc (.cells (mgFs mb) fnI)) fun e w' => e = .returned (.tuple #[]) ∧ Hid (∃ ns, Tm1 (wB.alloc (.cells (mgFs mb) fnI)) mb rb l w' ns) := by
  have ho := own.nw (w := wB) (cs := mgFs mb) (T := fnI) hz
  exact readNums (w := wB.alloc (.cells (mgFs mb) fnI)) (rest := mgRest) mgG_en (mgG_fs mb) (mgG_set mb) (by omega) (by omega) (by omega) (by omega) [0, 0, 0, 0, 0, 0, 0] rfl (hbox.al _) (hrd.al _) (by omega) ho
theorem tm_bool {mb rb : Nat} {l : List UInt8} {ns : List Int} {w1 w2 : World} (hl : l.length ≤ 10000000) (h1 : Tm1 w1 mb rb l w2 ns) (hrm : rb = mb + 1) :
    Calls Try.prog 67 #[.pointer (some ⟨rb, 0, none⟩), .func (.func 68) #[] #[], .slice (some ⟨w2.heap.size, 0, none⟩) 1 1] (w2.alloc (.cells (mgB mb) fnB)) fun e w' => e = .returned (.tuple #[]) ∧ Hid (∃ b, Tm2 (w2.alloc (.cells (mgB mb) fnB)) mb rb l ns w' b) := by
  have hlt := h1.rd.lt
  have hc : (intsV ns mgRest)[7]? = some (.bool false) := by
    obtain ⟨a, b, c, d, e, f, g, rfl⟩ := nums7 h1.len
    rfl
  exact readBx (w := w2.alloc (.cells (mgB mb) fnB)) en_m_ok (fun wx h x => set_m_ok h (by simp [intsV, h1.len, mgRest]) x) (by omega) (by omega) (by omega) hc (h1.box.al _) (h1.rd.same (Below.heap_alloc _ _ _ hlt)) (q1_le hl) (own.new w2 _ _)
theorem tm_ents {mb rb : Nat} {l : List UInt8} {ns : List Int} {w1 w2 w3 w4 : World} {b : Bool} (hl : l.length ≤ 10000000) (h1 : Tm1 w1 mb rb l w2 ns) (h2 : Tm2 w3 mb rb l ns w4 b) (hrm : rb = mb + 1) :
    Calls Try.prog 70 #[.pointer (some ⟨rb, 0, none⟩), .func (.func 71) #[] #[], .slice (some ⟨w4.heap.size, 0, none⟩) 1 1] (w4.alloc (.cells (mgL mb) fnL)) fun e w' => e = .returned (.tuple #[]) ∧ Hid (∃ a n c, Tm3 (w4.alloc (.cells (mgL mb) fnL)) mb rb l ns b w' a n c) := by
  have hlt := h2.rd.lt
  have hc : ((intsV ns mgRest).setIfInBounds 7 (.bool b))[8]? = some (.slice none 0 0) := by
    obtain ⟨a, b, c, d, e, f, g, rfl⟩ := nums7 h1.len
    rfl
  exact readLx (w := w4.alloc (.cells (mgL mb) fnL)) en_m_entries (fun wx h a n c => set_m_entries h (by simp [intsV, h1.len, mgRest]) a n c) (by omega) (by omega) (by omega) hc (h2.box.al _) (h2.rd.same (Below.heap_alloc _ _ _ hlt)) (q2_le hl) (own.new w4 _ _)
theorem tm_base {mb rb : Nat} {l : List UInt8} {ns : List Int} {w1 w2 w3 w4 w5 w6 : World} {b : Bool} {a : Option Addr} {n c : Nat} (hl : l.length ≤ 10000000) (h1 : Tm1 w1 mb rb l w2 ns) (h2 : Tm2 w3 mb rb l ns w4 b) (h3 : Tm3 w5 mb rb l ns b w6 a n c) (hrm : rb = mb + 1) :
    Calls Try.prog 73 #[.pointer (some ⟨rb, 0, none⟩), .func (.func 74) #[] #[], .slice (some ⟨w6.heap.size, 0, none⟩) 1 1] (w6.alloc (.cells (mgW mb) fnW)) fun e w' => e = .returned (.tuple #[]) ∧ Hid (∃ x y a' n' c' d, Tm4 (w6.alloc (.cells (mgW mb) fnW)) mb rb l ns b a n c w' x y a' n' c' d) := by
  have hlt := h3.rd.lt
  have hc : set4 (((intsV ns mgRest).setIfInBounds 7 (.bool b)).setIfInBounds 8 (.slice a n c)) 0 0 none 0 0 ⟨#[]⟩ = ((intsV ns mgRest).setIfInBounds 7 (.bool b)).setIfInBounds 8 (.slice a n c) := by
    obtain ⟨a, b, c, d, e, f, g, rfl⟩ := nums7 h1.len
    rfl
  exact readWx (w := w6.alloc (.cells (mgW mb) fnW)) (by simp [intsV, h1.len, mgRest]) (by omega) (by omega) (by omega) hc (h3.box.al _) (h3.rd.same (Below.heap_alloc _ _ _ hlt)) (q3_le hl) (own.new w6 _ _)
theorem tm_text {mb rb : Nat} {l : List UInt8} {ns : List Int} {w1 w2 w7 w8 : World} {b : Bool} {a : Option Addr} {n c : Nat} {x y : Int} {a' : Option Addr} {n' c' : Nat} {d : ByteArray} (h1 : Tm1 w1 mb rb l w2 ns) (h4 : Tm4 w7 mb rb l ns b a n c w8 x y a' n' c' d) (hrm : rb = mb + 1) :
    Calls Try.prog 76 #[.pointer (some ⟨rb, 0, none⟩), .func (.func 77) #[] #[], .slice (some ⟨w8.heap.size, 0, none⟩) 1 1] (w8.alloc (.cells (mgT mb) fnS)) fun e w' => e = .returned (.tuple #[]) ∧ Hid (∃ t, Tm5 (w8.alloc (.cells (mgT mb) fnS)) mb rb l ns b a n c x y a' n' c' d w' t) := by
  have hlt := h4.rd.lt
  have hc : (set4 (((intsV ns mgRest).setIfInBounds 7 (.bool b)).setIfInBounds 8 (.slice a n c)) x y a' n' c' d)[13]? = some (.string ⟨#[]⟩) := by
    obtain ⟨n0, n1, n2, n3, n4, n5, n6, rfl⟩ := nums7 h1.len
    rw [lit4]
    rfl
  exact readText (w := w8.alloc (.cells (mgT mb) fnS)) en_m_data (fun wx h s hs => set_m_data h (by simp [intsV, h1.len, mgRest, set4]) s hs) (by omega) (by omega) (by omega) hc (h4.box.al _) (h4.rd.same (Below.heap_alloc _ _ _ hlt)) (own.new w8 _ _)
/-- What toMsg leaves: a message as a value (its rows as slices), what is left, whether all was there. -/
structure TmEnd (w : World) (eb mb rb : Nat) (q : Option (Ms × List UInt8)) (wx : World) (m : Ms) (a : Option Addr) (n c : Nat) (a' : Option Addr) (n' c' : Nat) (s : ByteArray) : Prop where
  res : own wx eb #[.int .i64 0, .int .i64 0, .int .i64 0, .int .i64 0, .int .i64 0, .int .i64 0, .int .i64 0, .bool false, .slice none 0 0, .int .i64 0, .int .i64 0, .slice none 0 0, .string ⟨#[]⟩, .string ⟨#[]⟩] 27
  box : own wx mb (msCells m (.slice a n c) (.slice a' n' c')) 93
  rd : own wx rb (rdrCells s q.isSome) 95
  below : Below w.heap.size w wx
  eq : ∀ p, q = some p → s = mk p.2 ∧ msV m (.slice a n c) (.slice a' n' c') = msV p.1 (.slice a n c) (.slice a' n' c') ∧ n = p.1.ents.length ∧ n' = p.1.vot.length ∧ ROwn enTy wx (.slice a n c) p.1.ents ∧ ROwn numTy wx (.slice a' n' c') p.1.vot ∧ (∀ b, (Value.slice a n c).ownBlock = some b → eb < b) ∧ (∀ b, (Value.slice a' n' c').ownBlock = some b → eb < b)
theorem tm_end {w wB w2 w3 w4 w5 w6 : World} {l : List UInt8} {eb mb rb : Nat} {ns : List Int} {b : Bool} {a : Option Addr} {n c : Nat} {x y : Int} {a' : Option Addr} {n' c' : Nat} {d t : ByteArray} (hb : Below w.heap.size w wB) (hrm : rb = mb + 1) (hme : mb = eb + 1) (heb : eb = w.heap.size) (hz : wB.heap.size = rb + 1)
    (hres : own wB eb #[.int .i64 0, .int .i64 0, .int .i64 0, .int .i64 0, .int .i64 0, .int .i64 0, .int .i64 0, .bool false, .slice none 0 0, .int .i64 0, .int .i64 0, .slice none 0 0, .string ⟨#[]⟩, .string ⟨#[]⟩] 27)
    (h1 : Tm1 (wB.alloc (.cells (mgFs mb) fnI)) mb rb l w2 ns) (h2 : Tm2 (w2.alloc (.cells (mgB mb) fnB)) mb rb l ns w3 b) (h3 : Tm3 (w3.alloc (.cells (mgL mb) fnL)) mb rb l ns b w4 a n c)
    (h4 : Tm4 (w4.alloc (.cells (mgW mb) fnW)) mb rb l ns b a n c w5 x y a' n' c' d) (h5 : Tm5 (w5.alloc (.cells (mgT mb) fnS)) mb rb l ns b a n c x y a' n' c' d w6 t) :
    ∃ m s, TmEnd w eb mb rb (dM l) w6 m a n c a' n' c' s := by
  obtain ⟨n0, n1, n2, n3, n4, n5, n6, rfl⟩ := nums7 h1.len
  have hq : q5 l = (dM l).map fun p => p.2 := by
    rw [dM_is]
    unfold q5 q4 q3 q2 q1
    cases dNs 7 l with
    | none => rfl
    | some p =>
      simp only [Option.map_some, Option.bind_some]
      cases dB p.2 with
      | none => rfl
      | some p =>
        simp only [Option.map_some, Option.bind_some]
        cases dL p.2 with
        | none => rfl
        | some p =>
          simp only [Option.map_some, Option.bind_some]
          cases dBs p.2 with
          | none => rfl
          | some p =>
            simp only [Option.map_some, Option.bind_some]
            cases dT p.2 <;> rfl
  have hrd : RdIs w6 rb (q5 l) := h5.rd
  rw [hq] at hrd
  have c1 : Chg (fun b => b = mb ∨ b = rb) wB w2 := (Chg.alloc _ wB _).trans h1.chg (fun b e => .inl e)
  have c2 : Chg (fun b => b = mb ∨ b = rb) w2 w3 := (Chg.alloc (fun b => b = mb ∨ b = rb) w2 _).trans h2.chg (fun b e => .inl e)
  have c3 : Chg (fun b => b = mb ∨ b = rb) w3 w4 := (Chg.alloc (fun b => b = mb ∨ b = rb) w3 _).trans h3.chg (fun b e => .inl e)
  have c4 : Chg (fun b => b = mb ∨ b = rb) w4 w5 := (Chg.alloc (fun b => b = mb ∨ b = rb) w4 _).trans h4.chg (fun b e => .inl e)
  have c5 : Chg (fun b => b = mb ∨ b = rb) w5 w6 := (Chg.alloc (fun b => b = mb ∨ b = rb) w5 _).trans h5.chg (fun b e => .inl e)
  have c45 : Chg (fun b => b = mb ∨ b = rb) w4 w6 := c4.trans c5 (fun b e => .inl e)
  have c6 : Chg (fun b => b = mb ∨ b = rb) wB w6 := ((c1.trans c2 (fun b e => .inl e)).trans c3 (fun b e => .inl e)).trans c45 (fun b e => .inl e)
  have z3 : rb + 1 ≤ w3.heap.size := by have := c1.size; have := c2.size; omega
  have z4 : rb + 1 ≤ w4.heap.size := by have := c3.size; omega
  obtain ⟨s, hs⟩ := hrd.any
  refine ⟨⟨n0, n1, n2, n3, n4, n5, n6, b, [], x, y, [], d, t⟩, s, hres.chg c6 (by rintro (e | e) <;> omega), (by have h6 := h5.box; rw [lit5] at h6; exact h6), ?_, hb.trans (c6.below hb.size (by rintro b (e | e) <;> omega)), ?_⟩
  · cases hd : dM l with
    | none => rw [hd] at hs; exact hs
    | some p => rw [hd] at hs; exact hs
  · intro p hp
    have hp0 := hp
    rw [dM_is] at hp
    cases hn : dNs 7 l with
    | none => rw [hn] at hp; cases hp
    | some p1 =>
      rw [hn] at hp
      simp only [Option.bind_some] at hp
      cases hbb : dB p1.2 with
      | none => rw [hbb] at hp; cases hp
      | some p2 =>
        rw [hbb] at hp
        simp only [Option.bind_some] at hp
        cases hll : dL p2.2 with
        | none => rw [hll] at hp; cases hp
        | some p3 =>
          rw [hll] at hp
          simp only [Option.bind_some] at hp
          cases hbs : dBs p3.2 with
          | none => rw [hbs] at hp; cases hp
          | some p4 =>
            rw [hbs] at hp
            simp only [Option.bind_some] at hp
            cases ht : dT p4.2 with
            | none => rw [ht] at hp; cases hp
            | some p5 =>
              rw [ht] at hp
              cases hp
              have k1 : q1 l = some p1.2 := by unfold q1; rw [hn]; rfl
              have k2 : q2 l = some p2.2 := by unfold q2; rw [k1]; simp only [Option.bind_some]; rw [hbb]; rfl
              have k3 : q3 l = some p3.2 := by unfold q3; rw [k2]; simp only [Option.bind_some]; rw [hll]; rfl
              have k4 : q4 l = some p4.2 := by unfold q4; rw [k3]; simp only [Option.bind_some]; rw [hbs]; rfl
              have e1 := h1.eq p1 hn
              have e2 := h2.eq p1.2 p2 k1 hbb
              have e3 := h3.eq p2.2 p3 k2 hll
              have e4 := h4.eq p3.2 p4 k3 hbs
              have e5 := h5.eq p4.2 p5 k4 ht
              rw [hp0] at hrd
              have e6 := hrd.2.cell 0
              rw [hs.cell 0] at e6
              have e7 : some (Value.string s) = some (Value.string (mk p5.2)) := e6
              cases e7
              have z3' : (w3.alloc (.cells (mgL mb) fnL)).heap.size = w3.heap.size + 1 := by simp
              have z4' : (w4.alloc (.cells (mgW mb) fnW)).heap.size = w4.heap.size + 1 := by simp
              have g3 : ∀ b, (Value.slice a n c).ownBlock = some b → rb + 1 ≤ b := fun b hb' => by
                have h7 := e3.2.2 b hb'
                omega
              have g4 : ∀ b, (Value.slice a' n' c').ownBlock = some b → rb + 1 ≤ b := fun b hb' => by
                have h7 := e4.2.2.2.2.2 b hb'
                omega
              refine ⟨rfl, ?_, e3.1, e4.2.2.2.1, e3.2.1.same (fun b e => c45.block b (e3.2.1.lt b e) (by have := g3 b e; rintro (e' | e') <;> omega)), e4.2.2.2.2.1.same (fun b e => c5.block b (e4.2.2.2.2.1.lt b e) (by have := g4 b e; rintro (e' | e') <;> omega)), fun b e => by have := g3 b e; omega, fun b e => by have := g4 b e; omega⟩
              simp only [msV, e1, e2, e4.1, e4.2.1, e4.2.2.1, e5]
              rfl
end Go.Proofs.Ytppjojjejabaeaa
