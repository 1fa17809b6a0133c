/-
  LAYER 7 (msg), THE PROGRAM: a base read into a message's box; what toMsg says, in its own parts.
-/
import Derived.Test.YtppjojjejabaeaaMsToB
import Derived.Test.YtppjojjejabaeaaMsRdW
namespace Go.Proofs.Ytppjojjejabaeaa
open Go.RowKit
set_option linter.unusedVariables false
set_option maxRecDepth 100000

theorem dM_is (l : List UInt8) : dM l = (dNs 7 l).bind fun a => (dB a.2).bind fun b => (dL b.2).bind fun d => (dBs d.2).bind fun e => (dT e.2).map fun h =>
    (⟨a.1.getD 0 0, a.1.getD 1 0, a.1.getD 2 0, a.1.getD 3 0, a.1.getD 4 0, a.1.getD 5 0, a.1.getD 6 0, b.1, d.1, e.1.1, e.1.2.1, e.1.2.2.1, e.1.2.2.2, h.1⟩, h.2) := by
  unfold dM dL dBs
  cases dNs 7 l with
  | none => rfl
  | some a =>
    simp only [Option.bind_some]
    cases dB a.2 with
    | none => rfl
    | some b =>
      simp only [Option.bind_some]
      cases dI b.2 with
      | none => rfl
      | some c =>
        simp only [Option.bind_some]
        by_cases h : c.1 < 0 ∨ 8 < c.1
        · rw [if_pos h, if_pos h]; rfl
        · rw [if_neg h, if_neg h]
          cases dEs c.1.toNat c.2 with
          | none => rfl
          | some d =>
            simp only [Option.bind_some]
            cases dNs 2 d.2 with
            | none => rfl
            | some e =>
              simp only [Option.bind_some]
              cases dV e.2 with
              | none => rfl
              | some f =>
                simp only [Option.bind_some]
                cases dT f.2 with
                | none => rfl
                | some g =>
                  simp only [Option.map_some, Option.bind_some]
                  cases dT g.2 with
                  | none => rfl
                  | some h => rfl
theorem dBs_shorter {l r : List UInt8} {p : Int × Int × List Int × ByteArray} (h : dBs l = some (p, r)) : r.length ≤ l.length := by
  unfold dBs at h
  cases hn : dNs 2 l with
  | none => rw [hn] at h; cases h
  | some e =>
    rw [hn] at h
    simp only [Option.bind_some] at h
    cases hv : dV e.2 with
    | none => rw [hv] at h; cases h
    | some f =>
      rw [hv] at h
      simp only [Option.bind_some] at h
      cases ht : dT f.2 with
      | none => rw [ht] at h; cases h
      | some g =>
        rw [ht] at h
        cases h
        have h1 := dNs_shorter (show dNs 2 l = some (e.1, e.2) from hn)
        have h2 := dV_shorter (show dV e.2 = some (f.1, f.2) from hv)
        have h3 := dT_short (show dT f.2 = some (g.1, g.2) from ht)
        omega
def set4 (cs : Array Value) (x y : Int) (p : Option Addr) (q r : Nat) (d : ByteArray) : Array Value := (((cs.setIfInBounds 9 (.int .i64 x)).setIfInBounds 10 (.int .i64 y)).setIfInBounds 11 (.slice p q r)).setIfInBounds 12 (.string d)
/-- What a read of a base into a message's box leaves. -/
structure WxPost (w : World) (mb rb : Nat) (cs : Array Value) (q : Option (List UInt8)) (w' : World) (x y : Int) (a : Option Addr) (n c : Nat) (d : ByteArray) : Prop where
  box : own w' mb (set4 cs x y a n c d) 93
  rd : RdIs w' rb (q.bind fun l => (dBs l).map fun p => p.2)
  eq : ∀ l p, q = some l → dBs l = some p → p.1.1 = x ∧ p.1.2.1 = y ∧ p.1.2.2.2 = d ∧ n = p.1.2.2.1.length ∧ ROwn numTy w' (.slice a n c) p.1.2.2.1 ∧ ∀ b, (Value.slice a n c).ownBlock = some b → w.heap.size ≤ b
  chg : Chg (fun b => b = mb ∨ b = rb) w w'
theorem readWx {w : World} {mb rb tb : Nat} {TF : TypeId} {cs : Array Value} {q : Option (List UInt8)} (hsz : cs.size = 14)
    (h1 : mb ≠ rb) (h2 : tb ≠ rb) (h3 : tb ≠ mb) (hcs : set4 cs 0 0 none 0 0 ⟨#[]⟩ = cs) (hbox : own w mb cs 93) (hrd : RdIs w rb q) (hq0 : ∀ l, q = some l → l.length ≤ 10000000) (htk : own w tb #[.func (.func 75) #[.pointer (some ⟨mb, 0, none⟩)] #[]] TF) :
    Calls Try.prog 73 #[.pointer (some ⟨rb, 0, none⟩), .func (.func 74) #[] #[], .slice (some ⟨tb, 0, none⟩) 1 1] w fun e w' => e = .returned (.tuple #[]) ∧ ∃ x y a n c d, WxPost w mb rb cs q w' x y a n c d := by
  let I : Nat → World → Prop := fun j wx => match j with
    | 0 => wx = w ∧ ∃ l, q = some l
    | _ + 1 => ∃ x y a n c d, WxPost w mb rb cs q wx x y a n c d
  let Z : World → Prop := fun wx => own wx tb #[.func (.func 75) #[.pointer (some ⟨mb, 0, none⟩)] #[]] TF ∧ WxPost w mb rb cs q wx 0 0 none 0 0 ⟨#[]⟩ ∧ (q.bind fun l => (dBs l).map fun p => p.2) = none
  have hpre : RdPreW 1 tb rb (fun _ => 75) (fun _ => .pointer (some ⟨mb, 0, none⟩)) I Z := by
    refine ⟨fun _ _ => en_m_base, ?_, ?_⟩
    · intro j wx hj hI
      obtain rfl : j = 0 := by omega
      obtain ⟨rfl, l, rfl⟩ := hI
      have hll := hq0 l rfl
      obtain ⟨_, hrd⟩ := hrd
      have hbA : Below wx.heap.size wx (wx.alloc (.cells #[.int .i64 0, .int .i64 0, .slice none 0 0, .string ⟨#[]⟩] 25)) := (Below.refl _ _).alloc (Nat.le_refl _) _
      have hxA := own.new wx #[.int .i64 0, .int .i64 0, .slice none 0 0, .string ⟨#[]⟩] 25
      have hrlt := hrd.lt
      have hmlt := hbox.lt
      have htlt := htk.lt
      refine ⟨mk l, hrd, (htk.cell 0).trans rfl, (toBase_any l _ hll).mono ?_⟩
      rintro e w1 ⟨hb, x, y, a, n, c, d, s, rfl, hp⟩
      have hb1 : Below wx.heap.size wx w1 := hbA.trans (hb.mono hbA.size)
      have hbox1 := hbox.same (hb1.block _ hmlt)
      have hrd1 := hrd.same (hb1.block _ hrlt)
      have htk1 := htk.same (hb1.block _ htlt)
      have hx1 := hxA.same (hb.block _ hxA.lt)
      have hx4 := put4_chg w1 wx.heap.size (.int .i64 x) (.int .i64 y) (.slice a n c) (.string d)
      have hbox4 := hbox1.chg hx4 (by omega)
      have hrd4 := hrd1.chg hx4 (by omega)
      have htk4 := htk1.chg hx4 (by omega)
      have c1 : Chg (fun b => b = mb ∨ b = rb) wx (put4 w1 wx.heap.size (.int .i64 x) (.int .i64 y) (.slice a n c) (.string d)) := (Chg.of_below hb1).trans hx4 (fun b e => .inr (by rw [e]; exact Nat.le_refl _))
      refine ⟨x, y, a, n, c, d, s, (dBs l).isSome, rfl, ⟨hrd1, hx1⟩, ?_, ?_⟩
      · intro hno
        have hd : dBs l = none := by
          cases h : dBs l with
          | none => rfl
          | some p => rw [h] at hno; cases hno
        have hnone : ((some l).bind fun l => (dBs l).map fun p => p.2) = none := by simp [hd]
        refine ⟨rdSet_other htk4 h2, ⟨by rw [hcs]; exact rdSet_other hbox4 h1, by rw [hnone]; exact ⟨s, rdSet_own hrd4 s false⟩, (fun l' p hl' hp => by cases hl'; rw [hd] at hp; cases hp), ?_⟩, hnone⟩
        exact c1.trans ((rdSet_chg _ rb s false).mono (fun x e => .inr e)) (fun b e => .inl e)
      · intro hyes
        obtain ⟨p, hd⟩ := Option.isSome_iff_exists.1 hyes
        obtain ⟨g1, g2, g3, g4, g5, g6, g7⟩ := hp p hd
        subst g1
        have hsh := dBs_shorter (show dBs l = some (p.1, p.2) from hd)
        have hbox2 := rdSet_other (s' := mk p.2) (b' := true) hbox4 h1
        refine (set_m_base hbox2 hsz x y a n c d).mono ?_
        rintro e w3 ⟨rfl, ho3, hc3⟩
        have hrd2 := rdSet_own hrd4 (mk p.2) true
        have c2 : Chg (fun b => b = rb) (put4 w1 wx.heap.size (.int .i64 x) (.int .i64 y) (.slice a n c) (.string d)) (rdSet (put4 w1 wx.heap.size (.int .i64 x) (.int .i64 y) (.slice a n c) (.string d)) rb (mk p.2) true) := rdSet_chg _ rb (mk p.2) true
        have hge : ∀ b, (Value.slice a n c).ownBlock = some b → wx.heap.size + 1 ≤ b := fun b e => by
          have := g7 b e
          have h8 : (wx.alloc (.cells #[.int .i64 0, .int .i64 0, .slice none 0 0, .string ⟨#[]⟩] 25)).heap.size = wx.heap.size + 1 := by simp
          omega
        have k1 : ROwn numTy (put4 w1 wx.heap.size (.int .i64 x) (.int .i64 y) (.slice a n c) (.string d)) (.slice a n c) p.1.2.2.1 := g6.same (fun b e => hx4.block b (g6.lt b e) (by have := hge b e; omega))
        have k2 := k1.same (w' := rdSet (put4 w1 wx.heap.size (.int .i64 x) (.int .i64 y) (.slice a n c) (.string d)) rb (mk p.2) true) (fun b e => c2.block b (k1.lt b e) (by have := hge b e; omega))
        have k3 := k2.same (w' := w3) (fun b e => hc3.block b (k2.lt b e) (by have := hge b e; omega))
        refine ⟨rfl, x, y, a, n, c, d, ho3, ?_, (fun l' p' hl' hp' => by cases hl'; rw [hd] at hp'; cases hp'; exact ⟨g2, g3, g4, g5, k3, fun b e => by have := hge b e; omega⟩), ?_⟩
        · have e1 : ((some l).bind fun l => (dBs l).map fun p => p.2) = some p.2 := by simp [hd]
          rw [e1]
          exact ⟨by omega, hrd2.chg hc3 (Ne.symm h1)⟩
        · exact (c1.trans (c2.mono (fun b e => .inr e)) (fun b e => .inl e)).trans (hc3.mono (fun b e => .inl e)) (fun b e => .inl e)
    · intro j wx hj hZ
      obtain rfl : j = 0 := by omega
      obtain ⟨ho, hp, hq⟩ := hZ
      have hr := hp.rd
      rw [hq] at hr
      obtain ⟨s, hs⟩ := hr
      exact ⟨(hs.cell 1).trans rfl, (ho.cell 0).trans rfl⟩
  have h0 : I 0 w ∨ Z w := by
    cases q with
    | none => exact .inr ⟨htk, ⟨by rw [hcs]; exact hbox, hrd, (fun l p hl _ => by cases hl), Chg.refl _ _⟩, rfl⟩
    | some l => exact .inl ⟨rfl, l, rfl⟩
  refine (readW_any hpre (by omega) w h0).mono ?_
  rintro e w' ⟨rfl, h | h⟩
  · obtain ⟨x, y, a, n, c, d, hp⟩ := h
    exact ⟨rfl, x, y, a, n, c, d, hp⟩
  · exact ⟨rfl, 0, 0, none, 0, 0, ⟨#[]⟩, h.2.1⟩
end Go.Proofs.Ytppjojjejabaeaa
