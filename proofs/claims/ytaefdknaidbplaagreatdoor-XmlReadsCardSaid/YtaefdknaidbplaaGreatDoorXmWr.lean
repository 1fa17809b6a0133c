/-
  LAYER 11 (xml), THE PROGRAM: writeOpen, Write.
-/
import Derived.Test.YtaefdknaidbplaaGreatDoorXmLw
import Derived.Test.YtaefdknaidbplaaGreatDoorXmWl
namespace Go.Proofs.YtaefdknaidbplaaGreatDoor
open Go.RowKit
set_option linter.unusedVariables false
set_option maxRecDepth 100000

theorem escX_ge (l : List UInt8) : l.length ≤ (escX l).length := by
  induction l with
  | nil => simp
  | cons c r ih =>
    rw [escX_cons, List.length_append, List.length_cons]
    have : 1 ≤ (escB c).length := by
      unfold escB
      split
      · simp
      · split
        · simp
        · split
          · simp
          · split
            · simp
            · split <;> simp
    omega
/-- A builder that was turned since w, written to once more. -/
theorem tByte {F : Nat → Prop} {w w1 : World} {b : Nat} {l : List UInt8} (h : BTo F w w1 b l) (c : UInt8) (q : Int) (hq : q = (c.toNat : Nat)) (hlen : l.length ≤ 9000000) :
    Calls Tryz.prog 30 #[.pointer (some ⟨b, 0, none⟩), .int .u8 q] w1 fun e w' => e = .returned .nilIface ∧ BTo F w w' b (l ++ [c]) := by
  obtain ⟨F1, h1, h2, h3⟩ := h
  exact (bdByte_any h1 c q hq hlen).mono fun e w' ⟨e1, k⟩ => ⟨e1, bTo_step h2 h3 k⟩
theorem tStr {F : Nat → Prop} {w w1 : World} {b : Nat} {l : List UInt8} (h : BTo F w w1 b l) (s : ByteArray) (hlen : l.length + s.size ≤ 140000000000000) :
    Calls Tryz.prog 29 #[.pointer (some ⟨b, 0, none⟩), .string s] w1 fun e w' => e = .returned (.tuple #[.int .i64 s.size, .nilIface]) ∧ BTo F w w' b (l ++ s.data.toList) := by
  obtain ⟨F1, h1, h2, h3⟩ := h
  exact (bdStr_any h1 s hlen).mono fun e w' ⟨e1, k⟩ => ⟨e1, bTo_step h2 h3 k⟩
theorem tEsc {F : Nat → Prop} {B : Nat} {w0 w w1 : World} {b : Nat} {l : List UInt8} (hG : Gb B w1) (hB : B ≤ w0.heap.size) (hb : Below w0.heap.size w0 w) (hn : ∀ x, F x → w0.heap.size ≤ x) (h : BTo F w w1 b l) (s : List UInt8) (hlen : l.length + (escX s).length ≤ 5000000) :
    Calls Tryz.prog 31 #[.pointer (some ⟨b, 0, none⟩), .string (mk s)] w1 fun e w' => e = .returned (.tuple #[]) ∧ BTo F w w' b (l ++ escX s) := by
  obtain ⟨F1, h1, h2, h3⟩ := h
  have hz := hb.size
  have hs := escX_ge s
  have hh : BHas w0 w1 F1 b l := ⟨h1, fun x hx => by rcases h3 x hx with e | e; exact hn x e; omega, hb.trans (h2.below hz hn)⟩
  exact (escape_all hG hB hh (mk s) (by rw [mk_data]; exact hlen) (by rw [mk_size]; omega)).mono fun e w' ⟨e1, k⟩ => ⟨e1, bTo_step h2 h3 k⟩
theorem wAt_is (a : AtX) : wAt a = [32] ++ a.n ++ [61, 34] ++ escX a.v ++ [34] := by simp [wAt]
def WoRel (F : Nat → Prop) (W : World) (b : Nat) (l : List UInt8) (A : List AtX) (i : Value) (wr : World) : Prop := ∃ k : Nat, k ≤ A.length ∧ i = .int .i64 k ∧ Hid (BTo F W wr b (l ++ (A.take k).flatMap wAt))
set_option maxHeartbeats 8000000 in
theorem writeOpen_any {B b : Nat} {F : Nat → Prop} {l : List UInt8} {w0 w : World} (hG : Gb B w) (hB : B ≤ w0.heap.size) (h : BHas w0 w F b l) (t : TkX) (a : Option Addr) (c : Nat) (ha : RAt atTy w0 (.slice a t.as.length c) t.as) (hal : t.as.length ≤ 1000000) (hlen : l.length + (2 + t.n.length + (t.as.flatMap wAt).length) ≤ 4900000) :
    Calls Tryz.prog 28 #[.pointer (some ⟨b, 0, none⟩), .agg #[.int .i64 t.k, .string (mk t.n), .slice a t.as.length c, .string (mk t.t)]] w fun e w' => e = .returned (.tuple #[]) ∧ BTo F w w' b (l ++ [60] ++ t.n ++ t.as.flatMap wAt ++ [62]) := by
  obtain ⟨_, _, e1, g1⟩ := ats_at ha
  cases e1
  have hb1 : Below w.heap.size w (w.alloc (.cells #[.int .i64 t.k, .string (mk t.n), .slice a t.as.length c, .string (mk t.t)] 60)) := (Below.refl _ _).alloc (Nat.le_refl _) _
  have ho1 : own (w.alloc (.cells #[.int .i64 t.k, .string (mk t.n), .slice a t.as.length c, .string (mk t.t)] 60)) w.heap.size #[.int .i64 t.k, .string (mk t.n), .slice a t.as.length c, .string (mk t.t)] 60 := own.new w _ _
  generalize hW1 : w.alloc (.cells #[.int .i64 t.k, .string (mk t.n), .slice a t.as.length c, .string (mk t.t)] 60) = W1 at hb1 ho1
  have hF : Hid (¬ F w.heap.size) := hid (fun e => by have := h.is.lt _ e; omega)
  have hbW : Below w0.heap.size w0 W1 := h.below.trans (hb1.mono h.below.size)
  have T0 : BTo F W1 W1 b l := Rep.Turn.stay (bdRep.later h.is hb1) (Below.refl _ _)
  have HBK : Hid (∀ w2 r, BTo F W1 w2 b r → BTo F w w2 b r) := hid (fun w2 r k => bTo_behind hb1 h.is k)
  have HGW : Hid (∀ wx r, BTo F W1 wx b r → Gb B wx ∧ Below w0.heap.size w0 wx) := hid (fun wx r k => by
    obtain ⟨F2, k1, k2, k3⟩ := k
    have := k2.below hbW.size (fun x e => h.new x e)
    exact ⟨hG.below (((hb1.mono h.below.size).trans this).mono hB), hbW.trans this⟩)
  have HNF : Hid (∀ x, F x → w0.heap.size ≤ x) := hid h.new
  have HO := hid ho1
  have HG1 := hid g1
  have HL := hid hlen
  have HBW := hid hbW
  have H1 := hid (tByte T0 60 60 rfl (by omega))
  clear h hG hb1 ho1 g1 T0 ha hlen hbW
  go_enter Tryz.func28, Tryz.ntmps28
  go_wp2_with (first
    | (go_at_call 30; go_loud ((with_reducible refine H1.out.mono ?_); rintro e w2 ⟨rfl, k2⟩; (have o2 := bTo_box k2 HO.out hF.out); (have x1 : w2.cell? ⟨w.heap.size, 1, none⟩ = some (.string (mk t.n)) := (by rw [o2.cell]; rfl)); (have x2 : w2.cell? ⟨w.heap.size, 2, none⟩ = some (.slice a t.as.length c) := (by rw [o2.cell]; rfl)); (clear o2); (have H2 := hid (tStr k2 (mk t.n) (by rw [mk_size, List.length_append]; have := HL.out; simp; omega)))))
    | (go_at_call 29; (with_reducible refine H2.out.mono ?_); rintro e w3 ⟨rfl, k3⟩; (have o3 := bTo_box k3 HO.out hF.out); (have x2 : w3.cell? ⟨w.heap.size, 2, none⟩ = some (.slice a t.as.length c) := (by rw [o3.cell]; rfl)); (clear o3); (rw [mk_data] at k3); (have K3 := hid k3); (clear k3)))
  clear H1 H2 x1 HO
  go_loopw [15] (WoRel F W1 b (l ++ [60] ++ t.n) t.as) (fun i _ => t.as.length - (intOf i).toNat)
  case atStart => exact ⟨0, Nat.zero_le _, rfl, hid (by simpa using K3.out)⟩
  case round =>
    obtain ⟨k, hk, rfl, hT⟩ := hrel
    clear K3
    by_cases hlt : k < t.as.length
    · have hkI : (k : Int) < (t.as.length : Int) := by omega
      have hx : t.as[k]? = some t.as[k] := by simp [hlt]
      have ht : t.as.take (k + 1) = t.as.take k ++ [t.as[k]] := by rw [List.take_succ_eq_append_getElem hlt]
      have hw : ((t.as.take k).flatMap wAt).length + (wAt t.as[k]).length ≤ (t.as.flatMap wAt).length := by
        have e : t.as.flatMap wAt = (t.as.take (k + 1)).flatMap wAt ++ (t.as.drop (k + 1)).flatMap wAt := by rw [← List.flatMap_append, List.take_append_drop]
        rw [e, ht, List.flatMap_append, List.length_append, List.length_append]
        simp
      generalize t.as[k] = x at hx ht hw
      obtain ⟨F1, h1, c1, s1⟩ := hT.out
      obtain ⟨sb, so, rfl, f1⟩ := HG1.out k x hx
      obtain ⟨y0, y1⟩ := f1 _ (HGW.out wr _ hT.out).2
      have hbr : Below wr.heap.size wr (wr.alloc (.cells #[.string (mk x.n), .string (mk x.v)] 61)) := (Below.refl _ _).alloc (Nat.le_refl _) _
      have HQ : Hid (own (wr.alloc (.cells #[.string (mk x.n), .string (mk x.v)] 61)) wr.heap.size #[.string (mk x.n), .string (mk x.v)] 61) := hid (own.new wr _ _)
      have HF1 : Hid (¬ F1 wr.heap.size) := hid (fun e => by have := h1.lt _ e; omega)
      have HU : Hid (∀ w2 r, BTo F1 (wr.alloc (.cells #[.string (mk x.n), .string (mk x.v)] 61)) w2 b r → BTo F W1 w2 b r) := hid (fun w2 r h => bTo_step (c1.trans (Chg.of_below (S := F) hbr) (fun x e => .inl e)) s1 h)
      have T0 : BTo F1 (wr.alloc (.cells #[.string (mk x.n), .string (mk x.v)] 61)) (wr.alloc (.cells #[.string (mk x.n), .string (mk x.v)] 61)) b (l ++ [60] ++ t.n ++ (t.as.take k).flatMap wAt) := Rep.Turn.stay (bdRep.later h1 hbr) (Below.refl _ _)
      have HLk : Hid ((l ++ [60] ++ t.n ++ (t.as.take k).flatMap wAt).length + (wAt x).length ≤ 4900000) := hid (by have := HL.out; simp only [List.length_append, List.length_cons, List.length_nil] at this ⊢; omega)
      have HWx : Hid ((wAt x).length = 4 + x.n.length + (escX x.v).length) := hid (by rw [wAt_is]; simp only [List.length_append, List.length_cons, List.length_nil]; omega)
      have HR : Hid (∀ w2, BTo F W1 w2 b (l ++ [60] ++ t.n ++ (t.as.take k).flatMap wAt ++ [32] ++ x.n ++ [61, 34] ++ escX x.v ++ [34]) → WoRel F W1 b (l ++ [60] ++ t.n) t.as (.int .i64 ((k + 1 : Nat) : Int)) w2) := hid (fun w2 h => ⟨k + 1, by omega, rfl, hid (by
        rw [ht, List.flatMap_append, List.flatMap_cons, List.flatMap_nil, List.append_nil, wAt_is]
        simpa only [List.append_assoc] using h)⟩)
      have HN1 : Hid (∀ w2 r, BTo F1 (wr.alloc (.cells #[.string (mk x.n), .string (mk x.v)] 61)) w2 b r → r.length + (escX x.v).length ≤ 5000000 → Calls Tryz.prog 31 #[.pointer (some ⟨b, 0, none⟩), .string (mk x.v)] w2 fun e w' => e = .returned (.tuple #[]) ∧ BTo F1 (wr.alloc (.cells #[.string (mk x.n), .string (mk x.v)] 61)) w' b (r ++ escX x.v)) := hid (fun w2 r h hr => by
        have hbw := (HGW.out wr _ hT.out).2
        refine tEsc (HGW.out w2 _ (HU.out w2 r h)).1 hB (hbw.trans (hbr.mono hbw.size)) (fun y hy => ?_) h x.v hr
        rcases s1 y hy with e | e
        · exact HNF.out y e
        · have := (HBW.out).size; omega)
      generalize (l ++ [60] ++ t.n ++ (t.as.take k).flatMap wAt) = lk at *
      have H1 := hid (tByte T0 32 32 rfl (by have := HLk.out; omega))
      clear hx ht hw h1 c1 s1 f1 hbr T0 hT
      go_wp2_with (first
        | (go_at_call 30; (first
          | ((with_reducible refine H1.out.mono ?_); rintro e w2 ⟨rfl, k2⟩; (have o2 := bTo_box k2 HQ.out HF1.out); (have x1 : w2.cell? ⟨wr.heap.size, 0, none⟩ = some (.string (mk x.n)) := (by rw [o2.cell]; rfl)); (clear o2); (have H2 := hid (tStr k2 (mk x.n) (by rw [mk_size, List.length_append]; have := HLk.out; have := HWx.out; simp; omega))))
          | ((with_reducible refine H5.out.mono ?_); rintro e w6 ⟨rfl, k6⟩)))
        | (go_at_call 29; (first
          | ((with_reducible refine H2.out.mono ?_); rintro e w3 ⟨rfl, k3⟩; (rw [mk_data] at k3); (have H3 := hid (tStr k3 ⟨#[61, 34]⟩ (by have e : (⟨#[61, 34]⟩ : ByteArray).size = 2 := rfl; rw [e, List.length_append, List.length_append]; have := HLk.out; have := HWx.out; simp; omega))))
          | ((with_reducible refine H3.out.mono ?_); rintro e w4 ⟨rfl, k4⟩; (have o4 := bTo_box k4 HQ.out HF1.out); (have x2 : w4.cell? ⟨wr.heap.size, 1, none⟩ = some (.string (mk x.v)) := (by rw [o4.cell]; rfl)); (clear o4); (have H4 := hid (HN1.out w4 _ k4 (by have := HLk.out; have := HWx.out; simp only [List.length_append, List.length_cons, List.length_nil]; simp; omega))))))
        | (go_at_call 31; (with_reducible refine H4.out.mono ?_); rintro e w5 ⟨rfl, k5⟩; (have H5 := hid (tByte k5 34 34 rfl (by have := HLk.out; have := HWx.out; simp only [List.length_append, List.length_cons, List.length_nil]; simp; omega)))))
      go_roundw
      case rel => exact HR.out _ (HU.out _ _ k6)
      case measure => simp [intOf]; omega
    · obtain rfl : k = t.as.length := by omega
      have hfull : t.as.take t.as.length = t.as := List.take_of_length_le (Nat.le_refl _)
      rw [hfull] at hT
      have H6 := hid (tByte hT.out 62 62 rfl (by have := HL.out; simp only [List.length_append, List.length_cons, List.length_nil]; omega))
      clear hT hfull
      go_wp2_with (go_at_call 30; (with_reducible refine H6.out.mono ?_); rintro e w2 ⟨rfl, k2⟩)
      go_end0
      exact ⟨rfl, HBK.out _ _ k2⟩
theorem wTk_1 {t : TkX} (h : t.k = 1) : wTk t = [60] ++ t.n ++ t.as.flatMap wAt ++ [62] := by unfold wTk; rw [if_pos h]; simp
theorem wTk_2 {t : TkX} (h : t.k = 2) : wTk t = [60, 47] ++ t.n ++ [62] := by unfold wTk; rw [if_neg (by omega), if_pos h]
theorem wTk_3 {t : TkX} (h : t.k = 3) : wTk t = escX t.t := by unfold wTk; rw [if_neg (by omega), if_neg (by omega), if_pos h]
theorem wTk_no {t : TkX} (h1 : t.k ≠ 1) (h2 : t.k ≠ 2) (h3 : t.k ≠ 3) : wTk t = [] := by unfold wTk; rw [if_neg h1, if_neg h2, if_neg h3]
theorem write_take {L : List TkX} {k : Nat} {t : TkX} (h : L[k]? = some t) : writeX (L.take (k + 1)) = writeX (L.take k) ++ wTk t ∧ (writeX (L.take k)).length + (wTk t).length ≤ (writeX L).length := by
  have ht : L.take (k + 1) = L.take k ++ [t] := by rw [List.take_add_one, h]; rfl
  have e : writeX (L.take (k + 1)) = writeX (L.take k) ++ wTk t := by rw [ht, write_append, write_one]
  refine ⟨e, ?_⟩
  have e2 : writeX L = writeX (L.take (k + 1)) ++ writeX (L.drop (k + 1)) := by rw [← write_append, List.take_append_drop]
  rw [e2, e, List.length_append, List.length_append]
  omega
def WrRel (w : World) (b : Nat) (L : List TkX) (i : Value) (wr : World) : Prop := ∃ (k : Nat) (F : Nat → Prop), k ≤ L.length ∧ i = .int .i64 k ∧ Hid (BHas w wr F b (writeX (L.take k)))
set_option maxHeartbeats 8000000 in
theorem Write_any {B : Nat} {w : World} (hG : Gb B w) (hB : B ≤ w.heap.size) {v : Value} {L : List TkX} (h : TokAt w v L) (hlen : (writeX L).length ≤ 4900000) (hL : L.length ≤ 1000000) (hA : ∀ t ∈ L, t.as.length ≤ 1000000) :
    Calls Tryz.prog 10 #[v] w fun e w' => e = .returned (.string (mk (writeX L))) ∧ Below w.heap.size w w' := by
  obtain ⟨a1, c1, rfl, t1⟩ := tks_at h
  have HT := hid t1
  have HS := hid (bIs_fresh w)
  have HL := hid hlen
  have HA := hid hA
  have HG := hid (fun (wx : World) (hb : Below w.heap.size w wx) => hG.below (hb.mono hB))
  clear h t1 hlen hA hG
  go_enter Tryz.func10, Tryz.ntmps10
  go_wp2
  go_loopw [8] (WrRel w w.heap.size L) (fun i _ => L.length - (intOf i).toNat)
  case atStart => exact ⟨0, _, Nat.zero_le _, rfl, hid HS.out⟩
  case round =>
    obtain ⟨k, F, hk, rfl, hT⟩ := hrel
    clear HS
    by_cases hlt : k < L.length
    · have hkI : (k : Int) < (L.length : Int) := by omega
      have hx : L[k]? = some L[k] := by simp [hlt]
      have hal : L[k].as.length ≤ 1000000 := HA.out _ (List.getElem_mem hlt)
      generalize L[k] = t at hx hal
      obtain ⟨hw1, hw2⟩ := write_take hx
      obtain ⟨sb, so, aa, ac, rfl, r1, f1⟩ := HT.out k t hx
      have hH := hT.out
      have hbw := hH.below
      obtain ⟨x0, x1, x2, x3⟩ := f1 _ hbw
      have hbr : Below wr.heap.size wr (wr.alloc (.cells #[.int .i64 t.k, .string (mk t.n), .slice aa t.as.length ac, .string (mk t.t)] 60)) := (Below.refl _ _).alloc (Nat.le_refl _) _
      have hq : own (wr.alloc (.cells #[.int .i64 t.k, .string (mk t.n), .slice aa t.as.length ac, .string (mk t.t)] 60)) wr.heap.size #[.int .i64 t.k, .string (mk t.n), .slice aa t.as.length ac, .string (mk t.t)] 60 := own.new wr _ _
      have z0 := hq.cell 0
      have z1 := hq.cell 1
      have z2 := hq.cell 2
      have z3 := hq.cell 3
      simp only [List.getElem?_toArray, List.getElem?_cons_zero, List.getElem?_cons_succ] at z0 z1 z2 z3
      have hH2 := hH.later hbr
      have HQ := hid hq
      have HF : Hid (¬ F wr.heap.size) := hid (fun e => by have := hH.is.lt _ e; omega)
      have HR : Hid (∀ w2 r, r = writeX (L.take k) ++ wTk t → BTo F (wr.alloc (.cells #[.int .i64 t.k, .string (mk t.n), .slice aa t.as.length ac, .string (mk t.t)] 60)) w2 w.heap.size r → WrRel w w.heap.size L (.int .i64 ((k + 1 : Nat) : Int)) w2) := hid (fun w2 r e h => by
        obtain ⟨F2, h2, _⟩ := hH2.turn h
        exact ⟨k + 1, F2, by omega, rfl, hid (by rw [hw1, ← e]; exact h2)⟩)
      have T0 : BTo F (wr.alloc (.cells #[.int .i64 t.k, .string (mk t.n), .slice aa t.as.length ac, .string (mk t.t)] 60)) (wr.alloc (.cells #[.int .i64 t.k, .string (mk t.n), .slice aa t.as.length ac, .string (mk t.t)] 60)) w.heap.size (writeX (L.take k)) := Rep.Turn.stay hH2.is (Below.refl _ _)
      have hgx := HG.out _ (hbw.trans (hbr.mono hbw.size))
      have hll : (writeX (L.take k)).length + (wTk t).length ≤ 4900000 := by have := HL.out; omega
      by_cases k1 : t.k = 1
      · have e1 : ((t.k : Int) == 1) = true := by rw [k1]; rfl
        have hw := wTk_1 k1
        have H1 := hid (writeOpen_any hgx hB hH2 t aa ac r1 hal (by rw [hw] at hll; simp only [List.length_append, List.length_cons, List.length_nil] at hll; omega))
        have HE : Hid (∀ w2, BTo F (wr.alloc (.cells #[.int .i64 t.k, .string (mk t.n), .slice aa t.as.length ac, .string (mk t.t)] 60)) w2 w.heap.size (writeX (L.take k) ++ [60] ++ t.n ++ t.as.flatMap wAt ++ [62]) → WrRel w w.heap.size L (.int .i64 ((k + 1 : Nat) : Int)) w2) := hid (fun w2 h => HR.out w2 _ (by rw [hw]; simp only [List.append_assoc]) h)
        rw [k1] at x0 z0 H1 HE HQ
        clear e1 hx hw1 hw2 r1 f1 hH hbw hbr hq hH2 T0 hgx hll hw HR
        go_wp2_with (go_at_call 28; (with_reducible refine H1.out.mono ?_); rintro e w2 ⟨rfl, h2⟩)
        go_roundw
        case rel => exact HE.out _ h2
        case measure => simp [intOf]; omega
      · have n1 : ((t.k : Int) == 1) = false := beq_eq_false_iff_ne.2 k1
        by_cases k2 : t.k = 2
        · have e2 : ((t.k : Int) == 2) = true := by rw [k2]; rfl
          have hw := wTk_2 k2
          rw [hw] at hll
          have HLL := hid hll
          have H1 := hid (tStr T0 ⟨#[60, 47]⟩ (by have e : (⟨#[60, 47]⟩ : ByteArray).size = 2 := rfl; rw [e]; omega))
          have HE : Hid (∀ w2, BTo F (wr.alloc (.cells #[.int .i64 t.k, .string (mk t.n), .slice aa t.as.length ac, .string (mk t.t)] 60)) w2 w.heap.size (writeX (L.take k) ++ [60, 47] ++ t.n ++ [62]) → WrRel w w.heap.size L (.int .i64 ((k + 1 : Nat) : Int)) w2) := hid (fun w2 h => HR.out w2 _ (by rw [hw]; simp only [List.append_assoc]) h)
          rw [k2] at x0 z0 H1 HE HQ
          clear e2 n1 hx hw1 hw2 r1 f1 hH hbw hbr hq hH2 T0 hgx hll hw HR
          go_wp2_with (first
            | (go_at_call 29; (first
              | ((with_reducible refine H1.out.mono ?_); rintro e w2 ⟨rfl, h2⟩; (have o2 := bTo_box h2 HQ.out HF.out); (have y1 : w2.cell? ⟨wr.heap.size, 1, none⟩ = some (.string (mk t.n)) := (by rw [o2.cell]; rfl)); (clear o2); (have H2 := hid (tStr h2 (mk t.n) (by have := HLL.out; rw [mk_size, List.length_append]; simp only [List.length_append, List.length_cons, List.length_nil] at this ⊢; simp; omega))))
              | ((with_reducible refine H2.out.mono ?_); rintro e w3 ⟨rfl, h3⟩; (rw [mk_data] at h3); (have H3 := hid (tByte h3 62 62 rfl (by have := HLL.out; simp only [List.length_append, List.length_cons, List.length_nil] at this ⊢; simp; omega))))))
            | (go_at_call 30; (with_reducible refine H3.out.mono ?_); rintro e w4 ⟨rfl, h4⟩))
          go_roundw
          case rel => exact HE.out _ h4
          case measure => simp [intOf]; omega
        · have n2 : ((t.k : Int) == 2) = false := beq_eq_false_iff_ne.2 k2
          by_cases k3 : t.k = 3
          · have e3 : ((t.k : Int) == 3) = true := by rw [k3]; rfl
            have hw := wTk_3 k3
            rw [hw] at hll
            have H1 := hid (tEsc hgx hB (hbw.trans (hbr.mono hbw.size)) hH2.new T0 t.t (by omega))
            have HE : Hid (∀ w2, BTo F (wr.alloc (.cells #[.int .i64 t.k, .string (mk t.n), .slice aa t.as.length ac, .string (mk t.t)] 60)) w2 w.heap.size (writeX (L.take k) ++ escX t.t) → WrRel w w.heap.size L (.int .i64 ((k + 1 : Nat) : Int)) w2) := hid (fun w2 h => HR.out w2 _ (by rw [hw]) h)
            rw [k3] at x0 z0 H1 HE HQ
            clear e3 n1 n2 hx hw1 hw2 r1 f1 hH hbw hbr hq hH2 T0 hgx hll hw HR
            go_wp2_with (go_at_call 31; (with_reducible refine H1.out.mono ?_); rintro e w2 ⟨rfl, h2⟩)
            go_roundw
            case rel => exact HE.out _ h2
            case measure => simp [intOf]; omega
          · have n3 : ((t.k : Int) == 3) = false := beq_eq_false_iff_ne.2 k3
            have HE := hid (HR.out _ _ (by rw [wTk_no k1 k2 k3, List.append_nil]) T0)
            clear hx hw1 hw2 r1 f1 hH hbw hbr hq hH2 T0 hgx hll HR
            go_wp2
            go_roundw
            case rel => exact HE.out
            case measure => simp [intOf]; omega
    · obtain rfl : k = L.length := by omega
      have hfull : L.take L.length = L := List.take_of_length_le (Nat.le_refl _)
      rw [hfull] at hT
      have H1 := hid (bdString_any hT.out)
      clear hT hfull
      go_wp2_with (go_at_call 32; (with_reducible refine H1.out.mono ?_); rintro e w2 ⟨rfl, hb⟩)
      go_ret
      exact ⟨rfl, hb⟩
end Go.Proofs.YtaefdknaidbplaaGreatDoor
