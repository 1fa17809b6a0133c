import Derived.Test.YtjoeamlidmmioaaGreatDoorMq8J
/-
  LAYER 11 (xml), THE DOCUMENT's: Read, walked.
-/
namespace Go.Proofs.YtjoeamlidmmioaaGreatDoor
open Go.RowKit
set_option linter.unusedVariables false
set_option maxRecDepth 100000

def RfPost (w : World) (R : List TkX × Int × Int) (e : Ending) (w' : World) : Prop :=
  ∃ a c, e = .returned (.tuple #[.slice a R.1.length c, .int .i64 R.2.1, .int .i64 R.2.2]) ∧ RokAt w' (.slice a R.1.length c) R.1 ∧ Below w.heap.size w w'
theorem rok_nil (w : World) : RokAt w (.slice none 0 0) [] := ⟨[], rAt_nil _, rfl, fun i x t h => by simp at h⟩
theorem rf_bad {w w' : World} {R : List TkX × Int × Int} {q : Int} (hR : R = ([], 8, q)) (hb : Below w.heap.size w w') : RfPost w R (.returned (.tuple #[.slice none 0 0, .int .i64 8, .int .i64 q])) w' := by
  subst hR
  exact ⟨none, 0, rfl, rok_nil _, hb⟩
def RfRel (w : World) (s : List UInt8) (v tv i : Value) (wr : World) : Prop := ∃ (k n cap : Nat) (ao : Option Addr) (V : List TkV) (L : List TkX) (t : List UInt8), k ≤ s.length ∧ i = .int .i64 k ∧ tv = .string (mk t) ∧ v = .slice ao n cap ∧ n = L.length ∧ t.length ≤ 4 * k ∧ L.length ≤ 3 * k ∧ Hid (AsMid w wr (.slice ao n cap) V L) ∧ Hid (readR s = finX L t (partsX (s.drop k)) s.length)
theorem part_none {w : World} {args : Array Value} (h : Calls Tryz.prog 35 args w (PartPost w none)) : Calls Tryz.prog 35 args w fun e w' => Below w.heap.size w w' ∧ e = .returned (.tuple #[.string ⟨#[]⟩, .slice none 0 0, .int .i64 0]) := h
theorem part_txt {w : World} {args : Array Value} {t : List UInt8} {m : Nat} (h : Calls Tryz.prog 35 args w (PartPost w (some (.txt t, m)))) : Calls Tryz.prog 35 args w fun e w' => Below w.heap.size w w' ∧ e = .returned (.tuple #[.string (mk t), .slice none 0 0, .int .i64 (m : Nat)]) := h
theorem part_tags {w : World} {args : Array Value} {L : List TkX} {m : Nat} (h : Calls Tryz.prog 35 args w (PartPost w (some (.tags L, m)))) : Calls Tryz.prog 35 args w fun e w' => Below w.heap.size w w' ∧ ∃ a c, e = .returned (.tuple #[.string ⟨#[]⟩, .slice a L.length c, .int .i64 (m : Nat)]) ∧ RkNew w w' (.slice a L.length c) L := h
theorem partX_two' {s : List UInt8} {L : List TkX} {r : List UInt8} (h : partX s = some (.tags L, r)) : L.length ≤ 2 := by
  have hend : ∀ y, (endX y).map (fun x => (PtX.tags x.1, x.2)) = some (.tags L, r) → L.length ≤ 2 := by
    intro y hy
    obtain ⟨x, hx, e⟩ := Option.map_eq_some_iff.1 hy
    unfold endX at hx
    split at hx
    · cases hx
    · split at hx
      · cases hx; cases e; simp
      · cases hx
  have htag : ∀ y, (tagX y).map (fun x => (PtX.tags x.1, x.2)) = some (.tags L, r) → L.length ≤ 2 := by
    intro y hy
    obtain ⟨x, hx, e⟩ := Option.map_eq_some_iff.1 hy
    unfold tagX at hx
    split at hx
    · cases hx
    · obtain ⟨z, _, e2⟩ := Option.map_eq_some_iff.1 hx
      subst e2
      cases e
      split <;> simp
  unfold partX at h
  split at h
  · obtain ⟨x, _, e⟩ := Option.map_eq_some_iff.1 h; cases e
  split at h
  · obtain ⟨x, _, e⟩ := Option.map_eq_some_iff.1 h; cases e
  split at h
  · obtain ⟨x, _, e⟩ := Option.bind_eq_some_iff.1 h
    split at e <;> cases e
  split at h
  · obtain ⟨x, _, e⟩ := Option.map_eq_some_iff.1 h; cases e
  split at h
  · exact hend _ h
  split at h
  · exact htag _ h
  split at h
  · obtain ⟨x, _, e⟩ := Option.map_eq_some_iff.1 h; cases e
  split at h
  · cases h
  · cases h
theorem endW_one (t : List UInt8) : (endW t).length ≤ 1 := by unfold endW; split <;> simp
/-- What a part told, put behind what is there and the words. -/
theorem rd_join {w w4 w2 w3 : World} {ao a2 a5 : Option Addr} {n cap n2 c2 c5 : Nat} {V V2 : List TkV} {L T : List TkX} {t : List UInt8} (hM : AsMid w w4 (.slice ao n cap) V L) (hb2 : Below w4.heap.size w4 w2) (hA : AsMid w w3 (.slice a2 n2 c2) V2 (L ++ endW t)) (hb3 : Below w2.heap.size w2 w3) (hk : (Value.slice a2 n2 c2).ownBlock = (Value.slice ao n cap).ownBlock ∨ ∀ g, (Value.slice a2 n2 c2).ownBlock = some g → w2.heap.size ≤ g) (hN : RkNew w4 w2 (.slice a5 T.length c5) T) (_h : True) (hL : L.length ≤ 90000) (hew : (endW t).length ≤ 1) (hT : T.length ≤ 2) :
    ∃ a6 n6 c6 w6, (Builtin.append_ #[24, 24] 24 #[.slice a2 n2 c2, .slice a5 T.length c5]).run Tryz.prog w3 = .ok (.slice a6 n6 c6) w6 ∧ Hid (∃ V6, n6 = (L ++ endW t ++ T).length ∧ AsMid w w6 (.slice a6 n6 c6) V6 (L ++ endW t ++ T)) := by
  obtain ⟨M, r1, r2, r3⟩ := hN
  have r2' : RksIs w3 M T := ⟨r2.1, fun i x t hx ht => (r2.2 i x t hx ht).same (fun b _ hl => hb3.block b hl) hb3.size⟩
  have hVl : V2.length = (L ++ endW t).length := hA.is.1
  have hMl : M.length = T.length := r2.1
  rw [List.length_append] at hVl
  have hap : ∀ x ∈ M, ∀ g, (Value.slice x.a x.m x.c).ownBlock = some g → (Value.slice a2 n2 c2).ownBlock ≠ some g ∧ g < w3.heap.size := fun x hx g e => by
    obtain ⟨g1, g2⟩ := r3 x hx g e
    have hz := hb3.size
    refine ⟨fun q => ?_, by omega⟩
    rcases hk with k | k
    · rw [k] at q
      have := hM.mid.row.lt g q
      omega
    · have := k g q
      omega
  obtain ⟨a6, n6, c6, w6, h1, h2, h3, -⟩ := as_join hA (r1.below hb3) r2' hap 24 (by omega)
  refine ⟨a6, n6, c6, w6, h1, hid ⟨_, ?_, h3⟩⟩
  rw [h2, hVl, hMl, List.length_append, List.length_append]
theorem partO_some {y : List UInt8} {p : PtX} {m : Nat} (h : partO y = some (p, m)) : ∃ r, partX (60 :: y) = some (p, r) ∧ m + r.length = y.length + 1 ∧ (60 :: y).drop m = r ∧ 1 ≤ m := by
  unfold partO at h
  obtain ⟨⟨p', r⟩, h1, h2⟩ := Option.map_eq_some_iff.1 h
  cases h2
  have hl := partX_lt h1
  have hd := partX_drop h1
  simp only [List.length_cons] at hl hd
  refine ⟨r, h1, by simp only; omega, ?_, by simp only; omega⟩
  simp only
  rw [show 1 + y.length - r.length = y.length + 1 - r.length by omega]
  exact hd
set_option maxHeartbeats 32000000 in
theorem refRead_any (s : List UInt8) (hs : s.length ≤ 30000) (w : World) :
    Calls Tryz.prog 15 #[.string (mk s)] w (RfPost w (readR s)) := by
  have hms : (mk s).size = s.length := mk_size s
  by_cases hlong : 20000 < s.length
  · have h1 : (20000 : Int) < ((mk s).size : Int) := by omega
    have HR : Hid (readR s = ([], 10, 0)) := hid (by unfold readR; rw [if_pos hlong])
    go_enter Tryz.func15, Tryz.ntmps15
    go_wp2
    go_ret3
    exact ⟨none, 0, by rw [HR.out]; rfl, by rw [HR.out]; exact rok_nil _, Below.refl _ _⟩
  have h1 : ¬ (20000 : Int) < ((mk s).size : Int) := by omega
  have HS : Hid (readR s = finX [] [] (partsX (s.drop 0)) s.length) := hid (readR_fin (by omega))
  go_enter Tryz.func15, Tryz.ntmps15
  go_wp2
  go_loopw [5, 6, 7] (RfRel w s) (fun v tv i _ => s.length - (intOf i).toNat)
  case atStart => exact ⟨0, 0, 0, none, [], [], [], by omega, rfl, rfl, rfl, rfl, by simp, by simp, hid (asMid_nil w), HS⟩
  case round =>
    obtain ⟨w4, rfl⟩ : ∃ w4, w4 = wr := ⟨wr, rfl⟩
    obtain ⟨k, n, cap, ao, V, L, t, hk, rfl, rfl, rfl, rfl, ht, hL, hM, hF⟩ := hrel
    clear HS
    have hb := hM.out.mid.below
    have HVL := hid hM.out.is.1
    by_cases hlt : k < s.length
    · have hkI : ((k : Int) < ((mk s).size : Int)) := by omega
      have hd : s.drop k = s[k] :: s.drop (k + 1) := List.drop_eq_getElem_cons hlt
      have hx : s[k]? = some s[k] := by simp [hlt]
      generalize s[k] = c at hd hx
      have i1 := fun wx => ix_at hx (q := (k : Int)) rfl wx
      by_cases hc : c = 60
      · have hce : ((c.toNat : Nat) : Int) = 60 := by rw [hc]; rfl
        rw [hce] at i1
        subst hc
        have x1 := fun wx => s_from (a := s) (k := k) hk (q := (k : Int)) rfl wx
        rw [hd] at x1 hF
        have hyl : (s.drop (k + 1)).length + (k + 1) = s.length := by rw [List.length_drop]; omega
        have hP0 := fun wx => part_any (s.drop (k + 1)) (by omega) wx
        cases ho : partO (s.drop (k + 1)) with
        | none =>
          have hp : partX (60 :: s.drop (k + 1)) = none := by
            unfold partO at ho
            cases hp : partX (60 :: s.drop (k + 1)) with
            | none => rfl
            | some x => rw [hp] at ho; cases ho
          have HR : Hid (readR s = ([], 8, (k : Int))) := hid (by
            rw [hF.out, fin_bad (r := 60 :: s.drop (k + 1)) (by rw [partsX_bad (by simp) hp])]
            simp only [List.length_cons]
            rw [show s.length - ((s.drop (k + 1)).length + 1) = k by omega])
          have HP := hid (fun wx => part_none (by have := hP0 wx; rw [ho] at this; exact this))
          clear hP0 hp hF hd hx ho hM
          go_wp2_with (go_at_call 35; (with_reducible refine (HP.out _).mono ?_); rintro e w2 ⟨hb2, rfl⟩)
          go_ret3
          exact rf_bad HR.out (hb.trans (hb2.mono hb.size))
        | some x =>
          obtain ⟨p, m⟩ := x
          obtain ⟨r, hp, hmr, hdr, hm1⟩ := partO_some ho
          have hwl := partX_wl hp
          simp only [List.length_cons] at hwl
          have hkm : s.drop (k + m) = r := by rw [← List.drop_drop, hd, hdr]
          have hm0 : ((m : Int) == 0) = false := by
            have : ¬ m = 0 := by omega
            simpa using this
          have hkml : k + m ≤ s.length := by omega
          cases p with
          | txt u =>
            have hul : 6 * u.length + 24 * r.length ≤ 24 * ((s.drop (k + 1)).length + 1) := hwl
            have HR : Hid (∀ i w2, i = .int .i64 ((k + m : Nat) : Int) → Below w4.heap.size w4 w2 → RfRel w s (.slice ao L.length cap) (.string (mk t ++ mk u)) i w2) := hid (fun i w2 hi hb2 => ⟨k + m, L.length, cap, ao, V, L, t ++ u, hkml, hi, by rw [mk_append], rfl, rfl, by rw [List.length_append]; omega, by omega, hid (hM.out.later hb2), hid (by rw [hF.out, fin_txt hp, hkm])⟩)
            have HP := hid (fun wx => part_txt (by have := hP0 wx; rw [ho] at this; exact this))
            have y0 : ¬ (9223372036854775807 < (mk t).size + (mk u).size) := by rw [mk_size, mk_size]; omega
            clear hP0 hp hF hd hx ho hM hwl hul hmr hdr hkm
            go_wp2_with (go_at_call 35; (with_reducible refine (HP.out _).mono ?_); rintro e w2 ⟨hb2, rfl⟩)
            go_roundw
            case rel => exact HR.out _ _ (by go_num) hb2
            case measure => simp [intOf]; omega
          | tags T =>
            have hTok : T ≠ [] := (partX_ok hp).1
            have hT2 := partX_two' hp
            have hT0 : ((0 : Int) < (T.length : Int)) := by have := List.length_pos_iff.2 hTok; omega
            have hew := endW_one t
            have HP := hid (fun wx => part_tags (by have := hP0 wx; rw [ho] at this; exact this))
            have HM := hM
            have HR : Hid (∀ i w2 a n2 c V2, i = .int .i64 ((k + m : Nat) : Int) → n2 = (L ++ endW t ++ T).length → AsMid w w2 (.slice a n2 c) V2 (L ++ endW t ++ T) → RfRel w s (.slice a n2 c) (.string ⟨#[]⟩) i w2) := hid (fun i w2 a n2 c V2 hi hn2 hA => ⟨k + m, n2, c, a, V2, _, [], hkml, hi, rfl, rfl, hn2, by simp, by rw [List.length_append, List.length_append]; omega, hid hA, hid (by rw [hF.out, fin_tags hp, hkm])⟩)
            have hme : (mk t ++ (⟨#[]⟩ : ByteArray)) = mk t := by rw [show (⟨#[]⟩ : ByteArray) = mk [] from rfl, mk_append, List.append_nil]
            have y0 : ¬ (9223372036854775807 < (mk t).size) := by rw [mk_size]; omega
            have hV9t : L.length ≤ 90000 := by omega
            have HV9 : Hid (V.length ≤ 90000) := hid (by have := HVL.out; omega)
            clear hP0 hp hF hd hx ho hM hwl hmr hdr hkm hTok
            go_wp2_with (first
              | (go_at_call 35; (with_reducible refine (HP.out _).mono ?_); rintro e w2 ⟨hb2, a5, c5, rfl, hN5⟩; (have HW := hid (with_any (HM.out.later hb2) HVL.out.symm HV9.out t)); (have HN5 := hid hN5); (clear hN5))
              | (go_at_call 36; (with_reducible refine HW.out.mono ?_); rintro e w3 ⟨a2, n2, c2, V2, rfl, hn2, hA, hb3, hk3⟩; (obtain ⟨a6, n6, c6, w6, hrun, HG6⟩ := rd_join HM.out hb2 hA hb3 hk3 HN5.out trivial hV9t hew hT2); (clear hA hk3 hn2))
              | (at_builtin; refine wpList_append_at hrun rfl rfl _ _ rfl rfl rfl rfl ?_))
            go_roundw
            case rel => exact (HG6.out.elim fun V6 h => HR.out _ _ _ _ _ V6 (by go_num) h.1 h.2)
            case measure => simp [intOf]; omega
      · have q1 := u8_neq (q := 60) rfl hc
        have q1b := u8_nb (q := 60) rfl hc
        obtain ⟨l, d', hld, h60, htd, hl0, hup⟩ := chunk_at hd hc
        have hll : l.length + d'.length + k = s.length := by
          have := congrArg List.length hld
          rw [List.length_append, List.length_drop] at this
          omega
        obtain ⟨E, hE⟩ : ∃ E, E = k + l.length := ⟨_, rfl⟩
        have hdE : s.drop E = d' := by rw [hE, ← List.drop_drop, hld, List.drop_left]
        have x1 := fun wx => s_mid (a := s) (i := k) (j := E) (by omega) (by omega) (p := (k : Int)) (q := (E : Int)) rfl rfl wx
        have e1 : (s.drop k).take (E - k) = l := by rw [hld, show E - k = l.length by omega, List.take_left]
        rw [e1] at x1
        have hF0 := fun wx => find_any s (by omega) k (by omega) (k : Int) rfl ⟨#[60]⟩ (by decide) (by decide) wx
        rw [show (⟨#[60]⟩ : ByteArray).data.toList = [60] from rfl] at hF0
        obtain ⟨sl1, sl2⟩ := saidE_len l.length l (Nat.le_refl _)
        have hS0 := said_any l (by omega)
        rw [hld] at hF
        have hEl : E ≤ s.length := by omega
        have hEk : k < E := by omega
        cases hs : (saidE l).2 with
        | some bad =>
          obtain ⟨sb1, sb2⟩ := sl2 bad hs
          have e7 : saV (saidE l) l.length = .tuple #[.string ⟨#[]⟩, .int .i64 ((l.length - bad.length : Nat) : Int)] := by unfold saV; rw [hs]
          rw [e7] at hS0
          obtain ⟨m, hm⟩ : ∃ m, m = l.length - bad.length := ⟨_, rfl⟩
          rw [← hm] at hS0
          have HSd := hid hS0
          have c5 : (0 : Int) ≤ (m : Int) := by omega
          have hml : k + m ≤ 20000 := by omega
          have HR : Hid (readR s = ([], 8, ((k + m : Nat) : Int))) := hid (by
            rw [hF.out, fin_said_bad h60 htd hs, List.length_append]
            have : s.length - (bad.length + d'.length) = k + m := by omega
            rw [this])
          rcases hup with ⟨hu, hdn⟩ | ⟨z, hu, -⟩
          · have e4 : fndI [60] s k = -1 := by unfold fndI; rw [hu]
            rw [e4] at hF0
            have HF := hid hF0
            have hEs : E = s.length := by rw [hdn] at hll; simp at hll; omega
            clear hF hd hx hld hdE e1 e7 hF0 hS0 hs sl1 sl2 sb1 sb2 hu hdn hm hE hc h60 htd hM
            subst hEs
            go_wp2_with (first
              | (go_at_call 33; (with_reducible refine (HF.out _).mono ?_); rintro e w1 ⟨rfl, rfl⟩)
              | (go_at_call 34; (with_reducible refine (HSd.out _).mono ?_); rintro e w2 ⟨rfl, hb2⟩))
            go_ret3
            exact rf_bad (by rw [HR.out]; simp) (hb.trans (hb2.mono hb.size))
          · have e4 : fndI [60] s k = (E : Int) := by unfold fndI; rw [hu, hE]
            rw [e4] at hF0
            have HF := hid hF0
            have c6 : ¬ ((E : Int) < 0) := by omega
            clear hF hd hx hld hdE e1 e7 hF0 hS0 hs sl1 sl2 sb1 sb2 hu hm hE hc h60 htd hM hll
            go_wp2_with (first
              | (go_at_call 33; (with_reducible refine (HF.out _).mono ?_); rintro e w1 ⟨rfl, rfl⟩)
              | (go_at_call 34; (with_reducible refine (HSd.out _).mono ?_); rintro e w2 ⟨rfl, hb2⟩))
            go_ret3
            exact rf_bad (by rw [HR.out]; simp) (hb.trans (hb2.mono hb.size))
        | none =>
          have e7 : saV (saidE l) l.length = .tuple #[.string (mk (saidE l).1), .int .i64 (-1)] := by unfold saV; rw [hs]
          rw [e7] at hS0
          have HSd := hid hS0
          have y0 : ¬ (9223372036854775807 < (mk t).size + (mk (saidE l).1).size) := by rw [mk_size, mk_size]; omega
          have HR : Hid (∀ i w2, i = .int .i64 (E : Nat) → Below w4.heap.size w4 w2 → RfRel w s (.slice ao L.length cap) (.string (mk t ++ mk (saidE l).1)) i w2) := hid (fun i w2 hi hb2 => ⟨E, L.length, cap, ao, V, L, t ++ (saidE l).1, hEl, hi, by rw [mk_append], rfl, rfl, by rw [List.length_append]; omega, by omega, hid (hM.out.later hb2), hid (by rw [hF.out, fin_said h60 htd hs, hdE])⟩)
          rcases hup with ⟨hu, hdn⟩ | ⟨z, hu, -⟩
          · have e4 : fndI [60] s k = -1 := by unfold fndI; rw [hu]
            rw [e4] at hF0
            have HF := hid hF0
            have hEs : E = s.length := by rw [hdn] at hll; simp at hll; omega
            clear hF hd hx hld hdE e1 e7 hF0 hS0 hs sl1 sl2 hu hdn hE hc h60 htd hM
            generalize (saidE l).1 = sv at *
            subst hEs
            go_wp2_with (first
              | (go_at_call 33; (with_reducible refine (HF.out _).mono ?_); rintro e w1 ⟨rfl, rfl⟩)
              | (go_at_call 34; (with_reducible refine (HSd.out _).mono ?_); rintro e w2 ⟨rfl, hb2⟩))
            go_roundw
            case rel => exact HR.out _ _ rfl hb2
            case measure => simp [intOf]; omega
          · have e4 : fndI [60] s k = (E : Int) := by unfold fndI; rw [hu, hE]
            rw [e4] at hF0
            have HF := hid hF0
            have c6 : ¬ ((E : Int) < 0) := by omega
            clear hF hd hx hld hdE e1 e7 hF0 hS0 hs sl1 sl2 hu hE hc h60 htd hM hll
            generalize (saidE l).1 = sv at *
            go_wp2_with (first
              | (go_at_call 33; (with_reducible refine (HF.out _).mono ?_); rintro e w1 ⟨rfl, rfl⟩)
              | (go_at_call 34; (with_reducible refine (HSd.out _).mono ?_); rintro e w2 ⟨rfl, hb2⟩))
            go_roundw
            case rel => exact HR.out _ _ rfl hb2
            case measure => simp [intOf]; omega
    · obtain rfl : k = s.length := by omega
      have hkI : ¬ (((s.length : Nat) : Int) < ((mk s).size : Int)) := by omega
      have HW := hid (with_any hM.out HVL.out.symm (by have := HVL.out; omega) t)
      have HR : Hid (readR s = (L ++ endW t, 0, 0)) := hid (by rw [hF.out, List.drop_length]; exact fin_nil)
      clear hF hM
      go_wp2_with (go_at_call 36; (with_reducible refine HW.out.mono ?_); rintro e w2 ⟨a2, n2, c2, V2, rfl, hn2, hA, hb2, -⟩; (have HN2 := hid (hn2.trans hA.is.1)); (clear hn2))
      go_ret3
      have hl2 := HN2.out
      subst hl2
      exact ⟨a2, c2, by rw [HR.out]; rfl, by rw [HR.out]; exact ⟨V2, hA.mid.row.rAt, hA.is⟩, hA.mid.below⟩
end Go.Proofs.YtjoeamlidmmioaaGreatDoor

