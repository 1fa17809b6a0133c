import Derived.Test.YtpcafkinpkepcaaGreatDoorWq33
/-
  Wq34: RkF, RkG, in one text.
-/
/-
  LAYER 2 (disk), THE DOCUMENT's ANSWER: Truncate.
-/
namespace Go.Proofs.YtpcafkinpkepcaaGreatDoor
open Go.RowKit Go.Maps
set_option linter.unusedVariables false
set_option maxRecDepth 100000
section
variable {w w' : World} {S : Nat → Prop} {r : Nat} {v : Value} {s : Dk}

theorem RefRow.putRow {g n cap : Nat} {L : List AF} (h : RefRow w (.slice (some ⟨g, 0, none⟩) n cap) L) {i k : Nat} (hi : i < L.length) (hk : k < 3) (u : Value) (f' : AF) (hf : (fcells L[i]).set k u = fcells f') :
    RefRow (w.setCell ⟨g, i * 3 + k, none⟩ u) (.slice (some ⟨g, 0, none⟩) n cap) (L.set i f') := by
  have h1 := ownsRow_set h (g := g) rfl (j := i * 3 + k) (by rw [flat_length]; omega) u
  rw [flat_set hi hk hf] at h1
  unfold RefRow
  simpa using h1
theorem RefRow.drew {L : List AF} (h : RefRow w v L) : RefRow w.drew v L := ownsRow_same h (fun _ _ => rfl)
/-- Behind turn: the cells that are read, those behind the first store, and what stands at the end. -/
def CutTurned (w : World) (S : Nat → Prop) (r g i : Nat) (n cap : Nat) (db db2 : ByteArray) (sy : Int) (z2 : Int) (q : Dk × Int) (e : Ending) (w2 : World) : Prop := e = .returned (.int .i64 0) ∧ w2.cell? ⟨r, 0, none⟩ = some (.slice (some ⟨g, 0, none⟩) n cap) ∧ w2.cell? ⟨g, i * 3 + 1, none⟩ = some (.string db) ∧ w2.frozen? ⟨g, i * 3 + 1, none⟩ = false ∧
  (w2.setCell ⟨g, i * 3 + 1, none⟩ (.string db2)).drew.cell? ⟨r, 0, none⟩ = some (.slice (some ⟨g, 0, none⟩) n cap) ∧
  (w2.setCell ⟨g, i * 3 + 1, none⟩ (.string db2)).drew.cell? ⟨g, i * 3 + 2, none⟩ = some (.int .i64 sy) ∧
  (w2.setCell ⟨g, i * 3 + 1, none⟩ (.string db2)).drew.cell? ⟨g, i * 3 + 1, none⟩ = some (.string db2) ∧
  (w2.setCell ⟨g, i * 3 + 1, none⟩ (.string db2)).drew.frozen? ⟨g, i * 3 + 2, none⟩ = false ∧
  (((w2.setCell ⟨g, i * 3 + 1, none⟩ (.string db2)).drew.setCell ⟨g, i * 3 + 2, none⟩ (.int .i64 z2)).drew.cell? ⟨r, 0, none⟩ = some (.slice (some ⟨g, 0, none⟩) n cap)) ∧
  (((w2.setCell ⟨g, i * 3 + 1, none⟩ (.string db2)).drew.setCell ⟨g, i * 3 + 2, none⟩ (.int .i64 z2)).drew.cell? ⟨g, i * 3 + 2, none⟩ = some (.int .i64 z2)) ∧
  Hid (RefPost w S r q (.returned (.int .i64 0)) ((w2.setCell ⟨g, i * 3 + 1, none⟩ (.string db2)).drew.setCell ⟨g, i * 3 + 2, none⟩ (.int .i64 z2)).drew)

set_option maxHeartbeats 4000000 in
theorem refTrunc_any (h : RefRep w S r v s) (n : ByteArray) (k : Int) : Calls Tryz.prog 88 #[.pointer (some ⟨r, 0, none⟩), .string n, .int .i64 k] w (RefPost w S r (trunc s n.data.toList k)) := by
  have hT := refThere_any h n
  cases hf : (if s.dead then none else fndK AF.key n.data.toList s.L) with
  | none =>
    have hx : s.dead = true ∨ fndK AF.key n.data.toList s.L = none := by
      cases hd : s.dead with
      | true => exact .inl rfl
      | false => rw [hd] at hf; exact .inr hf
    obtain ⟨kk, hk, e1, e2, _⟩ := there_fail n hx
    rw [e1] at hT
    unfold trunc
    rw [e2]
    have HT := hid hT
    have HP := hid (fun w1 (hb : Below w.heap.size w w1) => RefPost.none h (k := kk) hb)
    clear hf hx e1 e2 hT h
    rcases hk with rfl | rfl
    all_goals
      go_enter Tryz.func88, Tryz.ntmps88
      go_wp2_with (go_at_call 139; (with_reducible refine HT.out.mono ?_); rintro e w1 ⟨rfl, hb1⟩)
      go_ret
      exact HP.out _ hb1
  | some f =>
    have hd : s.dead = false := by
      cases hd : s.dead with
      | true => rw [hd] at hf; cases hf
      | false => rfl
    rw [hd] at hf
    have hf : fndK AF.key n.data.toList s.L = some f := hf
    obtain ⟨i, hi, e1, e2, hia, hname, e4, -⟩ := there_ok h.ok hd hf
    rw [e1] at hT
    have hq : trunc s n.data.toList k = if k < 0 ∨ (f.data.length : Int) < k then (s, 2) else spends s fun s => { s with L := updK AF.key n.data.toList (cutF k.toNat) s.L } := e4 _
    have hok := Ok_trunc h.ok n.data.toList k
    rw [hq] at hok ⊢
    have HT := hid hT
    have hrl := h.head.lt
    have c0 := h.head.cell 0
    simp at c0
    obtain ⟨ao, cap, rfl, hcap, -⟩ := h.row.slice
    obtain ⟨g, rfl, hg, hcells, -⟩ := h.row.at hi
    have c1 := (hcells i hi).2.1
    rw [e2] at c1
    have hcs := hid (fun w1 (hb1 : Below w.heap.size w w1) => (show w1.cell? ⟨r, 0, none⟩ = _ ∧ w1.cell? ⟨g, i * 3 + 1, none⟩ = _ from ⟨(hb1.cell (p := ⟨r, 0, none⟩) hrl).trans c0, (hb1.cell (p := ⟨g, i * 3 + 1, none⟩) hg).trans c1⟩))
    have hcI : (i : Int) < (s.L.length : Int) := by omega
    have hmI : (s.L.length : Int) ≤ 40 := by have := h.ok.many; omega
    by_cases hneg : k < 0
    · rw [if_pos (.inl hneg)]
      have HP := hid (fun w1 (hb : Below w.heap.size w w1) => RefPost.none h (k := 2) hb)
      clear hf e1 e2 e4 hT h hq hok hd c0 c1 hcells hname hia
      go_enter Tryz.func88, Tryz.ntmps88
      go_wp2_with (go_at_call 139; (with_reducible refine HT.out.mono ?_); rintro e w1 ⟨rfl, hb1⟩)
      go_ret
      exact HP.out _ hb1
    · by_cases hbig : (f.data.length : Int) < k
      · rw [if_pos (.inr hbig)]
        have HP := hid (fun w1 (hb : Below w.heap.size w w1) => RefPost.none h (k := 2) hb)
        have hbig' : ((mk f.data).size : Int) < k := by rw [mk_size]; exact hbig
        clear hf e1 e2 e4 hT h hq hok hd c0 c1 hcells hname hia hbig
        generalize mk f.data = db at *
        go_enter Tryz.func88, Tryz.ntmps88
        go_wp2_with (go_at_call 139; (with_reducible refine HT.out.mono ?_); rintro e w1 ⟨rfl, hb1⟩; obtain ⟨c0, c1⟩ := hcs.out _ hb1)
        go_ret
        exact HP.out _ hb1
      · rw [if_neg (fun h => by rcases h with h | h; exact hneg h; exact hbig h)] at hok ⊢
        have hle : k ≤ ((mk f.data).size : Int) := by rw [mk_size]; omega
        rw [spends_eq] at hok ⊢
        by_cases h0 : s.fuse = 0
        · rw [if_pos h0]
          have HU := hid (fun w1 hb => turn_dead h h0 (w1 := w1) hb)
          clear hf e1 e2 e4 hT h hq hok hd h0 c0 c1 hcells hname hia hbig
          generalize mk f.data = db at *
          go_enter Tryz.func88, Tryz.ntmps88
          go_wp2_with (first
            | (go_at_call 139; (with_reducible refine HT.out.mono ?_); rintro e w1 ⟨rfl, hb1⟩; obtain ⟨c0, c1⟩ := hcs.out _ hb1)
            | (go_at_call 76; (with_reducible refine (HU.out _ hb1).mono ?_); rintro e w2 ⟨rfl, hR⟩; have HR := hid hR; clear hR))
          go_ret
          exact ⟨rfl, HR.out⟩
        · rw [if_neg h0] at hok ⊢
          have hup : updK AF.key n.data.toList (cutF k.toNat) s.L = s.L.set i (cutF k.toNat f) := by
            have hg2 : s.L[ahead AF.key n.data.toList s.L]? = some f := by rw [← hia, List.getElem?_eq_getElem hi, e2]
            have := updK_at (key := AF.key) (g := cutF k.toNat) h.ok.rise hg2 hname
            rw [← hia] at this
            exact this
          have hsy : f.synced ≤ f.data.length := h.ok.sync f (fndK_some hf).1
          have hlb : (f.data.length : Int) ≤ 10000000 := by
            have := h.ok.room; have := h.ok.most; have := sz_mem (fndK_some hf).1; omega
          have hokA : ({ ticked s with L := s.L.set i (cutF k.toNat f) } : Dk).Ok := by rw [← hup]; exact hok
          have hsp : ∀ w1, Below w.heap.size w w1 → Calls Tryz.prog 76 #[.pointer (some ⟨r, 0, none⟩)] w1 (CutTurned w S r g i s.L.length cap (mk f.data) (mk (f.data.take k.toNat)) f.synced (min (f.synced : Int) k) ({ ticked s with L := updK AF.key n.data.toList (cutF k.toNat) (ticked s).L }, 0)) := by
            intro w1 hb1
            refine (turn_hid w1 (h.below hb1) 0 (if_neg h0) (ticked s) (if_neg h0)).mono ?_
            rintro e w2 ⟨rfl, hx, hc, hz⟩
            have hc' : Chg S w w2 := (Chg.of_below hb1).trans hc (fun b e => .inl (by rw [e]; exact h.inS.1))
            have hne : r ≠ g := fun e => h.apart (by rw [e]; rfl)
            have q0 := hx.head.cell 0
            obtain ⟨g', hg', hgl, hcells2, hfz2⟩ := hx.row.at hi
            obtain rfl : g = g' := by cases hg'; rfl
            have e2' : (ticked s).L[i] = f := e2
            have q1 := (hcells2 i hi).2.1
            rw [e2] at q1
            -- behind the first store
            have hrow1 := (hx.row.putRow hi (k := 1) (by omega) (.string (mk (f.data.take k.toNat))) { f with data := f.data.take k.toNat } (by rw [e2']; rfl)).drew
            have hhead1 : own (w2.setCell ⟨g, i * 3 + 1, none⟩ (.string (mk (f.data.take k.toNat)))).drew r _ _ := hx.head.other hne _
            have u0 := hhead1.cell 0
            have hil' : i < (s.L.set i { f with data := f.data.take k.toNat }).length := by rw [List.length_set]; exact hi
            obtain ⟨g', hg', -, pcells, pfz⟩ := RefRow.at_n (L := s.L.set i { f with data := f.data.take k.toNat }) hrow1 (by rw [List.length_set]) hil'
            obtain rfl : g = g' := by cases hg'; rfl
            have u1 := (pcells i hil').2.1
            have u2 := (pcells i hil').2.2
            simp at u1 u2
            -- behind the second
            have hz2 : (Value.int .i64 (min (f.synced : Int) k)) = .int .i64 ((min f.synced k.toNat : Nat) : Int) := by congr 1; omega
            have hrow2 := (hrow1.putRow (L := s.L.set i { f with data := f.data.take k.toNat }) hil' (k := 2) (by omega) (.int .i64 (min (f.synced : Int) k)) (cutF k.toNat f) (by rw [hz2]; simp [fcells, cutF])).drew
            rw [List.set_set] at hrow2
            have hhead2 : own ((w2.setCell ⟨g, i * 3 + 1, none⟩ (.string (mk (f.data.take k.toNat)))).drew.setCell ⟨g, i * 3 + 2, none⟩ (.int .i64 (min (f.synced : Int) k))).drew r _ _ := hhead1.other hne _
            have hil2 : i < (s.L.set i (cutF k.toNat f)).length := by rw [List.length_set]; exact hi
            obtain ⟨g', hg', -, vcells, -⟩ := RefRow.at_n (L := s.L.set i (cutF k.toNat f)) hrow2 (by rw [List.length_set]) hil2
            obtain rfl : g = g' := by cases hg'; rfl
            have y2 := (vcells i hil2).2.2
            have hup' : updK AF.key n.data.toList (cutF k.toNat) (ticked s).L = s.L.set i (cutF k.toNat f) := hup
            have hfin : RefRep ((w2.setCell ⟨g, i * 3 + 1, none⟩ (.string (mk (f.data.take k.toNat)))).drew.setCell ⟨g, i * 3 + 2, none⟩ (.int .i64 (min (f.synced : Int) k))).drew S r (.slice (some ⟨g, 0, none⟩) s.L.length cap) ({ ticked s with L := s.L.set i (cutF k.toNat f) } : Dk) :=
              ⟨hhead2, hrow2, hx.apart, hx.inS, fun b hb => by have := hx.lt b hb; simpa [World.setCell, World.drew] using this, hokA⟩
            have hcg : Chg S w2 ((w2.setCell ⟨g, i * 3 + 1, none⟩ (.string (mk (f.data.take k.toNat)))).drew.setCell ⟨g, i * 3 + 2, none⟩ (.int .i64 (min (f.synced : Int) k))).drew :=
              (((((Chg.setCell w2 _ _).mono (fun b (e : b = g) => by rw [e]; exact h.inS.2 _ rfl)).drewN 1).trans (Chg.setCell _ _ _) (fun b (e : b = g) => .inl (by rw [e]; exact h.inS.2 _ rfl))).drewN 1)
            refine ⟨rfl, q0, q1, hfz2 _, u0, ?_, ?_, pfz _, hhead2.cell 0, ?_, hid ?_⟩
            · exact u2
            · exact u1
            · rw [y2, hz2]; simp [cutF]
            · rw [hup']
              exact h.done hfin (hc'.trans hcg (fun b hb => .inl hb)) 0
          have HS := hid hsp
          have l1 := fun wx => slice_h (s := mk f.data) (hi := k) (l := f.data.take k.toNat) (by omega) hle (by rw [mk_data]) wx
          clear hf e1 e2 e4 hT h hq hok hd h0 hup hsp hname hia hokA c0 c1 hcells hbig hsy hlb
          generalize ({ ticked s with L := updK AF.key n.data.toList (cutF k.toNat) (ticked s).L } : Dk) = sd at *
          generalize hz2 : min (f.synced : Int) k = z2 at *
          generalize mk (f.data.take k.toNat) = db2 at *
          generalize mk f.data = db at *
          generalize (f.synced : Int) = sy at *
          go_enter Tryz.func88, Tryz.ntmps88
          go_wp2_with (first
            | (go_at_call 139; (with_reducible refine HT.out.mono ?_); rintro e w1 ⟨rfl, hb1⟩; obtain ⟨d0, d1⟩ := hcs.out _ hb1)
            | (go_at_call 76; (with_reducible refine (HS.out _ hb1).mono ?_); rintro e w2 ⟨rfl, c0, c1, f1, p0, p2, p1, g2, y0, y2, HP⟩))
          go_region
          go_wp2
          go_region
          go_wp2
          go_ret
          exact HP.out
end
end Go.Proofs.YtpcafkinpkepcaaGreatDoor

/-
  LAYER 2 (disk), THE DOCUMENT's ANSWER: Name.
-/
namespace Go.Proofs.YtpcafkinpkepcaaGreatDoor
open Go.RowKit Go.Maps
set_option linter.unusedVariables false
set_option maxRecDepth 100000

set_option maxHeartbeats 1000000 in
theorem refName_any (s : ByteArray) (w : World) (hs : s.size ≤ maxLen) :
    Calls Tryz.prog 73 #[.string s] w fun e w' => e = .returned (.bool (isName s.data.toList)) ∧ w = w' := by
  unfold maxLen at hs
  go_enter Tryz.func73, Tryz.ntmps73
  go_wp2
  go_loop [3] (fun i => ∃ k : Nat, k ≤ s.size ∧ i = .int .i64 k ∧ Hid ((s.data.toList.take k).all nameByte = true)) (fun i => s.size - (intOf i).toNat)
  case atStart => exact ⟨0, Nat.zero_le _, rfl, hid (by simp)⟩
  case round =>
    obtain ⟨k, hk, rfl, hall⟩ := hrel
    by_cases hlt : k < s.size
    · have hc := nameByte_cases s[k]
      have hb : (s[k].toNat : Int) < 256 := by have := UInt8.toNat_lt s[k]; omega
      rcases hc with ⟨hc, h⟩ | ⟨hc, h⟩
      · have H := hid hc
        clear hc
        rcases h with ⟨h1, h2⟩ | ⟨h1, h2⟩
        · go_wp2
          go_round
          case rel => exact ⟨k + 1, by omega, by go_num, hid (all_snoc hlt hall.out H.out)⟩
          case measure => simp [intOf]; omega
        · have h3 : (s[k].toNat : Int) < 97 := by omega
          go_wp2
          go_round
          case rel => exact ⟨k + 1, by omega, by go_num, hid (all_snoc hlt hall.out H.out)⟩
          case measure => simp [intOf]; omega
      · have H := hid hc
        clear hc
        rcases h with h | ⟨h1, h2⟩ | h
        · go_wp2
          go_ret
          exact ⟨ret_bool (isName_bad hlt H.out).symm, rfl⟩
        · have d1 : decide ((s[k].toNat : Int) ≤ 57) = false := by simp; omega
          go_wp2
          go_ret
          exact ⟨ret_bool (isName_bad hlt H.out).symm, rfl⟩
        · have d1 : decide ((s[k].toNat : Int) ≤ 57) = false := by simp; omega
          have d2 : decide ((s[k].toNat : Int) ≤ 122) = false := by simp; omega
          have d3 : decide (97 ≤ (s[k].toNat : Int)) = true := by simp; omega
          have d4 : decide (48 ≤ (s[k].toNat : Int)) = true := by simp; omega
          go_wp2
          go_ret
          exact ⟨ret_bool (isName_bad hlt H.out).symm, rfl⟩
    · obtain rfl : k = s.size := by omega
      have hfin := hid (isName_all hall.out)
      by_cases h1 : 1 ≤ s.size
      · have d1 : decide (1 ≤ (s.size : Int)) = true := by simp; omega
        by_cases h2 : s.size ≤ 24
        · have d2 : decide ((s.size : Int) ≤ 24) = true := by simp; omega
          go_wp2
          go_ret
          exact ⟨ret_bool (by rw [hfin.out]; simp [h1, h2]), rfl⟩
        · have d2 : decide ((s.size : Int) ≤ 24) = false := by simp; omega
          go_wp2
          go_ret
          exact ⟨ret_bool (by rw [hfin.out]; simp [h2]), rfl⟩
      · have d1 : decide (1 ≤ (s.size : Int)) = false := by simp; omega
        go_wp2
        go_ret
        exact ⟨ret_bool (by rw [hfin.out]; simp [h1]), rfl⟩

end Go.Proofs.YtpcafkinpkepcaaGreatDoor

