import Derived.Test.YtpcafkinpkepcaaGreatDoorWq34
/-
  Wq35: RkH, in one text.
-/
/-
  LAYER 2 (disk), THE DOCUMENT's ANSWER: Append.
-/
namespace Go.Proofs.YtpcafkinpkepcaaGreatDoor
open Go.RowKit Go.Maps
set_option linter.unusedVariables false
set_option maxRecDepth 100000
section
variable {w w' : World} {S : Nat → Prop} {r : Nat} {v : Value} {s : Dk}

theorem mk_plus (a : List UInt8) (d : ByteArray) : mk a ++ d = mk (a ++ d.data.toList) := by
  apply str_ext
  simp [mk_data]
/-- Where bytes are put behind a file's. -/
def AddReady (w : World) (S : Nat → Prop) (r g i : Nat) (n cap : Nat) (old d : ByteArray) (q : Dk × Int) (W : World) : Prop := W.cell? ⟨r, 0, none⟩ = some (.slice (some ⟨g, 0, none⟩) n cap) ∧ W.cell? ⟨g, i * 3 + 1, none⟩ = some (.string old) ∧ W.frozen? ⟨g, i * 3 + 1, none⟩ = false ∧
  (W.setCell ⟨g, i * 3 + 1, none⟩ (.string (old ++ d))).drew.cell? ⟨r, 0, none⟩ = some (.slice (some ⟨g, 0, none⟩) n cap) ∧
  (W.setCell ⟨g, i * 3 + 1, none⟩ (.string (old ++ d))).drew.cell? ⟨g, i * 3 + 1, none⟩ = some (.string (old ++ d)) ∧
  Hid (RefPost w S r q (.returned (.int .i64 0)) (W.setCell ⟨g, i * 3 + 1, none⟩ (.string (old ++ d))).drew)
theorem AddReady.of {W : World} (h : RefRep w S r v s) {T : Nat → Prop} {g n cap : Nat} {s2 : Dk} (h2 : RefRep W T r (.slice (some ⟨g, 0, none⟩) n cap) s2) (hn : n = s2.L.length) (hT : ∀ b, T b → grow S w W b) (hc : Chg S w W) {i : Nat} (hi : i < s2.L.length) (d : ByteArray) (f : AF) (hf : s2.L[i] = f) {L : List AF} (hL : s2.L.set i (addF d.data.toList f) = L)
    (hok : ({ s2 with L := L } : Dk).Ok) : AddReady w S r g i n cap (mk f.data) d ({ s2 with L := L }, 0) W := by
  subst hL
  obtain ⟨g', hg', hgl, hcells, hfz⟩ := RefRow.at_n h2.row hn hi
  obtain rfl : g = g' := by cases hg'; rfl
  have q1 := (hcells i hi).2.1
  rw [hf] at q1
  have hp := (h2.put hi (k := 1) (by omega) (.string (mk f.data ++ d)) (addF d.data.toList f) (by rw [hf, mk_plus]; rfl) hok).drew
  have hil : i < (s2.L.set i (addF d.data.toList f)).length := by rw [List.length_set]; exact hi
  obtain ⟨g', hg', -, pcells, -⟩ := RefRow.at_n (L := s2.L.set i (addF d.data.toList f)) hp.row (by rw [List.length_set]; exact hn) hil
  obtain rfl : g = g' := by cases hg'; rfl
  have p1 := (pcells i hil).2.1
  have hcW : Chg S w (W.setCell ⟨g, i * 3 + 1, none⟩ (.string (mk f.data ++ d))).drew := (hc.trans (Chg.setCell _ _ _) (fun b (e : b = g) => by
    rcases hT b (by rw [e]; exact h2.inS.2 _ rfl) with h | h
    · exact .inl h
    · exact .inr h.1)).drewN 1
  refine ⟨h2.head.cell 0, q1, hfz _, hp.head.cell 0, by rw [p1, mk_plus]; simp [addF], hid ⟨rfl, ⟨_, hp.widen (fun b hb => ?_) (grow_lt h.lt hcW.size)⟩, hcW⟩⟩
  rcases hT b hb with h | h
  · exact .inl h
  · exact .inr ⟨h.1, by simpa [World.setCell, World.drew] using h.2⟩

def WithStored (w : World) (S : Nat → Prop) (r i : Nat) (d : ByteArray) (q : Dk × Int) (e : Ending) (w3 : World) : Prop := ∃ g n cap z, e = .returned (.slice (some ⟨g, 0, none⟩) n cap) ∧ w3.cell? ⟨r, 0, none⟩ = some z ∧ w3.frozen? ⟨r, 0, none⟩ = false ∧ (i : Int) < (n : Int) ∧ Hid (AddReady w S r g i n cap ⟨#[]⟩ d q (w3.setCell ⟨r, 0, none⟩ (.slice (some ⟨g, 0, none⟩) n cap)))
theorem WithStored.of {w2 w3 : World} {e : Ending} (h : RefRep w S r v s) {s2 : Dk} {v2 : Value} (h2 : RefRep w2 S r v2 s2) (hc : Chg S w w2) {L : List AF} (hr : RowPost w2 L e w3) (hok : ({ s2 with L := L } : Dk).Ok) {i : Nat} (hi : i < L.length) (nm : List UInt8) (hf : L[i] = ⟨nm, [], 0⟩) (d : ByteArray) {L2 : List AF} (hL : L.set i (addF d.data.toList ⟨nm, [], 0⟩) = L2) (hok2 : ({ s2 with L := L2 } : Dk).Ok) : WithStored w S r i d ({ s2 with L := L2 }, 0) e w3 := by
  obtain ⟨ao, cap, rfl, hrow, hv, hb⟩ := hr
  have h3 := h2.below hb
  have c0 := h3.head.cell 0
  obtain ⟨g, rfl, -⟩ := hrow.at hi
  obtain ⟨hx, hcx⟩ := h2.stored hrow hv hb hok
  have hcc : Chg S w (w3.setCell ⟨r, 0, none⟩ (.slice (some ⟨g, 0, none⟩) L.length cap)) := hc.trans hcx (fun b hb => .inl hb)
  have hA := AddReady.of h (s2 := { s2 with L := L }) hx rfl (fun b hb => by
    rcases hb with hb | hb
    · exact .inl hb
    · exact .inr ⟨Nat.le_trans hc.size hb.1, hb.2⟩) hcc (i := i) hi d ⟨nm, [], 0⟩ hf hL hok2
  exact ⟨g, _, cap, _, rfl, c0, h3.head.frozen 0, by omega, hid hA⟩

set_option maxHeartbeats 4000000 in
theorem refAppend_any (h : RefRep w S r v s) (n d : ByteArray) (hnm : n.size ≤ maxLen) (hdm : d.size ≤ 140737488355328) : Calls Tryz.prog 31 #[.pointer (some ⟨r, 0, none⟩), .string n, .string d] w (RefPost w S r (app s n.data.toList d.data.toList)) := by
  have c3 := h.head.cell 3
  have c1 := h.head.cell 1
  have c0 := h.head.cell 0
  simp at c3 c1 c0
  have hrl := h.head.lt
  have HN := hid (fun w => refName_any n w hnm)
  have HP := hid (fun w1 k (hb : Below w.heap.size w w1) => RefPost.none h (k := k) hb)
  have HF := hid (refFind_any h n)
  have hmany := h.ok.many
  have HZ := hid (fun w1 (hb : Below w.heap.size w w1) => (refSize_any (h.below hb)).mono (R' := fun e w' => e = .returned (.int .i64 (sz s.L)) ∧ Below w1.heap.size w1 w') (by rintro e w2 ⟨rfl, rfl⟩; exact ⟨rfl, Below.refl _ _⟩))
  obtain ⟨ao, cap, rfl, hcap, hnone, -⟩ := h.row.slice
  have hcs := hid (fun w1 (hb1 : Below w.heap.size w w1) => (show w1.cell? ⟨r, 0, none⟩ = _ ∧ w1.cell? ⟨r, 1, none⟩ = _ from ⟨(hb1.cell (p := ⟨r, 0, none⟩) hrl).trans c0, (hb1.cell (p := ⟨r, 1, none⟩) hrl).trans c1⟩))
  have hok := Ok_app h.ok n.data.toList d.data.toList
  cases hd : s.dead with
  | true =>
    have hq : app s n.data.toList d.data.toList = (s, 7) := by unfold app; rw [if_pos hd]
    rw [hq]
    rw [hd] at c3
    have HP := hid (HP.out w 7 (Below.refl _ _))
    clear hq hok h hd hcs HZ HF HN
    go_enter Tryz.func31, Tryz.ntmps31
    go_wp2
    go_ret
    exact HP.out
  | false =>
    rw [hd] at c3
    cases hnq : isName n.data.toList with
    | false =>
      have hq : app s n.data.toList d.data.toList = (s, 3) := by unfold app; rw [hd, hnq]; rfl
      rw [hq]
      rw [hnq] at HN
      have HP := hid (HP.out w 3 (Below.refl _ _))
      clear hq hok h hd hcs HZ HF hnq
      go_enter Tryz.func31, Tryz.ntmps31
      go_wp2_with (go_at_call 73; (with_reducible refine (HN.out _).mono ?_); rintro e w1 ⟨rfl, rfl⟩)
      go_ret
      exact HP.out
    | true =>
      rw [hnq] at HN
      have hm1 : s.most ≤ 10000000 := h.ok.most
      have hm2 : (sz s.L : Int) ≤ s.most := h.ok.room
      have hm3 : 0 ≤ (sz s.L : Int) := by omega
      have hmI : (s.L.length : Int) ≤ 40 := by omega
      have hal := ahead_le (key := AF.key) n.data.toList s.L
      have hds : (d.size : Int) = (d.data.toList.length : Int) := by rw [← str_len]
      unfold FoundV at HF
      cases hf : fndK AF.key n.data.toList s.L with
      | none =>
        rw [hf] at HF
        by_cases h40 : 40 ≤ s.L.length
        · have hq : app s n.data.toList d.data.toList = (s, 11) := by unfold app; rw [hd, hnq, hf]; simp [h40]
          rw [hq]
          have HP := hid (fun w1 hb => HP.out w1 11 hb)
          have h40I : (s.L.length : Int) ≥ 40 := by omega
          clear hq hok h hd HZ hnq hf h40 hm1 hm2 hm3 hal hds
          generalize ahead AF.key n.data.toList s.L = A at *
          go_enter Tryz.func31, Tryz.ntmps31
          go_wp2_with (first | (go_at_call 73; (with_reducible refine (HN.out _).mono ?_); rintro e w0 ⟨rfl, rfl⟩) | (go_at_call 74; (with_reducible refine (HF.out).mono ?_); rintro e w1 ⟨rfl, hb1⟩; obtain ⟨d0, d1⟩ := hcs.out _ hb1))
          go_ret
          exact HP.out _ hb1
        · by_cases hfull : s.most - (sz s.L : Int) < (d.size : Int)
          · have hq : app s n.data.toList d.data.toList = (s, 6) := by
              unfold app; rw [hd, hnq, hf]
              simp [h40]
              intro hx
              omega
            rw [hq]
            have HP := hid (fun w1 hb => HP.out w1 6 hb)
            have h40I : (s.L.length : Int) < 40 := by omega
            clear hq hok h hd hnq hf h40 hal hds
            generalize ahead AF.key n.data.toList s.L = A at *
            generalize (sz s.L : Int) = N at *
            have hW : IntKind.i64.wrap (s.most - N) = s.most - N := IntWalk.i64_in _ (by omega)
            generalize s.most = M at *
            go_enter Tryz.func31, Tryz.ntmps31
            go_wp2_with (first | (go_at_call 73; (with_reducible refine (HN.out _).mono ?_); rintro e w0 ⟨rfl, rfl⟩) | (go_at_call 74; (with_reducible refine (HF.out).mono ?_); rintro e w1 ⟨rfl, hb1⟩; obtain ⟨d0, d1⟩ := hcs.out _ hb1))
            go_region_held3 (fun wx => wx.cell? ⟨r, 1, none⟩ = some (.int .i64 M) ∧ Below w.heap.size w wx) (first | exact ⟨d1, Below.drew hb1⟩ | exact ⟨hc3, hb3⟩ | go_keep)
              (first | (go_at_call 75; (with_reducible refine (HZ.out _ (And.right (by assumption))).mono ?_); rintro e w2 ⟨rfl, hb2⟩; have hb3 : Below w.heap.size w w2 := Below.trans (And.right (by assumption)) (hb2.mono (Below.size (And.right (by assumption)))); have hc3 := (hcs.out _ hb3).2))
            clear hW
            go_wp2
            go_ret
            exact HP.out _ (And.right (by assumption))
          · have hq : app s n.data.toList d.data.toList = spends s fun s => { s with L := insK AF.key (newF n.data.toList d.data.toList) s.L } := by
              unfold app; rw [hd, hnq, hf]
              simp [h40]
              intro hx
              omega
            rw [hq, spends_eq] at hok ⊢
            have h40I : (s.L.length : Int) < 40 := by omega
            by_cases h0 : s.fuse = 0
            · rw [if_pos h0]
              have HU := hid (fun w1 hb => turn_dead h h0 (w1 := w1) hb)
              clear hq hok h hd hnq hf h40 hal hds h0
              generalize ahead AF.key n.data.toList s.L = A at *
              generalize (sz s.L : Int) = N at *
              have hW : IntKind.i64.wrap (s.most - N) = s.most - N := IntWalk.i64_in _ (by omega)
              generalize s.most = M at *
              go_enter Tryz.func31, Tryz.ntmps31
              go_wp2_with (first | (go_at_call 73; (with_reducible refine (HN.out _).mono ?_); rintro e w0 ⟨rfl, rfl⟩) | (go_at_call 74; (with_reducible refine (HF.out).mono ?_); rintro e w1 ⟨rfl, hb1⟩; obtain ⟨d0, d1⟩ := hcs.out _ hb1))
              go_region_held3 (fun wx => wx.cell? ⟨r, 1, none⟩ = some (.int .i64 M) ∧ Below w.heap.size w wx) (first | exact ⟨d1, Below.drew hb1⟩ | exact ⟨hc3, hb3⟩ | go_keep)
                (first | (go_at_call 75; (with_reducible refine (HZ.out _ (And.right (by assumption))).mono ?_); rintro e w2 ⟨rfl, hb2⟩; have hb3 : Below w.heap.size w w2 := Below.trans (And.right (by assumption)) (hb2.mono (Below.size (And.right (by assumption)))); have hc3 := (hcs.out _ hb3).2))
              clear hW
              go_wp2_with (first | (go_at_call 76; (with_reducible refine (HU.out _ (And.right (by assumption))).mono ?_); rintro e w4 ⟨rfl, hR⟩; have HR := hid hR; clear hR))
              go_ret
              exact ⟨rfl, HR.out⟩
            · rw [if_neg h0] at hok ⊢
              generalize hia : ahead AF.key n.data.toList s.L = i at HF hal
              have hno : ∀ x ∈ s.L, x.name ≠ n.data.toList := fndK_none hf
              have hins : ∀ dd, insK AF.key (newF n.data.toList dd) s.L = s.L.take i ++ newF n.data.toList dd :: s.L.drop i := fun dd => by
                have := insK_split (key := AF.key) (newF n.data.toList dd) s.L h.ok.rise (fun x hx => hno x hx)
                rw [show AF.key (newF n.data.toList dd) = n.data.toList from rfl, hia] at this
                exact this
              have hlen1 : (s.L.take i).length = i := by rw [List.length_take]; omega
              have hset : (s.L.take i ++ [(⟨n.data.toList, [], 0⟩ : AF)] ++ s.L.drop i).set i (addF d.data.toList ⟨n.data.toList, [], 0⟩) = insK AF.key (newF n.data.toList d.data.toList) (ticked s).L := by
                rw [show (ticked s).L = s.L from rfl, hins, List.append_assoc, List.set_append_right _ _ (by omega), hlen1]
                simp [addF, newF]
              have hget : ∀ (hh : i < (s.L.take i ++ [(⟨n.data.toList, [], 0⟩ : AF)] ++ s.L.drop i).length), (s.L.take i ++ [(⟨n.data.toList, [], 0⟩ : AF)] ++ s.L.drop i)[i]'hh = ⟨n.data.toList, [], 0⟩ := by
                intro hh
                have : (s.L.take i ++ [(⟨n.data.toList, [], 0⟩ : AF)] ++ s.L.drop i)[i]? = some ⟨n.data.toList, [], 0⟩ := by
                  rw [List.append_assoc, List.getElem?_append_right (by omega), hlen1]; simp
                rw [List.getElem?_eq_getElem hh] at this
                exact Option.some.inj this
              have hlt : i < (s.L.take i ++ [(⟨n.data.toList, [], 0⟩ : AF)] ++ s.L.drop i).length := by simp only [List.length_append, hlen1, List.length_cons, List.length_nil]; omega
              have hL1 : s.L.take i ++ [(⟨n.data.toList, [], 0⟩ : AF)] ++ s.L.drop i = insK AF.key (newF n.data.toList []) s.L := by rw [hins, List.append_assoc]; rfl
              have hsp : ∀ w1, Below w.heap.size w w1 → Calls Tryz.prog 76 #[.pointer (some ⟨r, 0, none⟩)] w1 (fun e w2 => e = .returned (.int .i64 0) ∧ Hid (Calls Tryz.prog 77 #[.pointer (some ⟨r, 0, none⟩), .agg #[.string n, .string ⟨#[]⟩, .int .i64 0]] w2 (WithStored w S r i d ({ ticked s with L := insK AF.key (newF n.data.toList d.data.toList) (ticked s).L }, 0)))) := by
                intro w1 hb1
                refine (turn_hid w1 (h.below hb1) 0 (if_neg h0) (ticked s) (if_neg h0)).mono ?_
                rintro e w2 ⟨rfl, hx, hc, hz⟩
                have hc' : Chg S w w2 := (Chg.of_below hb1).trans hc (fun b e => .inl (by rw [e]; exact h.inS.1))
                refine ⟨rfl, hid (Calls.mono (show Calls _ _ #[.pointer (some ⟨r, 0, none⟩), .agg #[.string n, .string ⟨#[]⟩, .int .i64 0]] w2 _ from refWith_any hx n ⟨#[]⟩ 0 (by omega) i hia.symm) ?_)⟩
                intro e w3 hrow
                have hok1 : ({ ticked s with L := s.L.take i ++ [(⟨n.data.toList, [], 0⟩ : AF)] ++ s.L.drop i } : Dk).Ok := by
                  rw [hL1]
                  exact Ok_ins (s := ticked s) hx.ok (f := newF n.data.toList []) hnq (Nat.le_refl _) hno (by show s.L.length < 40; omega) (by show (sz s.L : Int) + _ ≤ s.most; simp [newF]; omega)
                exact WithStored.of h hx hc' hrow hok1 hlt n.data.toList (hget hlt) d hset hok
              have HU := hid hsp
              clear hq hok h hd hnq hf h40 hal hds h0 hia hno hins hlen1 hset hget hlt hL1 hsp
              generalize ({ ticked s with L := insK AF.key (newF n.data.toList d.data.toList) (ticked s).L } : Dk) = sd at *
              generalize (sz s.L : Int) = N at *
              have hW : IntKind.i64.wrap (s.most - N) = s.most - N := IntWalk.i64_in _ (by omega)
              generalize s.most = M at *
              go_enter Tryz.func31, Tryz.ntmps31
              go_wp2_with (first | (go_at_call 73; (with_reducible refine (HN.out _).mono ?_); rintro e w0 ⟨rfl, rfl⟩) | (go_at_call 74; (with_reducible refine (HF.out).mono ?_); rintro e w1 ⟨rfl, hb1⟩; obtain ⟨d0, d1⟩ := hcs.out _ hb1))
              go_region_held3 (fun wx => wx.cell? ⟨r, 1, none⟩ = some (.int .i64 M) ∧ Below w.heap.size w wx) (first | exact ⟨d1, Below.drew hb1⟩ | exact ⟨hc3, hb3⟩ | go_keep)
                (first | (go_at_call 75; (with_reducible refine (HZ.out _ (And.right (by assumption))).mono ?_); rintro e w2 ⟨rfl, hb2⟩; have hb3 : Below w.heap.size w w2 := Below.trans (And.right (by assumption)) (hb2.mono (Below.size (And.right (by assumption)))); have hc3 := (hcs.out _ hb3).2))
              clear hW
              go_wp2_with (first
                | (go_at_call 76; (with_reducible refine (HU.out _ (And.right (by assumption))).mono ?_); rintro e w4 ⟨rfl, HW⟩)
                | (go_at_call 77; (with_reducible refine (HW.out).mono ?_); rintro e w5 ⟨g, nn, cp, z, rfl, c0', f0, hin, hA⟩; obtain ⟨c0'', c1', f1, p0, p1, HP⟩ := hA.out; clear hA))
              go_region
              go_wp2
              go_ret
              exact HP.out
      | some f =>
        rw [hf] at HF
        by_cases hfull : s.most - (sz s.L : Int) < (d.size : Int)
        · have hq : app s n.data.toList d.data.toList = (s, 6) := by
            unfold app; rw [hd, hnq, hf]
            simp
            intro hx
            omega
          rw [hq]
          have HP := hid (fun w1 hb => HP.out w1 6 hb)
          clear hq hok h hd hnq hf hal hds
          generalize ahead AF.key n.data.toList s.L = A at *
          generalize (sz s.L : Int) = N at *
          have hW : IntKind.i64.wrap (s.most - N) = s.most - N := IntWalk.i64_in _ (by omega)
          generalize s.most = M at *
          go_enter Tryz.func31, Tryz.ntmps31
          go_wp2_with (first | (go_at_call 73; (with_reducible refine (HN.out _).mono ?_); rintro e w0 ⟨rfl, rfl⟩) | (go_at_call 74; (with_reducible refine (HF.out).mono ?_); rintro e w1 ⟨rfl, hb1⟩; obtain ⟨d0, d1⟩ := hcs.out _ hb1))
          go_region_held3 (fun wx => wx.cell? ⟨r, 1, none⟩ = some (.int .i64 M) ∧ Below w.heap.size w wx) (first | exact ⟨d1, Below.drew hb1⟩ | exact ⟨hc3, hb3⟩ | go_keep)
            (first | (go_at_call 75; (with_reducible refine (HZ.out _ (And.right (by assumption))).mono ?_); rintro e w2 ⟨rfl, hb2⟩; have hb3 : Below w.heap.size w w2 := Below.trans (And.right (by assumption)) (hb2.mono (Below.size (And.right (by assumption)))); have hc3 := (hcs.out _ hb3).2))
          clear hW
          go_wp2
          go_ret
          exact HP.out _ (And.right (by assumption))
        · have hq : app s n.data.toList d.data.toList = spends s fun s => { s with L := updK AF.key n.data.toList (addF d.data.toList) s.L } := by
            unfold app; rw [hd, hnq, hf]
            simp
            intro hx
            omega
          rw [hq, spends_eq] at hok ⊢
          by_cases h0 : s.fuse = 0
          · rw [if_pos h0]
            have HU := hid (fun w1 hb => turn_dead h h0 (w1 := w1) hb)
            clear hq hok h hd hnq hf hal hds h0
            generalize ahead AF.key n.data.toList s.L = A at *
            generalize (sz s.L : Int) = N at *
            have hW : IntKind.i64.wrap (s.most - N) = s.most - N := IntWalk.i64_in _ (by omega)
            generalize s.most = M at *
            go_enter Tryz.func31, Tryz.ntmps31
            go_wp2_with (first | (go_at_call 73; (with_reducible refine (HN.out _).mono ?_); rintro e w0 ⟨rfl, rfl⟩) | (go_at_call 74; (with_reducible refine (HF.out).mono ?_); rintro e w1 ⟨rfl, hb1⟩; obtain ⟨d0, d1⟩ := hcs.out _ hb1))
            go_region_held3 (fun wx => wx.cell? ⟨r, 1, none⟩ = some (.int .i64 M) ∧ Below w.heap.size w wx) (first | exact ⟨d1, Below.drew hb1⟩ | exact ⟨hc3, hb3⟩ | go_keep)
              (first | (go_at_call 75; (with_reducible refine (HZ.out _ (And.right (by assumption))).mono ?_); rintro e w2 ⟨rfl, hb2⟩; have hb3 : Below w.heap.size w w2 := Below.trans (And.right (by assumption)) (hb2.mono (Below.size (And.right (by assumption)))); have hc3 := (hcs.out _ hb3).2))
            clear hW
            go_wp2_with (first | (go_at_call 76; (with_reducible refine (HU.out _ (And.right (by assumption))).mono ?_); rintro e w4 ⟨rfl, hR⟩; have HR := hid hR; clear hR))
            go_ret
            exact ⟨rfl, HR.out⟩
          · rw [if_neg h0] at hok ⊢
            obtain ⟨i, hi, e1, e2, hia, hname, e4, -⟩ := there_ok h.ok hd hf
            obtain ⟨g, rfl, hg, -, -⟩ := h.row.at hi
            rw [← hia] at HF
            have hup : (ticked s).L.set i (addF d.data.toList f) = updK AF.key n.data.toList (addF d.data.toList) (ticked s).L := by
              have hg2 : s.L[ahead AF.key n.data.toList s.L]? = some f := by rw [← hia, List.getElem?_eq_getElem hi, e2]
              have := updK_at (key := AF.key) (g := addF d.data.toList) h.ok.rise hg2 hname
              rw [← hia] at this
              exact this.symm
            have hsp : ∀ w1, Below w.heap.size w w1 → Calls Tryz.prog 76 #[.pointer (some ⟨r, 0, none⟩)] w1 (fun e w2 => e = .returned (.int .i64 0) ∧ AddReady w S r g i s.L.length cap (mk f.data) d ({ ticked s with L := updK AF.key n.data.toList (addF d.data.toList) (ticked s).L }, 0) w2) := by
              intro w1 hb1
              refine (turn_hid w1 (h.below hb1) 0 (if_neg h0) (ticked s) (if_neg h0)).mono ?_
              rintro e w2 ⟨rfl, hx, hc, hz⟩
              exact ⟨rfl, AddReady.of h hx rfl (fun b hb => .inl hb) ((Chg.of_below hb1).trans hc (fun b e => .inl (by rw [e]; exact h.inS.1))) hi d f e2 hup hok⟩
            have HU := hid hsp
            have hcI : (i : Int) < (s.L.length : Int) := by omega
            have hfl : f.data.length ≤ 10000000 := by
              have := h.ok.room; have := h.ok.most; have := sz_mem (fndK_some hf).1; omega
            have hol : (mk f.data).size ≤ 10000000 := by rw [mk_size]; exact hfl
            clear hq hok h hd hnq hf hal hds h0 e1 e2 hia hname e4 hup hsp hfl
            generalize mk f.data = old at *
            generalize ({ ticked s with L := updK AF.key n.data.toList (addF d.data.toList) (ticked s).L } : Dk) = sd at *
            generalize (sz s.L : Int) = N at *
            have hW : IntKind.i64.wrap (s.most - N) = s.most - N := IntWalk.i64_in _ (by omega)
            generalize s.most = M at *
            go_enter Tryz.func31, Tryz.ntmps31
            go_wp2_with (first | (go_at_call 73; (with_reducible refine (HN.out _).mono ?_); rintro e w0 ⟨rfl, rfl⟩) | (go_at_call 74; (with_reducible refine (HF.out).mono ?_); rintro e w1 ⟨rfl, hb1⟩; obtain ⟨d0, d1⟩ := hcs.out _ hb1))
            go_region_held3 (fun wx => wx.cell? ⟨r, 1, none⟩ = some (.int .i64 M) ∧ Below w.heap.size w wx) (first | exact ⟨d1, Below.drew hb1⟩ | exact ⟨hc3, hb3⟩ | go_keep)
              (first | (go_at_call 75; (with_reducible refine (HZ.out _ (And.right (by assumption))).mono ?_); rintro e w2 ⟨rfl, hb2⟩; have hb3 : Below w.heap.size w w2 := Below.trans (And.right (by assumption)) (hb2.mono (Below.size (And.right (by assumption)))); have hc3 := (hcs.out _ hb3).2))
            clear hW
            go_wp2_with (go_at_call 76; (with_reducible refine (HU.out _ (And.right (by assumption))).mono ?_); rintro e w4 ⟨rfl, c0, c1, f1, p0, p1, HP⟩)
            go_region
            go_wp2
            go_ret
            exact HP.out
end
end Go.Proofs.YtpcafkinpkepcaaGreatDoor

