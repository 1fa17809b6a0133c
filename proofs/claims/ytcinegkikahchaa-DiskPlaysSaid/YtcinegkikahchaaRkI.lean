/-
  LAYER 2 (disk), THE DOCUMENT's ANSWER: Rename.
-/
import Derived.Test.YtcinegkikahchaaRkH
namespace Go.Proofs.Ytcinegkikahchaa
open Go.RowKit Go.Maps
set_option linter.unusedVariables false
set_option maxRecDepth 100000
section
variable {w w' : World} {S : Nat → Prop} {r : Nat} {v : Value} {s : Dk}

def FileBox (w : World) (B : Nat) (t d : ByteArray) (k : Int) : Prop := own w B #[.string t, .string d, .int .i64 k] 48
theorem FileBox.below {B : Nat} {t d : ByteArray} {k : Int} (h : FileBox w B t d k) (hb : Below w.heap.size w w') : FileBox w' B t d k := own.same h (hb.block B (own.lt h))
theorem FileBox.set {B r : Nat} {t d : ByteArray} {k : Int} (h : FileBox w B t d k) (hr : B ≠ r) (u : Value) : FileBox (w.setCell ⟨r, 0, none⟩ u) B t d k := own.other h hr u
theorem FileBox.cells {B : Nat} {t d : ByteArray} {k : Int} (h : FileBox w B t d k) : w.cell? ⟨B, 0, none⟩ = some (.string t) ∧ w.cell? ⟨B, 1, none⟩ = some (.string d) ∧ w.cell? ⟨B, 2, none⟩ = some (.int .i64 k) := ⟨(own.cell h 0).trans rfl, (own.cell h 1).trans rfl, (own.cell h 2).trans rfl⟩
/-- with, at the end. -/
def RenW (w : World) (S : Nat → Prop) (r B : Nat) (t d : ByteArray) (k : Int) (q : Dk × Int) (w6 : World) : Prop := FileBox w6 B t d k ∧ Hid (Calls Try.prog 52 #[.pointer (some ⟨r, 0, none⟩), .agg #[.string t, .string d, .int .i64 k]] w6 (NewStored w S r q))
def RenS (r : Nat) (Φ : World → Prop) (e : Ending) (w3 : World) : Prop := ∃ ao n cap z, e = .returned (.slice ao n cap) ∧ w3.cell? ⟨r, 0, none⟩ = some z ∧ w3.frozen? ⟨r, 0, none⟩ = false ∧ Hid (Φ (w3.setCell ⟨r, 0, none⟩ (.slice ao n cap)))
def RenF (w : World) (S : Nat → Prop) (r B : Nat) (t d : ByteArray) (k : Int) (q : Dk × Int) (W : World) : Prop := Calls Try.prog 51 #[.pointer (some ⟨r, 0, none⟩), .string t] W (fun e w4 => ∃ (j : Nat) (b : Bool), e = .returned (.tuple #[.int .i64 (j : Int), .bool b]) ∧
   ((b = false ∧ Hid (RenW w S r B t d k q w4)) ∨ (b = true ∧ Hid (Calls Try.prog 50 #[.pointer (some ⟨r, 0, none⟩), .int .i64 (j : Int)] w4 (RenS r (RenW w S r B t d k q))))))

theorem RenW.of (h : RefRep w S r v s) {w6 : World} {T : Nat → Prop} {v2 : Value} {s2 : Dk} (h2 : RefRep w6 T r v2 s2) (hT : ∀ b, T b → grow S w w6 b) (hc : Chg S w w6) {B : Nat} {t d : ByteArray} {k : Nat} (hbox : FileBox w6 B t d k) (hk : k ≤ 10000000) (hno : ∀ x ∈ s2.L, x.name ≠ t.data.toList)
    (hok : ({ s2 with L := insK AF.key ⟨t.data.toList, d.data.toList, k⟩ s2.L } : Dk).Ok) : RenW w S r B t d k ({ s2 with L := insK AF.key ⟨t.data.toList, d.data.toList, k⟩ s2.L }, 0) w6 := by
  refine ⟨hbox, hid ((refWith_any h2 t d k hk _ rfl).mono ?_)⟩
  intro e w7 hr
  have hs := insK_split (key := AF.key) ⟨t.data.toList, d.data.toList, k⟩ s2.L h2.ok.rise (fun x hx => hno x hx)
  rw [show AF.key ⟨t.data.toList, d.data.toList, k⟩ = t.data.toList from rfl] at hs
  have hL : s2.L.take (ahead AF.key t.data.toList s2.L) ++ [(⟨t.data.toList, d.data.toList, k⟩ : AF)] ++ s2.L.drop (ahead AF.key t.data.toList s2.L) = insK AF.key ⟨t.data.toList, d.data.toList, k⟩ s2.L := by rw [hs, List.append_assoc]; rfl
  rw [hL] at hr
  exact NewStored.of h h2 hT hc hr hok

theorem RenS.of {Φ : World → Prop} {w2 w3 : World} {T : Nat → Prop} {v2 : Value} {s2 : Dk} {e : Ending} (h2 : RefRep w2 T r v2 s2) {L : List AF} (hr : RowPost w2 L e w3) (hok : ({ s2 with L := L } : Dk).Ok) {B : Nat} {t d : ByteArray} {k : Int} (hbox : FileBox w2 B t d k) (hB : B ≠ r)
    (hΦ : ∀ W v3, RefRep W (grow T w2 W) r v3 { s2 with L := L } → Chg T w2 W → FileBox W B t d k → Φ W) : RenS r Φ e w3 := by
  obtain ⟨ao, cap, rfl, hrow, hv, hb⟩ := hr
  have h3 := h2.below hb
  obtain ⟨hx, hcx⟩ := h2.stored hrow hv hb hok
  exact ⟨ao, _, cap, _, rfl, h3.head.cell 0, h3.head.frozen 0, hid (hΦ _ _ hx hcx ((hbox.below hb).set hB _))⟩
theorem RenF.of (h : RefRep w S r v s) {W : World} {T : Nat → Prop} {v2 : Value} {s2 : Dk} (h2 : RefRep W T r v2 s2) (hT : ∀ b, T b → grow S w W b) (hc : Chg S w W) {B : Nat} {t d : ByteArray} {k : Nat} (hbox : FileBox W B t d k) (hB : B ≠ r) (hBT : ¬ T B) (hk : k ≤ 10000000)
    (hok : ({ s2 with L := insK AF.key ⟨t.data.toList, d.data.toList, k⟩ (delK AF.key t.data.toList s2.L) } : Dk).Ok) : RenF w S r B t d k ({ s2 with L := insK AF.key ⟨t.data.toList, d.data.toList, k⟩ (delK AF.key t.data.toList s2.L) }, 0) W := by
  refine (refFind_any h2 t).mono ?_
  rintro e w4 ⟨rfl, hb4⟩
  have h4 := h2.below hb4
  have hbox4 := hbox.below hb4
  have hT4 : ∀ b, T b → grow S w w4 b := fun b hb => by
    rcases hT b hb with h | h
    · exact .inl h
    · exact .inr ⟨h.1, Nat.lt_of_lt_of_le h.2 hb4.size⟩
  have hc4 : Chg S w w4 := hc.trans (Chg.of_below (S := S) hb4) (fun b hb => .inl hb)
  refine ⟨_, _, rfl, ?_⟩
  cases hf : fndK AF.key t.data.toList s2.L with
  | none =>
    refine .inl ⟨rfl, hid ?_⟩
    rw [delK_none hf] at hok ⊢
    exact RenW.of h h4 hT4 hc4 hbox4 hk (fndK_none hf) hok
  | some f =>
    refine .inr ⟨rfl, hid ?_⟩
    have hlt : ahead AF.key t.data.toList s2.L < s2.L.length := by
      have h1 := ahead_fnd (key := AF.key) (n := t.data.toList) h2.ok.rise
      rw [hf] at h1
      rcases Nat.lt_or_ge (ahead AF.key t.data.toList s2.L) s2.L.length with h | h
      · exact h
      · rw [List.getElem?_eq_none h] at h1; cases h1
    refine (refWithout_any h4 _ hlt).mono ?_
    intro e w5 hr
    rw [← delK_split (key := AF.key) h2.ok.rise (isSome_of hf)] at hr
    refine RenS.of h4 hr (Ok_del h2.ok t.data.toList) hbox4 hB ?_
    intro W5 v5 h5 hc5 hbox5
    have hc5' : Chg S w W5 := hc4.trans hc5 (fun b hb => by
      rcases hT4 b hb with h | h
      · exact .inl h
      · exact .inr h.1)
    refine RenW.of h h5 (fun b hb => ?_) hc5' hbox5 hk (fun x hx => (delK_mem.1 hx).2) hok
    rcases hb with hb | hb
    · rcases hT4 b hb with h | h
      · exact .inl h
      · exact .inr ⟨h.1, Nat.lt_of_lt_of_le h.2 hc5.size⟩
    · exact .inr ⟨Nat.le_trans hc4.size hb.1, hb.2⟩

def RenTurned (w : World) (S : Nat → Prop) (r g i : Nat) (n cap : Nat) (nb t d : ByteArray) (k : Int) (q : Dk × Int) (e : Ending) (w2 : World) : Prop := e = .returned (.int .i64 0) ∧ w2.cell? ⟨r, 0, none⟩ = some (.slice (some ⟨g, 0, none⟩) n cap) ∧ w2.cell? ⟨g, i * 3, none⟩ = some (.string nb) ∧ w2.cell? ⟨g, i * 3 + 1, none⟩ = some (.string d) ∧ w2.cell? ⟨g, i * 3 + 2, none⟩ = some (.int .i64 k) ∧
  Hid (∀ W, Below w2.heap.size w2 W → FileBox W w2.heap.size t d k → Calls Try.prog 50 #[.pointer (some ⟨r, 0, none⟩), .int .i64 (i : Int)] W (RenS r (RenF w S r w2.heap.size t d k q)))

set_option maxHeartbeats 4000000 in
theorem refRen_any (h : RefRep w S r v s) (n t : ByteArray) (htm : t.size ≤ maxLen) : Calls Try.prog 33 #[.pointer (some ⟨r, 0, none⟩), .string n, .string t] w (RefPost w S r (ren s n.data.toList t.data.toList)) := by
  have hT := refThere_any h n
  cases hf : (if s.dead then none else fndK AF.key n.data.toList s.L) with
  | none =>
    have hx : s.dead = true ∨ fndK AF.key n.data.toList s.L = none := by
      cases hd : s.dead with
      | true => exact .inl rfl
      | false => rw [hd] at hf; exact .inr hf
    obtain ⟨kk, hk, e1, e2, _⟩ := there_fail n hx
    rw [e1] at hT
    unfold ren
    rw [e2]
    have HT := hid hT
    have HP := hid (fun w1 (hb : Below w.heap.size w w1) => RefPost.none h (k := kk) hb)
    clear hf hx e1 e2 hT h
    rcases hk with rfl | rfl
    all_goals
      go_enter Try.func33, Try.ntmps33
      go_wp2_with (go_at_call 48; (with_reducible refine HT.out.mono ?_); rintro e w1 ⟨rfl, hb1⟩)
      go_ret
      exact HP.out _ hb1
  | some f =>
    have hd : s.dead = false := by
      cases hd : s.dead with
      | true => rw [hd] at hf; cases hf
      | false => rfl
    rw [hd] at hf
    have hf : fndK AF.key n.data.toList s.L = some f := hf
    obtain ⟨i, hi, e1, e2, hia, hname, e4, -⟩ := there_ok h.ok hd hf
    rw [e1] at hT
    have hq : ren s n.data.toList t.data.toList = if isName t.data.toList = false then (s, 3) else spends s fun s => { s with L := insK AF.key { f with name := t.data.toList } (delK AF.key t.data.toList (delK AF.key n.data.toList s.L)) } := e4 _
    have hok := Ok_ren h.ok n.data.toList t.data.toList
    rw [hq] at hok ⊢
    have HT := hid hT
    have HN := hid (fun w => refName_any t w htm)
    cases hnq : isName t.data.toList with
    | false =>
      rw [if_pos rfl]
      rw [hnq] at HN
      have HP := hid (fun w1 (hb : Below w.heap.size w w1) => RefPost.none h (k := 3) hb)
      clear hf e1 e2 e4 hT h hq hok hd hname hia hnq
      go_enter Try.func33, Try.ntmps33
      go_wp2_with (first | (go_at_call 48; (with_reducible refine HT.out.mono ?_); rintro e w1 ⟨rfl, hb1⟩) | (go_at_call 14; (with_reducible refine (HN.out _).mono ?_); rintro e w0 ⟨rfl, rfl⟩))
      go_ret
      exact HP.out _ hb1
    | true =>
      rw [hnq] at HN hok
      rw [if_neg (by simp)] at hok ⊢
      rw [spends_eq] at hok ⊢
      by_cases h0 : s.fuse = 0
      · rw [if_pos h0]
        have HU := hid (fun w1 hb => turn_dead h h0 (w1 := w1) hb)
        clear hf e1 e2 e4 hT h hq hok hd h0 hname hia hnq
        go_enter Try.func33, Try.ntmps33
        go_wp2_with (first | (go_at_call 48; (with_reducible refine HT.out.mono ?_); rintro e w1 ⟨rfl, hb1⟩) | (go_at_call 14; (with_reducible refine (HN.out _).mono ?_); rintro e w0 ⟨rfl, rfl⟩) | (go_at_call 49; (with_reducible refine (HU.out _ hb1).mono ?_); rintro e w2 ⟨rfl, hR⟩; have HR := hid hR; clear hR))
        go_ret
        exact ⟨rfl, HR.out⟩
      · rw [if_neg h0] at hok ⊢
        obtain ⟨ao, cap, rfl, hcap, -⟩ := h.row.slice
        obtain ⟨g, rfl, hg, -, -⟩ := h.row.at hi
        have hfm := fndK_some hf
        have hsy : f.synced ≤ 10000000 := by
          have := h.ok.sync f hfm.1; have := h.ok.room; have := h.ok.most; have := sz_mem hfm.1; omega
        have hup : delK AF.key n.data.toList (ticked s).L = s.L.take i ++ s.L.drop (i + 1) := by
          have := delK_split (key := AF.key) h.ok.rise (isSome_of hf)
          rw [← hia] at this
          exact this
        have hsp : ∀ w1, Below w.heap.size w w1 → Calls Try.prog 49 #[.pointer (some ⟨r, 0, none⟩)] w1 (RenTurned w S r g i s.L.length cap (mk f.name) t (mk f.data) (f.synced : Int) ({ ticked s with L := insK AF.key { f with name := t.data.toList } (delK AF.key t.data.toList (delK AF.key n.data.toList (ticked s).L)) }, 0)) := by
          intro w1 hb1
          refine (turn_hid w1 (h.below hb1) 0 (if_neg h0) (ticked s) (if_neg h0)).mono ?_
          rintro e w2 ⟨rfl, hx, hc, hz⟩
          have hc' : Chg S w w2 := (Chg.of_below hb1).trans hc (fun b e => .inl (by rw [e]; exact h.inS.1))
          obtain ⟨g', hg', hgl, hcells, hfz⟩ := hx.row.at hi
          obtain rfl : g = g' := by cases hg'; rfl
          have q0 := (hcells i hi).1
          have q1 := (hcells i hi).2.1
          have q2 := (hcells i hi).2.2
          rw [e2] at q0 q1 q2
          refine ⟨rfl, hx.head.cell 0, q0, q1, q2, hid ?_⟩
          intro W hbW hbox
          have hxW := hx.below hbW
          have hBr : w2.heap.size ≠ r := fun e => by have := hx.head.lt; omega
          refine (refWithout_any hxW i hi).mono ?_
          intro e w3 hr
          have hr : RowPost W (s.L.take i ++ s.L.drop (i + 1)) e w3 := hr
          rw [← hup] at hr
          refine RenS.of hxW hr (Ok_del hx.ok n.data.toList) hbox hBr ?_
          intro W3 v3 h3 hc3 hbox3
          have hcW : Chg S w W := hc'.trans (Chg.of_below (S := S) hbW) (fun b hb => .inl hb)
          have hc3' : Chg S w W3 := hcW.trans hc3 (fun b hb => .inl hb)
          have hd3 : (mk f.data).data.toList = f.data := by rw [mk_data]
          have hR := RenF.of h h3 (fun b hb => ?_) hc3' hbox3 hBr ?_ hsy (by rw [hd3]; exact hok)
          · rw [hd3] at hR
            exact hR
          · rcases hb with hb | hb
            · exact .inl hb
            · exact .inr ⟨Nat.le_trans hcW.size hb.1, hb.2⟩
          · rintro (hb | hb)
            · have := hx.lt _ hb; omega
            · have := hb.1; have := own.lt hbox; omega
        have HU := hid hsp
        have hcI : (i : Int) < (s.L.length : Int) := by omega
        have hmI : (s.L.length : Int) ≤ 40 := by have := h.ok.many; omega
        clear hf e1 e2 e4 hT h hq hok hd h0 hname hia hnq hfm hsy hup hsp
        generalize ({ ticked s with L := insK AF.key { f with name := t.data.toList } (delK AF.key t.data.toList (delK AF.key n.data.toList (ticked s).L)) } : Dk) = sd at *
        generalize mk f.data = db at *
        generalize mk f.name = nb at *
        generalize (f.synced : Int) = ks at *
        go_enter Try.func33, Try.ntmps33
        go_wp2_with (first | (go_at_call 48; (with_reducible refine HT.out.mono ?_); rintro e w1 ⟨rfl, hb1⟩) | (go_at_call 14; (with_reducible refine (HN.out _).mono ?_); rintro e w0 ⟨rfl, rfl⟩) | (go_at_call 49; (with_reducible refine (HU.out _ hb1).mono ?_); rintro e w2 ⟨rfl, c0, q0, q1, q2, HW⟩; have HW0 := hid (HW.out _ (Below.alloc (Below.refl _ _) (Nat.le_refl _) _) (own.new w2 #[.string t, .string db, .int .i64 ks] 48)); clear HW) | (go_at_call 50; (with_reducible refine (HW0.out).mono ?_); rintro e w3 ⟨ao, nn, cp, z, rfl, d0, f0, HF⟩) | (go_at_call 51; have hF := HF.out; unfold RenF at hF; (with_reducible refine hF.mono ?_); clear hF; rintro e w4 ⟨j, b, rfl, hcase⟩; rcases hcase with ⟨rfl, HRW⟩ | ⟨rfl, HWo⟩; (obtain ⟨hbx, HWi⟩ := HRW.out; obtain ⟨x0, x1, x2⟩ := hbx.cells; clear hbx)) | (go_at_call 50; (with_reducible refine (HWo.out).mono ?_); rintro e w5 ⟨ao2, nn2, cp2, z2, rfl, d0', f0', HRW⟩; obtain ⟨hbx, HWi⟩ := HRW.out; obtain ⟨x0, x1, x2⟩ := hbx.cells; clear hbx) | (go_at_call 52; (with_reducible refine (HWi.out).mono ?_); rintro e w7 ⟨ao3, nn3, cp3, z3, rfl, y0, g0, HP⟩))
        all_goals
          go_ret
          exact HP.out
end
end Go.Proofs.Ytcinegkikahchaa
