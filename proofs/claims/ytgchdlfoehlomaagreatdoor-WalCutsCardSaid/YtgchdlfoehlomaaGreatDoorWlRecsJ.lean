import Derived.Test.YtgchdlfoehlomaaGreatDoorWlStateJ
import Derived.Test.YtgchdlfoehlomaaGreatDoorWlAJ
import Derived.Test.YtgchdlfoehlomaaGreatDoorMq0J
import Derived.Deep.RegionWith
/-
  LAYER 3 (wal): entryRecords: the records of a row of entries.
-/
namespace Go.Proofs.YtgchdlfoehlomaaGreatDoor
open Go.RowKit Go.Maps
set_option linter.unusedVariables false
set_option maxRecDepth 100000

/-- A slice of entries, wherever it lies. -/
def EntsAt (w : World) (v : Value) (L : List En) : Prop :=
  ∃ ao cap, v = .slice ao L.length cap ∧ (L ≠ [] → ∃ g o, ao = some ⟨g, o, none⟩ ∧ g < w.heap.size ∧ ∀ k (hk : k < L.length),
    w.cell? ⟨g, o + k * 4, none⟩ = some (.int .i64 L[k].idx) ∧ w.cell? ⟨g, o + k * 4 + 1, none⟩ = some (.int .i64 L[k].term) ∧ w.cell? ⟨g, o + k * 4 + 2, none⟩ = some (.int .i64 L[k].kind) ∧ w.cell? ⟨g, o + k * 4 + 3, none⟩ = some (.string (mk L[k].data)))
theorem EntRow.ents {w : World} {B : Nat} {v : Value} {L : List En} (h : EntRow w B v L) : EntsAt w v L := by
  obtain ⟨ao, cap, rfl, _, _⟩ := h.slice
  refine ⟨ao, cap, rfl, fun hne => ?_⟩
  obtain ⟨g, rfl, _, hlt, hc, _⟩ := h.at (i := 0) (List.length_pos_iff.2 hne)
  refine ⟨g, 0, rfl, hlt, fun k hk => ?_⟩
  obtain ⟨c0, c1, c2, c3⟩ := hc k hk
  rw [Nat.zero_add]
  exact ⟨c0, c1, c2, c3⟩
theorem EntsAt.same {w w' : World} {v : Value} {L : List En} (h : EntsAt w v L) (hz : w.heap.size ≤ w'.heap.size) (hs : ∀ b, v.ownBlock = some b → w'.heap[b]? = w.heap[b]?) (ho : ∀ g o n c, v = .slice (some ⟨g, o, none⟩) n c → w'.heap[g]? = w.heap[g]?) : EntsAt w' v L := by
  obtain ⟨ao, cap, rfl, hc⟩ := h
  refine ⟨ao, cap, rfl, fun hne => ?_⟩
  obtain ⟨g, o, rfl, hlt, hcc⟩ := hc hne
  have hb := ho g o L.length cap rfl
  refine ⟨g, o, rfl, by omega, fun k hk => ?_⟩
  obtain ⟨c0, c1, c2, c3⟩ := hcc k hk
  have hq : ∀ j, w'.cell? ⟨g, j, none⟩ = w.cell? ⟨g, j, none⟩ := fun j => World.cell?_of_block hb
  exact ⟨(hq _).trans c0, (hq _).trans c1, (hq _).trans c2, (hq _).trans c3⟩
theorem EntsAt.below {w w' : World} {v : Value} {L : List En} (h : EntsAt w v L) (hb : Below w.heap.size w w') : EntsAt w' v L := by
  obtain ⟨ao, cap, rfl, hc⟩ := h
  refine ⟨ao, cap, rfl, fun hne => ?_⟩
  obtain ⟨g, o, rfl, hlt, hcc⟩ := hc hne
  have hz := hb.size
  refine ⟨g, o, rfl, by omega, fun k hk => ?_⟩
  obtain ⟨c0, c1, c2, c3⟩ := hcc k hk
  have hq : ∀ j, w'.cell? ⟨g, j, none⟩ = w.cell? ⟨g, j, none⟩ := fun j => World.cell?_of_block (hb.block g hlt)
  exact ⟨(hq _).trans c0, (hq _).trans c1, (hq _).trans c2, (hq _).trans c3⟩

theorem own_new {w : World} {cs : Array Value} {T : TypeId} {b : Nat} (h : b = w.heap.size) : own (w.alloc (.cells cs T)) b cs T := by rw [h]; exact own.new w cs T
theorem own_alloc {w : World} {cs : Array Value} {T : TypeId} {b : Nat} (o : Obj) (h : own w b cs T) : own (w.alloc o) b cs T := h.same (Below.heap_alloc _ _ _ h.lt)
theorem ints_own {w : World} {b : Nat} {xs : List Int} {T : TypeId} (h : own w b (xs.map (Value.int .i64)).toArray T) (n : Nat) (hn : n = xs.length) : IntsAt w w.heap.size (.slice (some ⟨b, 0, none⟩) n n) xs := by
  subst hn
  refine ⟨_, _, rfl, fun _ => ⟨b, 0, rfl, h.lt, fun j x hj => ?_⟩⟩
  rw [Nat.zero_add, h.cell j]
  simp [hj]
theorem strs_own {w : World} {b : Nat} {d : ByteArray} {T : TypeId} (h : own w b #[.string d] T) : StrsAt w w.heap.size (.slice (some ⟨b, 0, none⟩) 1 1) [d] := by
  refine ⟨_, _, rfl, fun _ => ⟨b, 0, rfl, h.lt, fun j x hj => ?_⟩⟩
  match j, hj with
  | 0, hj => simp at hj; subst hj; rw [Nat.zero_add, h.cell]; rfl
  | j + 1, hj => simp at hj
theorem own_drew {w : World} {cs : Array Value} {T : TypeId} {b : Nat} (h : own w b cs T) : own w.drew b cs T := h
theorem rcsL_snoc (l : List En) (e : En) : rcsL ((l ++ [e]).map .entry) = rcsL (l.map .entry) ++ rcL (.entry e) := by simp [rcsL]
theorem entRec_len {e : En} (hi : e.In) (hd : e.data.length ≤ 60000) : (payL (.entry e)).length ≤ 65536 ∧ (rcL (.entry e)).length ≤ 65544 := by
  have h1 := encs_length [2, e.idx, e.term, e.kind] (by simp; exact ⟨hi.idx, hi.term, hi.kind⟩)
  have h2 := enc_length (nat64_lt (n := (e.data.length : Int)) (by omega) (by omega))
  have h3 : (payL (.entry e)).length ≤ 65536 := by
    show (encs [2, e.idx, e.term, e.kind] ++ txt e.data).length ≤ 65536
    rw [List.length_append]
    show _ + (enc (nat64 (e.data.length : Int)) ++ e.data).length ≤ _
    rw [List.length_append]
    simp only [List.length_cons, List.length_nil] at h1
    omega
  refine ⟨h3, ?_⟩
  unfold rcL
  rw [frameL_length]; omega
theorem entRecs_len : ∀ {l : List En}, (∀ e ∈ l, e.In ∧ e.data.length ≤ 60000) → (rcsL (l.map .entry)).length ≤ 65544 * l.length
  | [], _ => by simp [rcsL]
  | e :: l, h => by
    have h1 := entRecs_len (l := l) (fun x hx => h x (by simp [hx]))
    have h2 := (entRec_len (h e (by simp)).1 (h e (by simp)).2).2
    simp only [rcsL, List.map_cons, List.flatMap_cons, List.length_append, List.length_cons] at *
    omega

theorem isBuilder_below {T : TypeId} {B b : Nat} {bs : List Value} {w w' : World} (h : Lib.IsBuilder T 5 B b bs w) (hb : Below w.heap.size w w') : Lib.IsBuilder T 5 B b bs w' := by
  rcases h with h | h
  · obtain ⟨hB, v, hbk, hown, hne⟩ := h
    exact .inl ⟨hB, v, by rw [hb.block b (Array.getElem?_eq_some_iff.1 hbk).1]; exact hbk, ownsRow_below hown hb (Nat.le_refl _), hne⟩
  · obtain ⟨hB, v, hbk, hown, hne⟩ := h
    exact .inr ⟨hB, v, by rw [hb.block b (Array.getElem?_eq_some_iff.1 hbk).1]; exact hbk, ownsRow_below hown hb (Nat.le_refl _), hne⟩
theorem blkOk_plain : BlkOk 141 := ⟨by kernel_rfl, by decide⟩
def RecsRel (w : World) (l : List En) (i : Value) (wr : World) : Prop :=
  ∃ k : Nat, k ≤ l.length ∧ i = .int .i64 k ∧ (l.take k).all entB = true ∧ Lib.IsBuilder 141 5 w.heap.size w.heap.size (Lib.byteCells (rcsL ((l.take k).map .entry))) wr ∧ Below w.heap.size w wr
def RecsPost (w : World) (l : List En) (e : Ending) (w' : World) : Prop := e = .returned (.tuple #[.string (mk (if l.all entB then rcsL (l.map .entry) else [])), .bool (l.all entB)]) ∧ Below w.heap.size w w'
set_option maxHeartbeats 8000000 in
theorem entryRecords_any (v : Value) (l : List En) (w : World) {B0 : Nat} (hg : Glob w B0) (hB0 : B0 ≤ w.heap.size) (hv : EntsAt w v l) (hin : ∀ e ∈ l, e.In ∧ e.data.length ≤ 60000) (hlen : l.length ≤ 1000) :
    Calls Tryz.prog 46 #[v] w (RecsPost w l) := by
  have HG := hid hg
  have HV := hid hv
  have HI := hid hin
  have hfr : Lib.IsBuilder 141 5 w.heap.size w.heap.size [] (w.alloc (.cells #[.pointer none, .slice none 0 0] 141)) := Lib.fresh_isBuilder _ _ _
  have HF := hid hfr
  obtain ⟨ao, cap, rfl, -⟩ := hv
  clear hg hin hfr
  have HQ := hid hlen
  go_enter Tryz.func46, Tryz.ntmps46
  go_wp2
  go_loopw [11] (RecsRel w l) (fun i _ => l.length - (intOf i).toNat)
  case atStart => exact ⟨0, Nat.zero_le _, rfl, rfl, by simpa [rcsL, Lib.byteCells] using HF.out, (Below.refl _ _).alloc (Nat.le_refl _) _⟩
  case round =>
    obtain ⟨k, hk, rfl, hall, hI, hb⟩ := hrel
    have HA := hid hall
    have HBu := hid hI
    clear hall hI
    by_cases hlt : k < l.length
    · have hne : l ≠ [] := fun e => by rw [e] at hlt; simp at hlt
      obtain ⟨ao', cap', hv', hcc⟩ := HV.out
      obtain ⟨g, o, rfl, hgl, hcell⟩ := hcc hne
      simp only [Value.slice.injEq] at hv'
      obtain ⟨rfl, -, rfl⟩ := hv'
      obtain ⟨c0, c1, c2, c3⟩ := hcell k hlt
      have d0 := (hb.cell (p := ⟨g, o + k * 4, none⟩) hgl).trans c0
      have d1 := (hb.cell (p := ⟨g, o + k * 4 + 1, none⟩) hgl).trans c1
      have d2 := (hb.cell (p := ⟨g, o + k * 4 + 2, none⟩) hgl).trans c2
      have d3 := (hb.cell (p := ⟨g, o + k * 4 + 3, none⟩) hgl).trans c3
      have hz := hb.size
      have hX := HI.out l[k] (List.getElem_mem hlt)
      have HFits := hid (fun wx => entryFits_any l[k] (mk l[k].data) wx)
      have hsn : l.take (k + 1) = l.take k ++ [l[k]] := by rw [List.take_succ_eq_append_getElem hlt]
      have HSn := hid hsn
      have HAll := hid (show l.all entB = false ∨ entB l[k] = true by
        cases he : entB l[k] with
        | true => exact .inr rfl
        | false => left; rw [List.all_eq_false]; exact ⟨l[k], List.getElem_mem hlt, by rw [he]; simp⟩)
      clear c0 c1 c2 c3 hcell hcc hsn hne
      generalize hxe : l[k] = x at *
      clear hxe
      have hHX := hid hX
      clear hX
      cases hfit : entB x with
      | false =>
        have hno : l.all entB = false := by
          rcases HAll.out with h | h
          · exact h
          · rw [h] at hfit; cases hfit
        have HN := hid (fun wx (h : Below w.heap.size w wx) => (show RecsPost w l (.returned (.tuple #[.string (mk []), .bool false])) wx from ⟨by rw [hno]; rfl, h⟩))
        rw [hfit] at HFits
        clear hno hfit HAll
        generalize mk x.data = db at *
        go_wp2_with (go_at_call 80; (with_reducible refine (HFits.out _).mono ?_); rintro e w1 ⟨rfl, hb1⟩)
        go_ret2
        exact HN.out _ ((hb.alloc hz _).trans (hb1.mono (by simp; omega)))
      | true =>
        rw [hfit] at HFits
        have hbA : Below w.heap.size w (wr.alloc (.cells #[.int .i64 x.idx, .int .i64 x.term, .int .i64 x.kind, .string (mk x.data)] 57)) := hb.alloc hz _
        have HBx := hid (fun w1 (hb1 : Below (wr.alloc (.cells #[.int .i64 x.idx, .int .i64 x.term, .int .i64 x.kind, .string (mk x.data)] 57)).heap.size (wr.alloc (.cells #[.int .i64 x.idx, .int .i64 x.term, .int .i64 x.kind, .string (mk x.data)] 57)) w1) => (show own w1 wr.heap.size #[.int .i64 x.idx, .int .i64 x.term, .int .i64 x.kind, .string (mk x.data)] 57 ∧ Below w.heap.size w w1 ∧ w.heap.size ≤ w1.heap.size ∧ Below wr.heap.size wr w1 from
          ⟨(own.new wr _ _).same (hb1.block _ (by simp)), hbA.trans (hb1.mono hbA.size), by have := hb1.size; have := hbA.size; omega, ((Below.refl _ wr).alloc (Nat.le_refl _) _).trans (hb1.mono (by simp))⟩))
        clear hbA
        go_wp2_with (go_at_call 80; (with_reducible refine (HFits.out _).mono ?_); rintro e w1 ⟨rfl, hb1⟩)
        obtain ⟨hbox, b01, hz1, b11⟩ := HBx.out w1 hb1
        have hpay := (entRec_len hHX.out.1 hHX.out.2).1
        have hel := encs_length [2, x.idx, x.term, x.kind] (by simp; exact ⟨hHX.out.1.idx, hHX.out.1.term, hHX.out.1.kind⟩)
        have HI1 := hid (fun wx b (hx : Below w1.heap.size w1 wx) (ho : own wx b #[.int .i64 2, .int .i64 x.idx, .int .i64 x.term, .int .i64 x.kind] 3) => show Calls Tryz.prog 82 #[.slice (some ⟨b, 0, none⟩) 4 4] wx (fun e w' => e = .returned (.string (mk (encs [2, x.idx, x.term, x.kind]))) ∧ Below wx.heap.size wx w') from
          int_any _ [2, x.idx, x.term, x.kind] wx (ints_own ho 4 rfl) (by simp; exact ⟨hHX.out.1.idx, hHX.out.1.term, hHX.out.1.kind⟩) (by simp))
        have htx : (mk x.data).data.toList = x.data := rfl
        have HT1 := hid (fun wx b (hx : Below w1.heap.size w1 wx) (ho : own wx b #[.string (mk x.data)] 9) => show Calls Tryz.prog 83 #[.slice (some ⟨b, 0, none⟩) 1 1] wx (fun e w' => e = .returned (.string (mk (txt x.data))) ∧ Below wx.heap.size wx w') from by
          have := textS_any _ [mk x.data] wx (strs_own ho) (fun k y hy => by
            match k, hy with
            | 0, hy => simp at hy; subst hy; rw [mk_size]; simp [txts]; have := hHX.out.2; omega
            | k + 1, hy => simp at hy) (by simp)
          simpa [txts, htx] using this)
        have HFr := hid (fun wx (hx : Below w1.heap.size w1 wx) => show Calls Tryz.prog 81 #[.string (mk (payL (.entry x)))] wx (fun e w' => e = .returned (.tuple #[.string (mk (rcL (.entry x))), .int .i64 0]) ∧ Below wx.heap.size wx w') from
          frame_any (mk (payL (.entry x))) wx (by rw [mk_size]; exact hpay) ((HG.out.below (b01.trans (hx.mono hz1)) hB0).steps) (by have := HG.out.hsteps; have := hx.size; omega))
        have happ : mk (encs [2, x.idx, x.term, x.kind]) ++ mk (txt x.data) = mk (payL (.entry x)) := mk_append _ _
        have hs1 : (mk (encs [2, x.idx, x.term, x.kind])).size ≤ 50 := by rw [mk_size]; simp at hel; omega
        have hs2 : (mk (txt x.data)).size ≤ 65536 := by
          rw [mk_size]
          have h : (encs [2, x.idx, x.term, x.kind] ++ txt x.data).length ≤ 65536 := hpay
          rw [List.length_append] at h
          omega
        have hs3 : (mk (payL (.entry x))).size ≤ 65536 := by rw [mk_size]; exact hpay
        have hs4 : ¬ 9223372036854775807 < (mk (encs [2, x.idx, x.term, x.kind])).size + (mk (txt x.data)).size := by omega
        have HK := hid (fun wx (hx : Below w1.heap.size w1 wx) => (show (wx.cell? ⟨wr.heap.size, 0, none⟩ = some (.int .i64 x.idx) ∧ wx.cell? ⟨wr.heap.size, 1, none⟩ = some (.int .i64 x.term) ∧ wx.cell? ⟨wr.heap.size, 2, none⟩ = some (.int .i64 x.kind) ∧ wx.cell? ⟨wr.heap.size, 3, none⟩ = some (.string (mk x.data))) ∧ Below w1.heap.size w1 wx from by
          have h := hbox.same (hx.block _ hbox.lt)
          exact ⟨⟨(h.cell 0).trans rfl, (h.cell 1).trans rfl, (h.cell 2).trans rfl, (h.cell 3).trans rfl⟩, hx⟩))
        have HW := hid (fun wx (hx : Below w1.heap.size w1 wx) => show Calls Tryz.prog 84 #[.pointer (some ⟨w.heap.size, 0, none⟩), .string (mk (rcL (.entry x)))] wx (fun e w' => e = .returned (.tuple #[.int .i64 (mk (rcL (.entry x))).size, .nilIface]) ∧ RecsRel w l (.int .i64 ((k + 1 : Nat) : Int)) w') from by
          have hI0 := HBu.out
          have hI1 : Lib.IsBuilder 141 5 w.heap.size w.heap.size (Lib.byteCells (rcsL (List.map Rc.entry (List.take k l)))) wx := isBuilder_below hI0 (b11.trans (hx.mono b11.size))
          have hle := entRecs_len (l := l.take k) (fun e he => HI.out e (List.mem_of_mem_take he))
          have hlk : (l.take k).length ≤ k := List.length_take_le _ _
          have hl2 := (entRec_len hHX.out.1 hHX.out.2).2
          have hQ := HQ.out
          refine (writeString_any blkOk_plain w.heap.size w.heap.size _ (mk (rcL (.entry x))) wx hI1 (by rw [Lib.byteCells_length, mk_size]; omega) (by have := hx.size; omega)).mono ?_
          rintro e w' ⟨rfl, h1, h2⟩
          refine ⟨rfl, k + 1, by omega, rfl, ?_, ?_, ?_⟩
          · rw [HSn.out, List.all_append, HA.out]; simp [hfit]
          · rw [HSn.out, rcsL_snoc, ← byteCells_append]
            exact .inr h1
          · exact (b01.trans (hx.mono hz1)).trans h2)
        clear hbox b01 b11 hpay hel hHX hb1 HBx htx hfit HAll HFits HBu HA HSn HI
        generalize mk (encs [2, x.idx, x.term, x.kind]) = P1 at *
        generalize mk (txt x.data) = T1 at *
        generalize mk (payL (.entry x)) = PB at *
        generalize mk (rcL (.entry x)) = RB at *
        generalize mk x.data = db at *
        go_region_held3 (fun wx => (wx.cell? ⟨wr.heap.size, 0, none⟩ = some (.int .i64 x.idx) ∧ wx.cell? ⟨wr.heap.size, 1, none⟩ = some (.int .i64 x.term) ∧ wx.cell? ⟨wr.heap.size, 2, none⟩ = some (.int .i64 x.kind) ∧ wx.cell? ⟨wr.heap.size, 3, none⟩ = some (.string db)) ∧ Below w1.heap.size w1 wx)
          (first | exact HK.out _ (Below.drew (Below.refl _ _)) | exact HK.out _ hbk | exact HK.out _ (Below.alloc (And.right (by assumption)) (Below.size (And.right (by assumption))) _) | exact HK.out _ (Below.drew (Below.alloc (Below.refl _ _) (Nat.le_refl _) _)))
          (first
            | (go_at_call 82; (with_reducible refine (HI1.out _ _ (And.right (by assumption)) (by first | exact own_new (by simp) | exact own_drew (own_new (by simp)) | exact own_alloc _ (own_new (by simp)) | exact own_drew (own_alloc _ (own_new (by simp))) | exact hk2 _ _ _ (own_new (by simp)) | exact hk2 _ _ _ (own_drew (own_new (by simp))) | exact hk2 _ _ _ (own_alloc _ (own_new (by simp))) | exact hk2 _ _ _ (own_drew (own_alloc _ (own_new (by simp)))))).mono ?_); rintro e w2 ⟨rfl, hb2⟩; have hk2 := (fun b cs T (h : own _ b cs T) => h.same (hb2.block b h.lt)); have hbk : Below w1.heap.size w1 w2 := Below.trans (And.right (by assumption)) (hb2.mono (Below.size (And.right (by assumption)))))
            | (go_at_call 83; (with_reducible refine (HT1.out _ _ (And.right (by assumption)) (by first | exact own_new (by simp) | exact own_drew (own_new (by simp)) | exact own_alloc _ (own_new (by simp)) | exact own_drew (own_alloc _ (own_new (by simp))) | exact hk2 _ _ _ (own_new (by simp)) | exact hk2 _ _ _ (own_drew (own_new (by simp))) | exact hk2 _ _ _ (own_alloc _ (own_new (by simp))) | exact hk2 _ _ _ (own_drew (own_alloc _ (own_new (by simp)))))).mono ?_); rintro e w2 ⟨rfl, hb2⟩; have hk2 := (fun b cs T (h : own _ b cs T) => h.same (hb2.block b h.lt)); have hbk : Below w1.heap.size w1 w2 := Below.trans (And.right (by assumption)) (hb2.mono (Below.size (And.right (by assumption)))))
            | (go_at_call 81; (with_reducible refine (HFr.out _ (And.right (by assumption))).mono ?_); rintro e w3 ⟨rfl, hb3⟩; have hbk : Below w1.heap.size w1 w3 := Below.trans (And.right (by assumption)) (hb3.mono (Below.size (And.right (by assumption))))))
        all_goals
          clear happ hs1 hs2 hs4
          go_wp2_with (go_at_call 84; (with_reducible refine (HW.out _ (And.right (by assumption))).mono ?_); rintro e w4 ⟨rfl, hQ4⟩; have HQ4 := hid hQ4; clear hQ4)
          go_roundw
          case rel => exact HQ4.out
          case measure => simp [intOf]; omega
    · obtain rfl : k = l.length := by omega
      have hal : l.all entB = true := by have := HA.out; rwa [List.take_of_length_le (Nat.le_refl _)] at this
      have hI := HBu.out
      rw [List.take_of_length_le (Nat.le_refl _)] at hI
      have HS := hid (string_any w.heap.size w.heap.size (rcsL (l.map .entry)) wr hI hb.size)
      have HN := hid (fun wx (h : Below w.heap.size w wx) => (show RecsPost w l (.returned (.tuple #[.string (mk (rcsL (l.map .entry))), .bool true])) wx from ⟨by rw [hal]; rfl, h⟩))
      clear hal hI HBu
      generalize rcsL (l.map .entry) = r at *
      go_wp2_with (go_at_call 85; (with_reducible refine HS.out.mono ?_); rintro e w1 ⟨rfl, hb1⟩)
      go_ret2
      exact HN.out _ (hb.trans hb1)
end Go.Proofs.YtgchdlfoehlomaaGreatDoor

