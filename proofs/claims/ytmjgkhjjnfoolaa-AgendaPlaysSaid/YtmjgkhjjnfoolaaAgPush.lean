/-
  LAYER 5 (agenda): Push.
-/
import Derived.Test.YtmjgkhjjnfoolaaAgPop
import Derived.Deep.RegionLaw
import Derived.StillTailTactics
import Derived.Deep.DeepCutAuto
import Derived.Deep.CutRange
namespace Go.Proofs.Ytmjgkhjjnfoolaa
open Go.RowKit Go.Maps
set_option linter.unusedVariables false
set_option maxRecDepth 100000

theorem step_append_run {ops : Array Oper} {o : Oper} {a : Act} {w : World} {K : Act → World → Prop} {Q : Exit → Act → World → Prop} {E : Prop}
    (hg : o.guard = none) (s x : Operand) (t u : TypeId) (hop : o.op = Op.call { callee := Callee.builtin Builtin.append, args := #[s, x], argTypes := #[t, u] })
    (v y : Value) (hs : a.eval s = v) (hx : a.eval x = y) (v' : Value) (w' : World) (hr : (Builtin.append_ #[t, u] o.type #[v, y]).run Try.prog w = .ok v' w') (hK : K (a.put o.dst v') w') :
    if Region.wanted o (yielded ops a.tmps) = true then Oper.wp Try.prog o a w K Q else E := by
  have hw : Region.wanted o (yielded ops a.tmps) = true := by simp [Region.wanted, hg]
  rw [if_pos hw]
  unfold Oper.wp
  simp [execOp, hop, resolve, invoke, builtin, hs, hx, hr, Result.andThen]
  exact hK
theorem step_append_at {ops : Array Oper} {o : Oper} {a : Act} {w wx w' : World} {K : Act → World → Prop} {Q : Exit → Act → World → Prop} {E : Prop} {t u ty : TypeId} {v y v' : Value} (hr : (Builtin.append_ #[t, u] ty #[v, y]).run Try.prog wx = .ok v' w')
    (hw : w = wx) (hg : o.guard = none) (s x : Operand) (hop : o.op = Op.call { callee := Callee.builtin Builtin.append, args := #[s, x], argTypes := #[t, u] }) (hty : o.type = ty)
    (hs : a.eval s = v) (hx : a.eval x = y) (hK : K (a.put o.dst v') w') :
    if Region.wanted o (yielded ops a.tmps) = true then Oper.wp Try.prog o a w K Q else E := by
  subst hw hty
  exact step_append_run hg s x t u hop v y hs hx v' w' hr hK

structure PushAt (w W : World) (p m bx : Nat) (F : Nat → Prop) (v : Value) (L : List It) (x : It) : Prop where
  q : QRep W p v (.map (some m)) L
  fo : ∀ b, Foot p v (.map (some m)) b → F b ∨ w.heap.size ≤ b
  chg : Chg F w W
  box : own W bx #[.int .i64 x.1, .int .i64 x.2] 60
  bm : bx ≠ m
/-- Behind the map's store. -/
structure PushMid (w W : World) (p m bx : Nat) (F : Nat → Prop) (v : Value) (L : List It) (x : It) : Prop where
  head : own W p #[v, .map (some m)] 58
  row : ItRow W v L
  map : ∃ D, PMap W m D ∧ Places D (L ++ [x])
  fo : ∀ b, Foot p v (.map (some m)) b → F b ∨ w.heap.size ≤ b
  chg : Chg F w W
  box : own W bx #[.int .i64 x.1, .int .i64 x.2] 60
  ml : m < W.heap.size
theorem pushMid_of {w W : World} {p m bx : Nat} {F : Nat → Prop} {v : Value} {L : List It} {x : It} (h : PushAt w W p m bx F v L x) (hx : InR x) (hno : ∀ y ∈ L, y.2 ≠ x.2) :
    ∃ W3, (Instr.mapUpdate 54 (.map (some m)) (.int .i64 x.2) (.int .i64 (L.length : Int))).run Try.prog W.drew = .ok () W3 ∧ PushMid w W3 p m bx F v L x := by
  rcases h.q.map with ⟨e, _⟩ | ⟨m', D, e, hm, hP⟩
  · cases e
  · cases e
    have hm0 : PMap W.drew m D := hm.same rfl
    have hl := h.q.len
    obtain ⟨W3, hr, ho, ht⟩ := World.ownsMap.store hm0 keyedInt Try.underlying54 (by rw [hP.size]; unfold maxLen; omega) (keyInt hx.2) (elInt (n := (L.length : Int)) (by unfold I64; omega))
    have hc := mapTurned_chg ht
    have hmp := (h.q.ap2 m rfl).1
    have hmg := (h.q.ap2 m rfl).2
    refine ⟨W3, hr, (h.q.head.same (w' := W.drew) rfl).chg hc (fun e => hmp e.symm), (h.q.row.same (w' := W.drew) (fun _ _ => rfl)).same (fun b hb => hc.block b (World.ownsRow.lt h.q.row b hb).2 (fun e => hmg (by rw [hb, e]))), ⟨_, ownsMap_tight ho, hP.snoc hno⟩, h.fo, ?_, (h.box.same (w' := W.drew) rfl).chg hc h.bm, ?_⟩
    · exact (h.chg.drewN 1).trans hc (fun b e => by subst e; exact h.fo _ (.inr (.inr rfl)))
    · have := h.q.lt m (.inr (.inr rfl)); have := hc.size; exact Nat.lt_of_lt_of_le (by assumption) (by assumption)
structure PushEnd (w W3 W5 : World) (p : Nat) (F : Nat → Prop) (u : Value) (L : List It) (x : It) : Prop where
  c0 : ∃ z, W5.cell? ⟨p, 0, none⟩ = some z
  fz : W5.frozen? ⟨p, 0, none⟩ = false
  fin : QTo w (W5.setCell ⟨p, 0, none⟩ u) p F (L ++ [x])
theorem pushEnd_of {w W3 : World} {p m bx : Nat} {F : Nat → Prop} {v : Value} {L : List It} {x : It} (h : PushMid w W3 p m bx F v L x) (hx : InR x) (hno : ∀ y ∈ L, y.2 ≠ x.2) (hids : (L.map Prod.snd).Nodup) (hin : ∀ y ∈ L, InR y) (hlen : L.length + 1 ≤ 1000)
    (hl : ∀ b, F b → b < w.heap.size) (ap1 : v.ownBlock ≠ some p) (ap2 : m ≠ p ∧ v.ownBlock ≠ some m) :
    ∃ ao cap W5, (Builtin.append_ #[53, 53] 53 #[v, .slice (some ⟨W3.heap.size, 0, none⟩) 1 1]).run Try.prog (W3.alloc (.cells #[.int .i64 x.1, .int .i64 x.2] 60)).drew = .ok (.slice ao (L.length + 1) cap) W5 ∧
      PushEnd w W3 W5 p F (.slice ao (L.length + 1) cap) L x := by
  have hW4 : ∀ b, b < W3.heap.size → (W3.alloc (.cells #[.int .i64 x.1, .int .i64 x.2] 60)).drew.heap[b]? = W3.heap[b]? := fun b hb => Below.heap_alloc _ _ _ hb
  have hp := h.head.lt
  have hvl := fun b hb => (World.ownsRow.lt h.row b hb).2
  have r4 : ItRow (W3.alloc (.cells #[.int .i64 x.1, .int .i64 x.2] 60)).drew v L := h.row.same (fun b hb => hW4 b (hvl b hb))
  have o4 : own (W3.alloc (.cells #[.int .i64 x.1, .int .i64 x.2] 60)).drew W3.heap.size #[.int .i64 x.1, .int .i64 x.2] 60 := own.new W3 _ _
  have h4 : own (W3.alloc (.cells #[.int .i64 x.1, .int .i64 x.2] 60)).drew p _ _ := h.head.same (hW4 p hp)
  have hz4 : (W3.alloc (.cells #[.int .i64 x.1, .int .i64 x.2] 60)).drew.heap.size = W3.heap.size + 1 := by simp
  have c4 : Chg F w (W3.alloc (.cells #[.int .i64 x.1, .int .i64 x.2] 60)).drew := (h.chg.trans (Chg.alloc (fun _ => False) W3 _) (fun _ e => e.elim)).drewN 1
  obtain ⟨D, hD, hP⟩ := h.map
  have d4 : PMap (W3.alloc (.cells #[.int .i64 x.1, .int .i64 x.2] 60)).drew m D := hD.same (hW4 m h.ml)
  have hml := h.ml
  generalize (W3.alloc (.cells #[.int .i64 x.1, .int .i64 x.2] 60)).drew = W4 at *
  obtain ⟨ao, cap, W5, hr, hrow, hg, hat⟩ := run_item W4 53 v L x W3.heap.size r4 o4 (by omega)
  refine ⟨ao, cap, W5, hr, ?_⟩
  have hc := Chg.of_grown hg
  have h5 := h4.chg hc (fun e => ap1 e)
  have d5 := hD
  have hm5 : PMap W5 m D := d4.same (hc.block m (by omega) (fun e => ap2.2 e))
  refine ⟨⟨_, (h5.cell 0).trans rfl⟩, h5.frozen 0, ?_⟩
  have ap1' : (Value.slice ao (L.length + 1) cap).ownBlock ≠ some p := fun e => by
    rcases hat with k | k
    · exact ap1 (by rw [← k]; exact e)
    · rw [k] at e; cases e; omega
  have ap2' : (Value.slice ao (L.length + 1) cap).ownBlock ≠ some m := fun e => by
    rcases hat with k | k
    · exact ap2.2 (by rw [← k]; exact e)
    · rw [k] at e; cases e; omega
  have h6 := h5.set 0 (.slice ao (L.length + 1) cap)
  have h6' : own (W5.setCell ⟨p, 0, none⟩ (.slice ao (L.length + 1) cap)) p #[.slice ao (L.length + 1) cap, .map (some m)] 58 := h6
  have hs6 : ∀ b, b ≠ p → (W5.setCell ⟨p, 0, none⟩ (.slice ao (L.length + 1) cap)).heap[b]? = W5.heap[b]? := fun b hb => Below.heap_setCell _ _ _ _ hb
  have hc6 : Chg F w (W5.setCell ⟨p, 0, none⟩ (.slice ao (L.length + 1) cap)) := (c4.trans hc (fun b e => h.fo b (.inr (.inl e)))).trans (Chg.setCell W5 ⟨p, 0, none⟩ _) (fun b e => by subst e; exact h.fo _ (.inl rfl))
  have hq : QRep (W5.setCell ⟨p, 0, none⟩ (.slice ao (L.length + 1) cap)) p (.slice ao (L.length + 1) cap) (.map (some m)) (L ++ [x]) := by
    refine ⟨h6', hrow.same (fun b hb => hs6 b (fun e => ap1' (by rw [hb, e]))), .inr ⟨m, D, rfl, hm5.same (hs6 m ap2.1), hP⟩, ap1', fun m' e => by cases e; exact ⟨ap2.1, ap2'⟩, ?_, fun z hz => ?_, by simp; omega⟩
    · rw [List.map_append, List.nodup_append]
      refine ⟨hids, by simp, fun a ha b hb e => ?_⟩
      obtain ⟨y, hy, rfl⟩ := List.mem_map.1 ha
      simp at hb
      exact hno y hy (by rw [e, hb])
    · rcases List.mem_append.1 hz with hz | hz
      · exact hin z hz
      · simp at hz; subst hz; exact hx
  refine ⟨⟨⟨_, _, hq, fun b hb => ?_⟩, grow_lt hl hc6.size⟩, hc6⟩
  have hlt := hq.lt b hb
  have key : F b ∨ w.heap.size ≤ b := by
    rcases hb with rfl | hb | hb
    · exact h.fo _ (.inl rfl)
    · rcases hat with k | k
      · exact h.fo b (.inr (.inl (by rw [← k]; exact hb)))
      · rw [k] at hb; cases hb; exact .inr (by have := c4.size; omega)
    · exact h.fo b (.inr (.inr hb))
  rcases key with k | k
  · exact .inl k
  · exact .inr ⟨k, hlt⟩
/-- Ahead of the box: the map is there. -/
structure PreAt (w W : World) (p m : Nat) (F : Nat → Prop) (v : Value) (L : List It) : Prop where
  q : QRep W p v (.map (some m)) L
  fo : ∀ b, Foot p v (.map (some m)) b → F b ∨ w.heap.size ≤ b
  chg : Chg F w W
theorem preAt_new {w : World} {p : Nat} {F : Nat → Prop} {v : Value} (h : QRep w p v (.map none) []) (hF : ∀ b, Foot p v (.map none) b → F b) :
    PreAt w ((w.setCell ⟨p, 1, none⟩ (.map (some w.heap.size))).alloc (.map #[] 0)) p w.heap.size F v [] := by
  have hp := h.head.lt
  have hz : (w.setCell ⟨p, 1, none⟩ (.map (some w.heap.size))).heap.size = w.heap.size := setCell_size _ _ _
  have hs : ∀ b, b < w.heap.size → b ≠ p → ((w.setCell ⟨p, 1, none⟩ (.map (some w.heap.size))).alloc (.map #[] 0)).heap[b]? = w.heap[b]? := fun b hb hne => by
    rw [Below.heap_alloc _ _ _ (by rw [hz]; exact hb), Below.heap_setCell _ _ _ _ hne]
  have h1 := h.head.set 1 (.map (some w.heap.size))
  have h2 : own ((w.setCell ⟨p, 1, none⟩ (.map (some w.heap.size))).alloc (.map #[] 0)) p #[v, .map (some w.heap.size)] 58 := own.same h1 (Below.heap_alloc _ _ _ (by rw [hz]; exact hp))
  have hv := fun b hb => (World.ownsRow.lt h.row b hb).2
  refine ⟨⟨h2, h.row.same (fun b hb => hs b (hv b hb) (fun e => h.ap1 (by rw [hb, e]))), .inr ⟨w.heap.size, .map [], rfl, ?_, places_nil⟩, h.ap1, fun m e => ?_, h.ids, h.inr, h.len⟩, fun b hb => ?_, ?_⟩
  · have := World.ownsMap_made (w.setCell ⟨p, 1, none⟩ (.map (some w.heap.size))) Try.prog 3 EL
    rw [hz] at this
    exact this
  · cases e
    exact ⟨by omega, fun e => by have := hv _ e; omega⟩
  · rcases hb with hb | hb | hb
    · exact .inl (hF b (.inl hb))
    · exact .inl (hF b (.inr (.inl hb)))
    · cases hb; exact .inr (Nat.le_refl _)
  · exact ((Chg.setCell w ⟨p, 1, none⟩ _).mono (T := F) (fun b e => by subst e; exact hF _ (.inl rfl))).trans (Chg.alloc (fun _ => False) _ _) (fun _ e => e.elim)
theorem assert_item (v : Value) (wx : World) : (Instr.typeAssert (.iface 60 v) 20 60 false).run Try.prog wx = .ok v wx := by
  rfl
theorem pushAt_of {w W : World} {p m : Nat} {F : Nat → Prop} {v : Value} {L : List It} (h : PreAt w W p m F v L) (x : It) : PushAt w (W.alloc (.cells #[.int .i64 x.1, .int .i64 x.2] 60)) p m W.heap.size F v L x := by
  have hm := h.q.lt m (.inr (.inr rfl))
  exact ⟨h.q.below ((Below.refl _ _).alloc (Nat.le_refl _) _), h.fo, h.chg.trans (Chg.alloc (fun _ => False) W _) (fun _ e => e.elim), own.new W _ _, by omega⟩
set_option maxHeartbeats 4000000 in
theorem push_any {w : World} {p : Nat} {F : Nat → Prop} {L : List It} {x : It} (h : QIs w p F L) (hx : InR x) (hno : ∀ y ∈ L, y.2 ≠ x.2) (hlen : L.length + 1 ≤ 1000) :
    Calls Try.prog 51 #[.pointer (some ⟨p, 0, none⟩), .iface 60 (.agg #[.int .i64 x.1, .int .i64 x.2])] w fun e w' => e = .returned (.tuple #[]) ∧ QTo w w' p F (L ++ [x]) := by
  obtain ⟨⟨v, mv, hr, hF⟩, hl⟩ := h
  have c1 : w.cell? ⟨p, 1, none⟩ = some mv := (hr.head.cell 1).trans rfl
  have f1 : w.frozen? ⟨p, 1, none⟩ = false := hr.head.frozen 1
  have hp := hr.head.lt
  have hmk : ∀ wx : World, (Instr.makeMap 54 none).run Try.prog wx = .ok (.map (some wx.heap.size)) (wx.alloc (.map #[] 0)) := fun _ => rfl
  have hmv : ∃ b, (∀ wx : World, Sem.run Try.prog (binOp .eql 54 mv (.map none)) wx = .ok (.bool b) wx) ∧ (∀ wx : World, Sem.run Try.prog (eqGuard .eql 54 (.tmp 8) (.const (.map none)) mv (.map none)) wx = .ok () wx) ∧ ((b = true ∧ mv = .map none ∧ L = []) ∨ (b = false ∧ ∃ m, mv = .map (some m))) := by
    rcases hr.map with ⟨e, e2⟩ | ⟨m, D, e, _, _⟩
    · exact ⟨true, fun wx => by subst e; rfl, fun wx => by subst e; rfl, .inl ⟨rfl, e, e2⟩⟩
    · exact ⟨false, fun wx => by subst e; rfl, fun wx => by subst e; rfl, .inr ⟨rfl, m, e⟩⟩
  obtain ⟨b, hb, hb2, hcases⟩ := hmv
  have HC := hid hcases
  clear hcases
  have HR := hid hr
  have HF := hid hF
  have HL := hid hl
  have HNO := hid hno
  have HX := hid hx
  clear hr hF hl hno hx
  obtain ⟨n, hn⟩ : ∃ n, L.length = n := ⟨_, rfl⟩
  have HN := hid hn
  rw [hn] at hlen
  clear hn
  go_enter Try.func51, Try.ntmps51
  go_upto_if 9 with (fail)
  go_cut [] (fun wx => ∃ m, PreAt w wx p m F v L)
  case first =>
    rcases HC.out with ⟨e0, e, e2⟩ | ⟨e0, m, e⟩
    · subst e0 e e2
      go_wp2
      go_meet
      exact ⟨_, preAt_new HR.out HF.out⟩
    · subst e0 e
      go_wp2
      go_meet
      exact ⟨_, HR.out, fun b hb => .inl (HF.out b hb), Chg.refl _ _⟩
  case rest =>
    obtain ⟨m, HP⟩ := hcut
    generalize wc = W at *
    clear c1 f1 hmk
    have P := pushAt_of HP x
    have HP0 := hid P
    obtain ⟨W3, hr3, hm3⟩ := pushMid_of P HX.out HNO.out
    rw [HN.out] at hr3
    have HM := hid hm3
    have q0 : (W.alloc (.cells #[.int .i64 x.1, .int .i64 x.2] 60)).cell? ⟨p, 0, none⟩ = some v := (P.q.head.cell 0).trans rfl
    have q1 : (W.alloc (.cells #[.int .i64 x.1, .int .i64 x.2] 60)).cell? ⟨p, 1, none⟩ = some (.map (some m)) := (P.q.head.cell 1).trans rfl
    have q2 : (W.alloc (.cells #[.int .i64 x.1, .int .i64 x.2] 60)).cell? ⟨W.heap.size, 0, none⟩ = some (.int .i64 x.1) := (P.box.cell 0).trans rfl
    have q3 : (W.alloc (.cells #[.int .i64 x.1, .int .i64 x.2] 60)).cell? ⟨W.heap.size, 1, none⟩ = some (.int .i64 x.2) := (P.box.cell 1).trans rfl
    obtain ⟨ao, cap, hv, _⟩ := P.q.row.slice
    rw [HN.out] at hv
    subst hv
    have ta := assert_item (.agg #[.int .i64 x.1, .int .i64 x.2]) W
    clear P HP hm3
    go_wp2
    generalize W.alloc (.cells #[.int .i64 x.1, .int .i64 x.2] 60) = W2 at *
    generalize W.heap.size = bx at *
    go_still_tail 11, (by kernel_rfl)
    change wpList _ _ _ _ _ W2.drew
    go_wp2
    have hq := HP0.out.q
    obtain ⟨ao2, cap2, W5, hr5, he5⟩ := pushEnd_of HM.out HX.out HNO.out HR.out.ids HR.out.inr (by rw [HN.out]; exact hlen) HL.out hq.ap1 (hq.ap2 m rfl)
    rw [HN.out] at hr5 he5
    have hz3 : (W3.alloc (.cells #[.int .i64 x.1, .int .i64 x.2] 60)).heap.size = W3.heap.size + 1 := by simp
    obtain ⟨z, k0⟩ := he5.c0
    have k1 := he5.fz
    have HE := hid he5
    have M := HM.out
    have lp := M.head.lt
    have p0 : W3.cell? ⟨p, 0, none⟩ = some (.slice ao n cap) := (M.head.cell 0).trans rfl
    have p1 : W3.cell? ⟨bx, 0, none⟩ = some (.int .i64 x.1) := (M.box.cell 0).trans rfl
    have p2 : W3.cell? ⟨bx, 1, none⟩ = some (.int .i64 x.2) := (M.box.cell 1).trans rfl
    clear M hq he5 q0 q1 q2 q3 hr3 hz3
    go_region_law (first | (refine step_append_at hr5 (by with_reducible rfl) rfl _ _ rfl rfl rfl rfl ?_))
    all_goals
      go_wp2
      go_end0
      exact ⟨rfl, HE.out.fin⟩
end Go.Proofs.Ytmjgkhjjnfoolaa
