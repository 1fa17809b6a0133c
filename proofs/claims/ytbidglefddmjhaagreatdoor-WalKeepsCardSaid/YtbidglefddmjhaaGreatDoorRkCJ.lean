import Derived.Test.YtbidglefddmjhaaGreatDoorMq3J
import Derived.Deep.RegionHeldLaw
/-
  LAYER 2 (disk), THE DOCUMENT's ANSWER: with.
-/
namespace Go.Proofs.YtbidglefddmjhaaGreatDoor
open Go.RowKit Go.Maps
set_option linter.unusedVariables false
set_option maxRecDepth 100000
section
variable {w w' : World} {S : Nat → Prop} {r : Nat} {v : Value} {s : Dk}

theorem more_files (wx : World) (N : Nat) (hN : N ≤ wx.heap.size) (v : Value) (L1 L2 : List AF) (A : Option Addr) (c : Nat) (hown : RefRow wx v L1) (hv : ∀ b, v.ownBlock = some b → N ≤ b) (hr : FilesAt wx A L2) (hb : L1.length + L2.length ≤ 1000) :
    ∃ ao cap wy, (Builtin.append_ #[39, 39] 39 #[v, .slice A L2.length c]).run Tryz.prog wx = .ok (.slice ao (L1 ++ L2).length cap) wy ∧ RefRow wy (.slice ao (L1 ++ L2).length cap) (L1 ++ L2) ∧ (∀ b, (Value.slice ao (L1 ++ L2).length cap).ownBlock = some b → N ≤ b) ∧ Below N wx wy ∧ wx.grownBy wy v.ownBlock := by
  obtain ⟨v2, w2, hr2, hrow2, hg2, hat2⟩ := run_files wx 39 v L1 L2 A c hown hr hb
  obtain ⟨ao2, cap2, hv2s, -⟩ := hrow2.slice
  subst hv2s
  refine ⟨ao2, cap2, w2, hr2, hrow2, fun b hb => ?_, (Below.refl N wx).grown hg2 hN hv, hg2⟩
  rcases hat2 with h | h
  · exact hv b (by rw [← h]; exact hb)
  · rw [h] at hb; cases hb; exact hN
theorem FilesAt.from {w w' : World} {A : Option Addr} {L : List AF} {N : Nat} (h : FilesAt w A L) (hN : w.heap.size ≤ N) (hb : Below N w w') : FilesAt w' A L := h.below (hb.mono hN)
theorem RefRow.from {w w' : World} {v : Value} {L : List AF} {N : Nat} (h : RefRow w v L) (hb : Below N w w') (hv : ∀ b, v.ownBlock = some b → b < N) : RefRow w' v L := ownsRow_same h (fun b h1 => hb.block b (hv b h1))
theorem emptyRow (w : World) (wx : World) (hx : wx.heap[w.heap.size]? = some (.cells #[] 104 (0, 0))) : RefRow wx (.slice (some ⟨w.heap.size, 0, none⟩) 0 0) [] :=
  ⟨rfl, .inr ⟨w.heap.size, 0, #[], rfl, Nat.zero_le _, hx, Nat.le_refl _, Nat.zero_le _, rfl, rfl⟩⟩
theorem oneFile (wx : World) (g : Nat) (n d : ByteArray) (k : Nat) (hx : own wx g #[.string n, .string d, .int .i64 (k : Int)] 104) : FilesAt wx (some ⟨g, 0, none⟩) [⟨n.data.toList, d.data.toList, k⟩] := fun _ => ⟨g, 0, rfl, fun j u hj => by
  rw [Nat.zero_add, hx.cell j]
  simpa [flat, fcells, mk_of] using hj⟩

theorem step_append_at {ops : Array Oper} {o : Oper} {a : Act} {w wx w' : World} {K : Act → World → Prop} {Q : Exit → Act → World → Prop} {E : Prop} {t u ty : TypeId} {v y v' : Value} (hr : (Builtin.append_ #[t, u] ty #[v, y]).run Tryz.prog wx = .ok v' w')
    (hw : w = wx) (hg : o.guard = none) (s x : Operand) (hop : o.op = Op.call { callee := Callee.builtin Builtin.append, args := #[s, x], argTypes := #[t, u] }) (hty : o.type = ty)
    (hs : a.eval s = v) (hx : a.eval x = y) (hK : K (a.put o.dst v') w') :
    if Region.wanted o (yielded ops a.tmps) = true then Oper.wp Tryz.prog o a w K Q else E := by
  subst hw hty
  exact step_append_run hg s x t u hop v y hs hx v' w' hr hK

set_option maxHeartbeats 4000000 in
theorem refWith_any (h : RefRep w S r v s) (n d : ByteArray) (k : Nat) (hk : k ≤ 10000000) (i : Nat) (hi : i = ahead AF.key n.data.toList s.L) : Calls Tryz.prog 73 #[.pointer (some ⟨r, 0, none⟩), .agg #[.string n, .string d, .int .i64 (k : Int)]] w (RowPost w (s.L.take i ++ [⟨n.data.toList, d.data.toList, k⟩] ++ s.L.drop i)) := by
  have hbx : Below w.heap.size w (w.alloc (.cells #[.string n, .string d, .int .i64 (k : Int)] 104)) := Below.alloc (Below.refl _ _) (Nat.le_refl _) _
  have hbox := own.new w #[.string n, .string d, .int .i64 (k : Int)] 104
  have hzx : (w.alloc (.cells #[.string n, .string d, .int .i64 (k : Int)] 104)).heap.size = w.heap.size + 1 := by simp
  have HFi := hid (refFind_any (h.below hbx) n)
  unfold FoundV at HFi
  rw [← hi] at HFi
  have hil : i ≤ s.L.length := by rw [hi]; exact ahead_le _ _
  have hmany := h.ok.many
  have hrl := h.head.lt
  have x0 := (hbox.cell 0).trans rfl
  have x1 := (hbox.cell 1).trans rfl
  have x2 := (hbox.cell 2).trans rfl
  -- behind find
  have hgo : ∀ w1, Below (w.heap.size + 1) (w.alloc (.cells #[.string n, .string d, .int .i64 (k : Int)] 104)) w1 → True := fun _ _ => trivial
  obtain ⟨ao, cap, rfl, hcap, hnone, -⟩ := h.row.slice
  have c0 := h.head.cell 0
  simp at c0
  obtain ⟨hA1, -⟩ := FilesAt.of_row h.row i
  have hA2 := (FilesAt.of_row h.row i).2 hil
  have hlen1 : (s.L.take i).length = i := by rw [List.length_take]; omega
  have hlen2 : (s.L.drop i).length = s.L.length - i := List.length_drop
  have l1 := fun wx => files_to wx ao s.L.length cap i (by omega) hnone
  have l2 := fun wx => files_from wx ao s.L.length cap i hil hcap
  generalize hao3 : (if cap = i then ao else ao.map (·.add (i * 3))) = ao3 at *
  have hplan : ∀ w1, Below w.heap.size w w1 → ∀ (wx : World) (g0 gF : Nat), Below w1.heap.size w1 wx → RefRow wx (.slice (some ⟨g0, 0, none⟩) 0 0) [] → w1.heap.size ≤ g0 → 
      ∃ a1 b1 wy1, (Builtin.append_ #[39, 39] 39 #[.slice (some ⟨g0, 0, none⟩) 0 0, .slice ao i cap]).run Tryz.prog wx = .ok (.slice a1 i b1) wy1 ∧ Below w1.heap.size w1 wy1 ∧
        RefRow wy1 (.slice a1 i b1) (s.L.take i) ∧ (∀ b, (Value.slice a1 i b1).ownBlock = some b → w1.heap.size ≤ b) ∧ (∀ b, b < wx.heap.size → b ≠ g0 → wy1.heap[b]? = wx.heap[b]?) := by
    intro w1 hb1 wx g0 gF hbx hrow hg0
    obtain ⟨a1, b1, wy1, e1, e2, e3, e4, e5⟩ := more_files wx w1.heap.size hbx.size _ [] (s.L.take i) ao cap hrow (fun b hb => by cases hb; exact hg0) (hA1.below (hb1.trans (hbx.mono hb1.size))) (by simp; omega)
    rw [hlen1, List.nil_append, hlen1] at e1
    rw [List.nil_append, hlen1] at e2 e3
    exact ⟨a1, b1, wy1, e1, hbx.trans e4, e2, e3, fun b hb hne => e5.block b hb (fun h => hne (Option.some.inj h))⟩
  have hplan2 : ∀ w1, Below w.heap.size w w1 → ∀ (wx : World) (a1 : Option Addr) (b1 gF : Nat), Below w1.heap.size w1 wx → RefRow wx (.slice a1 i b1) (s.L.take i) → (∀ b, (Value.slice a1 i b1).ownBlock = some b → w1.heap.size ≤ b) → own wx gF #[.string n, .string d, .int .i64 (k : Int)] 104 →
      ∃ a2 b2 wy2 a3 b3 wy3, (Builtin.append_ #[39, 39] 39 #[.slice a1 i b1, .slice (some ⟨gF, 0, none⟩) 1 1]).run Tryz.prog wx = .ok (.slice a2 (i + 1) b2) wy2 ∧ Below w1.heap.size w1 wy2 ∧
        (Builtin.append_ #[39, 39] 39 #[.slice a2 (i + 1) b2, .slice ao3 (s.L.length - i) (cap - i)]).run Tryz.prog wy2 = .ok (.slice a3 (s.L.length + 1) b3) wy3 ∧ Below w1.heap.size w1 wy3 ∧
        Hid (RowPost w (s.L.take i ++ [⟨n.data.toList, d.data.toList, k⟩] ++ s.L.drop i) (.returned (.slice a3 (s.L.length + 1) b3)) wy3) := by
    intro w1 hb1 wx a1 b1 gF hbx hrow hv hown
    obtain ⟨a2, b2, wy2, e1, e2, e3, e4, -⟩ := more_files wx w1.heap.size hbx.size _ (s.L.take i) [⟨n.data.toList, d.data.toList, k⟩] (some ⟨gF, 0, none⟩) 1 hrow hv (oneFile wx gF n d k hown) (by rw [hlen1]; simp; omega)
    have hl2 : (s.L.take i ++ [(⟨n.data.toList, d.data.toList, k⟩ : AF)]).length = i + 1 := by rw [List.length_append, hlen1]; rfl
    rw [hl2] at e1 e2 e3
    have hbb := hbx.trans e4
    obtain ⟨a3, b3, wy3, q1, q2, q3, q4, -⟩ := more_files wy2 w1.heap.size hbb.size _ _ (s.L.drop i) ao3 (cap - i) e2 e3 (hA2.below (hb1.trans (hbb.mono hb1.size))) (by rw [hl2, hlen2]; omega)
    have hl3 : (s.L.take i ++ [(⟨n.data.toList, d.data.toList, k⟩ : AF)] ++ s.L.drop i).length = s.L.length + 1 := by rw [List.length_append, hl2, hlen2]; omega
    rw [hlen2] at q1
    refine ⟨a2, b2, wy2, a3, b3, wy3, e1, hbb, by rw [hl3] at q1; exact q1, hbb.trans q4, hid ⟨a3, b3, by rw [hl3], q2, fun b hb => ?_, hb1.trans ((hbb.trans q4).mono hb1.size)⟩⟩
    have := q3 b hb
    have := hb1.size
    omega
  clear hgo
  have hiI : (i : Int) ≤ (s.L.length : Int) := by omega
  have hmI : (s.L.length : Int) ≤ 40 := by omega
  clear hA1 hA2 hlen1 hlen2 h hcap hmany hnone hi
  have HPL := hid hplan
  have HPL2 := hid hplan2
  clear hplan hplan2
  go_enter Tryz.func73, Tryz.ntmps73
  go_wp2_with (with_reducible refine (HFi.out).mono ?_)
  rintro _ w1 ⟨rfl, hb1⟩
  have hbw : Below w.heap.size w w1 := hbx.trans (hb1.mono (by rw [hzx]; omega))
  have hcs : ∀ wx, Below w1.heap.size w1 wx → wx.cell? ⟨r, 0, none⟩ = some (.slice ao s.L.length cap) ∧ wx.cell? ⟨w.heap.size, 0, none⟩ = some (.string n) ∧ wx.cell? ⟨w.heap.size, 1, none⟩ = some (.string d) ∧ wx.cell? ⟨w.heap.size, 2, none⟩ = some (.int .i64 (k : Int)) := by
    intro wx hwx
    have h1 := hbw.trans (hwx.mono hbw.size)
    have h2 := hb1.trans (hwx.mono hb1.size)
    rw [hzx] at h2
    exact ⟨(h1.cell (p := ⟨r, 0, none⟩) hrl).trans c0, (h2.cell (p := ⟨w.heap.size, 0, none⟩) (Nat.lt_succ_self _)).trans x0, (h2.cell (p := ⟨w.heap.size, 1, none⟩) (Nat.lt_succ_self _)).trans x1, (h2.cell (p := ⟨w.heap.size, 2, none⟩) (Nat.lt_succ_self _)).trans x2⟩
  have B0 : Below w1.heap.size w1 (w1.alloc (.cells #[] 104)).drew := (Below.alloc (Below.refl _ _) (Nat.le_refl _) _).drew
  have B1 : Below w1.heap.size w1 (w1.alloc (.cells #[.string n, .string d, .int .i64 (k : Int)] 104)).drew := (Below.alloc (Below.refl _ _) (Nat.le_refl _) _).drew
  have B01 : Below w1.heap.size w1 ((w1.alloc (.cells #[] 104)).alloc (.cells #[.string n, .string d, .int .i64 (k : Int)] 104)).drew := (Below.alloc (Below.alloc (Below.refl _ _) (Nat.le_refl _) _) (by simp) _).drew
  have B10 : Below w1.heap.size w1 ((w1.alloc (.cells #[.string n, .string d, .int .i64 (k : Int)] 104)).alloc (.cells #[] 104)).drew := (Below.alloc (Below.alloc (Below.refl _ _) (Nat.le_refl _) _) (by simp) _).drew
  have R0 : RefRow (w1.alloc (.cells #[] 104)).drew (.slice (some ⟨w1.heap.size, 0, none⟩) 0 0) [] := emptyRow w1 _ (heap_alloc_new w1 _)
  have z0 : (w1.alloc (.cells #[] 104)).heap.size = w1.heap.size + 1 := by simp
  have z1 : (w1.alloc (.cells #[.string n, .string d, .int .i64 (k : Int)] 104)).heap.size = w1.heap.size + 1 := by simp
  have z01 : ((w1.alloc (.cells #[] 104)).alloc (.cells #[.string n, .string d, .int .i64 (k : Int)] 104)).drew.heap.size = w1.heap.size + 2 := by simp
  have z10 : ((w1.alloc (.cells #[.string n, .string d, .int .i64 (k : Int)] 104)).alloc (.cells #[] 104)).drew.heap.size = w1.heap.size + 2 := by simp
  have R01 : RefRow ((w1.alloc (.cells #[] 104)).alloc (.cells #[.string n, .string d, .int .i64 (k : Int)] 104)).drew (.slice (some ⟨w1.heap.size, 0, none⟩) 0 0) [] := emptyRow w1 _ (((Below.alloc (Below.refl _ _) (Nat.le_refl _) _).block _ (by rw [z0]; omega)).trans (heap_alloc_new w1 (.cells #[] 104)))
  have R10 : RefRow ((w1.alloc (.cells #[.string n, .string d, .int .i64 (k : Int)] 104)).alloc (.cells #[] 104)).drew (.slice (some ⟨w1.heap.size + 1, 0, none⟩) 0 0) [] := by rw [← z1]; exact emptyRow (w1.alloc (.cells #[.string n, .string d, .int .i64 (k : Int)] 104)) _ (heap_alloc_new (w1.alloc (.cells #[.string n, .string d, .int .i64 (k : Int)] 104)) _)
  have O01 : own ((w1.alloc (.cells #[] 104)).alloc (.cells #[.string n, .string d, .int .i64 (k : Int)] 104)).drew (w1.heap.size + 1) #[.string n, .string d, .int .i64 (k : Int)] 104 := by rw [← z0]; exact heap_alloc_new (w1.alloc (.cells #[] 104)) _
  have O10 : own ((w1.alloc (.cells #[.string n, .string d, .int .i64 (k : Int)] 104)).alloc (.cells #[] 104)).drew w1.heap.size #[.string n, .string d, .int .i64 (k : Int)] 104 := ((Below.alloc (Below.refl _ _) (Nat.le_refl _) _).block _ (by rw [z1]; omega)).trans (heap_alloc_new w1 (.cells #[.string n, .string d, .int .i64 (k : Int)] 104))
  obtain ⟨aA, bA, wA, eA, HA, rA, vA, sA⟩ := HPL.out w1 hbw _ w1.heap.size 0 B01 R01 (by omega)
  obtain ⟨aB, bB, wB, eB, HB, rB, vB, sB⟩ := HPL.out w1 hbw _ (w1.heap.size + 1) 0 B10 R10 (by omega)
  obtain ⟨aC, bC, wC, eC, HC, rC, vC, sC⟩ := HPL.out w1 hbw _ w1.heap.size 0 B0 R0 (by omega)
  have BC : Below w1.heap.size w1 (wC.alloc (.cells #[.string n, .string d, .int .i64 (k : Int)] 104)) := Below.alloc HC HC.size _
  have OA : own wA (w1.heap.size + 1) #[.string n, .string d, .int .i64 (k : Int)] 104 := O01.same (sA _ (by rw [z01]; omega) (by omega))
  have OB : own wB w1.heap.size #[.string n, .string d, .int .i64 (k : Int)] 104 := O10.same (sB _ (by rw [z10]; omega) (by omega))
  have OC : own (wC.alloc (.cells #[.string n, .string d, .int .i64 (k : Int)] 104)) wC.heap.size #[.string n, .string d, .int .i64 (k : Int)] 104 := heap_alloc_new wC _
  have rC1 : RefRow (wC.alloc (.cells #[.string n, .string d, .int .i64 (k : Int)] 104)) (.slice aC i bC) (s.L.take i) := ownsRow_same rC (fun b hb => (Below.alloc (Below.refl _ _) (Nat.le_refl _) _).block b ((World.ownsRow.lt rC b hb).2))
  obtain ⟨aA2, bA2, wA2, aA3, bA3, wA3, fA, HA2, gA, HA3, FA⟩ := HPL2.out w1 hbw _ aA bA (w1.heap.size + 1) HA rA vA OA
  obtain ⟨aB2, bB2, wB2, aB3, bB3, wB3, fB, HB2, gB, HB3, FB⟩ := HPL2.out w1 hbw _ aB bB w1.heap.size HB rB vB OB
  obtain ⟨aC2, bC2, wC2, aC3, bC3, wC3, fC, HC2, gC, HC3, FC⟩ := HPL2.out w1 hbw _ aC bC wC.heap.size BC rC1 vC OC
  obtain ⟨p0, q0, t0, u0⟩ := hcs _ (Below.refl _ w1).drew
  obtain ⟨p1, q1, t1, u1⟩ := hcs _ B0
  obtain ⟨p2, q2, t2, u2⟩ := hcs _ B1
  obtain ⟨p3, q3, t3, u3⟩ := hcs _ B01
  obtain ⟨p4, q4, t4, u4⟩ := hcs _ B10
  obtain ⟨p5, q5, t5, u5⟩ := hcs _ HA
  obtain ⟨p6, q6, t6, u6⟩ := hcs _ HB
  obtain ⟨p7, q7, t7, u7⟩ := hcs _ HC
  obtain ⟨p8, q8, t8, u8⟩ := hcs _ BC
  obtain ⟨p9, q9, t9, u9⟩ := hcs _ HA2
  obtain ⟨p10, q10, t10, u10⟩ := hcs _ HB2
  obtain ⟨p11, q11, t11, u11⟩ := hcs _ HC2
  obtain ⟨p12, q12, t12, u12⟩ := hcs _ HA3
  obtain ⟨p13, q13, t13, u13⟩ := hcs _ HB3
  obtain ⟨p14, q14, t14, u14⟩ := hcs _ HC3
  clear hcs R0 R01 R10 O01 O10 z0 z1 z01 z10 B0 B1 B01 B10 rA vA sA rB vB sB rC vC sC HA HB HC BC OA OB OC rC1 HA2 HB2 HC2 HA3 HB3 HC3 HPL HPL2 HFi hbox
  generalize s.L.take i ++ [(⟨n.data.toList, d.data.toList, k⟩ : AF)] ++ s.L.drop i = M at *
  go_wp2
  have eA := hid eA
  have fA := hid fA
  have gA := hid gA
  have eB := hid eB
  have fB := hid fB
  have gB := hid gB
  have eC := hid eC
  have fC := hid fC
  have gC := hid gC
  go_region_held_law (fun wx => wx.cell? ⟨r, 0, none⟩ = some (.slice ao s.L.length cap) ∧ wx.cell? ⟨w.heap.size, 0, none⟩ = some (.string n) ∧ wx.cell? ⟨w.heap.size, 1, none⟩ = some (.string d) ∧ wx.cell? ⟨w.heap.size, 2, none⟩ = some (.int .i64 (k : Int))) (first | exact ⟨p0, q0, t0, u0⟩ | exact ⟨p1, q1, t1, u1⟩ | exact ⟨p2, q2, t2, u2⟩ | exact ⟨p3, q3, t3, u3⟩ | exact ⟨p4, q4, t4, u4⟩ | exact ⟨p5, q5, t5, u5⟩ | exact ⟨p6, q6, t6, u6⟩ | exact ⟨p7, q7, t7, u7⟩ | exact ⟨p8, q8, t8, u8⟩ | exact ⟨p9, q9, t9, u9⟩ | exact ⟨p10, q10, t10, u10⟩ | exact ⟨p11, q11, t11, u11⟩ | exact ⟨p12, q12, t12, u12⟩ | exact ⟨p13, q13, t13, u13⟩ | exact ⟨p14, q14, t14, u14⟩) (first
    | (refine step_append_at eA.out (by with_reducible rfl) rfl _ _ rfl rfl rfl rfl ?_)
    | (refine step_append_at fA.out (by with_reducible rfl) rfl _ _ rfl rfl rfl rfl ?_)
    | (refine step_append_at gA.out (by with_reducible rfl) rfl _ _ rfl rfl rfl rfl ?_)
    | (refine step_append_at eB.out (by with_reducible rfl) rfl _ _ rfl rfl rfl rfl ?_)
    | (refine step_append_at fB.out (by with_reducible rfl) rfl _ _ rfl rfl rfl rfl ?_)
    | (refine step_append_at gB.out (by with_reducible rfl) rfl _ _ rfl rfl rfl rfl ?_)
    | (refine step_append_at eC.out (by with_reducible rfl) rfl _ _ rfl rfl rfl rfl ?_)
    | (refine step_append_at fC.out (by with_reducible rfl) rfl _ _ rfl rfl rfl rfl ?_)
    | (refine step_append_at gC.out (by with_reducible rfl) rfl _ _ rfl rfl rfl rfl ?_))
  all_goals
    go_wp2
    go_ret
    first
      | (rename_i hq
         exact absurd (show (some 31 : Option Nat) = none from hq) (by simp))
      | (rename_i dd hq
         obtain rfl : 31 = dd := Option.some.inj (show (some 31 : Option Nat) = some dd from hq)
         first | exact FA.out | exact FB.out | exact FC.out)
end
end Go.Proofs.YtbidglefddmjhaaGreatDoor

