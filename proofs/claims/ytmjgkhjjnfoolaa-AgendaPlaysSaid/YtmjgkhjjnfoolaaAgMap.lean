/-
  LAYER 5 (agenda): an entry of a map that is there, taken and stored; Swap.
-/
import Derived.Test.YtmjgkhjjnfoolaaAgA
import Derived.WideKeyEntry
namespace Go.Proofs.Ytmjgkhjjnfoolaa
open Go.RowKit Go.Maps Go.MapKept Go.ChangeMaps
open Go.WideElems (Fit findIdx_born findIdx_arr set_self)
set_option linter.unusedVariables false
set_option maxRecDepth 100000

theorem setBlock_same {w : World} {b : Nat} {es : Array MapEntry} {clock : Nat} (hb : w.heap[b]? = some (.map es clock)) : setBlock w b (.map es clock) = w := by
  have e : w.heap.setIfInBounds b (.map es clock) = w.heap := by
    apply Array.ext_getElem?
    intro i
    by_cases hi : i = b
    · subst hi
      exact (heap_setBlock_same hb _).trans hb.symm
    · exact heap_setBlock_other hb _ hi
  unfold setBlock
  rw [e]
/-- An entry that is there: the world stays; behind it the store is the map's own. -/
theorem entry_there {H : Type} {P : Program} {w : World} {t k e : TypeId} {R : Value → Option (DataW H × List MemPlace)} {b n : Nat} {D : DataW H} (K : Keyed P k) (ht : P.underlying t = some (.map k e)) (h : w.ownsMap P k R b n D)
    {z : Value} (hz : (zeroValue e).run P w = .ok z w) {key : Value} {kl : Lit} (hkey : keyOf P k key = some kl) (hh : Maps.has D kl = true) (hn : n < maxLen) :
    ∃ (v0 : Value) (st : Nat), (Instr.mapEntry t (.map (some b)) key).run P w = .ok (.tuple #[v0, .int .i64 (st : Int)]) w ∧
      ∀ (w2 : World) (val : Value) (d : DataW H) (ps : List MemPlace), w2.heap[b]? = w.heap[b]? → R val = some (d, ps) →
        ∃ w3, (Instr.entryStore t (.map (some b)) (.int .i64 (st : Int)) val).run P w2 = .ok () w3 ∧ w3.ownsMap P k R b (n + 1) (D.put kl d) ∧ w2.mapTurned w3 b := by
  have hown := h
  obtain ⟨es, clock, hb, F, hs, rfl⟩ := h
  obtain ⟨s1, s2, _⟩ := F.stamped
  have hkeys : ∀ x ∈ es.toList, ∃ l, keyOf P k x.key = some l := fun x hx => by
    obtain ⟨y, hy⟩ := F.reads x hx
    exact ⟨_, WideElems.rd_key hy⟩
  rcases K.find w hkey es.toList hkeys with ⟨h1, h2⟩ | ⟨j, e0, h1, h2, h3⟩
  · exfalso
    rcases Maps.fit_look true K ht hz hb F hkey with ⟨_, _, hat⟩ | ⟨e1, y, he1, hek, _⟩
    · rw [Maps.has_false_of_atKey hat] at hh; cases hh
    · exact h2 e1 (by first | exact he1 | exact hek) (by first | exact hek | exact he1)
  · have hj : es[j]? = some e0 := by simpa using h2
    have hsame : es.modify j (fun e => { e with key := key }) = es := by
      apply Array.ext'
      rw [Array.toList_modify, modify_eq_set _ _ _ _ h2]
      have : ({ e0 with key := key } : MapEntry) = e0 := by rw [← h3]
      rw [this]
      exact set_self _ _ _ h2
    refine ⟨e0.val, e0.born, ?_, fun w2 val d ps hw2 hv => ?_⟩
    · have hself := setBlock_same hb
      unfold setBlock at hself
      simp [Instr.mapEntry, run_underlying ht, MapKept.run_getObj_map hb, K.check w false hkey, h1, hj, h3, K.stays w hkey, hsame, MapKept.run_setObj_map _ hb, Result.andThen, goInt, hself]
    · have hb2 : w2.heap[b]? = some (.map es clock) := hw2.trans hb
      obtain ⟨w3, hr, ho, hm⟩ := (ownsMap_same hown hw2).store K ht hn hkey hv
      have hidx : es.findIdx? (fun e => ((e.born : Nat) : Int) == ((e0.born : Nat) : Int)) = some j := by
        rw [findIdx_arr]
        exact findIdx_born s2 h2
      have hmod : es.modify j (fun e => { e with val := val }) = es.modify j (fun e' => { e' with key := key, val := val }) := by
        apply Array.ext'
        rw [Array.toList_modify, Array.toList_modify, modify_eq_set _ _ _ _ h2, modify_eq_set _ _ _ _ h2, ← h3]
      have hfind : (Instr.findKey k key es.toList).run P w2 = .ok (some (j, e0.val)) w2 := by
        rcases K.find w2 hkey es.toList hkeys with ⟨g1, g2⟩ | ⟨j', e', g1, g2, g3⟩
        · exact absurd h3 (g2 e0 (List.mem_of_getElem? h2))
        · have hap := Maps.fit_apart K F
          have : j' = j := by
            by_cases hjj : j' = j
            · exact hjj
            · exfalso
              have hlt : j < es.toList.length := (List.getElem?_eq_some_iff.1 h2).1
              have hlt' : j' < es.toList.length := (List.getElem?_eq_some_iff.1 g2).1
              rw [List.pairwise_iff_getElem] at hap
              have hA := (List.getElem?_eq_some_iff.1 h2).2
              have hB := (List.getElem?_eq_some_iff.1 g2).2
              have hkk : (WideElems.rg P k R e0).1 = (WideElems.rg P k R e').1 := by
                obtain ⟨y, hy⟩ := F.reads e0 (List.mem_of_getElem? h2)
                obtain ⟨y', hy'⟩ := F.reads e' (List.mem_of_getElem? g2)
                rw [WideElems.rg_of hy, WideElems.rg_of hy']
                have a1 := WideElems.rd_key hy
                have a2 := WideElems.rd_key hy'
                rw [h3] at a1
                rw [g3] at a2
                exact Option.some.inj (a1.symm.trans a2)
              rcases Nat.lt_or_gt_of_ne hjj with hl | hl
              · have := hap j' j (by simpa using hlt') (by simpa using hlt) hl
                simp only [List.getElem_map] at this
                rw [hA, hB] at this
                exact this hkk.symm
              · have := hap j j' (by simpa using hlt) (by simpa using hlt') hl
                simp only [List.getElem_map] at this
                rw [hA, hB] at this
                exact this hkk
          subst this
          rw [h2] at g2
          cases g2
          exact g1
      have hupd : (Instr.mapUpdate t (.map (some b)) key val).run P w2 = .ok () (setBlock w2 b (.map (es.modify j (fun e' => { e' with key := key, val := val })) clock)) := by
        simp [Instr.mapUpdate, run_underlying ht, MapKept.run_getObj_map hb2, K.check w2 false hkey, hfind, hj, h3, K.stays w2 hkey, MapKept.run_setObj_map _ hb2, Result.andThen, setBlock]
      rw [hr] at hupd
      simp only [Result.ok.injEq, true_and] at hupd
      refine ⟨w3, ?_, ho, hm⟩
      rw [hupd, ← hmod]
      simp [Instr.entryStore, MapKept.run_getObj_map hb2, asInt, asIntOf, hidx, MapKept.run_setObj_map _ hb2, Result.andThen, setBlock]
end Go.Proofs.Ytmjgkhjjnfoolaa
