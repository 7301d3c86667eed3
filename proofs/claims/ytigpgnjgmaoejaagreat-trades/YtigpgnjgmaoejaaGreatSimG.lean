/- The program's pit keeps PitLaw: what Do and the questions come to is what the document's list comes to. No condition besides PitLaw's own. -/
import Derived.Test.YtigpgnjgmaoejaaGreatSimAT
import Derived.Test.YtigpgnjgmaoejaaGreatDoBE
import Derived.Test.YtigpgnjgmaoejaaGreatLawO
namespace Go.Proofs.YtigpgnjgmaoejaaGreat
open Go.RowKit

/-- The program's pit, as PitLaw asks for it. -/
def PRep (w : World) (bx : Nat) (F : Nat → Prop) (s : Ref) : Prop := ∃ bb v ro st, PitAt w bx bb v ro st ∧ F = PS bx bb v ∧ WF st ∧ Sim st s

theorem nil_sim : Sim stNil (refNil []) := ⟨fun _ _ _ _ => rfl, fun _ _ => rfl, fun _ _ => rfl, by decide +kernel⟩
theorem Sim.levels {st : St} {s : Ref} (h : Sim st s) {b sd : Int} (hb : 1 ≤ b ∧ b ≤ 8) (hsd : sd = 1 ∨ sd = 2) : (st.M (bk b) (sj sd)).foldl addLev [] = levelsO s.L b sd := by
  obtain ⟨h8, hbk⟩ := book_of hb
  rw [levelsO_side, h.M _ h8 _ (sj_lt sd)]
  unfold inBook
  rw [← hbk]
  rcases hsd with rfl | rfl <;> rfl
theorem Sim.order {st : St} {s : Ref} (h : Sim st s) (hg : Good s) (id : Int) : orderS (getAt st id) = orderR s.L id := by
  rw [h.get hg, orderR_rest]
  cases restO s.L id <;> rfl
theorem Sim.look {st : St} {s : Ref} (h : Sim st s) (b : Int) : lookS st b = lookR s b := by
  unfold lookS lookR
  by_cases hb : inB b 1 8 = true
  · obtain ⟨h8, hbk⟩ := book_of (inB_true' hb)
    have hn : b.toNat = bk b + 1 := by omega
    rw [if_pos hb, if_pos hb, h.tr _ h8, h.td _ h8, h.M _ h8 0 (by omega), h.M _ h8 1 (by omega), inBook_len, inBook_len, ← hbk, hn]
    rfl
  · rw [if_neg hb, if_neg hb]
theorem pit_law : PitLaw PRep where
  fr := by
    rintro S w w' bx F s ⟨bb, v, ro, st, h, rfl, hw, hs⟩ hf hS
    exact ⟨bb, v, ro, st, h.fr hf hS, rfl, hw, hs⟩
  lt := by
    rintro w bx F s ⟨bb, v, ro, st, h, rfl, hw, hs⟩ k hk
    exact h.lt k hk
  new_ := fun w => (pNew_any w).mono fun e w' ⟨bb, v, ro, he, hp, hf, hk⟩ => ⟨w.heap.size, PS w.heap.size bb v, he, ⟨bb, v, ro, stNil, hp, rfl, nil_wf, nil_sim⟩, hf, hk⟩
  do_ := by
    rintro w bx F s c ⟨bb, v, ro, st, h, rfl, hw, hs⟩ hg
    obtain ⟨h1, h2⟩ := sim_do hs hg c
    exact (pDo_any bx bb v ro st c w h hw).mono fun e w' ⟨r, v', ro', he, ht⟩ => ⟨r, PS bx bb v', he, ⟨bb, v', ro', _, ht.to.pit, rfl, sDo_wf hw c, h1⟩, ht.to.fr, ht.to.new, by rw [← h2]; exact ht.evs, ht.own⟩
  depthBad := by
    rintro w bx F s b sd most _ _ hbad
    exact pDepth_bad bx b sd most w hbad
  depth_ := by
    rintro w bx F s b sd most ⟨bb, v, ro, st, h, rfl, hw, hs⟩ hg hb hsd
    have hb8 := inB_true' hb
    have := pDepth_any bx bb v ro st b sd most w h (fun j hj o ho => by have := (hw.book _ (book_of hb8).1).opns hj o ho; omega) hb hsd
    rw [hs.levels hb8 hsd] at this
    exact this
  order_ := by
    rintro w bx F s id ⟨bb, v, ro, st, h, rfl, hw, hs⟩ hg
    rw [← hs.order hg]
    exact pOrder_any bx bb v ro st id w h
  look_ := by
    rintro w bx F s b ⟨bb, v, ro, st, h, rfl, hw, hs⟩ _
    rw [← hs.look]
    exact pLook_any bx bb v ro st b w h
  volume_ := by
    rintro w bx F s ⟨bb, v, ro, st, h, rfl, hw, hs⟩ hg
    rw [← hs.vol]
    exact (pVolume_any bx bb v ro st w h).mono fun e' w' ⟨he, hw'⟩ => ⟨he, hw' ▸ Fr.refl _ _⟩
end Go.Proofs.YtigpgnjgmaoejaaGreat
