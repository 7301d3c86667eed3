/- Contracts of the pit's Look, Depth and Volume. Conditions: the pit lies in memory; what is open of each order is from 0 to 1000000. -/
import Derived.Test.YtigpgnjgmaoejaaGreatPitAB
import Derived.Test.YtigpgnjgmaoejaaGreatLawI
import Derived.Test.YtigpgnjgmaoejaaGreatProgQR
import Derived.Test.YtigpgnjgmaoejaaGreatProgA
import Derived.Laws.Externs
namespace Go.Proofs.YtigpgnjgmaoejaaGreat
open Go.RowKit

theorem st4_heap {w : World} {b : Nat} {a0 a1 a2 a3 : Value} {T : TypeId} (h : w.heap[b]? = some (.cells #[a0, a1, a2, a3] T (0, 0))) (x0 x1 x2 x3 : Value) :
    ((((w.setCell ⟨b, 0, none⟩ x0).setCell ⟨b, 1, none⟩ x1).setCell ⟨b, 2, none⟩ x2).setCell ⟨b, 3, none⟩ x3).heap[b]? = some (.cells #[x0, x1, x2, x3] T (0, 0)) := by
  rw [heap_set (heap_set (heap_set (heap_set h 0 x0) 1 x1) 2 x2) 3 x3]
  rfl
theorem st4_fr {S : Nat → Prop} {a w : World} {b : Nat} (h : Fr S a w) (hb : a.heap.size ≤ b ∨ S b) (x0 x1 x2 x3 : Value) :
    Fr S a ((((w.setCell ⟨b, 0, none⟩ x0).setCell ⟨b, 1, none⟩ x1).setCell ⟨b, 2, none⟩ x2).setCell ⟨b, 3, none⟩ x3) :=
  (((h.setAt b hb 0 x0).setAt b hb 1 x1).setAt b hb 2 x2).setAt b hb 3 x3

/-- What Look answers. -/
def lookS (s : St) (b : Int) : Value :=
  if inB b 1 8 = true then .tuple #[stateV (if s.tr (bk b) = true then 2 else 1) (s.M (bk b) 0).length (s.M (bk b) 1).length (s.td (bk b)), .int .i64 0] else .tuple #[stateV 0 0 0 0, .int .i64 2]

set_option maxHeartbeats 8000000 in
set_option maxRecDepth 20000 in
theorem pLook_any (bx : Nat) (bb : Nat → Nat) (v : Nat → Nat → Value) (ro : Nat → Nat) (s : St) (b : Int) (w : World) (h : PitAt w bx bb v ro s) :
    Calls Tryz.prog 14 #[.pointer (some ⟨bx, 0, none⟩), .int .i64 b] w fun e w' => e = .returned (lookS s b) ∧ Fr No w w' := by
  have HP := hide h
  clear h
  cases hb : inB b 1 8 with
  | false =>
    have HE : Hid (lookS s b = .tuple #[stateV 0 0 0 0, .int .i64 2]) := by show _ = _; simp [lookS, hb]
    have HB := hide hb
    clear hb
    go_enter Tryz.func14, Tryz.ntmps14
    go_wp2_with (go_at_call 27; refine (isBook_any _ _).mono ?_; rintro e w1 ⟨rfl, rfl⟩; rw [unhide HB])
    rw [unhide HE]
    exact bodyPost_ret (v := .tuple #[stateV 0 0 0 0, .int .i64 2]) (by simp [results, Tryz.results14, go_sem, stateV]) rfl ⟨rfl, (Fr.refl _ _).alloc _⟩
  | true =>
    obtain ⟨h1, h8⟩ := inB_true' hb
    obtain ⟨k, hk⟩ := Int.eq_ofNat_of_zero_le (by omega : 0 ≤ b - 1)
    have hbk : b = (k : Int) + 1 := by omega
    have hk8 : k < 8 := by omega
    have HB := hide hb
    have HBK := hide hbk
    have HE : Hid (lookS s b = .tuple #[stateV (if s.tr k = true then 2 else 1) (s.M k 0).length (s.M k 1).length (s.td k), .int .i64 0]) := by
      show _ = _
      have e : bk b = k := by unfold bk; omega
      simp only [lookS, hb, if_true, e]
    clear hb hbk hk h1 h8
    generalize hph : (if s.tr k = true then (2 : Int) else 1) = ph at *
    have HPH := hide hph
    clear hph
    generalize hn0 : (s.M k 0).length = n0 at *
    generalize hn1 : (s.M k 1).length = n1 at *
    generalize htd : s.td k = td at *
    have HN := hide (And.intro hn0 (And.intro hn1 htd))
    clear hn0 hn1 htd
    go_enter Tryz.func14, Tryz.ntmps14
    go_wp2_with (first
      | (go_at_call 27; refine (isBook_any _ _).mono ?_; rintro e w1 ⟨rfl, rfl⟩; rw [unhide HB])
      | (go_at_call 22; refine (ready_any bx bb v ro s _ ((unhide HP).no ((Fr.refl _ _).alloc _))).mono ?_; rintro e w0 ⟨rfl, rfl⟩)
      | (go_at_call 28; refine (dBook_any bx bb v ro s k hk8 b (unhide HBK) _ ((unhide HP).no ((Fr.refl _ _).alloc _))).mono ?_; rintro e w2 ⟨rfl, rfl⟩))
    have hz0 : (w.alloc (.cells #[.int .i64 0, .int .i64 0, .int .i64 0, .int .i64 0] 44)).heap[w.heap.size]? = some (.cells #[.int .i64 0, .int .i64 0, .int .i64 0, .int .i64 0] 44 (0, 0)) := heap_alloc_new w _
    refine (bState_any (bb k) bx _ _ (v k) (s.M k) _ (((unhide HP).book k hk8).no ((Fr.refl _ _).alloc _))).mono ?_
    rintro e w1 ⟨rfl, hf1⟩
    rw [unhide HPH, (unhide HN).1, (unhide HN).2.1, (unhide HN).2.2]
    have hz1 := hf1.heap hz0 id
    have hfw := ((Fr.refl No w).alloc _).quiet hf1
    have HF1 := hide (And.intro hfw hz1)
    obtain ⟨z0, z1, z2, z3⟩ := box4 hz1
    have g0 := frozen_heap hz1 0
    have g1 := frozen_heap hz1 1
    have g2 := frozen_heap hz1 2
    have g3 := frozen_heap hz1 3
    have hN1 := lt_of_heap hz1
    clear hz0 hf1 hz1 hfw
    unfold stateV
    go_wp2
    have hWb := st4_heap (unhide HF1).2 (.int .i64 ph) (.int .i64 n0) (.int .i64 n1) (.int .i64 td)
    have hWf := st4_fr (unhide HF1).1 (.inl (Nat.le_refl w.heap.size)) (.int .i64 ph) (.int .i64 n0) (.int .i64 n1) (.int .i64 td)
    generalize World.setCell (World.setCell (World.setCell (World.setCell _ ⟨w.heap.size, 0, none⟩ _) ⟨w.heap.size, 1, none⟩ _) ⟨w.heap.size, 2, none⟩ _) ⟨w.heap.size, 3, none⟩ _ = W at hWb hWf ⊢
    obtain ⟨q0, q1, q2, q3⟩ := box4 hWb
    rw [unhide HE]
    exact bodyPost_ret (v := .tuple #[stateV ph n0 n1 td, .int .i64 0]) (by simp [results, Tryz.results14, go_sem, stateV, q0, q1, q2, q3]) rfl ⟨rfl, hWf⟩

set_option maxHeartbeats 2000000 in
theorem pDepth_bad (bx : Nat) (b sd most : Int) (w : World) (hbad : inB b 1 8 = false ∨ sideOk sd = false) :
    Calls Tryz.prog 63 #[.pointer (some ⟨bx, 0, none⟩), .int .i64 b, .int .i64 sd, .int .i64 most] w fun e w' => e = .returned (.tuple #[.slice none 0 0, .int .i64 2]) ∧ Fr No w w' := by
  cases hb : inB b 1 8 with
  | false =>
    have HB := hide hb
    clear hbad hb
    go_enter Tryz.func63, Tryz.ntmps63
    go_wp2_with (go_at_call 27; refine (isBook_any _ _).mono ?_; rintro e w1 ⟨rfl, rfl⟩; rw [unhide HB])
    go_ret2
    exact ⟨rfl, Fr.refl _ _⟩
  | true =>
    have hs : sideOk sd = false := hbad.resolve_left (by rw [hb]; decide)
    have HB := hide (And.intro hb hs)
    clear hbad hb hs
    go_enter Tryz.func63, Tryz.ntmps63
    go_wp2_with (first
      | (go_at_call 27; refine (isBook_any _ _).mono ?_; rintro e w1 ⟨rfl, rfl⟩; rw [(unhide HB).1])
      | (go_at_call 76; refine (isSide_any _ _).mono ?_; rintro e w1 ⟨rfl, rfl⟩; rw [(unhide HB).2]))
    go_ret2
    exact ⟨rfl, Fr.refl _ _⟩

set_option maxHeartbeats 2000000 in
theorem pDepth_any (bx : Nat) (bb : Nat → Nat) (v : Nat → Nat → Value) (ro : Nat → Nat) (s : St) (b sd most : Int) (w : World) (h : PitAt w bx bb v ro s) (hop : ∀ j, j < 2 → ∀ o ∈ s.M (bk b) j, 0 ≤ o.opn ∧ o.opn ≤ 1000000) (hb : inB b 1 8 = true) (hsd : sd = 1 ∨ sd = 2) :
    Calls Tryz.prog 63 #[.pointer (some ⟨bx, 0, none⟩), .int .i64 b, .int .i64 sd, .int .i64 most] w (depthPost w (cutTo most ((s.M (bk b) (sj sd)).foldl addLev []))) := by
  obtain ⟨h1, h8⟩ := inB_true' hb
  obtain ⟨k, hk⟩ := Int.eq_ofNat_of_zero_le (by omega : 0 ≤ b - 1)
  have hbk : b = (k : Int) + 1 := by omega
  have hk8 : k < 8 := by omega
  have hbe : bk b = k := by unfold bk; omega
  obtain ⟨j, hj2, hj, hje⟩ : ∃ j : Nat, j < 2 ∧ sd = (j : Int) + 1 ∧ sj sd = j := by
    rcases hsd with rfl | rfl
    · exact ⟨0, by omega, rfl, rfl⟩
    · exact ⟨1, by omega, rfl, rfl⟩
  have hso : sideOk sd = true := by rcases hsd with rfl | rfl <;> rfl
  have HB := hide (And.intro hb hso)
  have HBK := hide hbk
  have HJ := hide hj
  have HP := hide h
  have hop := hop j hj2
  rw [hbe] at hop
  rw [hbe, hje]
  have HOP := hide hop
  clear h hb hsd h1 h8 hk hbk hj hso hop hbe hje
  go_enter Tryz.func63, Tryz.ntmps63
  go_wp2_with (first
    | (go_at_call 27; refine (isBook_any _ _).mono ?_; rintro e w1 ⟨rfl, rfl⟩; rw [(unhide HB).1])
    | (go_at_call 76; refine (isSide_any _ _).mono ?_; rintro e w1 ⟨rfl, rfl⟩; rw [(unhide HB).2])
    | (go_at_call 22; refine (ready_any bx bb v ro s _ (unhide HP)).mono ?_; rintro e w0 ⟨rfl, rfl⟩)
    | (go_at_call 28; refine (dBook_any bx bb v ro s k hk8 b (unhide HBK) _ (unhide HP)).mono ?_; rintro e w2 ⟨rfl, rfl⟩)
    | (go_at_call 124; refine (bDepth_any (bb k) bx _ _ (v k) (s.M k) j hj2 sd most (unhide HJ) _ ((unhide HP).book k hk8) (unhide HOP)).mono ?_; rintro e w3 ⟨r3, rfl, hl3, hf3⟩))
  go_ret2
  exact ⟨_, rfl, hl3, hf3⟩
theorem run_loadInt {w : World} {a : Addr} {n : Int} (h : w.cell? a = some (.int .i64 n)) : (callFunc 56 #[.pointer (some a)]).run Tryz.prog w = .ok (.value (.int .i64 n)) w := by
  rw [run_callFunc_extern Tryz.func56 (by kernel_rfl) (by kernel_rfl) (by kernel_rfl) (e := Extern.Atomic.loadT (.int .i64)) (by kernel_rfl)]
  have e : Extern.Atomic.loadT (.int .i64) #[.pointer (some a)] = (do Extern.Atomic.read (.int .i64) (← asAddr (.pointer (some a)))) := rfl
  rw [e]
  simp [Extern.Atomic.read, asAddr, go_sem, h]

set_option maxHeartbeats 1000000 in
theorem aLoad_any (a : Nat) (o : Nat) (n : Int) (w : World) (h : w.cell? ⟨a, o, none⟩ = some (.int .i64 n)) :
    Calls Tryz.prog 30 #[.pointer (some ⟨a, o, none⟩)] w fun e w' => e = .returned (.int .i64 n) ∧ w' = w := by
  have hld := run_loadInt h
  go_enter Tryz.func30, Tryz.ntmps30
  go_wp2_with (simp only [hld])
  go_ret
  exact ⟨rfl, rfl⟩

set_option maxHeartbeats 1000000 in
theorem pVolume_any (bx : Nat) (bb : Nat → Nat) (v : Nat → Nat → Value) (ro : Nat → Nat) (s : St) (w : World) (h : PitAt w bx bb v ro s) :
    Calls Tryz.prog 15 #[.pointer (some ⟨bx, 0, none⟩)] w fun e w' => e = .returned (.int .i64 (s.vol)) ∧ w' = w := by
  have HP := hide h
  clear h
  go_enter Tryz.func15, Tryz.ntmps15
  go_wp2_with (first
    | (go_at_call 22; refine (ready_any bx bb v ro s _ (unhide HP)).mono ?_; rintro e w0 ⟨rfl, rfl⟩)
    | (go_at_call 30; refine (aLoad_any bx 8 _ _ (unhide HP).cellV).mono ?_; rintro e w0 ⟨rfl, rfl⟩))
  go_ret
  exact ⟨rfl, rfl⟩
end Go.Proofs.YtigpgnjgmaoejaaGreat
