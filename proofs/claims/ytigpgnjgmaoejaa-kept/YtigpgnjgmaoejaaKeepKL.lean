/- Pieces of Kept's walk: rows of numbers of the call's own, the statement's own open. Conditions: as said in each. -/
import Derived.Test.YtigpgnjgmaoejaaKeepOP
import Derived.Test.YtigpgnjgmaoejaaLedMN
import Derived.OwnWalk
import Derived.BigRegion
namespace Go.Proofs.Ytigpgnjgmaoejaa
open Go.RowKit

/-- A row of numbers in memory, from 0 to n. -/
structure Arr (w : World) (g n : Nat) (f : Nat → Int) : Prop where
  ex : ∃ c : Array Value, w.heap[g]? = some (.cells c 3 (0, 0)) ∧ ∀ k, k ≤ n → c[k]? = some (.int .i64 (f k))
theorem Arr.fr {S : Nat → Prop} {w w' : World} {g n : Nat} {f : Nat → Int} (h : Arr w g n f) (hf : Fr S w w') (hg : ¬ S g) : Arr w' g n f := by
  obtain ⟨c, h1, h2⟩ := h.ex
  exact ⟨c, hf.heap h1 hg, h2⟩
theorem Arr.cell {w : World} {g n : Nat} {f : Nat → Int} (h : Arr w g n f) {k : Nat} (hk : k ≤ n) : w.cell? ⟨g, k, none⟩ = some (.int .i64 (f k)) := by
  obtain ⟨c, h1, h2⟩ := h.ex
  rw [cell_heap h1]
  exact h2 k hk
theorem Arr.fz {w : World} {g n : Nat} {f : Nat → Int} (h : Arr w g n f) (k : Nat) : w.frozen? ⟨g, k, none⟩ = false := by
  obtain ⟨c, h1, h2⟩ := h.ex
  exact frozen_heap h1 k
theorem Arr.lt {w : World} {g n : Nat} {f : Nat → Int} (h : Arr w g n f) : g < w.heap.size := by
  obtain ⟨c, h1, h2⟩ := h.ex
  exact lt_of_heap h1
theorem Arr.congr {w : World} {g n : Nat} {f f' : Nat → Int} (h : Arr w g n f) (he : ∀ k, k ≤ n → f k = f' k) : Arr w g n f' := by
  obtain ⟨c, h1, h2⟩ := h.ex
  exact ⟨c, h1, fun k hk => by rw [h2 k hk, he k hk]⟩
theorem Arr.set {w : World} {g n : Nat} {f : Nat → Int} (h : Arr w g n f) {k : Nat} (hk : k ≤ n) (z : Int) : Arr (w.setCell ⟨g, k, none⟩ (.int .i64 z)) g n (fun j => if j = k then z else f j) := by
  obtain ⟨c, h1, h2⟩ := h.ex
  refine ⟨c.setIfInBounds k (.int .i64 z), heap_set h1 k _, fun j hj => ?_⟩
  have hkc := h2 k hk
  have hks : k < c.size := by
    rcases Nat.lt_or_ge k c.size with h | h
    · exact h
    · rw [Array.getElem?_eq_none h] at hkc; cases hkc
  rw [Array.getElem?_setIfInBounds]
  by_cases e : k = j
  · subst e
    simp [hks]
  · rw [if_neg e, if_neg (fun h => e h.symm)]
    exact h2 j hj
theorem Arr.made {w : World} {base g n m : Nat} (h : w.ownsRow base 3 1 (.slice (some ⟨g, 0, none⟩) m m) m (madeCells #[.int .i64 0] m).toList) (hm : m = n + 1) : Arr w g n (fun _ => 0) ∧ base ≤ g := by
  rcases h.2 with ⟨h0, _⟩ | ⟨g', cap', cur, hv, hb, hg, hn, _, hcs, ht⟩
  · cases h0
  · simp only [Value.slice.injEq, Option.some.injEq, Addr.mk.injEq, and_true, true_and] at hv
    obtain ⟨rfl, rfl⟩ := hv
    refine ⟨⟨cur, hg, fun k hk => ?_⟩, hb⟩
    have h1 : (cur.toList.take (m * 1))[k]? = some (.int .i64 0) := by
      rw [ht]
      have hk2 : k < m := by omega
      simp [madeCells, hk2, Nat.mod_one]
    rw [List.getElem?_take] at h1
    split at h1
    · simpa using h1
    · cases h1

set_option maxHeartbeats 1000000 in
theorem open_any {w wr : World} {bx : Nat} {bb : Nat → Nat} {v : Nat → Nat → Value} {ro : Nat → Nat} {s : St} (h : KP w wr bx bb v ro s) (ho : OnlyO s) (id : Int) :
    Calls Try.prog 14 #[.pointer (some ⟨bx, 0, none⟩), .int .i64 id] wr fun e w' => e = .returned (.int .i64 (openS (s.M 0) id)) ∧ Fr No wr w' := by
  have hE := getAt_open h.wf ho id
  have HD := hide (pOrder_any bx bb v ro s id wr h.pit)
  clear h ho
  rw [hE]
  clear hE
  cases hg : getAt s id with
  | none =>
    rw [hg] at HD
    simp only
    clear hg
    go_enter Try.func14, Try.ntmps14
    go_wp2_with fail
    refine (unhide HD).mono ?_
    rintro e w1 ⟨rfl, hf1⟩
    have HF := hide hf1
    clear hf1
    unfold orderS zOrd
    simp only
    go_wp2
    go_ret
    exact ⟨rfl, (unhide HF).alloc _⟩
  | some x =>
    rw [hg] at HD
    simp only
    clear hg
    go_enter Try.func14, Try.ntmps14
    go_wp2_with fail
    refine (unhide HD).mono ?_
    rintro e w1 ⟨rfl, hf1⟩
    have HF := hide hf1
    clear hf1
    unfold orderS Ord.val
    simp only
    go_wp2
    go_ret
    exact ⟨rfl, (unhide HF).alloc _⟩
end Go.Proofs.Ytigpgnjgmaoejaa

/- Kept returns true at every list of steps and every opening. Conditions: the list lies in memory, the raw numbers are int64's. -/
namespace Go.Proofs.Ytigpgnjgmaoejaa
open Go.RowKit

theorem Fr.cellAt {S : Nat → Prop} {a w : World} (h : Fr S a w) {b : Nat} (hb : b < a.heap.size) (hs : ¬ S b) {k : Nat} : w.cell? ⟨b, k, none⟩ = a.cell? ⟨b, k, none⟩ := by
  have := h.block b hb hs
  simp only [World.cell?, this]
/-- The pit and the two rows. -/
structure KK (w wr : World) (bx : Nat) (bb : Nat → Nat) (v : Nat → Nat → Value) (ro : Nat → Nat) (s : St) (bt bo n : Nat) (T O : Nat → Int) : Prop where
  kp : KP w wr bx bb v ro s
  ta : Arr wr bt n T
  oa : Arr wr bo n O
  nt : ¬ PS bx bb v bt
  no_ : ¬ PS bx bb v bo
  ne : bt ≠ bo
  lt_ : w.heap.size ≤ bt
  lo : w.heap.size ≤ bo
theorem KK.quiet {w wr w1 : World} {bx : Nat} {bb : Nat → Nat} {v : Nat → Nat → Value} {ro : Nat → Nat} {s : St} {bt bo n : Nat} {T O : Nat → Int} (h : KK w wr bx bb v ro s bt bo n T O) (hf : Fr No wr w1) : KK w w1 bx bb v ro s bt bo n T O :=
  ⟨h.kp.no hf, h.ta.fr hf id, h.oa.fr hf id, h.nt, h.no_, h.ne, h.lt_, h.lo⟩
theorem KK.did {w wr w1 : World} {bx : Nat} {bb : Nat → Nat} {v v1 : Nat → Nat → Value} {ro ro1 : Nat → Nat} {s : St} {bt bo n : Nat} {T O : Nat → Int} {x : St × List Ev} {r : Value} (h : KK w wr bx bb v ro s bt bo n T O) (ht : KTo w wr w1 bx bb v v1 ro1 x r) : KK w w1 bx bb v1 ro1 x.1 bt bo n T O :=
  ⟨ht.kp, h.ta.fr ht.fr h.nt, h.oa.fr ht.fr h.no_, fun e => (ht.new _ e).elim h.nt (fun h2 => by have := h.ta.lt; omega), fun e => (ht.new _ e).elim h.no_ (fun h2 => by have := h.oa.lt; omega), h.ne, h.lt_, h.lo⟩

theorem stB_LI (n : Nat) : LI 0 n stB (fun _ => 0) (fun _ => 0) 0 := by
  refine ⟨fun k h1 h8 j hj => stB_M k h8 j hj, fun k hk j hj o ho => (by rw [stB_M k hk j hj] at ho; cases ho), Int.le_refl _, fun id _ => ?_, fun id _ => ⟨rfl, rfl⟩, fun id => (by decide), fun id => Int.le_refl _, stB_td 0 (by omega), rfl, by omega⟩
  unfold openS
  rw [stB_M 0 (by omega) 0 (by omega), stB_M 0 (by omega) 1 (by omega)]
  rfl
theorem LI.skip {i : Int} {n : Nat} {s : St} {T O : Nat → Int} {V : Int} (h : LI i n s T O V) : LI (i + 1) n s T O V :=
  ⟨h.only, h.ids.up (by omega), by have := h.nn; omega, h.bal, fun id hid => h.fresh id (by omega), h.bnd, h.opos, h.td, h.vol, by have := h.vb; omega⟩
theorem KK.congr {w wr : World} {bx : Nat} {bb : Nat → Nat} {v : Nat → Nat → Value} {ro : Nat → Nat} {s : St} {bt bo n : Nat} {T O T' O' : Nat → Int} (h : KK w wr bx bb v ro s bt bo n T O) (hT : ∀ k, k ≤ n → T k = T' k) (hO : ∀ k, k ≤ n → O k = O' k) : KK w wr bx bb v ro s bt bo n T' O' :=
  ⟨h.kp, h.ta.congr hT, h.oa.congr hO, h.nt, h.no_, h.ne, h.lt_, h.lo⟩
/-- The one row is written. -/
theorem KK.setT {w wr : World} {bx : Nat} {bb : Nat → Nat} {v : Nat → Nat → Value} {ro : Nat → Nat} {s : St} {bt bo n : Nat} {T O : Nat → Int} (h : KK w wr bx bb v ro s bt bo n T O) {p : Nat} (hp : p ≤ n) (z : Int) : KK w (wr.setCell ⟨bt, p, none⟩ (.int .i64 z)) bx bb v ro s bt bo n (fun j => if j = p then z else T j) O := by
  have hf : Fr (fun g => g = bt) wr (wr.setCell ⟨bt, p, none⟩ (.int .i64 z)) := (Fr.refl (fun g => g = bt) wr).setAt bt (.inr rfl) p _
  exact ⟨h.kp.beside hf (fun g e => by subst e; exact h.lt_) (fun g hg e => by subst e; exact h.nt hg), h.ta.set hp z, h.oa.fr hf (fun e => h.ne e.symm), h.nt, h.no_, h.ne, h.lt_, h.lo⟩
theorem KK.setO {w wr : World} {bx : Nat} {bb : Nat → Nat} {v : Nat → Nat → Value} {ro : Nat → Nat} {s : St} {bt bo n : Nat} {T O : Nat → Int} (h : KK w wr bx bb v ro s bt bo n T O) {p : Nat} (hp : p ≤ n) (z : Int) : KK w (wr.setCell ⟨bo, p, none⟩ (.int .i64 z)) bx bb v ro s bt bo n T (fun j => if j = p then z else O j) := by
  have hf : Fr (fun g => g = bo) wr (wr.setCell ⟨bo, p, none⟩ (.int .i64 z)) := (Fr.refl (fun g => g = bo) wr).setAt bo (.inr rfl) p _
  exact ⟨h.kp.beside hf (fun g e => by subst e; exact h.lo) (fun g hg e => by subst e; exact h.no_ hg), h.ta.fr hf (fun e => h.ne e), h.oa.set hp z, h.nt, h.no_, h.ne, h.lt_, h.lo⟩
/-- The pit, the two rows and the events. -/
structure KL (w wr : World) (bx : Nat) (bb : Nat → Nat) (v : Nat → Nat → Value) (ro : Nat → Nat) (s : St) (bt bo n : Nat) (T O : Nat → Int) (base : Nat) (l : Value) (E : List Ev) : Prop where
  kk : KK w wr bx bb v ro s bt bo n T O
  es : Es wr base l E
  bt_ : bt < base
  bo_ : bo < base
theorem KL.quiet {w wr w1 : World} {bx : Nat} {bb : Nat → Nat} {v : Nat → Nat → Value} {ro : Nat → Nat} {s : St} {bt bo n : Nat} {T O : Nat → Int} {base : Nat} {l : Value} {E : List Ev} (h : KL w wr bx bb v ro s bt bo n T O base l E) (hf : Fr No wr w1) : KL w w1 bx bb v ro s bt bo n T O base l E :=
  ⟨h.kk.quiet hf, own_fr h.es hf (fun _ _ => id), h.bt_, h.bo_⟩
theorem KL.congr {w wr : World} {bx : Nat} {bb : Nat → Nat} {v : Nat → Nat → Value} {ro : Nat → Nat} {s : St} {bt bo n : Nat} {T O T' O' : Nat → Int} {base : Nat} {l : Value} {E : List Ev} (h : KL w wr bx bb v ro s bt bo n T O base l E) (hT : ∀ k, k ≤ n → T k = T' k) (hO : ∀ k, k ≤ n → O k = O' k) : KL w wr bx bb v ro s bt bo n T' O' base l E :=
  ⟨h.kk.congr hT hO, h.es, h.bt_, h.bo_⟩
theorem KL.setT {w wr : World} {bx : Nat} {bb : Nat → Nat} {v : Nat → Nat → Value} {ro : Nat → Nat} {s : St} {bt bo n : Nat} {T O : Nat → Int} {base : Nat} {l : Value} {E : List Ev} (h : KL w wr bx bb v ro s bt bo n T O base l E) {p : Nat} (hp : p ≤ n) (z : Int) : KL w (wr.setCell ⟨bt, p, none⟩ (.int .i64 z)) bx bb v ro s bt bo n (fun j => if j = p then z else T j) O base l E :=
  ⟨h.kk.setT hp z, own_fr h.es ((Fr.refl (fun g => g = bt) _).setAt bt (.inr rfl) p _) (fun g hg e => by have := (h.es.lt g hg).1; have := h.bt_; omega), h.bt_, h.bo_⟩
theorem KL.setO {w wr : World} {bx : Nat} {bb : Nat → Nat} {v : Nat → Nat → Value} {ro : Nat → Nat} {s : St} {bt bo n : Nat} {T O : Nat → Int} {base : Nat} {l : Value} {E : List Ev} (h : KL w wr bx bb v ro s bt bo n T O base l E) {p : Nat} (hp : p ≤ n) (z : Int) : KL w (wr.setCell ⟨bo, p, none⟩ (.int .i64 z)) bx bb v ro s bt bo n T (fun j => if j = p then z else O j) base l E :=
  ⟨h.kk.setO hp z, own_fr h.es ((Fr.refl (fun g => g = bo) _).setAt bo (.inr rfl) p _) (fun g hg e => by have := (h.es.lt g hg).1; have := h.bo_; omega), h.bt_, h.bo_⟩
theorem out_part {m id : Int} {E : List Ev} (h : ∀ e ∈ E, EvB m e) (k : Nat) : 0 ≤ outE id (E.take k) ∧ outE id (E.take k) ≤ outE id E := by
  have h1 := outE_nonneg (id := id) (E := E.take k) fun e he => h e (List.mem_of_mem_take he)
  have h2 := outE_nonneg (id := id) (E := E.drop k) fun e he => h e (List.mem_of_mem_drop he)
  have h3 := outE_append id (E.take k) (E.drop k)
  rw [List.take_append_drop] at h3
  omega
theorem sum_nonneg {m : Int} : ∀ {E : List Ev}, (∀ e ∈ E, EvB m e) → 0 ≤ sumT E
  | [], _ => Int.le_refl _
  | x :: E, h => by
    have h1 := (h x List.mem_cons_self).count
    have h2 := sum_nonneg fun e he => h e (List.mem_cons_of_mem _ he)
    unfold sumT
    split <;> omega
theorem sum_part2 {m : Int} {E : List Ev} (h : ∀ e ∈ E, EvB m e) (k : Nat) : 0 ≤ sumT (E.take k) ∧ sumT (E.take k) ≤ sumT E := by
  have h1 := sum_nonneg (E := E.take k) fun e he => h e (List.mem_of_mem_take he)
  have h2 := sum_nonneg (E := E.drop k) fun e he => h e (List.mem_of_mem_drop he)
  have h3 := sumT_append (E.take k) (E.drop k)
  rw [List.take_append_drop] at h3
  omega
theorem openS_nonneg {k : Nat} {M : Nat → List Ord} (h : BkOk k M) (id : Int) : 0 ≤ openS M id := by
  have h0 := openL_nonneg (id := id) (L := M 0) fun y hy => by have := h.opns (j := 0) (by omega) y hy; omega
  have h1 := openL_nonneg (id := id) (L := M 1) fun y hy => by have := h.opns (j := 1) (by omega) y hy; omega
  unfold openS
  omega
/-- A command of Kept's. -/
structure CK (i : Int) (c : Cmd) : Prop where
  book : c.book = 1
  new : c.what = 1 → c.id = i + 1
  id : 0 ≤ c.id ∧ c.id ≤ i + 1
  what : c.what = 1 ∨ c.what = 2 ∨ c.what = 3 ∨ c.what = 4 ∨ c.what = 5
theorem cmdOf_ck (s : Sp) {i : Int} (hi : 0 ≤ i) : CK i (cmdOf s i 1) := by
  have hb := (cmdOf_in s i).book
  have hp := pickI_rng (c := s.kind) (n := i + 1) (by omega)
  refine ⟨hb, ?_, ?_, ?_⟩ <;> unfold cmdOf
  · split
    · simp
    · split
      · simp
      · split
        · simp
        · simp [baseC]
  · split
    · simp only; omega
    · split
      · simp only; omega
      · split
        · simp [baseC]; omega
        · simp [baseC]; omega
  · split
    · simp
    · split
      · simp
      · split
        · simp
        · simp [baseC]
theorem cO1_ck {i : Int} (hi : 0 ≤ i) : CK i cO1 := ⟨rfl, (fun h => by cases h), ⟨Int.le_refl _, by show (0 : Int) ≤ i + 1; omega⟩, .inr (.inr (.inr (.inr rfl)))⟩

set_option maxHeartbeats 8000000 in
set_option maxRecDepth 20000 in
theorem kept_calls (a : Option Addr) (len cap : Nat) (op : Int) (w : World) (hst : Steps w a len) (hop : I64 op) (hlen : len ≤ 9223372036854775807) :
    Calls Try.prog 4 #[.slice a len cap, .int .i64 op] w fun e w' => e = .returned (.bool true) ∧ Fr No w w' := by
  have HS := hide hst
  have HOP := hide hop
  clear hst hop
  have hi0 : ∃ i, Try.prog.info? 3 = some i ∧ i.zero = some (.int .i64 0) ∧ i.size = 1 ∧ i.bytes = 8 := ⟨_, rfl, rfl, rfl, rfl⟩
  obtain ⟨i0, hi, hz0, hz1, hz2⟩ := hi0
  go_enter Try.func4, Try.ntmps4
  go_wp2_with fail
  refine (begun_any w).mono ?_
  rintro e w1 ⟨bx, bb, v1, ro1, rfl, hk1⟩
  have HK1 := hide hk1
  clear hk1
  obtain ⟨n, hn⟩ : ∃ n : Nat, n = if 190 < len then 190 else len := ⟨_, rfl⟩
  have hn190 : n ≤ 190 ∧ n ≤ len := by rw [hn]; split <;> omega
  go_upto_region 5 with fail
  go_upto_if 24 with fail
  go_cut [6] from 23 to 24 (fun s6 wx => s6 = .int .i64 n ∧ w1 = wx)
  case first =>
    by_cases h : 190 < len
    · have e1 : (190 : Int) < (len : Int) := by omega
      rw [if_pos h] at hn
      subst hn
      go_wp2_with fail
      go_meet
      exact ⟨rfl, rfl⟩
    · have e1 : decide ((190 : Int) < (len : Int)) = false := by simp; omega
      rw [if_neg h] at hn
      subst hn
      go_wp2_with fail
      go_meet
      exact ⟨rfl, rfl⟩
  case rest =>
    obtain ⟨rfl, rfl⟩ := hcut
    clear hn
    have HI := hide (And.intro hi (And.intro hz0 (And.intro hz1 hz2)))
    clear hi hz0 hz1 hz2
    go_wp2_with (at_make; refine wpList_make_full _ rfl _ _ 37 rfl _ 3 i0 (.int .i64 0) 1 Try.underlying37 (unhide HI).1 (unhide HI).2.1 (unhide HI).2.2.1 _ _ _ _ (n + 1) rfl rfl (by omega) (by omega) (by rw [(unhide HI).2.2.2]; omega) (by unfold maxLen; omega) (Nat.le_refl _) ?_)
    intro w2 hown2 hg2
    have hf2 : Fr No w1 w2 := (Fr.refl No w1).grown hg2 (fun k h => by cases h)
    obtain ⟨har2, -⟩ := Arr.made hown2 rfl
    have HA2 := hide (And.intro hf2 har2)
    clear hf2 har2 hown2 hg2
    generalize hbt : w1.heap.size = bt at *
    go_wp2_with (at_make; refine wpList_make_full _ rfl _ _ 37 rfl _ 3 i0 (.int .i64 0) 1 Try.underlying37 (unhide HI).1 (unhide HI).2.1 (unhide HI).2.2.1 _ _ _ _ (n + 1) rfl rfl (by omega) (by omega) (by rw [(unhide HI).2.2.2]; omega) (by unfold maxLen; omega) (Nat.le_refl _) ?_)
    intro w3 hown3 hg3
    have hf3 : Fr No w2 w3 := (Fr.refl No w2).grown hg3 (fun k h => by cases h)
    obtain ⟨har3, -⟩ := Arr.made hown3 rfl
    have hkk : KK w w3 bx bb v1 ro1 stB bt w2.heap.size n (fun _ => 0) (fun _ => 0) := by
      have hlt := (unhide HK1).pit.lt
      have h2 := (unhide HA2).2.lt
      have hsz := (unhide HK1).fr.size
      refine ⟨(unhide HK1).no ((unhide HA2).1.quiet hf3), (unhide HA2).2.fr hf3 id, har3, fun e => by have := hlt _ e; omega, fun e => by have := hlt _ e; omega, by omega, by omega, by omega⟩
    have HKK := hide hkk
    clear hf3 har3 hown3 hg3 hkk
    generalize hbo : w2.heap.size = bo at *
    clear hbo hbt HA2 HI
    generalize hm : n + 1 = m at *
    have HM := hide hm
    clear hm
    go_wp2_with fail
    go_loopg [9, 10] n (fun g s9 s10 wr => ∃ (k : Nat) (v : Nat → Nat → Value) (ro : Nat → Nat) (s : St) (T O : Nat → Int) (V : Int), k ≤ n ∧ g = n - k ∧ s9 = .int .i64 V ∧ s10 = .int .i64 k ∧ KK w wr bx bb v ro s bt bo n T O ∧ LI k n s T O V)
    case atStart => exact ⟨0, v1, ro1, stB, _, _, 0, Nat.zero_le _, rfl, rfl, rfl, unhide HKK, stB_LI n⟩
    case round =>
      obtain ⟨k, v, ro, s, T, O, V, hkn, rfl, rfl, rfl, hkk, hli⟩ := hrel
      have HK := hide (And.intro hkk hli)
      by_cases hlt : k < n
      · obtain ⟨b, off, s1, rfl, hb, hat, hok⟩ := unhide HS k (by omega)
        obtain ⟨s0, s1', s2, s3, s4, s5⟩ := hat.fr hkk.kp.fr hb
        have hbr : b < wr.heap.size := Nat.lt_of_lt_of_le hb hkk.kp.fr.size
        have HOK := hide hok
        have e1 : (k : Int) < (len : Int) := by omega
        have e2 : (k : Int) < (n : Int) := by omega
        clear hkk hli hat hok
        go_wp2_with fail
        refine (command_any s1 k 1 wr (unhide HOK) (by omega) (by omega)).mono ?_
        rintro e w4 ⟨rfl, hf4⟩
        have hck := cmdOf_ck s1 (i := (k : Int)) (by omega)
        have HF4 := hide (And.intro hf4 hck)
        clear hf4 hck s0 s1' s2 s3 s4 s5
        generalize cmdOf s1 (k : Int) 1 = c0 at *
        obtain ⟨cw, ci, ct, cb, cs, ck, cp, cc⟩ := c0
        unfold Cmd.val
        simp only
        go_wp2_with fail
        refine (pick_any op 20 _ (unhide HOP) (by omega)).mono ?_
        rintro e w5 ⟨rfl, hw5⟩
        subst hw5
        go_upto_if 45 with fail
        go_cut [11] from 31 to 140 (fun s11 wx => s11 = .pointer (some ⟨w4.heap.size, 0, none⟩) ∧ ∃ c : Cmd, CK k c ∧ wx.heap[w4.heap.size]? = some (.cells #[.int .i64 c.what, .int .i64 c.id, .int .i64 c.trader, .int .i64 c.book, .int .i64 c.side, .int .i64 c.kind, .int .i64 c.price, .int .i64 c.count] 28 (0, 0)) ∧ Fr No wr wx)
        case first =>
          by_cases hq : (k : Int) = pickI op 20
          · have hqd : ((k : Int) == pickI op 20) = true := by simpa using hq
            go_wp2_with fail
            go_meet
            exact ⟨rfl, cO1, cO1_ck (by omega), heap_alloc_new w4 _, (unhide HF4).1.alloc _⟩
          · have hqd : ((k : Int) == pickI op 20) = false := by simpa using hq
            go_wp2_with fail
            go_meet
            exact ⟨rfl, _, (unhide HF4).2, heap_alloc_new w4 _, (unhide HF4).1.alloc _⟩
        case rest =>
          obtain ⟨rfl, c, hck, hcb, hfc⟩ := hcut
          obtain ⟨q0, q1, q2, q3, q4, q5, q6, q7, -⟩ := box8 hcb
          have HKC := hide (And.intro ((unhide HK).1.quiet hfc) (And.intro (unhide HK).2 hck))
          have hPlt := lt_of_heap hcb
          generalize w4.heap.size = P4 at *
          clear hcb hfc hck HF4
          by_cases h3 : c.what = 3
          · rw [h3] at q0
            go_wp2
            go_roundg (n - (k + 1))
            case measure => omega
            case rel => exact ⟨k + 1, v, ro, s, T, O, V, hlt, rfl, rfl, by go_num, (unhide HKC).1, (unhide HKC).2.1.skip⟩
          · have h3d : (c.what == 3) = false := by simpa using h3
            go_wp2_with fail
            refine (kDo_any (unhide HKC).1.kp c).mono ?_
            rintro e w6 ⟨r6, v6, ro6, rfl, ht6⟩
            have hkk6 := (unhide HKC).1.did ht6
            have hck := (unhide HKC).2.2
            have hke := sDo_kept (unhide HKC).1.kp.wf (unhide HKC).2.1.only (unhide HKC).2.1.ids (by omega) hck.book hck.new hck.id (by have := hck.what; omega)
            have hli6 := (unhide HKC).2.1.step hke (by omega)
            have he6 := ht6.evs
            obtain ⟨ea, ec, rfl, -⟩ := own_form he6
            have hbts := (unhide HKC).1.ta.lt
            have hbos := (unhide HKC).1.oa.lt
            generalize hE : (sDo s c).2 = E at *
            generalize hS' : (sDo s c).1 = s' at *
            have hEl : E.length ≤ 1000 := hke.len
            have HK6 := hide (And.intro hke (And.intro hli6 (KL.mk hkk6 he6 hbts hbos)))
            clear hkk6 hke hli6 he6 ht6 hE hS' hck q0 q1 q2 q3 q4 q5 q6 q7 hbts hbos
            generalize wc.heap.size = base at *
            go_wp2_with fail
            go_loopg [9, 13] E.length (fun g s9 s13 wx => ∃ k2 : Nat, k2 ≤ E.length ∧ g = E.length - k2 ∧ s9 = .int .i64 (V + sumT (E.take k2)) ∧ s13 = .int .i64 k2 ∧ KL w wx bx bb v6 ro6 s' bt bo n (fun id => T id + tknE id (E.take k2)) (fun id => O id + outE id (E.take k2)) base (.slice ea E.length ec) E)
            case atStart => exact ⟨0, Nat.zero_le _, rfl, by simp [sumT], rfl, (unhide HK6).2.2.congr (fun k _ => by simp [tknE]) (fun k _ => by simp [outE])⟩
            case round =>
              obtain ⟨k2, hk2, rfl, rfl, rfl, hkl⟩ := hrel
              have HKL := hide hkl
              by_cases hlt2 : k2 < E.length
              · have e3 : (k2 : Int) < (E.length : Int) := by omega
                obtain ⟨ge, rfl, hge, -, d0, d1, d2, d3, d4, d5, -⟩ := es_at hkl.es k2 hlt2
                have hevb := (unhide HK6).1.led.evs _ (List.getElem_mem hlt2)
                have htk : ∀ id : Int, tknE id (E.take (k2 + 1)) = tknE id (E.take k2) + tknV id E[k2] := fun id => tknE_take hlt2
                have hot : ∀ id : Int, outE id (E.take (k2 + 1)) = outE id (E.take k2) + outV id E[k2] := fun id => outE_take hlt2
                have hsm := sumT_take hlt2
                have hhd := (unhide HK6).1.head k2 hlt2
                have hall := (unhide HK6).1.led.evs
                have hob : ∀ id : Nat, id ≤ n → 0 ≤ O id + outE id (E.take k2) ∧ O id + outE id (E.take (k2 + 1)) ≤ 1000000 := fun id hid => by
                  have h1 := out_part (id := (id : Int)) hall k2
                  have h2 := out_part (id := (id : Int)) hall (k2 + 1)
                  have h3 := (unhide HK6).2.1.bal id hid
                  have h4 := (unhide HK6).2.1.bnd id
                  have h5 := openS_nonneg ((unhide HK6).2.2.kk.kp.wf.book 0 (by omega)) id
                  have h6 := (unhide HKC).2.1.opos id
                  omega
                have hvb : 0 ≤ V + sumT (E.take k2) ∧ V + sumT (E.take (k2 + 1)) ≤ 50000000000 := by
                  have h1 := sum_part2 hall k2
                  have h2 := sum_part2 hall (k2 + 1)
                  have h3 := (unhide HK6).1.led.sum
                  have h4 := (unhide HKC).2.1.vb
                  omega
                have hfresh := (unhide HKC).2.1.fresh
                generalize hx : E[k2] = x at *
                obtain ⟨xw, xi, xo, xp, xc, xe⟩ := x
                obtain ⟨hb1, hb2, hb3⟩ := hevb
                simp only at hb1 hb2 hb3 d0 d1 d2 d3 d4 d5 hhd hsm
                obtain ⟨p, rfl⟩ := Int.eq_ofNat_of_zero_le hb1.1
                obtain ⟨q, rfl⟩ := Int.eq_ofNat_of_zero_le hb2.1
                have hp : p ≤ n := by omega
                have hq : q ≤ n := by omega
                have HB := hide (And.intro htk (And.intro hot (And.intro hsm (And.intro hhd (And.intro hob (And.intro hvb hfresh))))))
                clear htk hot hsm hhd hob hvb hall hkl hx hfresh
                have g1 : decide ((p : Int) < 0) = false := by simp
                have g2 : decide ((n : Int) < (p : Int)) = false := by simp; omega
                have g3 : decide ((q : Int) < 0) = false := by simp
                have g4 : decide ((n : Int) < (q : Int)) = false := by simp; omega
                go_upto_region 22 with fail
                generalize hWE : World.alloc wr _ = WE
                have hfE : Fr No wr WE := by rw [← hWE]; exact (Fr.refl _ _).alloc _
                have hEb : WE.heap[wr.heap.size]? = some (.cells #[.int .i64 xw, .int .i64 p, .int .i64 q, .int .i64 xp, .int .i64 xc, .int .i64 xe] 31 (0, 0)) := by rw [← hWE]; exact heap_alloc_new wr _
                have hKE := (unhide HKL).quiet hfE
                have hbtw : bt < wr.heap.size := (unhide HKL).kk.ta.lt
                have hbow : bo < wr.heap.size := (unhide HKL).kk.oa.lt
                clear hWE d0 d1 d2 d3 d4 d5 hfE
                generalize wr.heap.size = PE at *
                obtain ⟨d0, d1, d2, d3, d4, d5, -⟩ := box6 hEb
                have ct := hKE.kk.ta.cell hp
                have ft := hKE.kk.ta.fz p
                have co := hKE.kk.oa.cell hp
                have fo := hKE.kk.oa.fz p
                have fo2 := hKE.kk.oa.fz q
                have hne := hKE.kk.ne
                have hne2 : PE ≠ bo := by omega
                have hne3 : PE ≠ bt := by omega
                have HKE := hide (And.intro hKE hEb)
                have hPE := lt_of_heap hEb
                have hbtW := hKE.kk.ta.lt
                have hboW := hKE.kk.oa.lt
                clear hKE hEb
                have i1 : (p : Int) < (m : Int) := by have := unhide HM; omega
                have i2 : (q : Int) < (m : Int) := by have := unhide HM; omega
                have i3 : (0 : Int) ≤ (p : Int) := by omega
                have i4 : (0 : Int) ≤ (q : Int) := by omega
                by_cases w2 : xw = 2
                · subst w2
                  obtain ⟨h0, hpk⟩ := (unhide HB).2.2.2.1 rfl
                  subst h0
                  have HP := hide hpk
                  clear hpk
                  go_wp2
                  go_roundg (E.length - (0 + 1))
                  case measure => omega
                  case rel =>
                    obtain ⟨htk, hot, hsm, hhd, hob, hvb, hfr⟩ := unhide HB
                    have hfp := hfr p (by have := unhide HP; omega)
                    refine ⟨1, hlt2, rfl, by rw [hsm]; simp, by go_num, (((unhide HKE).1.setT hp xc).setO hp 0).congr (fun j hj => ?_) (fun j hj => ?_)⟩
                    · have hj2 := htk j
                      have h00 : tknE (j : Int) (E.take 0) = 0 := by simp [tknE]
                      simp only [tknV, if_true] at hj2
                      by_cases e : j = p
                      · subst e
                        rw [if_pos rfl] at hj2
                        rw [if_pos rfl]
                        simp only [Nat.zero_add] at hj2
                        omega
                      · rw [if_neg (by omega)] at hj2
                        rw [if_neg e]
                        simp only [Nat.zero_add] at hj2
                        omega
                    · have h00 : outE (j : Int) (E.take 0) = 0 := by simp [outE]
                      have h01 : outE (j : Int) (E.take 1) = 0 := by
                        have := hot j
                        rw [h00, show outV (j : Int) ⟨2, p, q, xp, xc, xe⟩ = 0 by simp [outV]] at this
                        simpa using this
                      by_cases e : j = p
                      · subst e
                        rw [if_pos rfl]
                        omega
                      · rw [if_neg e]
                        omega
                · have w2d : (xw == 2) = false := by simpa using w2
                  by_cases w3 : xw = 3
                  · subst w3
                    have hbp := (unhide HB).2.2.2.2.1 p hp
                    have hbq := (unhide HB).2.2.2.2.1 q hq
                    have hop := (unhide HB).2.1 (p : Int)
                    have hoq := (unhide HB).2.1 (q : Int)
                    have hvv := (unhide HB).2.2.2.2.2.1
                    have hsm := (unhide HB).2.2.1
                    simp only [outV, if_true] at hop hoq hsm
                    have hX : 0 ≤ O p + outE (p : Int) (E.take k2) + xc ∧ O p + outE (p : Int) (E.take k2) + xc ≤ 1000000 := by split at hop <;> omega
                    have hYq : ∀ Y, Y = (if q = p then O p + outE (p : Int) (E.take k2) + xc else O q + outE (q : Int) (E.take k2)) → 0 ≤ Y ∧ Y + xc ≤ 1000000 := fun Y hY => by
                      by_cases e : q = p
                      · subst e
                        rw [if_pos rfl] at hY
                        (try simp only [eq_self, if_true] at hop)
                        first | omega | (split at hop <;> omega)
                      · rw [if_neg e] at hY
                        rw [if_neg (by omega)] at hoq
                        (try simp only [eq_self, if_true] at hoq)
                        first | omega | (split at hoq <;> omega)
                    have hVV : 0 ≤ V + sumT (E.take k2) ∧ V + sumT (E.take k2) + xc ≤ 50000000000 := by omega
                    have HY := hide hYq
                    have HSM := hide hsm
                    clear hbp hbq hop hoq hvv hYq hsm
                    have hw1 : IntKind.i64.wrap (O p + outE (p : Int) (E.take k2) + xc) = O p + outE (p : Int) (E.take k2) + xc := wrap_small (by omega)
                    go_upto_region 29 with fail
                    go_cut [14] from 53 to 140 (fun s14 wx => s14 = .pointer (some ⟨PE, 0, none⟩) ∧ KL w wx bx bb v6 ro6 s' bt bo n (fun id => T id + tknE id (E.take k2)) (fun j => if j = p then O p + outE (p : Int) (E.take k2) + xc else O j + outE j (E.take k2)) base (.slice (some ⟨ge, 0, none⟩) E.length ec) E ∧ wx.heap[PE]? = some (.cells #[.int .i64 3, .int .i64 p, .int .i64 q, .int .i64 xp, .int .i64 xc, .int .i64 xe] 31 (0, 0)))
                    case first =>
                      go_region
                      all_goals (try rw [hw1])
                      all_goals (go_wp2_with fail)
                      all_goals go_meet
                      all_goals exact ⟨rfl, ((unhide HKE).1.setO hp _).quiet ((Fr.refl _ _).drew), Fr.heap (((Fr.refl (fun g => g = bo) WE).setAt bo (.inr rfl) p _).drew) (unhide HKE).2 (fun e => hne2 e)⟩
                    case rest =>
                      obtain ⟨rfl, hK2, hE2⟩ := hcut
                      clear d0 d1 d2 d3 d4 d5 ct co ft fo fo2
                      obtain ⟨d0, d1, d2, d3, d4, d5, -⟩ := box6 hE2
                      have co := hK2.kk.oa.cell hq
                      have fo := hK2.kk.oa.fz q
                      have hboc := hK2.kk.oa.lt
                      have hPEc := lt_of_heap hE2
                      have HK2 := hide hK2
                      try simp only at co
                      obtain ⟨Y, hY⟩ : ∃ Y, Y = (if q = p then O p + outE (p : Int) (E.take k2) + xc else O q + outE (q : Int) (E.take k2)) := ⟨_, rfl⟩
                      have hYb := unhide HY Y hY
                      rw [← hY] at co
                      have HYe := hide hY
                      clear hK2 hE2 hY
                      have hw2 : IntKind.i64.wrap (Y + xc) = Y + xc := wrap_small (by omega)
                      go_upto_region 30 with fail
                      go_cut [14] from 53 to 140 (fun s14 wx => s14 = .pointer (some ⟨PE, 0, none⟩) ∧ KL w wx bx bb v6 ro6 s' bt bo n (fun id => T id + tknE id (E.take k2)) (fun j => if j = q then Y + xc else if j = p then O p + outE (p : Int) (E.take k2) + xc else O j + outE j (E.take k2)) base (.slice (some ⟨ge, 0, none⟩) E.length ec) E ∧ wx.cell? ⟨PE, 4, none⟩ = some (.int .i64 xc))
                      case first =>
                        have HPE := hide (And.intro d4 hPEc)
                        go_region
                        all_goals (try rw [hw2])
                        all_goals (go_wp2_with fail)
                        all_goals go_meet
                        all_goals exact ⟨rfl, ((unhide HK2).setO hq _).quiet ((Fr.refl _ _).drew), (Fr.cellAt (((Fr.refl (fun g => g = bo) wc).setAt bo (.inr rfl) q _).drew) (unhide HPE).2 (fun e => hne2 e)).trans (unhide HPE).1⟩
                      case rest =>
                        obtain ⟨rfl, hK3, d4'⟩ := hcut
                        have HK3 := hide hK3
                        clear hK3 d0 d1 d2 d3 d4 d5 co fo
                        go_wp2
                        go_roundg (E.length - (k2 + 1))
                        case measure => omega
                        case rel =>
                          obtain ⟨htk, hot, hsm, hhd, hob, hvb, hfr⟩ := unhide HB
                          have hYe := unhide HYe
                          refine ⟨k2 + 1, hlt2, rfl, by rw [unhide HSM]; congr 1; omega, by go_num, (unhide HK3).congr (fun j hj => ?_) (fun j hj => ?_)⟩
                          · have hj2 := htk j
                            simp only [tknV] at hj2
                            rw [if_neg w2] at hj2
                            omega
                          · have hj2 := hot j
                            simp only [outV, if_true] at hj2
                            by_cases e1 : j = q
                            · subst e1
                              rw [if_pos rfl]
                              by_cases e2 : j = p
                              · subst e2
                                (try simp only [eq_self, if_true] at hj2)
                                (try simp only [eq_self, if_true] at hYe)
                                first | omega | (split at hj2 <;> omega)
                              · rw [if_neg e2] at hYe
                                rw [if_neg (by omega)] at hj2
                                (try simp only [eq_self, if_true] at hj2)
                                first | omega | (split at hj2 <;> omega)
                            · rw [if_neg e1]
                              by_cases e2 : j = p
                              · subst e2
                                rw [if_pos rfl]
                                have hn2 : ¬ ((q : Int) = (j : Int)) := by omega
                                rw [if_neg hn2] at hj2
                                first | omega | (split at hj2 <;> omega)
                              · rw [if_neg e2]
                                have hn1 : ¬ ((p : Int) = (j : Int)) := by omega
                                have hn2 : ¬ ((q : Int) = (j : Int)) := by omega
                                rw [if_neg hn1, if_neg hn2] at hj2
                                omega
                  · have w3d : (xw == 3) = false := by simpa using w3
                    by_cases w5 : xw = 5
                    · subst w5
                      have hbp := (unhide HB).2.2.2.2.1 p hp
                      have hov := (unhide HB).2.1 (p : Int)
                      simp [outV] at hov
                      rw [hov] at hbp
                      have HOV := hide hov
                      clear hov
                      generalize hX : O p + outE (p : Int) (E.take k2) = X at *
                      have hbX : 0 ≤ X + xc ∧ X + xc ≤ 1000000 := by omega
                      clear hbp
                      have hw1 : IntKind.i64.wrap (X + xc) = X + xc := wrap_small (by omega)
                      go_upto_region 33 with fail
                      go_region
                      (try rw [hw1])
                      go_wp2
                      go_roundg (E.length - (k2 + 1))
                      case measure => omega
                      case rel =>
                        obtain ⟨htk, hot, hsm, hhd, hob, hvb, hfr⟩ := unhide HB
                        refine ⟨k2 + 1, hlt2, rfl, by rw [hsm, if_neg w3]; simp, by go_num, (((unhide HKE).1.setO hp (X + xc)).quiet ((Fr.refl _ _).drew)).congr (fun j hj => ?_) (fun j hj => ?_)⟩
                        · have hj2 := htk j
                          simp only [tknV] at hj2
                          rw [if_neg w2] at hj2
                          omega
                        · have hj2 := hot j
                          simp [outV] at hj2
                          by_cases e : j = p
                          · subst e
                            rw [if_pos rfl] at hj2 ⊢
                            omega
                          · rw [if_neg (by omega)] at hj2
                            rw [if_neg e]
                            omega
                    · have w5d : (xw == 5) = false := by simpa using w5
                      go_wp2
                      go_roundg (E.length - (k2 + 1))
                      case measure => omega
                      case rel =>
                        obtain ⟨htk, hot, hsm, hhd, hob, hvb, hfr⟩ := unhide HB
                        refine ⟨k2 + 1, hlt2, rfl, by rw [hsm, if_neg w3]; simp, by go_num, (unhide HKE).1.congr (fun j hj => ?_) (fun j hj => ?_)⟩
                        · have hj2 := htk j
                          simp only [tknV] at hj2
                          rw [if_neg w2] at hj2
                          omega
                        · have hj2 := hot j
                          simp only [outV] at hj2
                          rw [if_neg w3, if_neg w5] at hj2
                          omega
              · have e3 : decide ((k2 : Int) < (E.length : Int)) = false := by simp; omega
                have hke : E.take k2 = E := List.take_of_length_le (by omega)
                rw [hke]
                rw [hke] at HKL
                clear hkl hke
                go_wp2
                go_roundg (n - (k + 1))
                case measure => omega
                case rel => exact ⟨k + 1, v6, ro6, s', _, _, _, hlt, rfl, rfl, by go_num, (unhide HKL).kk, (unhide HK6).2.1⟩
      · have hkn' : k = n := by omega
        subst hkn'
        have e2 : decide ((k : Int) < (k : Int)) = false := by simp
        clear hkk hli
        go_wp2_with fail
        refine (pLook_any bx bb v ro s 1 wr (unhide HK).1.kp.pit).mono ?_
        rintro e w4 ⟨rfl, hf4⟩
        have hkk4 := (unhide HK).1.quiet hf4
        have HK4 := hide (And.intro hkk4 (unhide HK).2)
        clear hf4 hkk4
        have hlook : lookS s 1 = .tuple #[.agg #[.int .i64 (if s.tr 0 = true then 2 else 1), .int .i64 ((s.M 0 0).length : Int), .int .i64 ((s.M 0 1).length : Int), .int .i64 V], .int .i64 0] := by
          unfold lookS stateV
          rw [if_pos (by decide)]
          rw [show s.td (bk 1) = V from (unhide HK).2.td]
          rfl
        rw [hlook]
        clear hlook
        generalize (if s.tr 0 = true then (2 : Int) else 1) = ph
        generalize ((s.M 0 0).length : Int) = l0
        generalize ((s.M 0 1).length : Int) = l1
        have hvb := (unhide HK).2.vb
        go_wp2_with fail
        refine (pVolume_any bx bb v ro s _ ((unhide HK4).1.kp.no ((Fr.refl _ _).alloc _)).pit).mono ?_
        rintro e w5 ⟨rfl, hw5⟩
        rw [(unhide HK4).2.vol]
        have hkk5 := (unhide HK4).1.quiet (w1 := w5) (by rw [hw5]; exact (Fr.refl _ _).alloc _)
        have HK5 := hide (And.intro hkk5 (unhide HK4).2)
        clear hkk5 hw5
        go_wp2_with fail
        go_loopg [17] (k + 1) (fun g s17 wx => ∃ d : Nat, 1 ≤ d ∧ d ≤ k + 1 ∧ g = k + 2 - d ∧ s17 = .int .i64 (d : Int) ∧ Fr No w5 wx)
        case atStart => exact ⟨1, Nat.le_refl _, by omega, by omega, rfl, Fr.refl _ _⟩
        case round =>
          obtain ⟨d, hd1, hdk, hgk, rfl, hfj⟩ := hrel
          by_cases hjk : d ≤ k
          · have e5 : (d : Int) ≤ (k : Int) := by omega
            have i1 : (d : Int) < (m : Int) := by have := unhide HM; omega
            have i2 : (0 : Int) ≤ (d : Int) := by omega
            have hli := (unhide HK5).2
            have hbal := hli.bal d hjk
            have hbnd := hli.bnd d
            have hopos := hli.opos d
            have hzpos := openS_nonneg ((unhide HK5).1.kp.wf.book 0 (by omega)) (d : Int)
            have hkkj := (unhide HK5).1.quiet hfj
            have HO : Hid (∀ w', Fr No wr w' → Calls Try.prog 14 #[.pointer (some ⟨bx, 0, none⟩), .int .i64 (d : Int)] w' fun e w'' => e = .returned (.int .i64 (openS (s.M 0) d)) ∧ Fr No w' w'') := fun w' hf => open_any (hkkj.kp.no hf) hli.only d
            have ct := hkkj.ta.cell hjk
            have co := hkkj.oa.cell hjk
            have HKJ := hide hkkj
            generalize openS (s.M 0) (d : Int) = z at *
            rw [hbal] at ct hbnd
            generalize hOd : O d = o at *
            have HOd := hide (And.intro hOd hbal)
            have hbt3 := hkkj.ta.lt
            have hbo3 := hkkj.oa.lt
            have HFJ := hide hfj
            clear hli hkkj hbal hOd hfj
            have hw3 : IntKind.i64.wrap (o + z) = o + z := wrap_small (by omega)
            go_upto_region 40 with fail
            go_cut [178] from 161 to 178 (fun s178 wx => s178 = .bool false ∧ Fr No wr wx)
            case first =>
              go_region_held3 (fun w' : World => w'.cell? ⟨bt, d, none⟩ = some (.int .i64 (o + z)) ∧ w'.cell? ⟨bo, d, none⟩ = some (.int .i64 o)) (go_keep)
                (first | (go_at_call 14; refine (unhide HO _ (by repeat (first | exact Fr.refl _ _ | refine Fr.drew ?_))).mono ?_; rintro e w6 ⟨rfl, hf6⟩; have hf7 : Fr No wr w6 := Fr.quiet (by repeat (first | exact Fr.refl _ _ | refine Fr.drew ?_)) hf6; have ct6 := (hf7.below.cell (p := ⟨bt, d, none⟩) hbt3).trans ct; have co6 := (hf7.below.cell (p := ⟨bo, d, none⟩) hbo3).trans co; have HF7 := hide hf7; clear hf6 hf7))
              all_goals (go_wp2_with fail)
              all_goals go_meet
              all_goals exact ⟨rfl, unhide HF7⟩
            case rest =>
              obtain ⟨rfl, hfw⟩ := hcut
              have HFW := hide hfw
              clear hfw
              go_wp2
              go_roundg (k + 2 - (d + 1))
              case measure => omega
              case rel => exact ⟨d + 1, by omega, by omega, rfl, by go_num, (unhide HFJ).quiet (unhide HFW)⟩
          · have e5 : decide ((d : Int) ≤ (k : Int)) = false := by simp; omega
            have HFF := hide ((unhide HK5).1.kp.fr.quiet hfj)
            clear hfj
            go_wp2
            go_ret
            exact ⟨rfl, unhide HFF⟩
end Go.Proofs.Ytigpgnjgmaoejaa
