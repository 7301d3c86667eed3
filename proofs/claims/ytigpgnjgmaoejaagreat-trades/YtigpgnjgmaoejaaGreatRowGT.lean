/- Gathers returns true at every script of steps, and leaves the script as it was: the given statement. No condition. -/
import Derived.Test.YtigpgnjgmaoejaaGreatRows
import Derived.Test.YtigpgnjgmaoejaaGreatLawO
import Derived.Test.YtigpgnjgmaoejaaGreatSimG
import Derived.ProofKit
import Derived.OpenShut
import Derived.ShutString
import Derived.ChangeOld
import Derived.Below
import Derived.SizedLaws
import Derived.Deep.Slices
import Derived.Conc.Holds
import Derived.Leaving
namespace Go.Proofs.YtigpgnjgmaoejaaGreat
open Go.ChangeShapes Go.WideShapes Go.ChangeAt Go.RowKit

theorem row_own : ownKnob Tryz.prog.godebug = none := by kernel_rfl
theorem row_laidOut : laidOutB Tryz.prog = true := by kernel_rfl
theorem cellsInt : Tryz.prog.cellsOf 3 = 1 := by kernel_rfl
theorem cellsCmd : Tryz.prog.cellsOf 31 = 8 := by kernel_rfl
theorem cellsCmds : Tryz.prog.cellsOf 29 = 1 := by kernel_rfl
theorem cellsOp : Tryz.prog.cellsOf 50 = 13 := by kernel_rfl
theorem bytesOp : Tryz.prog.bytesOf 50 = 120 := by kernel_rfl

theorem take_one {cs : List Value} {k : Nat} {v : Value} (h : (cs.drop k).take 1 = [v]) : cs[k]? = some v := by
  have := congrArg (fun l => l[0]?) h
  simp only [List.getElem?_take, List.getElem?_drop, List.getElem?_cons_zero] at this
  simpa using this

section
variable {H : Type} {enc : TypeId × Value → H} {w : World} {base : Nat} {spare : Nat → Bool} {held : Bool}

theorem int_field {fs : Array Field} {cs : List Value} {xs : List (DataW H × List MemPlace)} {n i : Nat} {f : Field} (hxl : xs.length = fs.size)
    (hf : ∀ (i : Nat) (f : Field), fs[i]? = some f → DataW.trod enc Tryz.prog w base spare held n f.type ((cs.drop f.offset).take (Tryz.prog.cellsOf f.type)) = xs[i]?)
    (hi : fs[i]? = some f) (ht : f.type = 3) : ∃ z, cs[f.offset]? = some (.int .i64 z) := by
  have h1 := hf i f hi
  have hil : i < xs.length := by rw [hxl]; exact (Array.getElem?_eq_some_iff.1 hi).1
  rw [List.getElem?_eq_getElem hil, ht, cellsInt] at h1
  obtain ⟨z, hz, _⟩ := DataW.trod_int Tryz.underlying3 h1
  exact ⟨z, take_one hz⟩

theorem fld {fs : Array Field} {cs : List Value} {xs : List (DataW H × List MemPlace)} {n i k t : Nat} {f : Field} (hxl : xs.length = fs.size)
    (hf : ∀ (i : Nat) (f : Field), fs[i]? = some f → DataW.trod enc Tryz.prog w base spare held n f.type ((cs.drop f.offset).take (Tryz.prog.cellsOf f.type)) = xs[i]?)
    (hi : fs[i]? = some f) (ht : f.type = t) (hc : Tryz.prog.cellsOf t = k) : ∃ y, DataW.trod enc Tryz.prog w base spare held n t ((cs.drop f.offset).take k) = some y := by
  have h1 := hf i f hi
  have hil : i < xs.length := by rw [hxl]; exact (Array.getElem?_eq_some_iff.1 hi).1
  rw [List.getElem?_eq_getElem hil, ht, hc] at h1
  exact ⟨_, h1⟩

theorem cmd_open {n : Nat} {cs : List Value} {x : DataW H × List MemPlace} (h : DataW.trod enc Tryz.prog w base spare held n 31 cs = some x) :
    ∃ c : Cmd, cs[0]? = some (.int .i64 c.what) ∧ cs[1]? = some (.int .i64 c.id) ∧ cs[2]? = some (.int .i64 c.trader) ∧ cs[3]? = some (.int .i64 c.book) ∧ cs[4]? = some (.int .i64 c.side) ∧ cs[5]? = some (.int .i64 c.kind) ∧ cs[6]? = some (.int .i64 c.price) ∧ cs[7]? = some (.int .i64 c.count) := by
  obtain ⟨xs, m, _, _, _, hxl, hf⟩ := DataW.trod_struct Tryz.underlying31 h
  obtain ⟨z0, h0⟩ := int_field (i := 0) hxl hf rfl rfl
  obtain ⟨z1, h1⟩ := int_field (i := 1) hxl hf rfl rfl
  obtain ⟨z2, h2⟩ := int_field (i := 2) hxl hf rfl rfl
  obtain ⟨z3, h3⟩ := int_field (i := 3) hxl hf rfl rfl
  obtain ⟨z4, h4⟩ := int_field (i := 4) hxl hf rfl rfl
  obtain ⟨z5, h5⟩ := int_field (i := 5) hxl hf rfl rfl
  obtain ⟨z6, h6⟩ := int_field (i := 6) hxl hf rfl rfl
  obtain ⟨z7, h7⟩ := int_field (i := 7) hxl hf rfl rfl
  exact ⟨⟨z0, z1, z2, z3, z4, z5, z6, z7⟩, h0, h1, h2, h3, h4, h5, h6, h7⟩

theorem op_open {n : Nat} {cs : List Value} {x : DataW H × List MemPlace} (h : DataW.trod enc Tryz.prog w base spare held n 50 cs = some x) :
    ∃ o : OpV, (∃ a n c, o.l = .slice a n c) ∧ cs[0]? = some (.int .i64 o.kind) ∧ cs[1]? = some (.int .i64 o.n) ∧ cs[2]? = some (.int .i64 o.m) ∧ cs[3]? = some (.int .i64 o.k) ∧
      cs[4]? = some (.int .i64 o.c.what) ∧ cs[5]? = some (.int .i64 o.c.id) ∧ cs[6]? = some (.int .i64 o.c.trader) ∧ cs[7]? = some (.int .i64 o.c.book) ∧ cs[8]? = some (.int .i64 o.c.side) ∧ cs[9]? = some (.int .i64 o.c.kind) ∧ cs[10]? = some (.int .i64 o.c.price) ∧ cs[11]? = some (.int .i64 o.c.count) ∧ cs[12]? = some o.l := by
  obtain ⟨xs, m, _, _, _, hxl, hf⟩ := DataW.trod_struct Tryz.underlying50 h
  obtain ⟨z0, h0⟩ := int_field (i := 0) hxl hf rfl rfl
  obtain ⟨z1, h1⟩ := int_field (i := 1) hxl hf rfl rfl
  obtain ⟨z2, h2⟩ := int_field (i := 2) hxl hf rfl rfl
  obtain ⟨z3, h3⟩ := int_field (i := 3) hxl hf rfl rfl
  obtain ⟨y4, h4⟩ := fld (i := 4) hxl hf rfl rfl cellsCmd
  obtain ⟨y5, h5⟩ := fld (i := 5) hxl hf rfl rfl cellsCmds
  replace h4 : DataW.trod enc Tryz.prog w base spare held m 31 ((cs.drop 4).take 8) = some y4 := h4
  replace h5 : DataW.trod enc Tryz.prog w base spare held m 29 ((cs.drop 12).take 1) = some y5 := h5
  obtain ⟨c, c0, c1, c2, c3, c4, c5, c6, c7⟩ := cmd_open h4
  simp only [List.getElem?_take, List.getElem?_drop] at c0 c1 c2 c3 c4 c5 c6 c7
  obtain ⟨a, l, k, hs⟩ : ∃ a l k, (cs.drop 12).take 1 = [.slice a l k] := by
    rcases DataW.trod_slice Tryz.underlying29 h5 with ⟨hc, _⟩ | ⟨a, l, k, _, _, _, _, hc, _⟩
    · exact ⟨_, _, _, hc⟩
    · exact ⟨_, _, _, hc⟩
  exact ⟨⟨z0, z1, z2, z3, c, .slice a l k⟩, ⟨a, l, k, rfl⟩, h0, h1, h2, h3, by simpa using c0, by simpa using c1, by simpa using c2, by simpa using c3, by simpa using c4, by simpa using c5, by simpa using c6, by simpa using c7, take_one hs⟩
end
end Go.Proofs.YtigpgnjgmaoejaaGreat

/- Trades returns true at every script of steps, and leaves the script as it was: the given statement. No condition. -/
namespace Go.Proofs.YtigpgnjgmaoejaaGreat
open Go.ChangeShapes Go.WideShapes Go.ChangeAt Go.RowKit

/-- What the walk is told of a script that came in: how long it can be, and each step's cells. -/
theorem ops_open {H : Type} {enc : TypeId × Value → H} {w : World} {a : Option Addr} {len cap : Nat} {d : DataW H} {p : List MemPlace} (h : DataW.Trod enc Tryz.prog w 0 (fun _ => true) true 22 (.slice a len cap) d p)
    (hsz : (DataW.weightsEach Tryz.prog [22] [d]).all (· ≤ reachBytes) = true) :
    len ≤ 1200000000000 ∧ ∀ i, i < len → ∃ b off o, a = some ⟨b, off, none⟩ ∧ b < w.heap.size ∧ OpAt w b (off + i * 13) o := by
  obtain ⟨fuel, hf⟩ := h
  rcases Go.Deep.open_slice Tryz.underlying22 hf with ⟨hcs, _⟩ | ⟨a', len', cap', m, n, D, Pl, hcs, _, hl, hm, hmm, hx, hel⟩
  · simp [Value.cells] at hcs
    obtain ⟨rfl, rfl, rfl⟩ := hcs
    exact ⟨by omega, fun i hi => by omega⟩
  · simp [Value.cells] at hcs
    obtain ⟨rfl, rfl, rfl⟩ := hcs
    have hd : d = .slice ((List.range len).map D) ((List.range (m - len)).map fun j => D (len + j)) := congrArg Prod.fst hx
    have hw := sized_slice hsz (j := 0) (t := 22) rfl (by rw [hd]; rfl) Tryz.underlying22
    rw [bytesOp] at hw
    simp only [List.length_map, List.length_range] at hw
    have hrb : reachBytes = 140737488351232 := rfl
    rw [hrb] at hw
    have hml : len ≤ m := by rw [hmm]; simp; exact hl
    refine ⟨by omega, fun i hi => ?_⟩
    obtain ⟨cs, hc, ht⟩ := hel i (by omega)
    rw [cellsOp] at hc
    obtain ⟨_, hcl, hcell⟩ := World.cells?_some hc
    obtain ⟨o, hsl, o0, o1, o2, o3, o4, o5, o6, o7, o8, o9, o10, o11, o12⟩ := op_open ht
    obtain ⟨b, off, spot⟩ := a'
    have hsp : ∀ j : Nat, j = 0 → spot = none := fun j hj => by
      obtain ⟨cs1, hc1, ht1⟩ := hel j (by omega)
      rw [cellsOp] at hc1
      obtain ⟨_, _, hcell1⟩ := World.cells?_some hc1
      obtain ⟨o1, _, z0, _⟩ := op_open ht1
      have := World.cell?_spot ((hcell1 0 (by omega)).trans z0)
      subst hj
      simpa [Addr.add] using this
    have hspot : spot = none := hsp 0 rfl
    subst hspot
    have hadd : ∀ j, j < 13 → w.cell? ⟨b, off + i * 13 + j, none⟩ = cs[j]? := fun j hj => by
      rw [← hcell j hj, Addr.add_lit, Addr.add_lit]
    refine ⟨b, off, o, rfl, ?_, ⟨hsl, (hadd 0 (by omega)).trans o0, (hadd 1 (by omega)).trans o1, (hadd 2 (by omega)).trans o2, (hadd 3 (by omega)).trans o3, (hadd 4 (by omega)).trans o4, (hadd 5 (by omega)).trans o5, (hadd 6 (by omega)).trans o6, (hadd 7 (by omega)).trans o7, (hadd 8 (by omega)).trans o8, (hadd 9 (by omega)).trans o9, (hadd 10 (by omega)).trans o10, (hadd 11 (by omega)).trans o11, (hadd 12 (by omega)).trans o12⟩⟩
    have := World.block_lt_of_cell? w _ ((hadd 0 (by omega)).trans o0)
    exact this

set_option maxRecDepth 100000 in
theorem trades_lifted (os : Go.Os) (started : os.Started) (H : Type) (enc : TypeId × Value → H) :
    ReturnsInHanded {} Tryz.checked os 4 .any (Rows.tradesSpec.pre6 enc Tryz.prog Tryz.f4 Rows.tradesRow.domain false) (Rows.tradesSpec.post enc Tryz.prog Tryz.f4 false true false false) := by
  refine returnsInHanded_of_change_sized (C := Tryz.checked) row_own started (by kernel_rfl) Tryz.func4
    (ChangeSpec.witness6 (enc := enc) (C := Tryz.checked) false ⟨#[], #[.slice none 0 0], []⟩ 8 (by kernel_rfl) (by kernel_rfl) (by kernel_rfl) (by kernel_rfl)) ?_
  intro W base args ds gs before hval0 hW hcnd hsz _
  have hval : ∀ (j : Nat) t v, Tryz.f4.params[j]? = some t → args[j]? = some v → Value.okWide Tryz.prog W .any base t v := hval0
  have hW' := hW
  obtain ⟨p, q, hA0, hV, rfl, hfz, hnd⟩ := hW
  have hA : DataW.TrodAll enc Tryz.prog W 0 (fun _ => true) true Tryz.f4.params.toList args.toList ds p := hA0
  rw [Tryz.params4] at hA hval
  obtain ⟨v0, vs0, d0, ds0, p0, q0, hargs, rfl, rfl, h0, r0⟩ := trodAll_cons hA
  obtain ⟨rfl, rfl, rfl⟩ := trodAll_nil r0
  obtain rfl : args = #[v0] := by cases args; simp_all
  obtain ⟨rfl, rfl⟩ := trodVars_none hV
  obtain ⟨a0, len0, cap0, rfl⟩ := okWide_slice Tryz.underlying22 (hval 0 22 v0 rfl rfl)
  have k0 := h0
  have lt0 : ∀ x ∈ p0, x.block < W.heap.size := by obtain ⟨m, hm⟩ := k0; exact DataW.trod_lt m _ _ _ hm
  have hsz' : (DataW.weightsEach Tryz.prog [22] [d0]).all (· ≤ reachBytes) = true := hsz
  obtain ⟨hn, hops⟩ := ops_open h0 hsz'
  clear hA0 hval0
  refine (trades_calls pit_law a0 len0 cap0 W hn hops).mono fun e W' ⟨he, hfr⟩ => ?_
  have bel := hfr.below
  subst he
  exact ⟨_, rfl, _, _, _, [], _, [], hW', trodAll_mk1 (shut_bool Tryz.underlying4 _), (trodAll_cons_mk (Below.trod row_laidOut (by kernel_rfl) (of_decide_eq_true (by kernel_rfl)) k0 bel lt0) trodAll_mk0), rfl, bel.frame _, fun h => by cases h⟩

/-- Whoever is alone at the return leaves nobody behind who does more than leave. -/
theorem leaving_of_handed {a : Assume} {C : Checked} {os : Go.Os} {f : FuncId} {r : Reach} {Pre : World → Array Value → Prop} {Post : World → Array Value → Value → World → Prop} (h : ReturnsInHanded a C os f r Pre Post) : ReturnsInLeavingWide a C os f r Pre Post := fun enter => by
  obtain ⟨e1, e2, e3, e4, hrun⟩ := h enter
  refine ⟨e1, e2, e3, e4, fun w tape i hf => ?_⟩
  obtain ⟨n, v, w', a1, a2, a3, a4, ⟨j, last, b1, b2, b3⟩, a6⟩ := hrun w tape i hf
  exact ⟨n, v, w', a1, a2, a3, a4, ⟨j, last, b1, b2, b3.2.1, onlyLeaving_of_quiet b3.1, b3.2.2⟩, a6⟩

theorem trades_over : Rows.tradesRow.holds Tryz.pinned (OpenSpec.ofChange Rows.tradesSpec) :=
  OpenClaim.holds_of_wide_leaving 4 Tryz.f4 rfl rfl rfl rfl rfl rfl rfl ⟨rfl, rfl, rfl, rfl, rfl⟩ rfl rfl rfl rfl rfl (by kernel_rfl) Tryz.func4 (by kernel_rfl)
    (of_decide_eq_true (by kernel_rfl)) (by unfold Func.isWrapper; first | (rw [if_pos (by decide +kernel)]; kernel_rfl) | (rw [if_neg (by decide +kernel)]; exact ⟨rfl, rfl⟩))
    (fun os started H enc _ => leaving_of_handed (trades_lifted os started H enc))

/-- The statement. -/
theorem trades_holds : Rows.TradesSaid := trades_over
#print axioms trades_holds
end Go.Proofs.YtigpgnjgmaoejaaGreat
