/- How a list of steps that comes in is read; the pieces of the rows. No condition. -/
import Derived.Test.YtigpgnjgmaoejaaRows
import Derived.Test.YtigpgnjgmaoejaaKeepBC
import Derived.ProofKit
import Derived.OpenShut
import Derived.ShutString
import Derived.ChangeOld
import Derived.Below
import Derived.SizedLaws
import Derived.Deep.Slices
import Derived.Test.YtigpgnjgmaoejaaKeepKL
namespace Go.Proofs.Ytigpgnjgmaoejaa
open Go.ChangeShapes Go.WideShapes Go.ChangeAt Go.RowKit

theorem row_own : ownKnob Try.prog.godebug = none := by kernel_rfl
theorem row_laidOut : laidOutB Try.prog = true := by kernel_rfl
theorem cellsInt : Try.prog.cellsOf 3 = 1 := by kernel_rfl
theorem cellsStep : Try.prog.cellsOf 34 = 6 := by kernel_rfl

theorem take_one {cs : List Value} {k : Nat} {v : Value} (h : (cs.drop k).take 1 = [v]) : cs[k]? = some v := by
  have := congrArg (fun l => l[0]?) h
  simp only [List.getElem?_take, List.getElem?_drop, List.getElem?_cons_zero] at this
  simpa using this
theorem wf_i64 {z : Int} (h : (Lit.int .i64 z).wf = true) : I64 z := by
  simp [Lit.wf] at h
  have hm : IntKind.i64.min = -9223372036854775808 := by decide
  rw [hm] at h
  exact h

section
variable {H : Type} {enc : TypeId × Value → H} {w : World} {base : Nat} {spare : Nat → Bool} {held : Bool}

theorem int_field {fs : Array Field} {cs : List Value} {xs : List (DataW H × List MemPlace)} {n i : Nat} {f : Field} (hxl : xs.length = fs.size)
    (hf : ∀ (i : Nat) (f : Field), fs[i]? = some f → DataW.trod enc Try.prog w base spare held n f.type ((cs.drop f.offset).take (Try.prog.cellsOf f.type)) = xs[i]?)
    (hi : fs[i]? = some f) (ht : f.type = 3) : ∃ z, cs[f.offset]? = some (.int .i64 z) ∧ I64 z := by
  have h1 := hf i f hi
  have hil : i < xs.length := by rw [hxl]; exact (Array.getElem?_eq_some_iff.1 hi).1
  rw [List.getElem?_eq_getElem hil, ht, cellsInt] at h1
  obtain ⟨z, hz, _, hw⟩ := DataW.trod_int Try.underlying3 h1
  exact ⟨z, take_one hz, wf_i64 hw⟩

theorem step_open {n : Nat} {cs : List Value} {x : DataW H × List MemPlace} (h : DataW.trod enc Try.prog w base spare held n 34 cs = some x) :
    ∃ s : Sp, s.ok ∧ cs[0]? = some (.int .i64 s.what) ∧ cs[1]? = some (.int .i64 s.trader) ∧ cs[2]? = some (.int .i64 s.side) ∧ cs[3]? = some (.int .i64 s.kind) ∧ cs[4]? = some (.int .i64 s.price) ∧ cs[5]? = some (.int .i64 s.count) := by
  obtain ⟨xs, m, _, _, _, hxl, hf⟩ := DataW.trod_struct Try.underlying34 h
  obtain ⟨z0, h0, k0⟩ := int_field (i := 0) hxl hf rfl rfl
  obtain ⟨z1, h1, k1⟩ := int_field (i := 1) hxl hf rfl rfl
  obtain ⟨z2, h2, k2⟩ := int_field (i := 2) hxl hf rfl rfl
  obtain ⟨z3, h3, k3⟩ := int_field (i := 3) hxl hf rfl rfl
  obtain ⟨z4, h4, k4⟩ := int_field (i := 4) hxl hf rfl rfl
  obtain ⟨z5, h5, k5⟩ := int_field (i := 5) hxl hf rfl rfl
  exact ⟨⟨z0, z1, z2, z3, z4, z5⟩, ⟨k0, k1, k2, k3, k4, k5⟩, h0, h1, h2, h3, h4, h5⟩
end

/-- What the walk is told of a list of steps that came in. -/
theorem steps_open {H : Type} {enc : TypeId × Value → H} {w : World} {a : Option Addr} {len cap : Nat} {d : DataW H} {p : List MemPlace} (h : DataW.Trod enc Try.prog w 0 (fun _ => true) true 22 (.slice a len cap) d p) : Steps w a len := by
  obtain ⟨fuel, hf⟩ := h
  rcases Go.Deep.open_slice Try.underlying22 hf with ⟨hcs, _⟩ | ⟨a', len', cap', m, n, D, Pl, hcs, _, hl, hm, hmm, hx, hel⟩
  · simp [Value.cells] at hcs
    obtain ⟨rfl, rfl, rfl⟩ := hcs
    exact fun i hi => by omega
  · simp [Value.cells] at hcs
    obtain ⟨rfl, rfl, rfl⟩ := hcs
    have hml : len ≤ m := by rw [hmm]; simp; exact hl
    intro i hi
    obtain ⟨cs, hc, ht⟩ := hel i (by omega)
    rw [cellsStep] at hc
    obtain ⟨_, hcl, hcell⟩ := World.cells?_some hc
    obtain ⟨s, hok, o0, o1, o2, o3, o4, o5⟩ := step_open ht
    obtain ⟨b, off, spot⟩ := a'
    have hsp : ∀ j : Nat, j = 0 → spot = none := fun j hj => by
      obtain ⟨cs1, hc1, ht1⟩ := hel j (by omega)
      rw [cellsStep] at hc1
      obtain ⟨_, _, hcell1⟩ := World.cells?_some hc1
      obtain ⟨s1, _, z0, _⟩ := step_open ht1
      have := World.cell?_spot ((hcell1 0 (by omega)).trans z0)
      subst hj
      simpa [Addr.add] using this
    have hspot : spot = none := hsp 0 rfl
    subst hspot
    have hadd : ∀ j, j < 6 → w.cell? ⟨b, off + i * 6 + j, none⟩ = cs[j]? := fun j hj => by
      rw [← hcell j hj, Addr.add_lit, Addr.add_lit]
    refine ⟨b, off, s, rfl, ?_, ⟨(hadd 0 (by omega)).trans o0, (hadd 1 (by omega)).trans o1, (hadd 2 (by omega)).trans o2, (hadd 3 (by omega)).trans o3, (hadd 4 (by omega)).trans o4, (hadd 5 (by omega)).trans o5⟩, hok⟩
    exact World.block_lt_of_cell? w _ ((hadd 0 (by omega)).trans o0)
/-- What the walk is told of a step that came in. -/
theorem last_open {H : Type} {enc : TypeId × Value → H} {w : World} {v : Value} {d : DataW H} {p : List MemPlace} (hv : ∃ cs, v = .agg cs ∧ cs.size = Try.prog.cellsOf 34) (h : DataW.Trod enc Try.prog w 0 (fun _ => true) true 34 v d p) : ∃ s : Sp, s.ok ∧ v = s.val := by
  obtain ⟨cs, rfl, hsz⟩ := hv
  rw [cellsStep] at hsz
  obtain ⟨fuel, hf⟩ := h
  obtain ⟨s, hok, o0, o1, o2, o3, o4, o5⟩ := step_open hf
  refine ⟨s, hok, ?_⟩
  obtain ⟨l⟩ := cs
  simp only [Value.cells] at o0 o1 o2 o3 o4 o5
  match l, hsz with
  | [a0, a1, a2, a3, a4, a5], _ =>
    simp at o0 o1 o2 o3 o4 o5
    rw [o0, o1, o2, o3, o4, o5]
    rfl
end Go.Proofs.Ytigpgnjgmaoejaa

/- Kept returns true at every list of steps and every opening, and leaves them as they were: the given statement. No condition. -/
namespace Go.Proofs.Ytigpgnjgmaoejaa
open Go.ChangeShapes Go.WideShapes Go.ChangeAt Go.RowKit

theorem bytesStep : Try.prog.bytesOf 34 = 48 := by kernel_rfl
/-- How long a list of steps that came in can be. -/
theorem steps_len {H : Type} {enc : TypeId × Value → H} {w : World} {a : Option Addr} {len cap : Nat} {d d1 : DataW H} {p : List MemPlace} (h : DataW.Trod enc Try.prog w 0 (fun _ => true) true 22 (.slice a len cap) d p)
    (hsz : (DataW.weightsEach Try.prog [22, 3] [d, d1]).all (· ≤ reachBytes) = true) : len ≤ 9223372036854775807 := by
  obtain ⟨fuel, hf⟩ := h
  rcases Go.Deep.open_slice Try.underlying22 hf with ⟨hcs, _⟩ | ⟨a', len', cap', m, n, D, Pl, hcs, _, hl, hm, hmm, hx, hel⟩
  · simp [Value.cells] at hcs
    obtain ⟨rfl, rfl, rfl⟩ := hcs
    omega
  · simp [Value.cells] at hcs
    obtain ⟨rfl, rfl, rfl⟩ := hcs
    have hd : d = .slice ((List.range len).map D) ((List.range (m - len)).map fun j => D (len + j)) := congrArg Prod.fst hx
    have hw := sized_slice hsz (j := 0) (t := 22) rfl (by rw [hd]; rfl) Try.underlying22
    rw [bytesStep] at hw
    simp only [List.length_map, List.length_range] at hw
    have hrb : reachBytes = 140737488351232 := rfl
    rw [hrb] at hw
    have hml : len ≤ m := by rw [hmm]; simp; exact hl
    omega
/-- A number that came in. -/
theorem num_open {H : Type} {enc : TypeId × Value → H} {w : World} {v : Value} {d : DataW H} {p : List MemPlace} (hv : ∃ z, v = .int .i64 z) (h : DataW.Trod enc Try.prog w 0 (fun _ => true) true 3 v d p) : ∃ z, v = .int .i64 z ∧ I64 z := by
  obtain ⟨z, rfl⟩ := hv
  obtain ⟨fuel, hf⟩ := h
  obtain ⟨z', hz, _, hw⟩ := DataW.trod_int Try.underlying3 hf
  simp [Value.cells] at hz
  subst hz
  exact ⟨z, rfl, wf_i64 hw⟩

set_option maxRecDepth 100000 in
theorem kept_lifted (os : Go.Os) (started : os.Started) (H : Type) (enc : TypeId × Value → H) :
    ReturnsInHanded {} Try.checked os 4 .any (Rows.keptSpec.pre6 enc Try.prog Try.f4 Rows.keptRow.domain false) (Rows.keptSpec.post enc Try.prog Try.f4 false true false false) := by
  refine returnsInHanded_of_change_sized (C := Try.checked) row_own started (by kernel_rfl) Try.func4
    (ChangeSpec.witness6 (enc := enc) (C := Try.checked) false ⟨#[], #[.slice none 0 0, .int .i64 0], []⟩ 8 (by kernel_rfl) (by kernel_rfl) (by kernel_rfl) (by kernel_rfl)) ?_
  intro W base args ds gs before hval0 hW hcnd hsz _
  have hval : ∀ (j : Nat) t v, Try.f4.params[j]? = some t → args[j]? = some v → Value.okWide Try.prog W .any base t v := hval0
  have hW' := hW
  obtain ⟨p, q, hA0, hV, rfl, hfz, hnd⟩ := hW
  have hA : DataW.TrodAll enc Try.prog W 0 (fun _ => true) true Try.f4.params.toList args.toList ds p := hA0
  rw [Try.params4] at hA hval
  obtain ⟨v0, vs0, d0, ds0, p0, q0, hargs, rfl, rfl, h0, r0⟩ := trodAll_cons hA
  obtain ⟨v1, vs1, d1, ds1, p1, q1, rfl, rfl, rfl, h1, r1⟩ := trodAll_cons r0
  obtain ⟨rfl, rfl, rfl⟩ := trodAll_nil r1
  obtain rfl : args = #[v0, v1] := by cases args; simp_all
  obtain ⟨rfl, rfl⟩ := trodVars_none hV
  obtain ⟨a0, len0, cap0, rfl⟩ := okWide_slice Try.underlying22 (hval 0 22 v0 rfl rfl)
  obtain ⟨z1, rfl, hz1⟩ := num_open (okWide_int Try.underlying3 (hval 1 3 v1 rfl rfl)) h1
  have k0 := h0
  have k1 := h1
  have lt0 : ∀ x ∈ p0, x.block < W.heap.size := by obtain ⟨m, hm⟩ := k0; exact DataW.trod_lt m _ _ _ hm
  have lt1 : ∀ x ∈ p1, x.block < W.heap.size := by obtain ⟨m, hm⟩ := k1; exact DataW.trod_lt m _ _ _ hm
  have hst := steps_open h0
  have hsz' : (DataW.weightsEach Try.prog [22, 3] [d0, d1]).all (· ≤ reachBytes) = true := hsz
  have hl0 := steps_len h0 hsz'
  clear hA0 hval0
  refine (kept_calls a0 len0 cap0 z1 W hst hz1 hl0).mono fun e W' ⟨he, hfr⟩ => ?_
  have bel := hfr.below
  subst he
  exact ⟨_, rfl, _, _, _, [], _, [], hW', trodAll_mk1 (shut_bool Try.underlying4 _), (trodAll_cons_mk (Below.trod row_laidOut (by kernel_rfl) (of_decide_eq_true (by kernel_rfl)) k0 bel lt0) (trodAll_cons_mk (Below.trod row_laidOut (by kernel_rfl) (of_decide_eq_true (by kernel_rfl)) k1 bel lt1) trodAll_mk0)), rfl, bel.frame _, fun h => by cases h⟩

theorem kept_over : Rows.keptRow.holds Try.pinned (OpenSpec.ofChange Rows.keptSpec) :=
  OpenClaim.holds_of_wide 4 Try.f4 rfl rfl rfl rfl rfl rfl rfl ⟨rfl, rfl, rfl, rfl, rfl⟩ rfl rfl rfl rfl rfl (by kernel_rfl) Try.func4 (by kernel_rfl)
    (of_decide_eq_true (by kernel_rfl)) (by unfold Func.isWrapper; first | (rw [if_pos (by decide +kernel)]; kernel_rfl) | (rw [if_neg (by decide +kernel)]; exact ⟨rfl, rfl⟩))
    (fun os started H enc _ => kept_lifted os started H enc)

/-- The statement. -/
theorem kept_holds : Rows.KeptSaid := kept_over
#print axioms kept_holds
end Go.Proofs.Ytigpgnjgmaoejaa
