/- Devices: the row, proved. -/
import Derived.Test.YtifapongohmemaaGreatDoorRows
import Derived.Test.YtifapongohmemaaGreatDoorWalkN
import Derived.ProofKit
import Derived.SizedLaws
import Derived.Deep.Slices
import Derived.LaidMore
import Derived.OpenShut
import Derived.Stop.Joined
namespace Go.Proofs.YtifapongohmemaaGreatDoor
open Go.ChangeShapes Go.WideShapes Go.ChangeAt Go.RowKit Go.Deep

theorem Tryz.own : ownKnob Tryz.prog.godebug = none := by kernel_rfl
abbrev laid1 : List (String × DataW Unit) := [("handout/journal.kinds", Rows.laid_handout_journal_kinds)]
/-- The door's own heap meets the condition. -/
theorem door_met (os : Os) (args : Array Value) : laidMetH Tryz.prog laid1 ((World.doorLaid Tryz.prog 400 os).forCall (fun _ _ => 0) ⟨#[], args, []⟩).memory :=
  laidMetH_of_parts3 (fuel := 8) (laidMet_of_run' 8 (by kernel_rfl) (by kernel_rfl)) (by kernel_rfl) (by kernel_rfl)

theorem Tryz.laidOut : laidOutB Tryz.prog = true := by kernel_rfl
theorem Tryz.cellsOp : Tryz.prog.cellsOf 97 = 20 := by kernel_rfl
theorem Tryz.bytesOp : Tryz.prog.bytesOf 97 = 184 := by kernel_rfl
theorem Tryz.cellsInt : Tryz.prog.cellsOf 3 = 1 := by kernel_rfl
theorem Tryz.cellsStr : Tryz.prog.cellsOf 9 = 1 := by kernel_rfl

theorem weightsAll_mem {H : Type} {P : Program} {e : TypeId} {n : Nat} : ∀ {l : List (DataW H)} {d : DataW H}, d ∈ l → n ∈ d.weights P e → n ∈ DataW.weightsAll P e l
  | a :: l, d, hd, hn => by
    simp only [DataW.weightsAll, List.mem_append]
    rcases List.mem_cons.1 hd with rfl | hd
    · exact .inl hn
    · exact .inr (weightsAll_mem hd hn)

theorem wf_i64 {n : Int} (h : (Lit.int .i64 n).wf = true) : -9223372036854775808 ≤ n ∧ n ≤ 9223372036854775807 := by
  have h1 : IntKind.i64.min = -9223372036854775808 := rfl
  have h2 : IntKind.i64.max = 9223372036854775807 := rfl
  simp only [Lit.wf, Bool.and_eq_true, decide_eq_true_eq] at h
  omega

set_option maxRecDepth 100000 in
/-- A step of the script, read as data, lies in memory as the walk wants it; its string is among the weights. -/
theorem step_of_elem {H : Type} {enc : TypeId × Value → H} {w : World} {spare : Nat → Bool} {held : Bool} {fuel b o : Nat} {cs : List Value} {x : DataW H × List MemPlace}
    (hc : w.cells? 0 ⟨b, o, none⟩ 20 = some cs) (h : DataW.trod enc Tryz.prog w 0 spare held fuel 97 cs = some x) (hsz : ∀ n, n ∈ x.1.weights Tryz.prog 97 → n ≤ 140737488351232) : StepAt w b o := by
  obtain ⟨_, hlen, hcell⟩ := World.cells?_some hc
  obtain ⟨xs, n, rfl, rfl, _, hxl, hf⟩ := DataW.trod_struct Tryz.underlying97 h
  have hget : ∀ i, i < 9 → ∃ y, xs[i]? = some y := fun i hi => ⟨xs[i]'(by rw [hxl]; exact hi), List.getElem?_eq_getElem _⟩
  obtain ⟨y0, g0⟩ := hget 0 (by omega)
  obtain ⟨y1, g1⟩ := hget 1 (by omega)
  obtain ⟨y2, g2⟩ := hget 2 (by omega)
  obtain ⟨y3, g3⟩ := hget 3 (by omega)
  obtain ⟨y4, g4⟩ := hget 4 (by omega)
  obtain ⟨y5, g5⟩ := hget 5 (by omega)
  have f0 : DataW.trod enc Tryz.prog w 0 spare held n 3 ((cs.drop 0).take (Tryz.prog.cellsOf 3)) = some y0 := (hf 0 _ rfl).trans g0
  rw [Tryz.cellsInt] at f0
  have f1 : DataW.trod enc Tryz.prog w 0 spare held n 3 ((cs.drop 1).take (Tryz.prog.cellsOf 3)) = some y1 := (hf 1 _ rfl).trans g1
  rw [Tryz.cellsInt] at f1
  have f2 : DataW.trod enc Tryz.prog w 0 spare held n 3 ((cs.drop 2).take (Tryz.prog.cellsOf 3)) = some y2 := (hf 2 _ rfl).trans g2
  rw [Tryz.cellsInt] at f2
  have f3 : DataW.trod enc Tryz.prog w 0 spare held n 3 ((cs.drop 3).take (Tryz.prog.cellsOf 3)) = some y3 := (hf 3 _ rfl).trans g3
  rw [Tryz.cellsInt] at f3
  have f4 : DataW.trod enc Tryz.prog w 0 spare held n 3 ((cs.drop 4).take (Tryz.prog.cellsOf 3)) = some y4 := (hf 4 _ rfl).trans g4
  rw [Tryz.cellsInt] at f4
  have f5 : DataW.trod enc Tryz.prog w 0 spare held n 9 ((cs.drop 5).take (Tryz.prog.cellsOf 9)) = some y5 := (hf 5 _ rfl).trans g5
  rw [Tryz.cellsStr] at f5
  obtain ⟨k, e0, _, w0⟩ := DataW.trod_int Tryz.underlying3 f0
  obtain ⟨D, e1, _, w1⟩ := DataW.trod_int Tryz.underlying3 f1
  obtain ⟨A, e2, _, w2⟩ := DataW.trod_int Tryz.underlying3 f2
  obtain ⟨Bv, e3, _, w3⟩ := DataW.trod_int Tryz.underlying3 f3
  obtain ⟨C, e4, _, w4⟩ := DataW.trod_int Tryz.underlying3 f4
  obtain ⟨S, e5, z5, _⟩ := DataW.trod_string Tryz.underlying9 f5
  clear f0 f1 f2 f3 f4 f5 hf
  match cs, hlen with
  | [c0, c1, c2, c3, c4, c5, c6, c7, c8, c9, c10, c11, c12, c13, c14, c15, c16, c17, c18, c19], _ =>
    simp at e0 e1 e2 e3 e4 e5
    subst e0 e1 e2 e3 e4 e5
    refine ⟨k, D, A, Bv, C, S, c6, c7, c8, c9, c10, c11, c12, c13, c14, c15, c16, c17, c18, c19, ?_, wf_i64 w1, wf_i64 w2, ?_⟩
    · intro j v hj
      have hjl := (List.getElem?_eq_some_iff.1 hj).1
      rw [← Addr.add_mid, hcell j (by simpa using hjl)]
      exact hj
    · have := hsz S.data.toList.length (by
        simp only [DataW.weights, Tryz.underlying97]
        refine DataW.weights_mem_each (j := 5) (t := 9) (d := y5.1) rfl (by simp [g5]) _ ?_
        rw [z5]
        simp [DataW.weights])
      simpa using this

set_option maxRecDepth 100000 in
theorem devices_lifted (os : Os) (started : os.Started) (H : Type) (enc : TypeId × Value → H) :
    ReturnsInHanded {} Tryz.checked os 3 .any (fun w args => (Rows.devicesSpec.pre enc Tryz.prog Tryz.f3 [] false w args ∧ laidMetH Tryz.prog laid1 w) ∧ sizedMet enc Tryz.prog Tryz.f3 (OpenSpec.ofChange Rows.devicesSpec) false w args)
      (Rows.devicesSpec.post enc Tryz.prog Tryz.f3 false true false false) := by
  refine returnsInHanded_of_change_and (C := Tryz.checked) (X := fun w _ => laidMetH Tryz.prog laid1 w) (fun _ _ _ hh h => h.of_heap hh) Tryz.own started (by kernel_rfl) Tryz.func3
    (ChangeSpec.witness_shaped (enc := enc) (C := Tryz.checked) (os := os) (X := fun w _ => laidMetH Tryz.prog laid1 w) false (World.doorLaid Tryz.prog 400 os) #[.slice none 0 0] 8 rfl (World.shaped_of_RefB (by kernel_rfl) (by kernel_rfl)) (by kernel_rfl) (by kernel_rfl) (by kernel_rfl) (door_met os _)) ?_
  intro W base args ds gs before hval0 hW _ hsz0 _ _
  have hsz : (DataW.weightsEach Tryz.prog (Tryz.f3.params.toList ++ Rows.devicesSpec.plain.varTypes Tryz.prog) (ds ++ gs)).all (· ≤ reachBytes) = true := hsz0
  clear hsz0
  have hval : ∀ (j : Nat) t v, Tryz.f3.params[j]? = some t → args[j]? = some v → Value.okWide Tryz.prog W .any base t v := hval0
  have hW' := hW
  obtain ⟨p, q, hA0, hV, rfl, _, _⟩ := hW
  have hA : DataW.TrodAll enc Tryz.prog W 0 (fun _ => true) true Tryz.f3.params.toList args.toList ds p := hA0
  rw [Tryz.params3] at hA hval hsz
  obtain ⟨v0, d0, rfl, rfl, h0⟩ := trodAll_one hA
  obtain ⟨rfl, rfl⟩ := trodVars_none hV
  obtain ⟨a0, len, cap, rfl⟩ := okWide_slice Tryz.underlying22 (hval 0 22 v0 rfl rfl)
  have h0k := h0
  obtain ⟨fuel, hf⟩ := h0
  clear hA0 hval0
  simp only [List.append_nil] at hW'
  have hlt : ∀ x ∈ p, x.block < W.heap.size := fun x hx => by simpa using hW'.lt x hx
  have hargs : ∀ (W' : World), Below W.heap.size W W' → DataW.Trod enc Tryz.prog W' 0 (fun b => decide (b < W.heap.size)) true 22 (.slice a0 len cap) d0 p :=
    fun W' hn => Below.trod Tryz.laidOut (by kernel_rfl) (of_decide_eq_true (by kernel_rfl)) h0k hn hlt
  have fin : ∀ e W', (e = Ending.returned (.bool true) ∧ Below W.heap.size W W') → ∃ v, e = Ending.returned v ∧ Rows.devicesSpec.post enc Tryz.checked.prog Tryz.f3 false true false false W #[.slice a0 len cap] v W' := by
    rintro e W' ⟨rfl, hnx⟩
    exact ⟨_, rfl, _, _, _, [], p, [], hW', trodAll_mk1 (shut_bool Tryz.underlying4 true), trodAll_mk1 (hargs _ hnx), rfl, hnx.frame _, fun h => by cases h⟩
  by_cases hl0 : len = 0
  · subst hl0
    exact (devices_nil W a0 cap).mono fin
  · rcases open_slice Tryz.underlying22 hf with ⟨hcs, _⟩ | ⟨a, len', cap', m, n, D, Pl, hcs, _, hl, hm, hmm, hx, hel⟩
    · simp [Value.cells] at hcs
      omega
    · simp [Value.cells] at hcs
      obtain ⟨rfl, rfl, rfl⟩ := hcs
      simp only [if_true] at hmm
      subst hmm
      simp only [Prod.mk.injEq] at hx
      obtain ⟨hd0, hp0⟩ := hx
      rw [Tryz.cellsOp] at hel
      obtain ⟨b, off, spot⟩ := a
      have hspot : spot = none := by
        obtain ⟨cs', h1, _⟩ := hel 0 (by omega)
        obtain ⟨_, hlen', hcell⟩ := World.cells?_some h1
        have h2 := hcell 0 (by omega)
        rw [List.getElem?_eq_getElem (by omega)] at h2
        simpa [Addr.add] using World.cell?_spot h2
      subst hspot
      have hreach : m * 184 ≤ 140737488351232 := by
        have := sized_slice hsz (j := 0) (t := 22) (e := 97) rfl (by rw [hd0]; rfl) Tryz.underlying22
        rw [Tryz.bytesOp] at this
        simp only [List.length_map, List.length_range, reachBytes] at this
        omega
      have hbW : b < W.heap.size := hlt (.cell b off) (by
        rw [hp0, Tryz.cellsOp]
        exact List.mem_append_left _ (MemPlace.mem_row.2 ⟨0, by omega, by simp⟩))
      refine (devices_any W b off len m hbW (by omega) (fun i hi => ?_)).mono fin
      obtain ⟨cs', h1, h2⟩ := hel i (by omega)
      rw [Addr.add_mid] at h1
      refine step_of_elem h1 h2 (fun k hk => ?_)
      have := List.all_eq_true.1 hsz k (DataW.weights_mem_each (j := 0) (t := 22) (d := d0) rfl rfl k (by
        rw [hd0]
        simp only [DataW.weights, Tryz.underlying22, List.mem_cons, List.mem_append]
        exact .inr (.inl (weightsAll_mem (List.mem_map.2 ⟨i, List.mem_range.2 hi, rfl⟩) hk))))
      exact of_decide_eq_true this

theorem devices_holds : Rows.DevicesSaid :=
  OpenClaim.holds_of_wide 3 Tryz.f3 rfl rfl rfl rfl rfl rfl rfl ⟨rfl, rfl, rfl, rfl, rfl⟩ rfl rfl rfl rfl rfl (by kernel_rfl) Tryz.func3 (by kernel_rfl)
    (of_decide_eq_true (by kernel_rfl)) (by unfold Func.isWrapper; first | (rw [if_pos (by decide +kernel)]; kernel_rfl) | (rw [if_neg (by decide +kernel)]; exact ⟨rfl, rfl⟩))
    (fun os started H enc _ => devices_lifted os started H enc)

end Go.Proofs.YtifapongohmemaaGreatDoor
