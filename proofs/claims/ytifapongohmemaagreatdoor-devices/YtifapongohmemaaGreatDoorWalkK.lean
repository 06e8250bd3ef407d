/- made: a device more. -/
import Derived.Test.YtifapongohmemaaGreatDoorWalkJ
namespace Go.Proofs.YtifapongohmemaaGreatDoor
open Go.RowKit

theorem Tryz.infoPD : (Tryz.prog.info? 94).map (fun i => (i.zero, i.size, i.bytes)) = some (some (.pointer none), 1, 8) := by kernel_rfl

set_option maxHeartbeats 800000 in
set_option maxRecDepth 100000 in
theorem made_bad (w : World) (pw : Nat) (q : Int) (h : q < 0 ∨ 1048576 < q) :
    Calls Tryz.prog 46 #[P64 pw, .int .i64 q] w fun e w' => e = .returned (.bool true) ∧ w = w' := by
  have H := Hid.mk h
  clear h
  go_enter Tryz.func46, Tryz.ntmps46
  go_wp2_with (first
    | (go_at_call 29; refine (new_x_bad _ _ H.out).mono ?_; rintro e w' ⟨rfl, rfl⟩)
    | (go_at_call 79; refine (new_y_bad _ _ H.out).mono ?_; rintro e w' ⟨rfl, rfl⟩)
    | (go_at_call 80; refine (num_any _ _).mono ?_; rintro e w' ⟨rfl, rfl⟩))
  go_ret
  exact ⟨rfl, rfl⟩

theorem Dv.ok.keptTy {N : Nat} {w w' : World} {S : List Nat} {y : Dv} (h : y.ok N w) (hf : Fr S w w') (hS : ∀ k, k ∈ S → ∃ c t fz, w.heap[k]? = some (.cells c t fz) ∧ t ≠ 141 ∧ t ≠ 101 ∧ t ≠ 173 ∧ t ≠ 5) : y.ok N w' := by
  have hfoot : ∀ k, k ∈ y.bx :: y.bY :: y.rb.toList → k ∉ S := by
    intro k hk hm
    obtain ⟨c, t, fz, h1, _, h3, h4, h5⟩ := hS k hm
    exact h.notFoot h1 h3 h4 h5 hk
  have hbd : y.bd ∉ S := by
    intro hm
    obtain ⟨c, t, fz, h1, h2, _⟩ := hS _ hm
    exact ne_of_type h.hd h1 (Ne.symm h2) rfl
  exact { h with hd := hf.at h.hd hbd, hx := h.hx.fr hf (hfoot _ (by simp)) (fun g hg => hfoot g (by simp [hg])), hy := h.hy.fr hf (hfoot _ (by simp)) }

theorem Fr.ofGrown {w w' : World} {row : Option Nat} (h : w.grownBy w' row) : Fr row.toList w w' :=
  ⟨h.os, h.tape, h.output, h.size, fun k hk hn => h.block k hk (fun e => hn (by simp [← e]))⟩

theorem heap_alloc2_old' {w : World} {A B : Obj} {k : Nat} {o : Obj} (h : w.heap[k]? = some o) : ((w.alloc A).alloc B).heap[k]? = some o := by
  have hk := lt_of_at h
  rw [Below.heap_alloc _ _ _ (by simp; omega), Below.heap_alloc _ _ _ hk]
  exact h

theorem made_close {N pw : Nat} {w w1 w2 w3 : World} {ds : List Dv} {q : Int} {v : Value} {g cap : Nat} (h : Inv N pw w ds) (hN : N ≤ w.heap.size) (h1 : 0 ≤ q) (h2 : q ≤ 1048576)
    (HR : w2.ownsRow N 94 1 v ds.length (ds.map fun x => P64 x.bd)) (HX : XD w2 w.heap.size q ByteArray.empty 0 (-1) false none) (HY : YD w2 w1.heap.size q ByteArray.empty 0 (-1) false)
    (HP : w2.heap[pw]? = some (.cells #[v, .slice none 0 0, .slice none 0 0] 92 (0, 0))) (HS : w1.heap.size = w.heap.size + 1 ∧ w2.heap.size = w1.heap.size + 1) (HF : Fr [] w w2)
    (hown : w3.ownsRow N 94 1 (.slice (some ⟨g, 0, none⟩) (ds.length + 1) cap) (ds.length + 1) ((ds.map fun x => P64 x.bd) ++ [P64 w2.heap.size]))
    (hg : ((w2.alloc (.cells #[P64 w.heap.size, P64 w1.heap.size, .pointer none] 141)).alloc (.cells #[P64 w2.heap.size] 94)).grownBy w3 v.ownBlock) :
    ∃ x, Inv N pw (w3.setCell ⟨pw, 0, none⟩ (.slice (some ⟨g, 0, none⟩) (ds.length + 1) cap)) (ds ++ [x]) ∧ Below N w (w3.setCell ⟨pw, 0, none⟩ (.slice (some ⟨g, 0, none⟩) (ds.length + 1) cap)) := by
  obtain ⟨v0, hp0, hr0⟩ := h.world
  have hv0 : v0 = v := by
    have := HF.at hp0 (by simp)
    rw [HP] at this
    simp at this
    exact this.symm
  subst hv0
  have hrowN : ∀ k, v0.ownBlock = some k → N ≤ k ∧ k < w2.heap.size := fun k hk => HR.lt k hk
  -- the frames
  have fG := Fr.ofGrown hg
  have fA : Fr (pw :: v0.ownBlock.toList) w2 w3 := (((Fr.refl (pw :: v0.ownBlock.toList) w2).alloc _).alloc _).trans (fG.mono (by simp +contextual))
  have fB : Fr (pw :: v0.ownBlock.toList) w2 (w3.setCell ⟨pw, 0, none⟩ (.slice (some ⟨g, 0, none⟩) (ds.length + 1) cap)) := fA.setCell (by simp) _
  have fC : Fr (pw :: v0.ownBlock.toList) w (w3.setCell ⟨pw, 0, none⟩ (.slice (some ⟨g, 0, none⟩) (ds.length + 1) cap)) := (HF.mono (by simp)).trans fB
  have tyOf : ∀ W : World, W.heap[pw]? = some (.cells #[v0, .slice none 0 0, .slice none 0 0] 92 (0, 0)) → W.ownsRow N 94 1 v0 ds.length (ds.map fun x => P64 x.bd) →
      ∀ k, k ∈ pw :: v0.ownBlock.toList → ∃ c t fz, W.heap[k]? = some (.cells c t fz) ∧ t ≠ 141 ∧ t ≠ 101 ∧ t ≠ 173 ∧ t ≠ 5 := by
    intro W hW hR k hk
    simp only [List.mem_cons, Option.mem_toList] at hk
    rcases hk with rfl | hk
    · exact ⟨_, _, _, hW, by decide, by decide, by decide, by decide⟩
    · obtain ⟨c, hc⟩ := ownsRow_at hR hk
      exact ⟨_, _, _, hc, by decide, by decide, by decide, by decide⟩
  have ty0 := tyOf w hp0 hr0
  have ty2 := tyOf w2 HP HR
  have hlt2 : ∀ k, k ∈ pw :: v0.ownBlock.toList → k < w2.heap.size := fun k hk => by obtain ⟨_, _, _, h3, _⟩ := ty2 k hk; exact lt_of_at h3
  refine ⟨⟨w2.heap.size, w.heap.size, w1.heap.size, none, q, ByteArray.empty, 0, -1, false⟩, ⟨h.np, ?_, ?_, ?_⟩, ?_⟩
  · refine ⟨_, setFive 0 _ (fG.at (heap_alloc2_old' HP) ?_), ?_⟩
    · intro hm
      simp only [Option.mem_toList] at hm
      obtain ⟨c, hc⟩ := ownsRow_at HR hm
      exact ne_of_type HP hc (by decide) rfl
    · simp only [List.length_append, List.length_singleton, List.map_append, List.map_cons, List.map_nil]
      have fS : Fr [pw] w3 (w3.setCell ⟨pw, 0, none⟩ (.slice (some ⟨g, 0, none⟩) (ds.length + 1) cap)) := (Fr.refl _ _).setCell (by simp) _
      refine fS.ownsRow hown (fun k hk => ?_)
      obtain ⟨c, hc⟩ := ownsRow_at hown hk
      have hpw3 := fG.at (heap_alloc2_old' HP) (fun hm => by
        simp only [Option.mem_toList] at hm
        obtain ⟨c, hc⟩ := ownsRow_at HR hm
        exact ne_of_type HP hc (by decide) rfl)
      rw [List.mem_singleton]
      exact ne_of_type hc hpw3 (by decide)
  · intro y hy
    rcases List.mem_append.1 hy with hy | hy
    · exact (h.each y hy).keptTy fC ty0
    · rw [List.mem_singleton] at hy
      subst hy
      have e1 : w2.heap.size ∉ pw :: v0.ownBlock.toList := fun hm => by have := hlt2 _ hm; omega
      have e2 : w.heap.size ∉ pw :: v0.ownBlock.toList := fun hm => by
        obtain ⟨c, t, fz, h3, _, h4, _⟩ := ty2 _ hm
        obtain ⟨vx, n7, h5, _⟩ := HX
        exact ne_of_type h5 h3 (Ne.symm h4) rfl
      have e3 : w1.heap.size ∉ pw :: v0.ownBlock.toList := fun hm => by
        obtain ⟨c, t, fz, h3, _, _, h4, _⟩ := ty2 _ hm
        exact ne_of_type HY h3 (Ne.symm h4) rfl
      refine { nd := ?_, nx := hN, ny := ?_, nr := by simp, hd := ?_, hx := HX.fr fB e2 (by simp), hy := HY.fr fB e3, q0 := h1, q1 := h2, hB := by simp; exact h1, hs := by simp, f0 := by simp, f1 := by simp }
      · show N ≤ w2.heap.size
        omega
      · show N ≤ w1.heap.size
        omega
      · have := fG.at (heap_alloc2_old w2 _ _) (fun hm => e1 (by simp only [List.mem_cons]; exact .inr hm))
        have fS : Fr [pw] w3 (w3.setCell ⟨pw, 0, none⟩ (.slice (some ⟨g, 0, none⟩) (ds.length + 1) cap)) := (Fr.refl _ _).setCell (by simp) _
        exact fS.at this (fun hm => e1 (by simp only [List.mem_singleton] at hm; simp [hm]))
  · refine List.pairwise_append.2 ⟨h.apart, by simp, fun y hy z hz => ?_⟩
    rw [List.mem_singleton] at hz
    subst hz
    have hy1 := (h.each y hy).lt y.bx (by simp)
    have hy2 := (h.each y hy).lt y.bY (by simp)
    exact ⟨by show y.bx ≠ w.heap.size; omega, by show y.bY ≠ w1.heap.size; omega, fun g _ => by simp⟩
  · refine fC.below hN (fun k hk => ?_)
    simp only [List.mem_cons, Option.mem_toList] at hk
    rcases hk with rfl | hk
    · exact h.np
    · exact (hrowN k hk).1

set_option maxHeartbeats 800000 in
set_option maxRecDepth 100000 in
theorem made_ok (N pw : Nat) (w : World) (ds : List Dv) (h : Inv N pw w ds) (hN : N ≤ w.heap.size) (hlen : (ds.length + 1) * 8 ≤ 140737488355328) (q : Int) (h1 : 0 ≤ q) (h2 : q ≤ 1048576) :
    Calls Tryz.prog 46 #[P64 pw, .int .i64 q] w fun e w' => e = .returned (.bool true) ∧ ∃ x, Inv N pw w' (ds ++ [x]) ∧ Below N w w' := by
  have HI := Hid.mk h
  obtain ⟨i0, hi, hz0, hz1, hz2⟩ := info_parts Tryz.infoPD
  have HZ : Hid (Tryz.prog.info? 94 = some i0 ∧ i0.zero = _ ∧ i0.size = _ ∧ i0.bytes = _) := ⟨hi, hz0, hz1, hz2⟩
  clear hi hz0 hz1 hz2
  obtain ⟨v, hp, hrow⟩ := h.world
  clear h
  go_enter Tryz.func46, Tryz.ntmps46
  go_wp2_with fail
  refine (new_x _ _ h1 h2).mono ?_
  rintro e w1 ⟨rfl, hf1, hs1, hx1⟩
  go_wp2_with fail
  refine (new_y _ _ h1 h2).mono ?_
  rintro e w2 ⟨rfl, hf2, hs2, hy2⟩
  have hp2 := hf2.at (hf1.at hp (by simp)) (by simp)
  have HR := Hid.mk (hf2.ownsRow (hf1.ownsRow hrow (by simp)) (by simp))
  obtain ⟨c0, c1, c2, fz0⟩ := three hp2
  have hpl := lt_of_at hp2
  have HX := Hid.mk (hx1.fr hf2 (by simp) (by simp))
  have HY := Hid.mk hy2
  have HP := Hid.mk hp2
  have HS : Hid (w1.heap.size = w.heap.size + 1 ∧ w2.heap.size = w1.heap.size + 1) := ⟨hs1, hs2⟩
  have HF := Hid.mk (hf1.trans hf2)
  clear hp hrow hf1 hf2 hx1 hy2 hp2 hs1 hs2
  go_wp2_with (first
    | (go_at_call 80; refine (num_any _ _).mono ?_; rintro e w' ⟨rfl, rfl⟩)
    | (at_builtin; refine wpList_append_own _ rfl (.tmp 37) (.tmp 42) 89 rfl N 94 i0 (.pointer none) 1 8 Tryz.underlying89 HZ.out.1 HZ.out.2.1 HZ.out.2.2.1 HZ.out.2.2.2 rfl (by decide) v ds.length (ds.map fun x => P64 x.bd) rfl ((HR.out.alloc _).alloc _) ⟨w2.heap.size + 1, 0, none⟩ 1 1 [P64 w2.heap.size] rfl rfl ?c1 ?c2 ?c3 ?c4 ?c5 ?_))
  case c1 => intro j u hj; match j, hj with | 0, hj => simp at hj; subst hj; simp [Addr.add]
  case c2 => intro u hu; simp at hu; subst hu; rfl
  case c3 => unfold maxLen; omega
  case c4 => exact hlen
  case c5 => have := HS.out; simp; omega
  · intro v' w3 hown hgrow hnil
    obtain ⟨g, cap, hv⟩ : ∃ g cap, v' = .slice (some ⟨g, 0, none⟩) (ds.length + 1) cap := by
      rcases hown.2 with ⟨e, _⟩ | ⟨g, cap, cur, e, _⟩
      · exact absurd e hnil
      · exact ⟨g, cap, e⟩
    clear hnil
    rw [hv] at hown ⊢
    clear hv
    have hclose := made_close HI.out hN h1 h2 HR.out HX.out HY.out HP.out HS.out HF.out hown hgrow
    have HC := Hid.mk hclose
    have fG := Fr.ofGrown hgrow
    have hp3 := fG.at (heap_alloc2_old' HP.out) (fun hm => by
      simp only [Option.mem_toList] at hm
      obtain ⟨c, hc⟩ := ownsRow_at HR.out hm
      exact ne_of_type HP.out hc (by decide) rfl)
    obtain ⟨d0, d1, d2, fz3⟩ := three hp3
    clear hclose fG hp3 hown hgrow c0 c1 c2 fz0 hpl
    go_wp2_with fail
    go_ret
    exact ⟨rfl, HC.out⟩

end Go.Proofs.YtifapongohmemaaGreatDoor
