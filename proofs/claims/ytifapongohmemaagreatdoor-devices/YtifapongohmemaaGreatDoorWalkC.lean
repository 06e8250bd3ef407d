/- Append of both devices. -/
import Derived.Test.YtifapongohmemaaGreatDoorWalkB
namespace Go.Proofs.YtifapongohmemaaGreatDoor
open Go.RowKit

theorem Tryz.infoU8 : (Tryz.prog.info? 5).map (fun i => (i.zero, i.size, i.bytes)) = some (some (.int .u8 0), 1, 1) := by kernel_rfl

/-- Append: would there be more bytes than the quota? -/
def over (q : Int) (B S : ByteArray) : Bool := decide (q < (B.size : Int) + S.size)
def aE (o : Bool) (f : Int) (d : Bool) : Int := if d then 4 else if o then 3 else bE f d
def aB (o : Bool) (f : Int) (d : Bool) (B C : ByteArray) : ByteArray := if d || o || f == 0 then B else C
def aF (o : Bool) (f : Int) (d : Bool) : Int := if o then f else bF f d
def aD (o : Bool) (f : Int) (d : Bool) : Bool := if o then d else bD f d
def aS (o : Bool) (f : Int) (d : Bool) (s n : Nat) : Nat := if d || o || f == 0 then s else n

/-- What a change leaves of the program's device. -/
def XPost (w w' : World) (b : Nat) (q : Int) (B : ByteArray) (s : Nat) (f : Int) (d : Bool) (rb : Option Nat) : Prop :=
  Fr (b :: rb.toList) w w' ∧ ∃ rb', XD w' b q B s f d rb' ∧ (rb' = rb ∨ ∃ g, rb' = some g ∧ w.heap.size ≤ g)

theorem XPost.same {w w' : World} {b : Nat} {q : Int} {B : ByteArray} {s : Nat} {f : Int} {d : Bool} {rb : Option Nat} (h : Fr [b] w w') (k : XD w' b q B s f d rb) : XPost w w' b q B s f d rb :=
  ⟨h.mono (by simp), rb, k, .inl rfl⟩

theorem Row.drewN {w : World} {v : Value} {rb : Option Nat} {B : ByteArray} (h : Row w v rb B) (n : Nat) : Row (w.drewN n) v rb B := h

set_option maxHeartbeats 800000 in
set_option maxRecDepth 100000 in
theorem append_x (w : World) (b : Nat) (q : Int) (B : ByteArray) (s : Nat) (f : Int) (d : Bool) (rb : Option Nat) (h : XD w b q B s f d rb) (hlo : -9223372036854775808 ≤ f) (hhi : f ≤ 9223372036854775807)
    (hq0 : 0 ≤ q) (hq : q ≤ 1048576) (hB : (B.size : Int) ≤ q) (S : ByteArray) (hS : S.size ≤ 140737488351232) :
    Calls Tryz.prog 30 #[P64 b, .string S] w fun e w' => e = .returned (.int .i64 (aE (over q B S) f d)) ∧
      XPost w w' b q (aB (over q B S) f d B (B ++ S)) s (aF (over q B S) f d) (aD (over q B S) f d) rb := by
  obtain ⟨v, n7, h1, h2⟩ := h
  obtain ⟨i0, hi, hz0, hz1, hz2⟩ := info_parts Tryz.infoU8
  obtain ⟨a, cap, rfl, hc1, hc2⟩ := h2.len
  have hne := h2.rowNe h1 (by decide)
  have R : Hid (Row w _ rb B) := h2
  have N : Hid (∀ g, rb = some g → g ≠ b) := hne
  have HI : Hid (Tryz.prog.info? 5 = some i0) := hi
  have HZ : Hid (i0.zero = _ ∧ i0.size = _ ∧ i0.bytes = _) := ⟨hz0, hz1, hz2⟩
  obtain ⟨⟨c0, c1, c2, c3, c4⟩, f1, f2, f3, f4⟩ := seven h1
  have H : Hid (w.heap[b]? = _) := h1
  have hlt := lt_of_at h1
  clear h1 h2 hne hi hz0 hz1 hz2
  cases d with
  | true =>
    have e0 : aF (over q B S) f true = f := by unfold aF; split <;> rfl
    have e1 : aD (over q B S) f true = true := by unfold aD; split <;> rfl
    rw [e0, e1]
    clear e0 e1
    go_enter Tryz.func30, Tryz.ntmps30
    go_wp2_with (go_at_call 51; refine (isDead_any _ _ _ _ _ _ _ H.out).mono ?_; rintro e w' ⟨rfl, rfl⟩)
    go_ret
    exact ⟨rfl, .same (Fr.refl _ _) ⟨_, _, H.out, R.out⟩⟩
  | false =>
    by_cases ho : q < (B.size : Int) + S.size
    · have e : over q B S = true := by simp [over, ho]
      rw [e]
      clear e
      go_enter Tryz.func30, Tryz.ntmps30
      go_wp2_with (go_at_call 51; refine (isDead_any _ _ _ _ _ _ _ H.out).mono ?_; rintro e w' ⟨rfl, rfl⟩)
      go_quiet (fail)
      have ht : (q - (B.size : Int) < S.size) := by omega
      go_wp2_with fail
      go_ret
      exact ⟨rfl, .same ((Fr.refl _ _).drewN _) ⟨_, _, H.out, R.out⟩⟩
    · have e : over q B S = false := by simp only [over, ho, decide_false]
      rw [e]
      clear e
      by_cases hf : f = 0
      · subst hf
        go_enter Tryz.func30, Tryz.ntmps30
        go_wp2_with (go_at_call 51; refine (isDead_any _ _ _ _ _ _ _ H.out).mono ?_; rintro e w' ⟨rfl, rfl⟩)
        go_quiet (fail)
        have ht : ¬ (q - (B.size : Int) < S.size) := by omega
        go_wp2_with (go_at_call 52; refine (burn_dead _ _ _ _ _ _ (by exact H.out)).mono ?_; rintro e w' ⟨rfl, hfr, hb⟩)
        go_ret
        exact ⟨rfl, .same hfr.ofDrewN ⟨_, _, hb, R.out.fr hfr.ofDrewN (fun g hg => by simpa using N.out g hg)⟩⟩
      · have e0 : aE false f false = 0 := bE_ok hf
        have e1 : aB false f false B (B ++ S) = B ++ S := by simp [aB, hf]
        have e2 : aF false f false = bF f false := rfl
        have e3 : aD false f false = false := bD_ok hf
        rw [e0, e1, e2, e3]
        clear e0 e1 e2 e3
        go_enter Tryz.func30, Tryz.ntmps30
        go_wp2_with (go_at_call 51; refine (isDead_any _ _ _ _ _ _ _ H.out).mono ?_; rintro e w' ⟨rfl, rfl⟩)
        go_quiet (fail)
        have ht : ¬ (q - (B.size : Int) < S.size) := by omega
        go_wp2_with fail
        refine (burn_ok _ _ _ _ _ _ _ (by exact H.out) hf rfl hlo hhi).mono ?_
        rintro e w1 ⟨rfl, hfr, n8, hb⟩
        obtain ⟨⟨d0, d1, d2, d3, d4⟩, g1, g2, g3, g4⟩ := seven hb
        have Hb : Hid (w1.heap[b]? = _) := hb
        have Hf : Hid (Fr [b] w w1) := hfr.ofDrewN
        have R1 : Hid (Row w1 (.slice a B.size cap) rb B) := R.out.fr Hf.out (fun g hg => by simpa using N.out g hg)
        clear hb hfr
        clear c0 c1 c2 c3 c4 f1 f2 f3 f4
        go_wp2_with (at_builtin; refine wpList_row_append w1 rfl (.tmp 27) (.tmp 28) 99 9 rfl i0 Tryz.underlying99 Tryz.underlying9 HI.out HZ.out.1 HZ.out.2.1 HZ.out.2.2 (.slice a B.size cap) rb B S rfl rfl R1.out (by omega) ?_)
        intro a2 n2 cap2 rb' w2 hrow hf2 hrb
        have hnb : b ∉ rb.toList := fun hm => N.out b (by simpa using hm) rfl
        have hb2 := hf2.at Hb.out hnb
        obtain ⟨⟨k0, k1, k2, k3, k4⟩, m1, m2, m3, m4⟩ := seven hb2
        have H2 : Hid (w2.heap[b]? = _) := hb2
        have HR : Hid (Row w2 _ rb' (B ++ S)) := hrow
        clear hb2 hrow d0 d1 d2 d3 d4 g1 g2 g3 g4
        go_wp2_with fail
        go_ret
        have hf3 : Fr (b :: rb.toList) w w2 := (Hf.out.mono (by simp)).trans (hf2.mono (by simp +contextual))
        refine ⟨rfl, hf3.setCell (by simp) _, rb', ⟨_, _, setFive 1 _ H2.out, ?_⟩, ?_⟩
        · refine HR.out.fr ((Fr.refl [b] _).setCell (by simp) _) (fun g hg => ?_)
          rw [List.mem_singleton]
          exact HR.out.rowNe H2.out (by decide) g hg
        · rcases hrb with hrb | ⟨g, hg, hle⟩
          · exact .inl hrb
          · exact .inr ⟨g, hg, Nat.le_trans Hf.out.size hle⟩

end Go.Proofs.YtifapongohmemaaGreatDoor
