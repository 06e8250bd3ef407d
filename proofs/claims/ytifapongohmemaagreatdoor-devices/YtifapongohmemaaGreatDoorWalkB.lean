/- Sync, Safe, Read, Fuse of both devices; NewDevice. -/
import Derived.Test.YtifapongohmemaaGreatDoorWalkA
import Derived.Test.YtifapongohmemaaGreatDoorRowLaws
namespace Go.Proofs.YtifapongohmemaaGreatDoor
open Go.RowKit

set_option maxHeartbeats 400000 in
theorem sync_x (w : World) (b : Nat) (q : Int) (B : ByteArray) (s : Nat) (f : Int) (d : Bool) (rb : Option Nat) (h : XD w b q B s f d rb) (hlo : -9223372036854775808 ≤ f) (hhi : f ≤ 9223372036854775807) :
    Calls Tryz.prog 31 #[P64 b] w fun e w' => e = .returned (.int .i64 (bE f d)) ∧ Fr [b] w w' ∧ XD w' b q B (bS f d s B.size) (bF f d) (bD f d) rb := by
  obtain ⟨v, n7, h1, h2⟩ := h
  obtain ⟨a, cap, rfl, hc1, hc2⟩ := h2.len
  have hne := h2.rowNe h1 (by decide)
  have R : Hid (Row w _ rb B) := h2
  have N : Hid (∀ g, rb = some g → g ≠ b) := hne
  obtain ⟨⟨c0, c1, c2, c3, c4⟩, f1, f2, f3, f4⟩ := seven h1
  have H : Hid (w.heap[b]? = _) := h1
  clear h1 h2 hne
  cases d with
  | true =>
    go_enter Tryz.func31, Tryz.ntmps31
    go_wp2_with (go_at_call 51; refine (isDead_any _ _ _ _ _ _ _ H.out).mono ?_; rintro e w' ⟨rfl, rfl⟩)
    go_ret
    exact ⟨rfl, Fr.refl _ _, ⟨_, _, H.out, R.out⟩⟩
  | false =>
    by_cases hf : f = 0
    · subst hf
      go_enter Tryz.func31, Tryz.ntmps31
      go_wp2_with (first
        | (go_at_call 51; refine (isDead_any _ _ _ _ _ _ _ H.out).mono ?_; rintro e w' ⟨rfl, rfl⟩)
        | (go_at_call 52; refine (burn_dead _ _ _ _ _ _ H.out).mono ?_; rintro e w' ⟨rfl, hfr, hb⟩))
      go_ret
      exact ⟨rfl, hfr, ⟨_, _, hb, R.out.fr hfr (fun g hg => by simpa using N.out g hg)⟩⟩
    · rw [bE_ok hf, bD_ok hf, bS_ok hf]
      go_enter Tryz.func31, Tryz.ntmps31
      go_wp2_with (first
        | (go_at_call 51; refine (isDead_any _ _ _ _ _ _ _ H.out).mono ?_; rintro e w' ⟨rfl, rfl⟩)
        | (go_at_call 52; refine (burn_ok _ _ _ _ _ _ _ H.out hf rfl hlo hhi).mono ?_; rintro e w' ⟨rfl, hfr, n8, hb⟩; obtain ⟨⟨d0, d1, d2, d3, d4⟩, g1, g2, g3, g4⟩ := seven hb; have Hb : Hid (w'.heap[b]? = _) := hb; clear hb c0 c1 c2 c3 c4 f1 f2 f3 f4))
      go_ret
      exact ⟨rfl, hfr.setCell (by simp) _, ⟨_, _, setFive 2 _ Hb.out, (R.out.fr hfr (fun g hg => by simpa using N.out g hg)).fr ((Fr.refl [b] _).setCell (by simp) _) (fun g hg => by simpa using N.out g hg)⟩⟩

set_option maxHeartbeats 400000 in
theorem sync_y (w : World) (b : Nat) (q : Int) (B : ByteArray) (s : Nat) (f : Int) (d : Bool) (h : YD w b q B s f d) (hlo : -9223372036854775808 ≤ f) (hhi : f ≤ 9223372036854775807) :
    Calls Tryz.prog 82 #[P64 b] w fun e w' => e = .returned (.int .i64 (bE f d)) ∧ Fr [b] w w' ∧ YD w' b q B (bS f d s B.size) (bF f d) (bD f d) := by
  have h1 := h
  unfold YD at h1
  obtain ⟨⟨c0, c1, c2, c3, c4⟩, f1, f2, f3, f4⟩ := five h1
  have H : Hid (w.heap[b]? = _) := h1
  clear h1 h
  cases d with
  | true =>
    go_enter Tryz.func82, Tryz.ntmps82
    go_wp2_with fail
    go_ret
    exact ⟨rfl, Fr.refl _ _, H.out⟩
  | false =>
    by_cases hf : f = 0
    · subst hf
      go_enter Tryz.func82, Tryz.ntmps82
      go_wp2_with (go_at_call 113; refine (burnt_dead _ _ _ _ _ _ H.out).mono ?_; rintro e w' ⟨rfl, hfr, hb⟩)
      go_ret
      exact ⟨rfl, hfr, hb⟩
    · rw [bE_ok hf, bD_ok hf, bS_ok hf]
      go_enter Tryz.func82, Tryz.ntmps82
      go_wp2_with (go_at_call 113; refine (burnt_ok _ _ _ _ _ _ _ H.out hf rfl hlo hhi).mono ?_; rintro e w' ⟨rfl, hfr, hb⟩; obtain ⟨⟨d0, d1, d2, d3, d4⟩, g1, g2, g3, g4⟩ := five hb; have Hb : Hid (w'.heap[b]? = _) := hb; clear hb c0 c1 c2 c3 c4 f1 f2 f3 f4)
      go_ret
      exact ⟨rfl, hfr.setCell (by simp) _, setFive 2 _ Hb.out⟩

def sE (d : Bool) : Int := if d then 4 else 0
def sN (d : Bool) (s : Nat) : Int := if d then 0 else s
def sB (d : Bool) (B : ByteArray) : ByteArray := if d then ⟨#[]⟩ else B

set_option maxHeartbeats 400000 in
theorem safe_x (w : World) (b : Nat) (q : Int) (B : ByteArray) (s : Nat) (f : Int) (d : Bool) (rb : Option Nat) (h : XD w b q B s f d rb) :
    Calls Tryz.prog 86 #[P64 b] w fun e w' => e = .returned (.tuple #[.int .i64 (sN d s), .int .i64 (sE d)]) ∧ w = w' := by
  obtain ⟨v, n7, h1, h2⟩ := h
  obtain ⟨⟨c0, c1, c2, c3, c4⟩, f1, f2, f3, f4⟩ := seven h1
  have H : Hid (w.heap[b]? = _) := h1
  clear h1 h2
  cases d with
  | true =>
    go_enter Tryz.func86, Tryz.ntmps86
    go_wp2_with (go_at_call 51; refine (isDead_any _ _ _ _ _ _ _ H.out).mono ?_; rintro e w' ⟨rfl, rfl⟩)
    go_ret2
    exact ⟨rfl, rfl⟩
  | false =>
    go_enter Tryz.func86, Tryz.ntmps86
    go_wp2_with (go_at_call 51; refine (isDead_any _ _ _ _ _ _ _ H.out).mono ?_; rintro e w' ⟨rfl, rfl⟩)
    go_ret2
    exact ⟨rfl, rfl⟩

set_option maxHeartbeats 400000 in
theorem safe_y (w : World) (b : Nat) (q : Int) (B : ByteArray) (s : Nat) (f : Int) (d : Bool) (h : YD w b q B s f d) :
    Calls Tryz.prog 87 #[P64 b] w fun e w' => e = .returned (.tuple #[.int .i64 (sN d s), .int .i64 (sE d)]) ∧ w = w' := by
  unfold YD at h
  obtain ⟨⟨c0, c1, c2, c3, c4⟩, f1, f2, f3, f4⟩ := five h
  clear h
  cases d with
  | true =>
    go_enter Tryz.func87, Tryz.ntmps87
    go_wp2
    go_ret2
    exact ⟨rfl, rfl⟩
  | false =>
    go_enter Tryz.func87, Tryz.ntmps87
    go_wp2
    go_ret2
    exact ⟨rfl, rfl⟩

set_option maxHeartbeats 400000 in
theorem read_x (w : World) (b : Nat) (q : Int) (B : ByteArray) (s : Nat) (f : Int) (d : Bool) (rb : Option Nat) (h : XD w b q B s f d rb) :
    Calls Tryz.prog 28 #[P64 b] w fun e w' => e = .returned (.tuple #[.string (sB d B), .int .i64 (sE d)]) ∧ w = w' := by
  obtain ⟨v, n7, h1, h2⟩ := h
  have hcv := run_row_string (P := Tryz.prog) h2 99 9 Tryz.underlying99 Tryz.underlying5 Tryz.underlying9
  obtain ⟨⟨c0, c1, c2, c3, c4⟩, f1, f2, f3, f4⟩ := seven h1
  have H : Hid (w.heap[b]? = _) := h1
  clear h1 h2
  cases d with
  | true =>
    clear hcv
    go_enter Tryz.func28, Tryz.ntmps28
    go_wp2_with (go_at_call 51; refine (isDead_any _ _ _ _ _ _ _ H.out).mono ?_; rintro e w' ⟨rfl, rfl⟩)
    go_ret2
    exact ⟨rfl, rfl⟩
  | false =>
    go_enter Tryz.func28, Tryz.ntmps28
    go_wp2_with (go_at_call 51; refine (isDead_any _ _ _ _ _ _ _ H.out).mono ?_; rintro e w' ⟨rfl, rfl⟩)
    go_ret2
    exact ⟨rfl, rfl⟩

set_option maxHeartbeats 400000 in
theorem read_y (w : World) (b : Nat) (q : Int) (B : ByteArray) (s : Nat) (f : Int) (d : Bool) (h : YD w b q B s f d) :
    Calls Tryz.prog 85 #[P64 b] w fun e w' => e = .returned (.tuple #[.string (sB d B), .int .i64 (sE d)]) ∧ w = w' := by
  unfold YD at h
  obtain ⟨⟨c0, c1, c2, c3, c4⟩, f1, f2, f3, f4⟩ := five h
  clear h
  cases d with
  | true =>
    go_enter Tryz.func85, Tryz.ntmps85
    go_wp2
    go_ret2
    exact ⟨rfl, rfl⟩
  | false =>
    go_enter Tryz.func85, Tryz.ntmps85
    go_wp2
    go_ret2
    exact ⟨rfl, rfl⟩

set_option maxHeartbeats 400000 in
theorem fuse_x (w : World) (b : Nat) (q : Int) (B : ByteArray) (s : Nat) (f : Int) (d : Bool) (rb : Option Nat) (h : XD w b q B s f d rb) (n : Int) :
    Calls Tryz.prog 41 #[P64 b, .int .i64 n] w fun e w' => e = .returned (.tuple #[]) ∧ Fr [b] w w' ∧ XD w' b q B s (if d then f else n) d rb := by
  obtain ⟨v, n7, h1, h2⟩ := h
  have hne := h2.rowNe h1 (by decide)
  have R : Hid (Row w _ rb B) := h2
  have N : Hid (∀ g, rb = some g → g ≠ b) := hne
  obtain ⟨⟨c0, c1, c2, c3, c4⟩, f1, f2, f3, f4⟩ := seven h1
  have H : Hid (w.heap[b]? = _) := h1
  clear h1 h2 hne
  cases d with
  | true =>
    go_enter Tryz.func41, Tryz.ntmps41
    go_wp2_with (go_at_call 51; refine (isDead_any _ _ _ _ _ _ _ H.out).mono ?_; rintro e w' ⟨rfl, rfl⟩)
    ((try simp only [Exit.inBlock, Exit.then]); refine bodyPost_ret (results_none rfl _ _ _) rfl ?_)
    exact ⟨rfl, Fr.refl _ _, ⟨_, _, H.out, R.out⟩⟩
  | false =>
    go_enter Tryz.func41, Tryz.ntmps41
    go_wp2_with (go_at_call 51; refine (isDead_any _ _ _ _ _ _ _ H.out).mono ?_; rintro e w' ⟨rfl, rfl⟩)
    go_end0
    exact ⟨rfl, (Fr.refl _ _).setCell (by simp) _, ⟨_, _, setFive 3 _ H.out, R.out.fr ((Fr.refl [b] _).setCell (by simp) _) (fun g hg => by simpa using N.out g hg)⟩⟩

set_option maxHeartbeats 400000 in
theorem fuse_y (w : World) (b : Nat) (q : Int) (B : ByteArray) (s : Nat) (f : Int) (d : Bool) (h : YD w b q B s f d) (n : Int) :
    Calls Tryz.prog 114 #[P64 b, .int .i64 n] w fun e w' => e = .returned (.tuple #[]) ∧ Fr [b] w w' ∧ YD w' b q B s (if d then f else max n (-1)) d := by
  unfold YD at h
  obtain ⟨⟨c0, c1, c2, c3, c4⟩, f1, f2, f3, f4⟩ := five h
  have H : Hid (w.heap[b]? = _) := h
  clear h
  cases d with
  | true =>
    go_enter Tryz.func114, Tryz.ntmps114
    go_wp2
    ((try simp only [Exit.inBlock, Exit.then]); refine bodyPost_ret (results_none rfl _ _ _) rfl ?_)
    exact ⟨rfl, Fr.refl _ _, H.out⟩
  | false =>
    by_cases hn : 0 ≤ n
    · have e : max n (-1) = n := by omega
      simp only [Bool.false_eq_true, if_false]
      rw [e]
      clear e
      go_enter Tryz.func114, Tryz.ntmps114
      go_wp2
      go_end0
      exact ⟨rfl, ((Fr.refl _ _).setCell (by simp) _).setCell (by simp) _, setFive 3 _ (setFive 3 _ H.out)⟩
    · have e : max n (-1) = -1 := by omega
      simp only [Bool.false_eq_true, if_false]
      rw [e]
      clear e
      go_enter Tryz.func114, Tryz.ntmps114
      go_wp2
      go_end0
      exact ⟨rfl, (Fr.refl _ _).setCell (by simp) _, setFive 3 _ H.out⟩

end Go.Proofs.YtifapongohmemaaGreatDoor
