/- Laws on a device's row of bytes: its length, its cut, its string, what an append and a conversion make of it. -/
import Derived.Test.YtifapongohmemaaGreatDoorBase
namespace Go.Proofs.YtifapongohmemaaGreatDoor
open Go.RowKit

theorem heap_setCell_fz (w : World) (g i : Nat) (cs : Array Value) (t : TypeId) (fz : Nat × Nat) (v : Value) (hg : w.heap[g]? = some (.cells cs t fz)) :
    (w.setCell ⟨g, i, none⟩ v).heap[g]? = some (.cells (cs.setIfInBounds i v) t fz) := by
  obtain ⟨hlt, hv⟩ := Array.getElem?_eq_some_iff.1 hg
  unfold World.setCell
  rw [Array.getElem?_eq_getElem (by simpa using hlt), Array.getElem_modify]
  simp [hv]

theorem heap_setCells_row (g : Nat) (t : TypeId) (fz : Nat × Nat) : ∀ (vs : List Value) (o : Nat) (w : World) (cs : Array Value), w.heap[g]? = some (.cells cs t fz) → o + vs.length ≤ cs.size →
    ∃ cs', (w.setCells g o vs).heap[g]? = some (.cells cs' t fz) ∧ cs'.size = cs.size ∧ (∀ j, j < o → cs'[j]? = cs[j]?) ∧ ∀ j (h : j < vs.length), cs'[o + j]? = some vs[j]
  | [], o, w, cs, h, _ => ⟨cs, h, rfl, fun _ _ => rfl, fun j hj => absurd hj (by simp)⟩
  | v :: r, o, w, cs, h, hs => by
    simp only [List.length_cons] at hs
    obtain ⟨cs', h1, h2, h3, h4⟩ := heap_setCells_row g t fz r (o + 1) (w.setCell ⟨g, o, none⟩ v) _ (heap_setCell_fz w g o cs t fz v h) (by simp; omega)
    refine ⟨cs', h1, by simpa using h2, fun j hj => ?_, fun j hj => ?_⟩
    · rw [h3 j (by omega)]
      simp [show o ≠ j by omega]
    · cases j with
      | zero =>
        rw [Nat.add_zero, h3 o (by omega)]
        simp [Array.getElem?_setIfInBounds]
        omega
      | succ j =>
        have := h4 j (by simpa using hj)
        rw [show o + (j + 1) = o + 1 + j by omega, this]
        simp

theorem Fr.setCells {a : World} {S : List Nat} {g : Nat} (hg : g ∈ S ∨ a.heap.size ≤ g) : ∀ (vs : List Value) (o : Nat) (w : World), Fr S a w → Fr S a (w.setCells g o vs)
  | [], _, _, h => h
  | v :: r, o, _, h => Fr.setCells hg r (o + 1) _ (h.setCell (p := ⟨g, o, none⟩) hg v)

theorem Row.len {w : World} {v : Value} {rb : Option Nat} {B : ByteArray} (h : Row w v rb B) : ∃ a cap, v = .slice a B.size cap ∧ B.size ≤ cap ∧ cap ≤ maxLen := by
  rcases h with ⟨h1, _, h2⟩ | ⟨g, cap, cur, fz, h1, _, _, _, h2, h3, _⟩
  · exact ⟨none, 0, by rw [h1, h2], by omega, by simp [maxLen]⟩
  · exact ⟨_, cap, h1, h2, h3⟩

theorem Row.cut {w : World} {a : Option Addr} {l cap : Nat} {rb : Option Nat} {B : ByteArray} (h : Row w (.slice a l cap) rb B) (n : Nat) (hn : n ≤ B.size) : Row w (.slice a n cap) rb (B.extract 0 n) := by
  have hs : (B.extract 0 n).size = n := by simp [ByteArray.size_extract]; omega
  rcases h with ⟨h1, h2, h3⟩ | ⟨g, c, cur, fz, h1, h2, h3, h4, h5, h6, h7, h8⟩
  · simp at h1
    have : n = 0 := by omega
    subst this
    exact .inl ⟨by simp [h1], h2, hs⟩
  · simp at h1
    obtain ⟨rfl, rfl, rfl⟩ := h1
    refine .inr ⟨g, cap, cur, fz, by rw [hs], h2, h3, h4, by omega, h6, h7, fun j hj => ?_⟩
    rw [h8 j (by omega)]
    simp [ByteArray.getElem_extract]

theorem Row.rowNe {w : World} {v : Value} {rb : Option Nat} {B : ByteArray} {b : Nat} {c : Array Value} {t : TypeId} {f : Nat × Nat} (h : Row w v rb B) (hb : w.heap[b]? = some (.cells c t f)) (ht : t ≠ 5) : ∀ g, rb = some g → g ≠ b := by
  rintro g rfl
  rcases h with ⟨_, h2, _⟩ | ⟨g', c', cur, fz, h1, h2, h3, _⟩
  · cases h2
  · cases h2
    exact ne_of_type h3 hb (Ne.symm ht)

/-- The row's own string. -/
theorem run_row_string {P : Program} {w : World} {v : Value} {rb : Option Nat} {B : ByteArray} (h : Row w v rb B) (src dst : TypeId) (hs : P.underlying src = some (.slice 5)) (he : P.underlying 5 = some (.int .u8)) (hd : P.underlying dst = some .string) :
    (convert src dst v).run P w = .ok (.string B) w := by
  rcases h with ⟨rfl, _, h2⟩ | ⟨g, c, cur, fz, rfl, _, h3, _, h5, _, _, h8⟩
  · rw [run_convert_bytes_nil w src 5 hs he 0 0 dst hd]
    congr 2
    apply ByteArray.ext
    apply Array.ext
    · show 0 = B.size; omega
    · intro i h1 _; exact absurd h1 (by simp)
  · have := run_convert_bytes_back (P := P) w src dst 5 ⟨g, 0, none⟩ c B.data.toList hs he hd (fun j hj => by
      have hj' : j < B.size := by simpa using hj
      rw [Addr.add_lit, Nat.zero_add, cell_of_row w g j cur _ fz h3, h8 j hj']
      rfl)
    have hl : B.data.toList.length = B.size := by simp
    rw [hl] at this
    rw [this]

/-- append(row, s...). -/
theorem run_row_append {P : Program} {w : World} {v : Value} {rb : Option Nat} {B : ByteArray} (h : Row w v rb B) (t tx ty : TypeId) (i : TypeInfo) (ht : P.underlying t = some (.slice 5)) (hx : P.underlying tx = some .string) (hi : P.info? 5 = some i)
    (hz : i.zero = some (.int .u8 0)) (hsz : i.size = 1) (hby : i.bytes = 1) (s : ByteArray) (hb : B.size + s.size ≤ 1048576) :
    ∃ v' rb' w', (Builtin.append_ #[t, tx] ty #[v, .string s]).run P w = .ok v' w' ∧ Row w' v' rb' (B ++ s) ∧ Fr rb.toList w w' ∧ (rb' = rb ∨ ∃ g, rb' = some g ∧ w.heap.size ≤ g) := by
  have hsz' : (B ++ s).size = B.size + s.size := by simp
  have hcells : ∀ j (hj : j < (B ++ s).size), B.size ≤ j → (byteCells s)[j - B.size]? = some (.int .u8 ((B ++ s)[j].toNat : Int)) := by
    intro j hj hle
    have hj2 : j - B.size < s.size := by omega
    rw [ByteArray.getElem_append_right hle]
    unfold byteCells
    rw [List.getElem?_map]
    rw [List.getElem?_eq_getElem (by simpa using hj2)]
    rfl
  have hbl : (byteCells s).length = s.size := byteCells_length s
  -- the arm that grows
  have grow : ∀ (base : Option Addr) (sCap : Nat) (olds : List Value), olds.length = B.size → (∀ j (hj : j < B.size), olds[j]? = some (.int .u8 (B[j].toNat : Int))) →
      (Builtin.firstCells 1 B.size (.slice base B.size sCap)).run P w.drew = .ok olds.toArray w.drew → sCap < B.size + s.size →
      ∃ v' rb' w', (Builtin.append_ #[t, tx] ty #[.slice base B.size sCap, .string s]).run P w = .ok v' w' ∧ Row w' v' rb' (B ++ s) ∧ Fr rb.toList w w' ∧ (rb' = rb ∨ ∃ g, rb' = some g ∧ w.heap.size ≤ g) := by
    intro base sCap olds hol hoc hf hlt
    have hsrc : Src P i.size tx (.string s) s.size (byteCells s) w := by rw [hsz]; exact Src.ofString w hx s
    have hr := run_append_grow_src (P := P) w t tx ty 5 i (.int .u8 0) ht hi hz base B.size sCap olds (by rw [hsz]; exact hf) (.string s) s.size (byteCells s) hsrc hlt (by omega)
      (by rw [hby]; exact growslice_fits (by omega) (by omega))
    have hge := grownCap_ge w (B.size + s.size) sCap 5
    have hcm := grownCap_le_maxLen w (B.size + s.size) sCap 5 (by simp [maxLen]; omega)
    refine ⟨_, some w.heap.size, _, hr, .inr ⟨w.heap.size, grownCap w (B.size + s.size) sCap 5, _, (0, 0), by rw [hsz'], rfl, heap_alloc_new w.drew _, fun j _ => by simp, by omega, hcm, ?_, fun j hj => ?_⟩, ?_, .inr ⟨_, rfl, Nat.le_refl _⟩⟩
    · simp [size_zeroCells, hol, hbl, Value.cells]
      omega
    · rw [Array.getElem?_append_left (by simp [hol, hbl]; omega)]
      simp only [List.getElem?_toArray]
      by_cases hj2 : j < B.size
      · rw [List.getElem?_append_left (by omega), hoc j hj2, ByteArray.getElem_append_left hj2]
      · rw [List.getElem?_append_right (by omega), hol, hcells j hj (by omega)]
    · exact (Fr.refl _ _).drew.alloc _
  rcases h with ⟨rfl, rfl, h2⟩ | ⟨g, c, cur, fz, rfl, rfl, h3, h4, h5, h6, h7, h8⟩
  · by_cases hs0 : s.size = 0
    · have hsrc : Src P i.size tx (.string s) s.size (byteCells s) w := by rw [hsz]; exact Src.ofString w hx s
      refine ⟨.slice none 0 0, none, w, ?_, .inl ⟨rfl, rfl, by omega⟩, Fr.refl _ _, .inl rfl⟩
      have e : byteCells s = [] := List.eq_nil_of_length_eq_zero (by omega)
      have hc := hsrc.cells
      rw [hs0, e] at hc
      simp [Builtin.append_, run_underlying ht, run_underlying hx, sizeOf, typeInfo, hi, hs0, Builtin.lenOf, hc]
    · have := grow none 0 [] (by simp [h2]) (fun j hj => absurd hj (by omega)) (by rw [h2]; exact run_firstCells_none w.drew 1 0 0 0) (by omega)
      rw [h2] at this
      exact this
  · by_cases hroom : B.size + s.size ≤ c
    · have hsrc : Src P i.size tx (.string s) s.size (byteCells s) w := by rw [hsz]; exact Src.ofString w hx s
      have hr := run_append_room_src (P := P) w t tx ty 5 i ht hi g 0 B.size c (.string s) s.size (byteCells s) hsrc hroom
        (fun j hj => by rw [cell_of_row w g _ cur _ fz h3, hsz, Array.getElem?_eq_getElem (by omega)]; rfl)
        (fun j hj => by
          have := h4 (0 + B.size * i.size + j) (by rw [hsz]; omega)
          simp only [World.frozen?, h3]
          exact this)
      obtain ⟨cs', q1, q2, q3, q4⟩ := heap_setCells_row g 5 fz (byteCells s) (0 + B.size * i.size) w cur h3 (by rw [hsz]; omega)
      refine ⟨_, some g, _, hr, .inr ⟨g, c, cs', fz, by rw [hsz'], rfl, q1, by rw [q2]; exact h4, by omega, h6, by omega, fun j hj => ?_⟩, ?_, .inl rfl⟩
      · by_cases hj2 : j < B.size
        · rw [q3 j (by rw [hsz]; omega), h8 j hj2, ByteArray.getElem_append_left hj2]
        · have h9 := q4 (j - B.size) (by omega)
          have h10 := hcells j hj (by omega)
          rw [List.getElem?_eq_getElem (by omega)] at h10
          rw [hsz, show 0 + B.size * 1 + (j - B.size) = j by omega] at h9
          rw [h9]
          exact h10
      · exact Fr.setCells (.inl (by simp)) _ _ _ (Fr.refl _ _)
    · refine grow (some ⟨g, 0, none⟩) c (cur.toList.take B.size) (by simp; omega) (fun j hj => by
        rw [List.getElem?_take, if_pos hj]; simpa using h8 j hj) ?_ (by omega)
      have := run_firstCells_some (P := P) w.drew 1 B.size ⟨g, 0, none⟩ B.size c (cur.toList.take B.size) (by simp; omega) (fun j u hu => by
        rw [Addr.add_lit, Nat.zero_add, World.cell?_drew, cell_of_row w g j cur _ fz h3]
        rw [List.getElem?_take] at hu
        split at hu
        · simpa using hu
        · cases hu)
      exact this

theorem wp_row_append {P : Program} (w : World) {o : Oper} {a : Act} {K : Act → World → Prop} {Q : Exit → Act → World → Prop} (s x : Operand) (t tx : TypeId)
    (ho : o.op = .call { callee := .builtin .append, args := #[s, x], argTypes := #[t, tx] })
    (i : TypeInfo) (ht : P.underlying t = some (.slice 5)) (hx : P.underlying tx = some .string) (hi : P.info? 5 = some i) (hz : i.zero = some (.int .u8 0)) (hsz : i.size = 1) (hby : i.bytes = 1)
    (v : Value) (rb : Option Nat) (B S : ByteArray) (hs : a.eval s = v) (hxe : a.eval x = .string S) (h : Row w v rb B) (hb : B.size + S.size ≤ 1048576)
    (hK : ∀ a' n' c' rb' w', Row w' (.slice a' n' c') rb' (B ++ S) → Fr rb.toList w w' → (rb' = rb ∨ ∃ g, rb' = some g ∧ w.heap.size ≤ g) → K (a.put o.dst (.slice a' n' c')) w') : o.wp P a w K Q := by
  obtain ⟨v', rb', w', hr, h2, h3, h4⟩ := run_row_append (P := P) h t tx o.type i ht hx hi hz hsz hby S hb
  unfold Oper.wp execOp
  simp only [ho, resolve, invoke, builtin, Sem.run_bind, Sem.run_pure, Result.andThen_ok, List.map_toArray, List.map_cons, List.map_nil, hs, hxe, hr]
  obtain ⟨a', c', rfl, _, _⟩ := h2.len
  exact hK a' _ c' rb' w' h2 h3 h4

theorem wpList_row_append {P : Program} (w : World) {ops : Array Oper} {rest : List Oper} {o : Oper} {a : Act} {Q : Exit → Act → World → Prop} (hgd : o.guard = none) (s x : Operand) (t tx : TypeId)
    (ho : o.op = .call { callee := .builtin .append, args := #[s, x], argTypes := #[t, tx] })
    (i : TypeInfo) (ht : P.underlying t = some (.slice 5)) (hx : P.underlying tx = some .string) (hi : P.info? 5 = some i) (hz : i.zero = some (.int .u8 0)) (hsz : i.size = 1) (hby : i.bytes = 1)
    (v : Value) (rb : Option Nat) (B S : ByteArray) (hs : a.eval s = v) (hxe : a.eval x = .string S) (h : Row w v rb B) (hb : B.size + S.size ≤ 1048576)
    (hK : ∀ a' n' c' rb' w', Row w' (.slice a' n' c') rb' (B ++ S) → Fr rb.toList w w' → (rb' = rb ∨ ∃ g, rb' = some g ∧ w.heap.size ≤ g) → wpList P ops Q rest (a.put o.dst (.slice a' n' c')) w') : wpList P ops Q (o :: rest) a w :=
  wpList_plain hgd fun _ hK' => wp_row_append w s x t tx ho i ht hx hi hz hsz hby v rb B S hs hxe h hb fun a' n' c' rb' w' h2 h3 h4 => hK' _ _ (hK a' n' c' rb' w' h2 h3 h4)

/-- []byte(s). -/
theorem row_convert (w : World) (s : ByteArray) (hs : s.size ≤ 1048576) : Row (Lib.bytesWorld w 5 s) (.slice (some ⟨w.heap.size, 0, none⟩) s.size (grownCap w s.size 0 5)) (some w.heap.size) s := by
  have hge := grownCap_ge w s.size 0 5
  have hcm := grownCap_le_maxLen w s.size 0 5 (by simp [maxLen]; omega)
  have hsz : (Lib.bytesCells w 5 s).size = grownCap w s.size 0 5 := by
    simp [Lib.bytesCells]
    have : s.data.size = s.size := rfl
    omega
  refine .inr ⟨w.heap.size, _, _, _, rfl, rfl, Lib.bytesWorld_at_new w 5 s, fun j hj => ?_, hge, hcm, hsz, fun j hj => ?_⟩
  · simp; omega
  · unfold Lib.bytesCells
    have hj' : j < s.data.size := hj
    rw [Array.getElem?_append_left (by simpa using hj)]
    simp
    exact ⟨_, Array.getElem?_eq_getElem hj', rfl⟩

theorem fr_convert (S : List Nat) (w : World) (s : ByteArray) : Fr S w (Lib.bytesWorld w 5 s) :=
  ⟨rfl, rfl, rfl, by rw [Lib.bytesWorld_size]; omega, fun k hk _ => Lib.bytesWorld_at_old w 5 s k hk⟩

end Go.Proofs.YtifapongohmemaaGreatDoor
