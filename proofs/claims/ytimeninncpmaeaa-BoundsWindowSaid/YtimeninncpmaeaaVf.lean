/-
  make, literals of slices, append; a step of an operation.
-/
import Derived.Test.YtimeninncpmaeaaVe
namespace Go.Proofs.Ytimeninncpmaeaa.Abs
open Go
set_option linter.unusedVariables false
set_option linter.unusedSimpArgs false

section
variable {P : Program} {B : Nat} {E : Ent} {ρ : Rho} {lam : Nat → Nat} {s : AS} {a : Act} {w : World}

theorem zeros_length (z : List Value) (n : Nat) (hz : z.length = n) : ∀ l, (zeros z n l).length = l * n
  | 0 => by simp [zeros]
  | l + 1 => by simp [zeros, hz, zeros_length z n hz l, Nat.succ_mul]; omega
theorem zeros_get (z : List Value) (n : Nat) (hz : z.length = n) (hn : 0 < n) : ∀ l j, j < l * n → (zeros z n l)[j]? = z[j % n]?
  | 0, j, h => by simp at h
  | l + 1, j, h => by
    simp only [zeros, List.getElem?_append, hz]
    by_cases hj : j < n
    · rw [if_pos hj, Nat.mod_eq_of_lt hj]
    · rw [if_neg hj, zeros_get z n hz hn l (j - n) (by rw [Nat.succ_mul] at h; omega)]
      rw [Nat.mod_eq_sub_mod (by omega : n ≤ j)]
theorem made_eq (z : Array Value) (n l : Nat) (hz : z.size = n) (hn : 0 < n) : (Array.range (l * n)).map (z[· % z.size]!) = (zeros z.toList n l).toArray := by
  apply Array.ext
  · simp [zeros_length z.toList n (by simpa using hz)]
  · intro j h1 h2
    have hj : j < l * n := by simpa using h1
    have hm : j % n < z.size := by rw [hz]; exact Nat.mod_lt _ hn
    have := zeros_get z.toList n (by simpa using hz) hn l j hj
    have h3 : j < (zeros z.toList n l).length := by simpa using h2
    rw [List.getElem?_eq_getElem h3] at this
    simp only [Array.getElem_map, Array.getElem_range, List.getElem_toArray, hz]
    rw [getElem!_pos z (j % n) hm]
    have h4 : z.toList[j % n]? = some z[j % n] := by simp [hm]
    rw [h4] at this
    exact (Option.some.inj this).symm
theorem zeros_take (z : List Value) (n : Nat) (hz : z.length = n) : ∀ l c, l ≤ c → ∃ rest, zeros z n c = zeros z n l ++ rest
  | 0, c, _ => ⟨zeros z n c, by simp [zeros]⟩
  | l + 1, 0, h => by omega
  | l + 1, c + 1, h => by
    obtain ⟨rest, hr⟩ := zeros_take z n hz l c (by omega)
    exact ⟨rest, by simp [zeros, hr]⟩
theorem zeros_rel {z z' : List Value} {n : Nat} (hz : CRel ρ z z') : ∀ l, CRel ρ (zeros z n l) (zeros z' n l)
  | 0 => ⟨rfl, fun i v v' h => by simp [zeros] at h⟩
  | l + 1 => by
    have ih := zeros_rel (n := n) hz l
    refine ⟨by simp [zeros, hz.1, ih.1], fun i v v' h1 h2 => ?_⟩
    simp only [zeros, List.getElem?_append] at h1 h2
    rw [← hz.1] at h2
    by_cases hi : i < z.length
    · rw [if_pos hi] at h1 h2; exact hz.2 i v v' h1 h2
    · rw [if_neg hi] at h1 h2; exact ih.2 _ v v' h1 h2
theorem zeros_one {z : List Value} (n : Nat) (h : z.all (·.oneCell') = true) : ∀ l, (zeros z n l).all (·.oneCell') = true
  | 0 => rfl
  | l + 1 => by simp only [zeros, List.all_append, h, zeros_one n h l, Bool.and_self]

theorem fold_size (off : Nat) : ∀ (ls : List (Value × Nat)) (c : Array Value), (ls.foldl (fun cs (x : Value × Nat) => cs.setIfInBounds (off + x.2) x.1) c).size = c.size
  | [], c => rfl
  | x :: ls, c => by simp only [List.foldl_cons]; rw [fold_size off ls]; simp

theorem make_sound (F : FRel B E ρ lam s a w) {t : TypeId} {dst : Option Tmp} {l l' c c' : Value} {s' : AS} (hl : TRel s.l lam ρ l l') (hc : TRel s.l lam ρ c c') (h : aMake P t dst s l c = some s') :
    ∃ v' w' ρ' lam', (Instr.makeSlice t l' c').run P w = .ok v' w' ∧ FRel B E ρ' lam' s' (a.put dst v') w' := by
  unfold aMake at h
  split at h
  · rename_i kl ln kc cn
    have e1 := hl.plain_eq (n := 0) rfl
    have e2 := hc.plain_eq (n := 0) rfl
    subst e1; subst e2
    split at h
    · rename_i e hu
      split at h
      · rename_i i z hi hz
        split at h
        · rename_i hcnd
          simp only [Bool.and_eq_true, decide_eq_true_eq] at hcnd
          obtain ⟨c1, c2, c3, c4, c5, c6, c7⟩ := hcnd
          have c6' := Nat.eq_of_beq_eq_true c6
          have c7' := Nat.le_of_ble_eq_true c7
          cases h
          have hzr := CRel.of_arr (zero_rel (ρ := ρ) hz)
          have hzz : i.zero = some z := by
            have := (aZero_spec hz).1 w
            unfold zeroValue typeInfo at this
            simp only [Sem.run_bind, run_program, Result.andThen_ok, hi, Sem.run_pure] at this
            cases hq : i.zero with
            | none => rw [hq] at this; cases this
            | some zz => rw [hq] at this; cases this; rfl
          have hr := run_make (P := P) w t e i z hu hi hzz kl kc ln cn c1 c2 (by rw [Int.mul_comm]; omega) (by omega)
          have hlz : z.cells.toList.length = i.size := by simpa using c6'
          obtain ⟨rest, hrest⟩ := zeros_take z.cells.toList i.size hlz ln.toNat cn.toNat (by omega)
          have hm : madeCells z.cells (cn.toNat * i.size) = (zeros z.cells.toList i.size ln.toNat ++ rest).toArray := by
            rw [← hrest]; exact made_eq z.cells i.size cn.toNat c6' c7'
          rw [hm] at hr
          have hL := lies_new (w := w) (el := e) (zeros_rel (n := i.size) hzr ln.toNat) (zeros_one i.size c5 ln.toNat) (rest := rest) _ rfl
          obtain ⟨F1, _⟩ := F.newBlock (Same.alloc w _) (r := ⟨w.heap.size, 0, _, e⟩) (Nat.le_refl _) hL
          refine ⟨_, _, _, lam, hr, F1.put dst (.mem ?_)⟩
          have hlen : (zeros z.cells.toList i.size ln.toNat).length + rest.length = cn.toNat * i.size := by
            rw [← List.length_append, ← hrest]; exact zeros_length _ _ hlz _
          exact VRel.slice s.h.size 0 0 _ ln.toNat i.size 0 cn.toNat (upd_self _ _ _ _) (by omega) (.inr rfl) (fun _ => ⟨rfl, hlen.symm, by simp only [maxLen]; omega⟩) rfl
        · cases h
      · cases h
    · cases h
  · cases h

theorem buildSlice_sound (F : FRel B E ρ lam s a w) {t : TypeId} {len : Nat} {dst : Option Tmp} {ps ps' : Array (Nat × Value)} {s' : AS} (hs : ps.size = ps'.size)
    (hp : ∀ (i : Nat) p p', ps[i]? = some p → ps'[i]? = some p' → p.1 = p'.1 ∧ TRel s.l lam ρ p.2 p'.2) (h : aBuildSlice P t len dst ps s = some s') :
    ∃ v' w' ρ' lam', (Instr.buildSlice t len ps').run P w = .ok v' w' ∧ FRel B E ρ' lam' s' (a.put dst v') w' := by
  unfold aBuildSlice at h
  split at h
  · rename_i e hu
    split at h
    · rename_i n z hn hz
      split at h
      · rename_i hcnd
        simp only [Bool.and_eq_true] at hcnd
        obtain ⟨c1, c2, c3, c4⟩ := hcnd
        have c2' := Nat.eq_of_beq_eq_true c2
        have c3' := Nat.le_of_ble_eq_true c3
        have c4' := Nat.le_of_ble_eq_true c4
        have hlz : z.cells.toList.length = n := by simpa using c2'
        split at h
        · rename_i cells hf
          split at h
          · rename_i ho
            cases h
            have hzr := CRel.of_arr (zero_rel (ρ := ρ) hz)
            have hzs := zeros_rel (n := n) hzr len
            have hpp : ∀ (i : Nat) p p', ps.toList[i]? = some p → ps'.toList[i]? = some p' → p.1 = p'.1 ∧ VRel ρ p.2 p'.2 ∧ isTup p.2 = false := by
              intro i p p' h1 h2
              obtain ⟨k1, k2⟩ := hp i p p' (by simpa using h1) (by simpa using h2)
              rw [List.all_eq_true] at c1
              have hk := c1 p (List.mem_of_getElem? h1)
              exact ⟨k1, k2.vrel (okPart_loc hk), okPart_tup hk⟩
            obtain ⟨out', f1, f2⟩ := fill_rel (ρ := ρ) _ ps.toList ps'.toList _ _ cells (by simpa using hs) hpp (⟨by simp, fun i v v' h1 h2 => hzs.2 i v v' (by simpa using h1) (by simpa using h2)⟩ : RelA ρ (zeros z.cells.toList n len).toArray (zeros z.cells.toList n len).toArray) hf
            have hsz : cells.size = len * n := by
              have key : ∀ (qs : List (Nat × Value)) (c out : Array Value), Instr.fill (fun i => some (i * n, n)) c qs = some out → out.size = c.size := by
                intro qs
                induction qs with
                | nil => intro c out h; simp only [Instr.fill, Option.some.injEq] at h; rw [h]
                | cons q qs ih =>
                  intro c out h
                  obtain ⟨qi, qv⟩ := q
                  simp only [Instr.fill] at h
                  split at h
                  · cases h
                  · rw [ih _ _ h, fold_arr, fold_size]
              rw [key _ _ _ hf]
              simp [zeros_length _ _ hlz]
            have hrun : (Instr.buildSlice t len ps').run P w = .ok (.slice (some ⟨w.heap.size, 0, none⟩) len len) (w.alloc (.cells out' e)) := by
              have hno : ¬ (16777216 < len * n) := by omega
              by_cases h0 : len * n = 0
              · have hl0 : len = 0 := by rcases Nat.mul_eq_zero.1 h0 with h | h; exact h; omega
                subst hl0
                have f1' : Instr.fill (fun i => some (i * n, n)) (Array.map (fun x => (default : Value)) (Array.range 0)) ps'.toList = some out' := by
                  rw [show Array.map (fun x => (default : Value)) (Array.range 0) = (zeros z.cells.toList n 0).toArray by simp [zeros]]; exact f1
                simp [Instr.buildSlice, run_underlying hu, run_sizeT hn, newRow, f1']
              · have hm := made_eq z.cells n len c2' c3'
                simp only [c2'] at hm
                simp [Instr.buildSlice, run_underlying hu, run_sizeT hn, newRow, hno, h0, (aZero_spec hz).1, c2', hm, f1]
            have hcr : CRel ρ cells.toList out'.toList := CRel.of_arr f2
            have hL := lies_new (w := w) (el := e) hcr ho (rest := []) _ rfl
            simp only [List.append_nil, Array.toArray_toList] at hL
            obtain ⟨F1, _⟩ := F.newBlock (Same.alloc w _) (r := ⟨w.heap.size, 0, _, e⟩) (Nat.le_refl _) hL
            refine ⟨_, _, _, lam, hrun, F1.put dst (.mem ?_)⟩
            have hlen : out'.toList.length + ([] : List Value).length = len * n := by
              have := f2.1; simp; omega
            exact VRel.slice s.h.size 0 0 _ len n 0 len (upd_self _ _ _ _) (Nat.le_refl _) (.inr rfl) (fun _ => ⟨rfl, hlen.symm, by simp only [maxLen]; have := Nat.le_mul_of_pos_right len c3'; omega⟩) rfl
          · cases h
        · cases h
      · cases h
    · cases h
  · cases h

theorem src_sound (F : FRel B E ρ lam s a w) {n m : Nat} {y y' : Value} {news : List Value} (hy : TRel s.l lam ρ y y') (h : srcCells s n y = some (news, m)) :
    (m = 0 ∧ (∃ ad c, y' = .slice ad 0 c)) ∨ ∃ ad c news', y' = .slice (some ad) m c ∧ news.length = m * n ∧ news'.length = m * n ∧ (∀ j u, news'[j]? = some u → w.cell? (ad.add j) = some u) ∧ CRel ρ news news' ∧ news.all (·.oneCell') = true := by
  unfold srcCells at h
  split at h
  · simp only [Option.some.injEq, Prod.mk.injEq] at h
    obtain ⟨rfl, rfl⟩ := h
    cases hy with
    | mem hv => cases hv; exact .inl ⟨rfl, none, 0, rfl⟩
  · simp only [Option.some.injEq, Prod.mk.injEq] at h
    obtain ⟨rfl, rfl⟩ := h
    cases hy with
    | mem hv => cases hv with
      | slice _ _ _ r' _ _ o' cap' h1 h2 h3 h4 hg2 => exact .inl ⟨rfl, _, _, rfl⟩
      | slice0 _ _ _ _ a0 cap' h0 => exact .inl ⟨rfl, _, _, rfl⟩
  · rename_i id off g m' z hm0'
    split at h
    · rename_i blk hb
      split at h
      · rename_i hc
        simp only [Bool.and_eq_true] at hc
        have hg := Nat.eq_of_beq_eq_true hc.1
        have hfit := Nat.le_of_ble_eq_true hc.2
        subst hg
        simp only [Option.some.injEq, Prod.mk.injEq] at h
        obtain ⟨rfl, rfl⟩ := h
        obtain ⟨r, k1, k2, k3, k4⟩ := F.heap.rows id blk hb
        cases hy with
        | mem hv =>
          cases hv with
          | slice _ _ _ r' _ _ o' cap' h1 h2 h3 h4 hg2 =>
            rw [k1] at h1; cases h1
            have k2 := k2.cells hg2
            by_cases hm0 : m' = 0
            · subst hm0; exact .inl ⟨rfl, some ⟨r.b, o', none⟩, cap', rfl⟩
            · have ho : o' = r.o + off := h3.resolve_left hm0
              subst ho
              right
              have key : ∀ j, j < m' * n → ∃ v', w.cell? ((⟨r.b, r.o + off, none⟩ : Addr).add j) = some v' ∧ ∀ v, blk.cells[off + j]? = some v → VRel ρ v v' := by
                intro j hj
                have hlt : off + j < blk.cells.length := by omega
                obtain ⟨_, v', q1, q2⟩ := k2.cell (i := off + j) (v := blk.cells[off + j]) (by simp [hlt])
                refine ⟨v', by rw [add_at, Nat.add_assoc]; exact q1, fun v hv => ?_⟩
                simp [hlt] at hv
                exact hv ▸ q2
              refine ⟨_, cap', (List.range (m' * n)).map (fun j => (w.cell? ((⟨r.b, r.o + off, none⟩ : Addr).add j)).getD undef), rfl, by simp; omega, by simp, ?_, ⟨by simp; omega, ?_⟩, ?_⟩
              · intro j u hu
                rw [List.getElem?_map] at hu
                by_cases hj : j < m' * n
                · rw [List.getElem?_range hj] at hu
                  obtain ⟨v', q1, _⟩ := key j hj
                  simp only [Option.map_some, q1, Option.getD_some, Option.some.injEq] at hu
                  rw [q1, hu]
                · rw [List.getElem?_eq_none (by simp; omega)] at hu
                  cases hu
              · intro j v v' hv hv'
                rw [List.getElem?_map] at hv'
                by_cases hj : j < m' * n
                · rw [List.getElem?_range hj] at hv'
                  obtain ⟨u, q1, q2⟩ := key j hj
                  simp only [Option.map_some, q1, Option.getD_some, Option.some.injEq] at hv'
                  subst hv'
                  refine q2 v ?_
                  rw [List.getElem?_take, if_pos hj, List.getElem?_drop] at hv
                  exact hv
                · rw [List.getElem?_eq_none (by simp; omega)] at hv'
                  cases hv'
              · rw [List.all_eq_true]
                intro v hv
                have hv2 : v ∈ blk.cells := List.mem_of_mem_drop (List.mem_of_mem_take hv)
                obtain ⟨j, hj⟩ := List.mem_iff_getElem?.1 hv2
                exact (k2.cell hj).1
          | slice0 _ _ _ _ a0 cap' h0 => exact .inl ⟨rfl, _, _, rfl⟩
      · cases h
    · cases h
  · cases h
theorem zero_info {e : TypeId} {i : TypeInfo} {z : Value} (hi : P.info? e = some i) (hz : aZero P e = some z) : i.zero = some z := by
  have := (aZero_spec hz).1 (default : World)
  unfold zeroValue typeInfo at this
  simp only [Sem.run_bind, run_program, Result.andThen_ok, hi, Sem.run_pure] at this
  cases hq : i.zero with
  | none => rw [hq] at this; cases this
  | some zz => rw [hq] at this; cases this; rfl

theorem run_append_none {t ty e : TypeId} {i : TypeInfo} (hu : P.underlying t = some (.slice e)) (hi : P.info? e = some i) (b : Option Addr) (len cap : Nat) (hc : len ≤ cap) (ad : Option Addr) (c : Nat) :
    (Builtin.append_ #[t, t] ty #[.slice b len cap, .slice ad 0 c]).run P w = .ok (.slice b len cap) w := by
  cases b <;> cases ad <;> simp [Builtin.append_, run_underlying hu, sizeOf, typeInfo, hi, Builtin.lenOf, hc, Builtin.firstCells, loadCells, loadCellsFrom, storeCells]

theorem append_sound (F : FRel B E ρ lam s a w) {t ty : TypeId} {dst : Option Tmp} {x x' y y' : Value} {s' : AS} (hx : TRel s.l lam ρ x x') (hy : TRel s.l lam ρ y y') (h : aAppend P t dst s x y = some s') :
    ∃ v' w' ρ' lam', (Builtin.append_ #[t, t] ty #[x', y']).run P w = .ok v' w' ∧ FRel B E ρ' lam' s' (a.put dst v') w' := by
  unfold aAppend at h
  split at h
  · rename_i e hu
    split at h
    · rename_i i z hi hz
      have hzz := zero_info hi hz
      split at h
      · rename_i news m hc hsrc
        simp only [Bool.and_eq_true] at hc
        have hzs := Nat.eq_of_beq_eq_true hc.1
        have hsz := Nat.le_of_ble_eq_true hc.2
        have S := src_sound F hy hsrc
        split at h
        · -- nothing comes
          have hy0 : ∃ ad c, y' = .slice ad 0 c := by
            rcases S with ⟨_, hh⟩ | ⟨ad, c, _, rfl, _⟩
            · exact hh
            · exact ⟨some ad, c, rfl⟩
          obtain ⟨ad, c, rfl⟩ := hy0
          split at h
          · cases h
            have hx2 : ∃ b len cap, x' = .slice b len cap ∧ len ≤ cap := by
              cases hx with
              | mem hv => cases hv with
                | nilSlice => exact ⟨none, 0, 0, rfl, Nat.le_refl _⟩
                | slice id' off g r _ _ o' cap' h1 h2 h3 h4 hg2 => exact ⟨_, _, _, rfl, h2⟩
                | slice0 id' off g z a0 cap' h0 => exact ⟨_, _, _, rfl, Nat.zero_le _⟩
                | _ => rename_i hq; cases hq
            obtain ⟨b, len, cap, rfl, hcap⟩ := hx2
            exact ⟨_, w, ρ, lam, run_append_none hu hi b len cap hcap ad c, F.put dst hx⟩
          · cases h
        · rename_i m
          obtain ⟨ad, c, news', rfl, l1, l2, hcell, hcr, ho⟩ : ∃ ad c news', y' = .slice (some ad) (m + 1) c ∧ news.length = (m + 1) * i.size ∧ news'.length = (m + 1) * i.size ∧ (∀ j u, news'[j]? = some u → w.cell? (ad.add j) = some u) ∧ CRel ρ news news' ∧ news.all (·.oneCell') = true := by
            rcases S with ⟨h0, _⟩ | hh
            · omega
            · exact hh
          have hone := hcr.one ho
          split at h
          · -- nil
            split at h
            · rename_i hb
              simp only [Bool.and_eq_true] at hb
              have b1 := Nat.le_of_ble_eq_true hb.1
              have b2 := Nat.le_of_ble_eq_true hb.2
              cases h
              cases hx with
              | mem hv =>
                cases hv
                have hr := run_append_nil (P := P) w t ty e i z hu hi hzz ad (m + 1) c news' l2 hcell (by omega) (by omega) (by omega)
                have hge := grownCap_ge w (m + 1) 0 e
                have hcm := grownCap_le_maxLen w (m + 1) 0 e (by simp only [maxLen]; omega)
                have hw : (news'.toArray ++ Builtin.zeroCells z.cells (grownCap w (m + 1) 0 e - (m + 1))) = (news' ++ (Builtin.zeroCells z.cells (grownCap w (m + 1) 0 e - (m + 1))).toList).toArray := by simp
                rw [hw] at hr
                have hL := lies_new (w := w.drew) (el := e) hcr ho (rest := (Builtin.zeroCells z.cells (grownCap w (m + 1) 0 e - (m + 1))).toList) _ rfl
                obtain ⟨F1, _⟩ := F.newBlock ((Same.drew w).trans (Same.alloc w.drew _)) (r := ⟨w.heap.size, 0, _, e⟩) (Nat.le_refl _) hL
                refine ⟨_, _, _, lam, hr, F1.put dst (.mem ?_)⟩
                have hlen : news'.length + (Builtin.zeroCells z.cells (grownCap w (m + 1) 0 e - (m + 1))).toList.length = grownCap w (m + 1) 0 e * i.size := by
                  rw [l2, Array.length_toList, size_zeroCells, hzs, ← Nat.add_mul]; congr 1; omega
                exact VRel.slice s.h.size 0 0 _ (m + 1) i.size 0 _ (upd_self _ _ _ _) hge (.inr rfl) (fun _ => ⟨rfl, hlen.symm, hcm⟩) rfl
            · cases h
          · -- onto a slice
            rename_i id g len zz
            split at h
            · rename_i blk hblk
              split at h
              · rename_i hb
                simp only [Bool.and_eq_true, Bool.not_eq_true'] at hb
                obtain ⟨q1, q2, q3, q4, q5, q6, q7⟩ := hb
                have q1' := Nat.eq_of_beq_eq_true q1
                have q3' := Nat.eq_of_beq_eq_true q3
                have q4' := Nat.eq_of_beq_eq_true q4
                have q5' := Nat.le_of_ble_eq_true q5
                have q6' := Nat.le_of_ble_eq_true q6
                have q7' := Nat.le_of_ble_eq_true q7
                subst q1'
                cases h
                obtain ⟨r, k1, k2, k3, k4⟩ := F.heap.rows id blk hblk
                rw [q2] at k2
                have hre : r.e = e := (k4 q2).2.trans q3'
                cases hx with
                | mem hv =>
                  cases hv with
                  | slice _ _ _ r' _ _ o' cap' h1 h2 h3 h4 hg2 =>
                    rw [k1] at h1; cases h1
                    have k2 := k2.cells hg2
                    obtain ⟨d1, d2, d3⟩ := h4 rfl
                    obtain ⟨cur, el, fz, e1, e2, e3, e4⟩ := k2
                    obtain ⟨f1, f2, f3, f4⟩ := e3 rfl
                    subst f2
                    rw [f4, hre] at e1
                    rw [f1] at d1
                    subst d1
                    rw [q4'] at d2
                    have hnone : ρ id (blk.gen + 2) = none := by
                      cases hq : ρ id (blk.gen + 2) with
                      | none => rfl
                      | some rr =>
                        obtain ⟨b2, hb2, hg2⟩ := F.heap.dom _ _ _ hq
                        rw [hblk] at hb2; cases hb2; omega
                    have hlenc : cur.size = cap' * i.size := by rw [f3, d2]
                    have htk : (blk.cells.take (len * i.size)).length = len * i.size := by simp; omega
                    -- the new content, whatever row
                    have hcont : ∀ (cur2 : Array Value) (j : Nat) v, (blk.cells.take (len * i.size) ++ news)[j]? = some v → (∀ j', j' < len * i.size → cur2[j']? = cur[j']?) → (∀ j', j' < news'.length → cur2[len * i.size + j']? = news'[j']?) →
                        v.oneCell' = true ∧ ∃ v', cur2[j]? = some v' ∧ VRel ρ v v' := by
                      intro cur2 j v hv hA hB
                      rw [List.getElem?_append, htk] at hv
                      by_cases hj : j < len * i.size
                      · rw [if_pos hj, List.getElem?_take, if_pos hj] at hv
                        obtain ⟨p1, v', p2, p3⟩ := e4 j v hv
                        exact ⟨p1, v', by rw [hA j hj]; simpa [f1] using p2, p3⟩
                      · rw [if_neg hj] at hv
                        have hlt : j - len * i.size < news.length := (List.getElem?_eq_some_iff.1 hv).1
                        have hlt' : j - len * i.size < news'.length := by omega
                        refine ⟨all_one ho _ v hv, news'[j - len * i.size], ?_, hcr.2 _ _ _ hv (by simp [hlt'])⟩
                        have := hB (j - len * i.size) hlt'
                        rw [show len * i.size + (j - len * i.size) = j by omega] at this
                        rw [this]; simp [hlt']
                    have hclen : (blk.cells.take (len * i.size) ++ news).length = (len + (m + 1)) * i.size := by rw [List.length_append, htk, l1, ← Nat.add_mul]
                    by_cases hroom : len + (m + 1) ≤ cap'
                    · have hfit : len * i.size + news'.length ≤ cur.size := by rw [l2, hlenc, ← Nat.add_mul]; exact Nat.mul_le_mul_right _ hroom
                      have hr := run_append_room (P := P) w t ty e i hu hi r.b len cap' cur e1 ad (m + 1) c news' l2 hcell hone hroom hfit
                      have hL : Lies ρ (w.setRow r.b (cur.toList.take (len * i.size) ++ news' ++ cur.toList.drop (len * i.size + news'.length)).toArray) r false (blk.cells.take (len * i.size) ++ news) := by
                        have ht2 : (cur.toList.take (len * i.size)).length = len * i.size := by simp; omega
                        refine ⟨_, e, (0, 0), setRow_heap w r.b cur _ e _ e1, ?_, fun _ => ⟨f1, rfl, ?_, hre.symm⟩, fun j v hv => ?_⟩
                        · rw [hclen, f1, Nat.add_mul]; simp; omega
                        · simp; omega
                        · simp only [f1, Nat.zero_add]
                          refine hcont _ j v hv ?_ ?_
                          · intro j' hj'
                            simp only [List.getElem?_toArray, List.append_assoc]
                            rw [List.getElem?_append, ht2, if_pos hj', List.getElem?_take, if_pos hj']
                            simp
                          · intro j' hj'
                            simp only [List.getElem?_toArray, List.append_assoc]
                            rw [List.getElem?_append, ht2, if_neg (by omega), List.getElem?_append, if_pos (by omega)]
                            congr 1; omega
                      obtain ⟨F1, _⟩ := F.change hblk q2 k1 (w' := w.setRow r.b (cur.toList.take (len * i.size) ++ news' ++ cur.toList.drop (len * i.size + news'.length)).toArray) rfl rfl rfl (by simp)
                        (fun b _ hne => setRow_other w r.b b _ hne) (g := blk.gen + 2) (by omega) (r' := r) (.inl rfl) (.inl hnone) (LiesG.of hL (by omega))
                      rw [hre] at F1
                      refine ⟨_, _, _, lam, hr, F1.put dst (.mem ?_)⟩
                      have := VRel.slice (ρ := upd ρ id (blk.gen + 2) r) id 0 (blk.gen + 2) r (len + (m + 1)) i.size 0 cap' (upd_self _ _ _ _) hroom (.inr (by omega)) (fun _ => ⟨f1.symm, d2, d3⟩) (by omega)
                      exact this
                    · have holds : ∀ j v, (cur.toList.take (len * i.size))[j]? = some v → w.cell? ((⟨r.b, 0, none⟩ : Addr).add j) = some v := by
                        intro j v hv
                        rw [add_at, Nat.zero_add]
                        rw [List.getElem?_take] at hv
                        split at hv
                        · simp [World.cell?, e1]; simpa using hv
                        · cases hv
                      have holen : (cur.toList.take (len * i.size)).length = len * i.size := by
                        have := Nat.mul_le_mul_right i.size h2
                        simp; omega
                      have hr := run_append_grow (P := P) w t ty e i z hu hi hzz ⟨r.b, 0, none⟩ len cap' _ holen holds ad (m + 1) c news' l2 hcell (by omega) (by omega) (growslice_fits (by omega) (by omega))
                      have hge := grownCap_ge w (len + (m + 1)) cap' e
                      have hcm := grownCap_le_maxLen w (len + (m + 1)) cap' e (by simp only [maxLen]; omega)
                      generalize hgc : grownCap w (len + (m + 1)) cap' e = gc at *
                      have hsize : ((cur.toList.take (len * i.size)).toArray ++ news'.toArray ++ Builtin.zeroCells z.cells (gc - (len + (m + 1)))).size = gc * i.size := by
                        simp only [Array.size_append, List.size_toArray, size_zeroCells, hzs, holen, l2, ← Nat.add_mul]
                        congr 1; omega
                      generalize hnew : (cur.toList.take (len * i.size)).toArray ++ news'.toArray ++ Builtin.zeroCells z.cells (gc - (len + (m + 1))) = cur2 at *
                      have hL : Lies ρ (w.drew.alloc (.cells cur2 e)) ⟨w.heap.size, 0, gc * i.size, e⟩ false (blk.cells.take (len * i.size) ++ news) := by
                        refine ⟨cur2, e, (0, 0), heap_alloc_new w.drew _, ?_, fun _ => ⟨rfl, rfl, hsize, rfl⟩, fun j v hv => ?_⟩
                        · rw [hclen, hsize]; simp only [Nat.zero_add]; exact Nat.mul_le_mul_right _ hge
                        · simp only [Nat.zero_add]
                          refine hcont _ j v hv ?_ ?_
                          · intro j' hj'
                            rw [← hnew]
                            have : j' < (cur.toList.take (len * i.size)).length := by omega
                            rw [Array.append_assoc, Array.getElem?_append_left (by simpa using by omega)]
                            simp [List.getElem?_take, hj']
                          · intro j' hj'
                            rw [← hnew, Array.append_assoc, Array.getElem?_append_right (by simp; omega), Array.getElem?_append_left (by simp; omega)]
                            simp only [List.size_toArray, holen, List.getElem?_toArray]
                            congr 1; omega
                      have S2 : Same w (w.drew.alloc (.cells cur2 e)) := (Same.drew w).trans (Same.alloc w.drew _)
                      obtain ⟨F1, _⟩ := F.change hblk q2 k1 S2.os S2.tape S2.output ⟨S2.drawn, S2.size⟩ (fun b hb _ => S2.block b hb) (g := blk.gen + 2) (by omega) (r' := ⟨w.heap.size, 0, gc * i.size, e⟩) (.inr (Nat.le_refl _)) (.inl hnone) (LiesG.of hL (by omega))
                      refine ⟨_, _, _, lam, hr, F1.put dst (.mem ?_)⟩
                      exact VRel.slice id 0 (blk.gen + 2) _ (len + (m + 1)) i.size 0 gc (upd_self _ _ _ _) hge (.inr rfl) (fun _ => ⟨rfl, rfl, hcm⟩) (by omega)
                  | slice0 _ _ _ _ a0 cap' h0 => exact absurd rfl h0
              · cases h
            · cases h
          · cases h
      · cases h
    · cases h
  · cases h

theorem key_plain {kd : TypeDesc} {k : Value} (h : keyOk kd k = true) : plain 6 k = true := by
  unfold keyOk at h
  split at h <;> first | rfl | cases h
theorem same_key {kd : TypeDesc} {k : Value} (h : keyOk kd k = true) : plain 6 k = true ∧ ∀ e n t, P.underlying t = some kd → (Instr.checkKey e (n + 1) t k).run P w = .ok () w := by
  unfold keyOk at h
  split at h
  · exact ⟨rfl, fun e n t ht => by simp [Instr.checkKey, run_underlying ht]⟩
  · exact ⟨rfl, fun e n t ht => by simp [Instr.checkKey, run_underlying ht]⟩
  · exact ⟨rfl, fun e n t ht => by simp [Instr.checkKey, run_underlying ht]⟩
  · cases h
theorem find_sound {kd : TypeDesc} {k : Value} : ∀ {cells : List Value} {es : List MapEntry} {o : Option Value} (i : Nat), MRel ρ cells es → mFind kd k cells = some o →
    (o = none ∧ Instr.findNow kd k es i = some none) ∨ ∃ v j v', o = some v ∧ Instr.findNow kd k es i = some (some (j, v')) ∧ VRel ρ v v'
  | [], [], o, i, _, h => by
    simp only [mFind, Option.some.injEq] at h
    exact .inl ⟨h.symm, rfl⟩
  | k' :: v :: r, e :: es, o, i, H, h => by
    obtain ⟨_, h2, _, h4, h5⟩ := H
    simp only [mFind] at h
    simp only [Instr.findNow, h2]
    split at h
    · rename_i hs
      cases h
      rw [hs]
      exact .inr ⟨v, i, e.val, rfl, rfl, h4⟩
    · rename_i hs
      rw [hs]
      exact find_sound (i + 1) h5 h
    · cases h
  | [], _ :: _, _, _, H, _ => H.elim
  | [_], [], _, _, H, _ => H.elim
  | [_], _ :: _, _, _, H, _ => H.elim
  | _ :: _ :: _, [], _, _, H, _ => H.elim
theorem ba_eq {a b : ByteArray} (h : (a == b) = true) : a = b := by
  obtain ⟨x⟩ := a
  obtain ⟨y⟩ := b
  have h' : (x == y) = true := h
  rw [eq_of_beq h']
theorem ba_rfl (a : ByteArray) : (a == a) = true := by
  obtain ⟨x⟩ := a
  exact (beq_self_eq_true x : (x == x) = true)
theorem same_bits {kd : TypeDesc} {k k' : Value} (hk : keyOk kd k = true) (h : Instr.sameNow kd k k' = some true) : Instr.sameBits 10000 k' k = true := by
  unfold Instr.sameNow at h
  split at h
  · rename_i q a b
    split at h
    · rename_i hk
      subst hk
      simp at h
      subst h
      simp [Instr.sameBits]
    · cases h
  · rename_i a b
    have h := ba_eq (Option.some.inj h)
    subst h
    simp only [Instr.sameBits]
    exact ba_rfl _
  · simp at h; subst h; simp [Instr.sameBits]
  · cases h
theorem set_sound {kd : TypeDesc} {k v v' : Value} (hko : keyOk kd k = true) (hk : plain 6 k = true) (ho : v.oneCell' = true) (hv : VRel ρ v v') : ∀ {cells : List Value} {es : List MapEntry} {cells' : List Value} (i : Nat), MRel ρ cells es → mSet kd k v cells = some cells' →
    (Instr.findNow kd k es i = some none ∧ ∀ c, MRel ρ cells' (es ++ [{ key := k, val := v', born := c }])) ∨
    ∃ j u e, Instr.findNow kd k es i = some (some (i + j, u)) ∧ es[j]? = some e ∧ Instr.sameBits 10000 e.key k = true ∧ MRel ρ cells' (es.modify j fun e => { e with key := k, val := v' })
  | [], [], cells', i, _, h => by
    simp only [mSet, Option.some.injEq] at h
    subst h
    exact .inl ⟨rfl, fun c => ⟨hk, rfl, ho, hv, trivial⟩⟩
  | k' :: u :: r, e :: es, cells', i, H, h => by
    obtain ⟨h1, h2, h3, h4, h5⟩ := H
    simp only [mSet] at h
    simp only [Instr.findNow, h2]
    split at h
    · rename_i hs
      cases h
      rw [hs]
      exact .inr ⟨0, e.val, e, rfl, rfl, by rw [h2]; exact same_bits hko hs, ⟨hk, rfl, ho, hv, h5⟩⟩
    · rename_i hs
      rw [hs]
      split at h
      · rename_i r' hr
        cases h
        rcases set_sound hko hk ho hv (i + 1) h5 hr with ⟨q1, q2⟩ | ⟨j, u', e', q1, q2, q3, q4⟩
        · exact .inl ⟨q1, fun c => ⟨h1, h2, h3, h4, q2 c⟩⟩
        · refine .inr ⟨j + 1, u', e', ?_, q2, q3, ⟨h1, h2, h3, h4, q4⟩⟩
          rw [q1, show i + 1 + j = i + (j + 1) by omega]
      · cases h
    · cases h
  | [], _ :: _, _, _, H, _ => H.elim
  | [_], [], _, _, H, _ => H.elim
  | [_], _ :: _, _, _, H, _ => H.elim
  | _ :: _ :: _, [], _, _, H, _ => H.elim
theorem key_any {kt : TypeId} {kd : TypeDesc} {k : Value} (hkt : P.underlying kt = some kd) (h : keyAny P kt kd k = true) : plain 6 k = true ∧ ∀ e, (Instr.checkKey e 10000 kt k).run P w = .ok () w := by
  unfold keyAny at h
  rw [Bool.or_eq_true] at h
  rcases h with h | h
  · exact ⟨(same_key (P := P) (w := w) h).1, fun e => (same_key (P := P) (w := w) h).2 e 9999 kt hkt⟩
  · unfold aggKey at h
    split at h
    · simp only [Bool.and_eq_true] at h
      obtain ⟨h1, h2, h3⟩ := h
      refine ⟨h1, fun e => ?_⟩
      cases e with
      | true => obtain ⟨u, hu⟩ := Option.isSome_iff_exists.1 h2; exact pureRun_run hu w
      | false => obtain ⟨u, hu⟩ := Option.isSome_iff_exists.1 h3; exact pureRun_run hu w
    · cases h
theorem now_none {kd : TypeDesc} {cs : Array Value} {e : MapEntry} {es : List MapEntry} {i : Nat} : Instr.findNow kd (.agg cs) (e :: es) i = none := by
  have : ∀ v, Instr.sameNow kd (.agg cs) v = none := by
    intro v
    unfold Instr.sameNow
    split <;> first | rfl | (rename_i h; cases h)
  simp only [Instr.findNow, this]
theorem ask_sound {kt : TypeId} {k : Value} : ∀ {cells : List Value} {es : List MapEntry} {o : Option Value} (i : Nat), MRel ρ cells es → mFindA P kt k cells = some o →
    (o = none ∧ (Instr.findAsking kt k es i).run P w = .ok none w) ∨ ∃ v j v', o = some v ∧ (Instr.findAsking kt k es i).run P w = .ok (some (j, v')) w ∧ VRel ρ v v'
  | [], [], o, i, _, h => by
    simp only [mFindA, Option.some.injEq] at h
    exact .inl ⟨h.symm, rfl⟩
  | k' :: v :: r, e :: es, o, i, H, h => by
    obtain ⟨_, h2, _, h4, h5⟩ := H
    simp only [mFindA] at h
    simp only [Instr.findAsking, h2, Sem.run_bind]
    split at h
    · rename_i hs
      cases h
      rw [pureRun_run hs]
      exact .inr ⟨v, i, e.val, rfl, rfl, h4⟩
    · rename_i hs
      rw [pureRun_run hs]
      exact ask_sound (i + 1) h5 h
    · cases h
  | [], _ :: _, _, _, H, _ => H.elim
  | [_], [], _, _, H, _ => H.elim
  | [_], _ :: _, _, _, H, _ => H.elim
  | _ :: _ :: _, [], _, _, H, _ => H.elim
theorem setA_sound {kt : TypeId} {k v v' : Value} (hk : plain 6 k = true) (ho : v.oneCell' = true) (hv : VRel ρ v v') : ∀ {cells : List Value} {es : List MapEntry} {cells' : List Value} (i : Nat), MRel ρ cells es → mSetA P kt k v cells = some cells' →
    ((Instr.findAsking kt k es i).run P w = .ok none w ∧ ∀ c, MRel ρ cells' (es ++ [{ key := k, val := v', born := c }])) ∨
    ∃ j u e, (Instr.findAsking kt k es i).run P w = .ok (some (i + j, u)) w ∧ es[j]? = some e ∧ Instr.sameBits 10000 e.key k = true ∧ MRel ρ cells' (es.modify j fun e => { e with key := k, val := v' })
  | [], [], cells', i, _, h => by
    simp only [mSetA, Option.some.injEq] at h
    subst h
    exact .inl ⟨rfl, fun c => ⟨hk, rfl, ho, hv, trivial⟩⟩
  | k' :: u :: r, e :: es, cells', i, H, h => by
    obtain ⟨h1, h2, h3, h4, h5⟩ := H
    simp only [mSetA] at h
    simp only [Instr.findAsking, h2, Sem.run_bind]
    split at h
    · rename_i hs
      split at h
      · rename_i hsb
        cases h
        rw [pureRun_run hs]
        exact .inr ⟨0, e.val, e, rfl, rfl, by rw [h2]; exact hsb, ⟨hk, rfl, ho, hv, h5⟩⟩
      · cases h
    · rename_i hs
      rw [pureRun_run hs]
      split at h
      · rename_i r' hr
        cases h
        rcases setA_sound hk ho hv (i + 1) h5 hr with ⟨q1, q2⟩ | ⟨j, u', e', q1, q2, q3, q4⟩
        · exact .inl ⟨q1, fun c => ⟨h1, h2, h3, h4, q2 c⟩⟩
        · refine .inr ⟨j + 1, u', e', ?_, q2, q3, ⟨h1, h2, h3, h4, q4⟩⟩
          rw [show i + (j + 1) = i + 1 + j by omega]; exact q1
      · cases h
    · cases h
  | [], _ :: _, _, _, H, _ => H.elim
  | [_], [], _, _, H, _ => H.elim
  | [_], _ :: _, _, _, H, _ => H.elim
  | _ :: _ :: _, [], _, _, H, _ => H.elim
theorem agg_find {kt : TypeId} {kd : TypeDesc} {k : Value} {es : List MapEntry} (hkt : P.underlying kt = some kd) (h : aggKey P kt k = true) : (Instr.findKey kt k es).run P w = (Instr.findAsking kt k es 0).run P w := by
  unfold aggKey at h
  split at h
  · cases es with
    | nil => simp [Instr.findKey, run_underlying hkt, Instr.findNow, Instr.findAsking]
    | cons e es => simp [Instr.findKey, run_underlying hkt, now_none]
  · cases h
theorem findK_sound {kt : TypeId} {kd : TypeDesc} {k : Value} (hkt : P.underlying kt = some kd) {cells : List Value} {es : List MapEntry} {o : Option Value} (H : MRel ρ cells es) (h : mFindK P kt kd k cells = some o) :
    (o = none ∧ (Instr.findKey kt k es).run P w = .ok none w) ∨ ∃ v j v', o = some v ∧ (Instr.findKey kt k es).run P w = .ok (some (j, v')) w ∧ VRel ρ v v' := by
  unfold mFindK at h
  split at h
  · rcases find_sound 0 H h with ⟨q1, q2⟩ | ⟨v, j, v', q1, q2, q3⟩
    · exact .inl ⟨q1, by simp [Instr.findKey, run_underlying hkt, q2]⟩
    · exact .inr ⟨v, j, v', q1, by simp [Instr.findKey, run_underlying hkt, q2], q3⟩
  · split at h
    · rename_i hak
      rw [agg_find hkt hak]
      exact ask_sound 0 H h
    · cases h
theorem setK_sound {kt : TypeId} {kd : TypeDesc} {k v v' : Value} (hkt : P.underlying kt = some kd) (hk : plain 6 k = true) (ho : v.oneCell' = true) (hv : VRel ρ v v') {cells : List Value} {es : List MapEntry} {cells' : List Value} (H : MRel ρ cells es) (h : mSetK P kt kd k v cells = some cells') :
    ((Instr.findKey kt k es).run P w = .ok none w ∧ ∀ c, MRel ρ cells' (es ++ [{ key := k, val := v', born := c }])) ∨
    ∃ j u e, (Instr.findKey kt k es).run P w = .ok (some (j, u)) w ∧ es[j]? = some e ∧ Instr.sameBits 10000 e.key k = true ∧ MRel ρ cells' (es.modify j fun e => { e with key := k, val := v' }) := by
  unfold mSetK at h
  split at h
  · rename_i hok
    rcases set_sound hok hk ho hv 0 H h with ⟨q1, q2⟩ | ⟨j, u, e, q1, q2, q3, q4⟩
    · exact .inl ⟨by simp [Instr.findKey, run_underlying hkt, q1], q2⟩
    · rw [Nat.zero_add] at q1
      exact .inr ⟨j, u, e, by simp [Instr.findKey, run_underlying hkt, q1], q2, q3, q4⟩
  · split at h
    · rename_i hak
      rw [agg_find hkt hak]
      rcases setA_sound (w := w) hk ho hv 0 H h with ⟨q1, q2⟩ | ⟨j, u, e, q1, q2, q3, q4⟩
      · exact .inl ⟨q1, q2⟩
      · rw [Nat.zero_add] at q1
        exact .inr ⟨j, u, e, q1, q2, q3, q4⟩
    · cases h
theorem key_eq {x x' : Value} (hx : TRel s.l lam ρ x x') (h : plain 6 x = true) : x' = x := hx.plain_eq (n := 6) h
theorem Stamped.push {es : Array MapEntry} {clock : Nat} (h : Stamped es clock) {e : MapEntry} (he : e.born = clock) : Stamped (es.push e) (clock + 1) := by
  refine ⟨by rw [Array.size_push, h.1], fun i x hx => ?_⟩
  rw [Array.getElem?_push] at hx
  split at hx
  · rename_i hi
    cases hx
    rw [he, h.1, hi]
  · exact h.2 i x hx
theorem Stamped.modify {es : Array MapEntry} {clock : Nat} (h : Stamped es clock) {j : Nat} {f : MapEntry → MapEntry} (hf : ∀ e, (f e).born = e.born) : Stamped (es.modify j f) clock := by
  refine ⟨by rw [Array.size_modify, h.1], fun i x hx => ?_⟩
  rw [Array.getElem?_modify] at hx
  split at hx
  · rename_i hj
    cases he : es[i]? with
    | none => rw [he] at hx; cases hx
    | some e => rw [he] at hx; cases hx; rw [hf]; exact h.2 i e he
  · exact h.2 i x hx
theorem Stamped.find {es : Array MapEntry} {clock : Nat} (h : Stamped es clock) {i : Nat} (hi : i < es.size) : es.findIdx? (fun e => (e.born : Int) == (i : Int)) = some i := by
  rw [Array.findIdx?_eq_some_iff_getElem]
  refine ⟨hi, ?_, fun j hj => ?_⟩
  · rw [h.2 i _ (Array.getElem?_eq_getElem hi)]; simp
  · rw [h.2 j _ (Array.getElem?_eq_getElem (by omega))]; simp; omega
theorem MRel.len {ρ : Rho} : ∀ {cells : List Value} {es : List MapEntry}, MRel ρ cells es → cells.length = 2 * es.length
  | [], [], _ => rfl
  | k :: v :: r, e :: es, H => by have := MRel.len H.2.2.2.2; simp; omega
  | [], _ :: _, H => H.elim
  | [_], [], H => H.elim
  | [_], _ :: _, H => H.elim
  | _ :: _ :: _, [], H => H.elim
theorem MRel.setVal {ρ : Rho} {v v' : Value} (ho : v.oneCell' = true) (hv : VRel ρ v v') : ∀ {cells : List Value} {es : List MapEntry} (i : Nat), MRel ρ cells es → MRel ρ (cells.set (2 * i + 1) v) (es.modify i fun e => { e with val := v' })
  | [], [], i, _ => by cases i <;> exact trivial
  | k :: u :: r, e :: es, 0, H => ⟨H.1, H.2.1, ho, hv, H.2.2.2.2⟩
  | k :: u :: r, e :: es, i + 1, H => by
    show MRel ρ (k :: u :: r.set (2 * i + 1) v) (e :: es.modify i _)
    exact ⟨H.1, H.2.1, H.2.2.1, H.2.2.2.1, MRel.setVal ho hv i H.2.2.2.2⟩
  | [], _ :: _, _, H => H.elim
  | [_], [], _, H => H.elim
  | [_], _ :: _, _, H => H.elim
  | _ :: _ :: _, [], _, H => H.elim
theorem entN_sound {kd : TypeDesc} {k z : Value} (hko : keyOk kd k = true) (hk : plain 6 k = true) (ho : z.oneCell' = true) (hz : VRel ρ z z) : ∀ {cells : List Value} {es : List MapEntry} {cells' : List Value} {u : Value} {j : Nat} (i : Nat), MRel ρ cells es → mEntN kd k z cells i = some (u, j, cells') →
    (Instr.findNow kd k es i = some none ∧ u = z ∧ j = i + es.length ∧ ∀ c, MRel ρ cells' (es ++ [{ key := k, val := z, born := c }])) ∨
    ∃ m e, Instr.findNow kd k es i = some (some (i + m, e.val)) ∧ j = i + m ∧ es[m]? = some e ∧ VRel ρ u e.val ∧ Instr.sameBits 10000 e.key k = true ∧ MRel ρ cells' (es.modify m fun e => { e with key := k })
  | [], [], cells', u, j, i, _, h => by
    simp only [mEntN, Option.some.injEq, Prod.mk.injEq] at h
    obtain ⟨rfl, rfl, rfl⟩ := h
    exact .inl ⟨rfl, rfl, rfl, fun c => ⟨hk, rfl, ho, hz, trivial⟩⟩
  | k' :: v :: r, e :: es, cells', u, j, i, H, h => by
    obtain ⟨h1, h2, h3, h4, h5⟩ := H
    simp only [mEntN] at h
    simp only [Instr.findNow, h2]
    split at h
    · rename_i hs
      cases h
      rw [hs]
      exact .inr ⟨0, e, rfl, rfl, rfl, h4, by rw [h2]; exact same_bits hko hs, ⟨hk, rfl, h3, h4, h5⟩⟩
    · rename_i hs
      rw [hs]
      split at h
      · rename_i u' j' r' hr
        cases h
        rcases entN_sound hko hk ho hz (i + 1) h5 hr with ⟨q1, q2, q3, q4⟩ | ⟨m, e', q1, q2, q3, q4, q5, q6⟩
        · exact .inl ⟨q1, q2, by rw [q3]; simp; omega, fun c => ⟨h1, h2, h3, h4, q4 c⟩⟩
        · refine .inr ⟨m + 1, e', ?_, by omega, q3, q4, q5, ⟨h1, h2, h3, h4, q6⟩⟩
          rw [q1, show i + 1 + m = i + (m + 1) by omega]
      · cases h
    · cases h
  | [], _ :: _, _, _, _, _, H, _ => H.elim
  | [_], [], _, _, _, _, H, _ => H.elim
  | [_], _ :: _, _, _, _, _, H, _ => H.elim
  | _ :: _ :: _, [], _, _, _, _, H, _ => H.elim
theorem entA_sound {kt : TypeId} {k z : Value} (hk : plain 6 k = true) (ho : z.oneCell' = true) (hz : VRel ρ z z) : ∀ {cells : List Value} {es : List MapEntry} {cells' : List Value} {u : Value} {j : Nat} (i : Nat), MRel ρ cells es → mEntA P kt k z cells i = some (u, j, cells') →
    ((Instr.findAsking kt k es i).run P w = .ok none w ∧ u = z ∧ j = i + es.length ∧ ∀ c, MRel ρ cells' (es ++ [{ key := k, val := z, born := c }])) ∨
    ∃ m e, (Instr.findAsking kt k es i).run P w = .ok (some (i + m, e.val)) w ∧ j = i + m ∧ es[m]? = some e ∧ VRel ρ u e.val ∧ Instr.sameBits 10000 e.key k = true ∧ MRel ρ cells' (es.modify m fun e => { e with key := k })
  | [], [], cells', u, j, i, _, h => by
    simp only [mEntA, Option.some.injEq, Prod.mk.injEq] at h
    obtain ⟨rfl, rfl, rfl⟩ := h
    exact .inl ⟨rfl, rfl, rfl, fun c => ⟨hk, rfl, ho, hz, trivial⟩⟩
  | k' :: v :: r, e :: es, cells', u, j, i, H, h => by
    obtain ⟨h1, h2, h3, h4, h5⟩ := H
    simp only [mEntA] at h
    simp only [Instr.findAsking, h2, Sem.run_bind]
    split at h
    · rename_i hs
      split at h
      · rename_i hsb
        cases h
        rw [pureRun_run hs]
        exact .inr ⟨0, e, rfl, rfl, rfl, h4, by rw [h2]; exact hsb, ⟨hk, rfl, h3, h4, h5⟩⟩
      · cases h
    · rename_i hs
      rw [pureRun_run hs]
      split at h
      · rename_i u' j' r' hr
        cases h
        rcases entA_sound hk ho hz (i + 1) h5 hr with ⟨q1, q2, q3, q4⟩ | ⟨m, e', q1, q2, q3, q4, q5, q6⟩
        · exact .inl ⟨q1, q2, by rw [q3]; simp; omega, fun c => ⟨h1, h2, h3, h4, q4 c⟩⟩
        · refine .inr ⟨m + 1, e', ?_, by omega, q3, q4, q5, ⟨h1, h2, h3, h4, q6⟩⟩
          rw [show i + (m + 1) = i + 1 + m by omega]; exact q1
      · cases h
    · cases h
  | [], _ :: _, _, _, _, _, H, _ => H.elim
  | [_], [], _, _, _, _, H, _ => H.elim
  | [_], _ :: _, _, _, _, _, H, _ => H.elim
  | _ :: _ :: _, [], _, _, _, _, H, _ => H.elim
theorem entK_sound {kt : TypeId} {kd : TypeDesc} {k z : Value} (hkt : P.underlying kt = some kd) (hk : plain 6 k = true) (ho : z.oneCell' = true) (hz : VRel ρ z z) {cells : List Value} {es : List MapEntry} {cells' : List Value} {u : Value} {j : Nat} (H : MRel ρ cells es) (h : mEntK P kt kd k z cells = some (u, j, cells')) :
    ((Instr.findKey kt k es).run P w = .ok none w ∧ u = z ∧ j = es.length ∧ ∀ c, MRel ρ cells' (es ++ [{ key := k, val := z, born := c }])) ∨
    ∃ e, (Instr.findKey kt k es).run P w = .ok (some (j, e.val)) w ∧ es[j]? = some e ∧ VRel ρ u e.val ∧ Instr.sameBits 10000 e.key k = true ∧ MRel ρ cells' (es.modify j fun e => { e with key := k }) := by
  unfold mEntK at h
  split at h
  · rename_i hok
    rcases entN_sound hok hk ho hz 0 H h with ⟨q1, q2, q3, q4⟩ | ⟨m, e, q1, q2, q3, q4, q5, q6⟩
    · exact .inl ⟨by simp [Instr.findKey, run_underlying hkt, q1], q2, by omega, q4⟩
    · rw [Nat.zero_add] at q1 q2
      subst q2
      exact .inr ⟨e, by simp [Instr.findKey, run_underlying hkt, q1], q3, q4, q5, q6⟩
  · split at h
    · rename_i hak
      rw [agg_find hkt hak]
      rcases entA_sound (w := w) hk ho hz 0 H h with ⟨q1, q2, q3, q4⟩ | ⟨m, e, q1, q2, q3, q4, q5, q6⟩
      · exact .inl ⟨q1, q2, by omega, q4⟩
      · rw [Nat.zero_add] at q1 q2
        subst q2
        exact .inr ⟨e, q1, q3, q4, q5, q6⟩
    · cases h
theorem map_at (F : FRel B E ρ lam s a w) {id : Nat} {blk : ABlock} (hb : s.h.get id = some blk) (hg : blk.gen = 1) {x' : Value} (hx : TRel s.l lam ρ (.map (some id)) x') :
    ∃ r es clock, x' = .map (some r.b) ∧ ρ id blk.gen = some r ∧ blk.ro = false ∧ w.heap[r.b]? = some (.map es clock) ∧ (MRel ρ blk.cells es.toList ∧ Stamped es clock) ∧ r.e = blk.el := by
  obtain ⟨r, k1, k2, k3, k4⟩ := F.heap.rows id blk hb
  cases hx with
  | mem hv =>
    cases hv with
    | map _ r' hr' =>
      rw [hg] at k1
      rw [k1] at hr'; cases hr'
      rcases k2 with ⟨q, _⟩ | ⟨_, q2, es, clock, q3, q4⟩
      · omega
      · exact ⟨r, es, clock, rfl, by rw [hg]; exact k1, q2, q3, q4, (k4 q2).2⟩
theorem lookup_sound (F : FRel B E ρ lam s a w) {t : TypeId} {x x' k k' v : Value} {ok : Bool} (hx : TRel s.l lam ρ x x') (hk : TRel s.l lam ρ k k') (h : aLookup P t s.h x k ok = some v) :
    ∃ v', (Instr.lookup t x' k' ok).run P w = .ok v' w ∧ VRel ρ v v' := by
  have res : ∀ {u u' : Value} (b : Bool), VRel ρ u u' → VRel ρ (mRes ok u b) (if ok then .tuple #[u', .bool b] else u') := by
    intro u u' b hu
    cases ok with
    | false => exact hu
    | true =>
      refine .tuple _ _ rfl ?_
      intro i y y' h1 h2
      match i, h1, h2 with
      | 0, h1, h2 => simp at h1 h2; subst h1; subst h2; exact hu
      | 1, h1, h2 => simp at h1 h2; subst h1; subst h2; exact .bool b
      | i + 2, h1, h2 => simp at h1
  unfold aLookup at h
  split at h
  · rename_i kt et ht
    split at h
    · rename_i kd z hkt hz
      split at h
      · rename_i hok
        have ek := key_eq hk (key_any (w := w) hkt hok).1
        subst ek
        have ck := (key_any (P := P) (w := w) hkt hok).2
        have zr := (aZero_spec hz).1 w
        have zv : VRel ρ z z := plain_refl 6 (aZero_spec hz).2.1
        split at h
        · cases h
          cases hx with
          | mem hv =>
            cases hv
            refine ⟨_, ?_, res false zv⟩
            have fk : (Instr.findKey kt k' []).run P w = .ok none w := by simp [Instr.findKey, run_underlying hkt, Instr.findNow]
            simp [Instr.lookup, run_underlying ht, ck, fk, zr]
        · rename_i id
          split at h
          · rename_i blk hb
            split at h
            · rename_i hg
              obtain ⟨r, es, clock, rfl, k1, k2, k3, ⟨k4, k6⟩, _⟩ := map_at F hb (Nat.eq_of_beq_eq_true hg) hx
              have go : (getObj r.b).run P w = .ok (.map es clock) w := by simp [getObj, Sem.run, k3]
              split at h
              · rename_i u hf
                cases h
                rcases findK_sound (w := w) hkt k4 hf with ⟨q, _⟩ | ⟨u2, j, u', q1, q2, q3⟩
                · cases q
                · cases q1
                  refine ⟨_, ?_, res true q3⟩
                  simp [Instr.lookup, run_underlying ht, go, ck, q2]
              · rename_i hf
                cases h
                rcases findK_sound (w := w) hkt k4 hf with ⟨_, q⟩ | ⟨u2, j, u', q1, q2, q3⟩
                · refine ⟨_, ?_, res false zv⟩
                  simp [Instr.lookup, run_underlying ht, go, ck, q, zr]
                · cases q1
              · cases h
            · cases h
          · cases h
        · cases h
      · cases h
    · cases h
  · cases h
theorem update_sound (F : FRel B E ρ lam s a w) {t : TypeId} {x x' k k' v v' : Value} {h' : AHeap} (hx : TRel s.l lam ρ x x') (hk : TRel s.l lam ρ k k') (hv : TRel s.l lam ρ v v') (h : aUpdate P t s.h x k v = some h') :
    ∃ w' ρ', (Instr.mapUpdate t x' k' v').run P w = .ok () w' ∧ FRel B E ρ' lam { s with h := h' } a w' := by
  unfold aUpdate at h
  split at h
  · rename_i kt et ht
    split at h
    · rename_i kd hkt
      split at h
      · rename_i hc
        simp only [Bool.and_eq_true] at hc
        obtain ⟨hok, hpv, hone⟩ := hc
        have ek := key_eq hk (key_any (w := w) hkt hok).1
        subst ek
        have ck := (key_any (P := P) (w := w) hkt hok).2
        have pk := (key_any (P := P) (w := w) hkt hok).1
        have vr := hv.vrel (okPart_loc hpv)
        split at h
        · rename_i id
          split at h
          · rename_i blk hb
            split at h
            · rename_i cells2 hg hs
              have hg := Nat.eq_of_beq_eq_true hg
              cases h
              obtain ⟨r, es, clock, rfl, k1, k2, k3, ⟨k4, k6⟩, k5⟩ := map_at F hb hg hx
              have go : (getObj r.b).run P w = .ok (.map es clock) w := by simp [getObj, Sem.run, k3]
              have hlt := (Array.getElem?_eq_some_iff.1 k3).1
              have fin : ∀ o' clock', MRel ρ cells2 (Array.toList o') → Stamped o' clock' → ∃ ρ', FRel B E ρ' lam { s with h := s.h.set id ⟨cells2, 1, false, blk.el⟩ } a { w with heap := w.heap.setIfInBounds r.b (.map o' clock') } := by
                intro o' clock' hm hst
                have := (F.change hb k2 k1 (w' := { w with heap := w.heap.setIfInBounds r.b (.map o' clock') }) rfl rfl rfl (by simp) (fun b _ hne => by simp [Array.getElem?_setIfInBounds, Ne.symm hne]) (g := blk.gen) (Nat.le_refl _) (r' := r) (.inl rfl) (.inr k1)
                  (.inr ⟨by rw [hg], rfl, o', clock', by simp [hlt], hm, hst⟩)).1
                rw [hg, k5] at this
                exact ⟨_, this⟩
              have so : ∀ o', (setObj r.b o').run P w = .ok () { w with heap := w.heap.setIfInBounds r.b o' } := by
                intro o'; simp [setObj, Sem.run, k3]
              rcases setK_sound (w := w) hkt pk hone vr k4 hs with ⟨q1, q2⟩ | ⟨j, u, e, q1, q2, q3, q4⟩
              · obtain ⟨ρ', F'⟩ := fin (es.push { key := k', val := v', born := clock }) (clock + 1) (by rw [Array.toList_push]; exact q2 clock) (k6.push rfl)
                refine ⟨_, ρ', ?_, F'⟩
                simp [Instr.mapUpdate, run_underlying ht, go, ck, q1, so]
              · obtain ⟨ρ', F'⟩ := fin (es.modify j fun e => { e with key := k', val := v' }) clock (by rw [Array.toList_modify]; exact q4) (k6.modify fun _ => rfl)
                refine ⟨_, ρ', ?_, F'⟩
                have hj : es[j]? = some e := by rw [← Array.getElem?_toList]; exact q2
                simp [Instr.mapUpdate, run_underlying ht, go, ck, q1, hj, Instr.keyThatStays, q3, so]
            · cases h
          · cases h
        · cases h
      · cases h
    · cases h
  · cases h

theorem entry_sound (F : FRel B E ρ lam s a w) {t : TypeId} {x x' k k' v : Value} {h' : AHeap} (hx : TRel s.l lam ρ x x') (hk : TRel s.l lam ρ k k') (h : aEntry P t s.h x k = some (v, h')) :
    ∃ v' w' ρ', (Instr.mapEntry t x' k').run P w = .ok v' w' ∧ VRel ρ' v v' ∧ FRel B E ρ' lam { s with h := h' } a w' := by
  unfold aEntry at h
  split at h
  · rename_i kt et ht
    split at h
    · rename_i kd z hkt hz
      split at h
      · rename_i hc
        simp only [Bool.and_eq_true] at hc
        obtain ⟨hok, hone⟩ := hc
        have ek := key_eq hk (key_any (w := w) hkt hok).1
        subst ek
        have ck := (key_any (P := P) (w := w) hkt hok).2
        have pk := (key_any (P := P) (w := w) hkt hok).1
        have zr := (aZero_spec hz).1 w
        have zv : VRel ρ z z := plain_refl 6 (aZero_spec hz).2.1
        split at h
        · rename_i id
          split at h
          · rename_i blk hb
            split at h
            · rename_i u i cells2 hg hs
              have hg := Nat.eq_of_beq_eq_true hg
              cases h
              obtain ⟨r, es, clock, rfl, k1, k2, k3, ⟨k4, k6⟩, k5⟩ := map_at F hb hg hx
              have go : (getObj r.b).run P w = .ok (.map es clock) w := by simp [getObj, Sem.run, k3]
              have hlt := (Array.getElem?_eq_some_iff.1 k3).1
              have so : ∀ o', (setObj r.b o').run P w = .ok () { w with heap := w.heap.setIfInBounds r.b o' } := by
                intro o'; simp [setObj, Sem.run, k3]
              have fin : ∀ o' clock', MRel ρ cells2 (Array.toList o') → Stamped o' clock' → ∃ ρ', ρ.le ρ' ∧ FRel B E ρ' lam { s with h := s.h.set id ⟨cells2, 1, false, blk.el⟩ } a { w with heap := w.heap.setIfInBounds r.b (.map o' clock') } := by
                intro o' clock' hm hst
                have := (F.change hb k2 k1 (w' := { w with heap := w.heap.setIfInBounds r.b (.map o' clock') }) rfl rfl rfl (by simp) (fun b _ hne => by simp [Array.getElem?_setIfInBounds, Ne.symm hne]) (g := blk.gen) (Nat.le_refl _) (r' := r) (.inl rfl) (.inr k1)
                  (.inr ⟨by rw [hg], rfl, o', clock', by simp [hlt], hm, hst⟩))
                rw [hg, k5] at this
                exact ⟨_, by rw [← hg]; exact upd_le (.inr k1), this.1⟩
              have pair : ∀ {ρ' : Rho} {u u' : Value}, VRel ρ' u u' → VRel ρ' (.tuple #[u, .int .i64 i]) (.tuple #[u', .int .i64 i]) := by
                intro ρ' u u' hu
                refine .tuple _ _ rfl ?_
                intro i y y' h1 h2
                match i, h1, h2 with
                | 0, h1, h2 => simp at h1 h2; subst h1; subst h2; exact hu
                | 1, h1, h2 => simp at h1 h2; subst h1; subst h2; exact .int _ _
                | i + 2, h1, h2 => simp at h1
              rcases entK_sound (w := w) hkt pk hone zv k4 hs with ⟨q1, rfl, q3, q4⟩ | ⟨e, q1, q3, q4, q5, q6⟩
              · have hi : i = clock := by rw [q3, k6.1]; simp
                obtain ⟨ρ', hle, F'⟩ := fin (es.push { key := k', val := u, born := clock }) (clock + 1) (by rw [Array.toList_push]; exact q4 clock) (k6.push rfl)
                refine ⟨.tuple #[u, .int .i64 i], _, ρ', ?_, pair (zv.mono hle), F'⟩
                subst hi
                simp [Instr.mapEntry, run_underlying ht, go, ck, q1, zr, so, goInt]
              · have hj : es[i]? = some e := by rw [← Array.getElem?_toList]; exact q3
                have hbn := k6.2 i e hj
                obtain ⟨ρ', hle, F'⟩ := fin (es.modify i fun e => { e with key := k' }) clock (by rw [Array.toList_modify]; exact q6) (k6.modify fun _ => rfl)
                refine ⟨.tuple #[e.val, .int .i64 i], _, ρ', ?_, pair (q4.mono hle), F'⟩
                simp [Instr.mapEntry, run_underlying ht, go, ck, q1, hj, Instr.keyThatStays, q5, so, goInt, hbn]
            · cases h
          · cases h
        · cases h
      · cases h
    · cases h
  · cases h
theorem entryStore_sound (F : FRel B E ρ lam s a w) {t : TypeId} {x x' k k' v v' : Value} {h' : AHeap} (hx : TRel s.l lam ρ x x') (hk : TRel s.l lam ρ k k') (hv : TRel s.l lam ρ v v') (h : aEntrySt s.h x k v = some h') :
    ∃ w' ρ', (Instr.entryStore t x' k' v').run P w = .ok () w' ∧ FRel B E ρ' lam { s with h := h' } a w' := by
  unfold aEntrySt at h
  split at h
  · rename_i id i
    have ek : k' = .int .i64 i := key_eq hk rfl
    subst ek
    split at h
    · rename_i blk hb
      split at h
      · rename_i hc
        simp only [Bool.and_eq_true, decide_eq_true_eq] at hc
        obtain ⟨⟨hg, h0, hi⟩, hpv, hone⟩ := hc
        have hg := Nat.eq_of_beq_eq_true hg
        cases h
        have vr := hv.vrel (okPart_loc hpv)
        obtain ⟨r, es, clock, rfl, k1, k2, k3, ⟨k4, k6⟩, k5⟩ := map_at F hb hg hx
        have go : (getObj r.b).run P w = .ok (.map es clock) w := by simp [getObj, Sem.run, k3]
        have hlt := (Array.getElem?_eq_some_iff.1 k3).1
        have so : ∀ o', (setObj r.b o').run P w = .ok () { w with heap := w.heap.setIfInBounds r.b o' } := by
          intro o'; simp [setObj, Sem.run, k3]
        have hl := k4.len
        have hf := k6.find (i := i.toNat) (by rw [← Array.length_toList]; omega)
        rw [Int.toNat_of_nonneg h0] at hf
        have := (F.change hb k2 k1 (w' := { w with heap := w.heap.setIfInBounds r.b (.map (es.modify i.toNat fun e => { e with val := v' }) clock) }) rfl rfl rfl (by simp) (fun b _ hne => by simp [Array.getElem?_setIfInBounds, Ne.symm hne]) (g := blk.gen) (Nat.le_refl _) (r' := r) (.inl rfl) (.inr k1)
          (cells := blk.cells.set (2 * i.toNat + 1) v) (.inr ⟨by rw [hg], rfl, es.modify i.toNat fun e => { e with val := v' }, clock, by simp [hlt], by rw [Array.toList_modify]; exact k4.setVal hone vr i.toNat, k6.modify fun _ => rfl⟩)).1
        rw [hg, k5] at this
        refine ⟨_, _, ?_, this⟩
        simp [Instr.entryStore, go, asInt, asIntOf, hf, so]
      · cases h
    · cases h
  · cases h
theorem aMem_sound (F : FRel B E ρ lam s a w) {L : List Nat} {o : Oper} {s' : AS} (h : aMem P L o s = some s') : Left P B E o a w s' := by
  obtain ⟨dst, op, type, pos, after, guard⟩ := o
  cases op <;> try (simp [aMem] at h; done)
  case alloc el =>
    simp only [aMem] at h
    split at h
    · rename_i z hz
      obtain ⟨ρ', lam', F'⟩ := newBox_sound F (CRel.of_arr (zero_rel hz)) h
      refine ⟨_, _, ρ', lam', _, ?_, .inl rfl, F'⟩
      simp [execOp, Instr.alloc, (aZero_spec hz).1, newVar, newRow]
    · cases h
  case box el x =>
    simp only [aMem] at h
    split at h
    · rename_i hok
      have hx := (F.eval x).vrel (okPart_loc hok)
      obtain ⟨ρ', lam', F'⟩ := newBox_sound F (CRel.of_arr (hx.cells (okPart_tup hok))) h
      refine ⟨_, _, ρ', lam', _, ?_, .inl rfl, F'⟩
      simp [execOp, Instr.box, newVar, newRow]
    · cases h
  case store t ad x =>
    simp only [aMem] at h
    split at h
    · rename_i s1 hs
      cases h
      obtain ⟨w', ρ', lam', h1, F'⟩ := store_sound (P := P) F (F.eval x) (F.eval ad) hs
      exact ⟨.skip, w', ρ', lam', undef, by simp [execOp, h1], .inr ⟨rfl, rfl⟩, F'.put dst (.mem undef_rel)⟩
    · cases h
  case makeMap t hint =>
    cases hint with
    | some x => simp [aMem] at h
    | none =>
      simp only [aMem] at h
      split at h
      · rename_i kt et hu
        cases h
        obtain ⟨F1, _⟩ := F.newBlockG (Same.alloc w (.map #[] 0)) (r := ⟨w.heap.size, 0, 0, 0⟩) (g0 := 1) (cells := []) (Nat.le_refl _) (.inr ⟨rfl, rfl, #[], 0, heap_alloc_new w _, trivial, rfl, fun i e h => by simp at h⟩)
        refine ⟨.value (.map (some w.heap.size)), w.alloc (.map #[] 0), _, lam, .map (some w.heap.size), ?_, .inl rfl, F1.put dst (.mem (.map s.h.size ⟨w.heap.size, 0, 0, 0⟩ (upd_self _ _ _ _)))⟩
        simp [execOp, Instr.makeMap]
      · cases h
  case lookup t x k ok =>
    simp only [aMem] at h
    split at h
    · rename_i u hu
      cases h
      obtain ⟨v', h1, h2⟩ := lookup_sound (P := P) F (F.eval x) (F.eval k) hu
      exact ⟨.value v', w, ρ, lam, v', by simp [execOp, h1], .inl rfl, F.put dst (.mem h2)⟩
    · cases h
  case mapUpdate t x k v =>
    simp only [aMem] at h
    split at h
    · rename_i h' hu
      cases h
      obtain ⟨w', ρ', h1, F'⟩ := update_sound (P := P) F (F.eval x) (F.eval k) (F.eval v) hu
      exact ⟨.skip, w', ρ', lam, undef, by simp [execOp, h1], .inr ⟨rfl, rfl⟩, F'.put dst (.mem undef_rel)⟩
    · cases h
  case mapEntry t x k =>
    simp only [aMem] at h
    split at h
    · rename_i u h' hu
      cases h
      obtain ⟨v', w', ρ', h1, h2, F'⟩ := entry_sound (P := P) F (F.eval x) (F.eval k) hu
      exact ⟨.value v', w', ρ', lam, v', by simp [execOp, h1], .inl rfl, F'.put dst (.mem h2)⟩
    · cases h
  case entryStore t x k v =>
    simp only [aMem] at h
    split at h
    · rename_i h' hu
      cases h
      obtain ⟨w', ρ', h1, F'⟩ := entryStore_sound (P := P) F (t := t) (F.eval x) (F.eval k) (F.eval v) hu
      exact ⟨.skip, w', ρ', lam, undef, by simp [execOp, h1], .inr ⟨rfl, rfl⟩, F'.put dst (.mem undef_rel)⟩
    · cases h
  case makeSlice t l c =>
    simp only [aMem] at h
    obtain ⟨v', w', ρ', lam', h1, F'⟩ := make_sound (P := P) F (F.eval l) (F.eval c) h
    exact ⟨.value v', w', ρ', lam', v', by simp [execOp, h1], .inl rfl, F'⟩
  case buildSlice t len parts =>
    simp only [aMem] at h
    have hp : ∀ (i : Nat) p p', (parts.map fun (i, x) => (i, aev s.t x))[i]? = some p → (parts.map fun (i, x) => (i, a.eval x))[i]? = some p' → p.1 = p'.1 ∧ TRel s.l lam ρ p.2 p'.2 := by
      intro i p p' hp hp'
      rw [Array.getElem?_map] at hp hp'
      cases hq : parts[i]? with
      | none => rw [hq] at hp; cases hp
      | some q =>
        rw [hq] at hp hp'
        simp only [Option.map_some, Option.some.injEq] at hp hp'
        subst hp; subst hp'
        exact ⟨rfl, F.eval q.2⟩
    obtain ⟨v', w', ρ', lam', h1, F'⟩ := buildSlice_sound (P := P) F (by simp) hp h
    exact ⟨.value v', w', ρ', lam', v', by simp [execOp, h1], .inl rfl, F'⟩
  case call c =>
    simp only [aMem] at h
    split at h
    · rename_i x y t t' hcal hargs hat
      split at h
      · rename_i ht
        have ht' := Nat.eq_of_beq_eq_true ht
        subst ht'
        obtain ⟨callee, args, argTypes⟩ := c
        simp only at hcal hargs hat
        subst hcal
        obtain rfl : args = #[x, y] := by rw [← hargs]
        obtain rfl : argTypes = #[t, t] := by rw [← hat]
        obtain ⟨v', w', ρ', lam', h1, F'⟩ := append_sound (P := P) (ty := type) F (F.eval x) (F.eval y) h
        exact ⟨.value v', w', ρ', lam', v', by simp [execOp, resolve, invoke, builtin, h1], .inl rfl, F'⟩
      · cases h
    · cases h

theorem aStep_sound (F : FRel B E ρ lam s a w) {L : List Nat} {o : Oper} {s' : AS} (h : aStep P L o s = some s') : Left P B E o a w s' := by
  unfold aStep at h
  split at h
  · exact aMem_sound F h
  · split at h
    · rename_i v hv
      cases h
      obtain ⟨v', h1, h2⟩ := aVal_sound F hv
      exact ⟨.value v', w, ρ, lam, v', h1, .inl rfl, F.put o.dst h2⟩
    · cases h
end
end Go.Proofs.Ytimeninncpmaeaa.Abs
