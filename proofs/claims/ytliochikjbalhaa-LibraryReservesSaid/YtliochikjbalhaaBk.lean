/- Slices of blocks of nine cells, read; an argument that holds one, opened. No program is imported. -/
import Derived.Test.YtliochikjbalhaaOpenS
import Derived.Test.YtliochikjbalhaaCn
import Derived.Deep.Slices
import Derived.Deep.Fields
namespace Go.Proofs.Ytliochikjbalhaa
open Go Go.RowKit Go.ChangeShapes Go.WideShapes Go.Deep

/-- The nine cells of a block at X: three slices of lengths p, i, t, and other values. -/
def Blk9 (w : World) (X : Addr) (p i t : Nat) : Prop :=
  ∃ (A0 : Option Addr) (m0 : Nat) (A1 : Option Addr) (m1 : Nat) (x2 x3 : Int) (A4 : Option Addr) (m4 : Nat) (A5 : Option Addr) (n5 m5 : Nat) (x6 x7 x8 : Int),
    w.cell? X = some (.slice A0 p m0) ∧ w.cell? ⟨X.block, X.off + 1, none⟩ = some (.slice A1 i m1) ∧ w.cell? ⟨X.block, X.off + 2, none⟩ = some (.int .i64 x2) ∧ w.cell? ⟨X.block, X.off + 3, none⟩ = some (.int .i64 x3) ∧
    w.cell? ⟨X.block, X.off + 4, none⟩ = some (.slice A4 t m4) ∧ w.cell? ⟨X.block, X.off + 5, none⟩ = some (.slice A5 n5 m5) ∧ w.cell? ⟨X.block, X.off + 6, none⟩ = some (.int .i64 x6) ∧ w.cell? ⟨X.block, X.off + 7, none⟩ = some (.int .i64 x7) ∧ w.cell? ⟨X.block, X.off + 8, none⟩ = some (.int .i64 x8)
def Blks (w : World) (B : Nat) (A : Option Addr) (n : Nat) (p i t : Nat → Nat) : Prop :=
  ∀ k, k < n → ∃ ad, A = some ad ∧ ad.block < B ∧ Blk9 w (ad.add (k * 9)) (p k) (i k) (t k)
theorem Blk9.below {w w' : World} {B : Nat} {X : Addr} {p i t : Nat} (h : Blk9 w X p i t) (hb : Below B w w') (hX : X.block < B) : Blk9 w' X p i t := by
  obtain ⟨A0, m0, A1, m1, x2, x3, A4, m4, A5, n5, m5, x6, x7, x8, c0, c1, c2, c3, c4, c5, c6, c7, c8⟩ := h
  have g : ∀ o, w'.cell? ⟨X.block, o, none⟩ = w.cell? ⟨X.block, o, none⟩ := fun o => hb.cell hX
  exact ⟨A0, m0, A1, m1, x2, x3, A4, m4, A5, n5, m5, x6, x7, x8, (hb.cell hX).trans c0, (g _).trans c1, (g _).trans c2, (g _).trans c3, (g _).trans c4, (g _).trans c5, (g _).trans c6, (g _).trans c7, (g _).trans c8⟩
theorem Blks.below {w w' : World} {B n : Nat} {A : Option Addr} {p i t : Nat → Nat} (h : Blks w B A n p i t) (hb : Below B w w') : Blks w' B A n p i t := by
  intro k hk
  obtain ⟨ad, e, hl, g⟩ := h k hk
  exact ⟨ad, e, hl, g.below hb (by rw [block_of_add]; exact hl)⟩
theorem Blks.more {w : World} {B B' n : Nat} {A : Option Addr} {p i t : Nat → Nat} (h : Blks w B A n p i t) (hB : B ≤ B') : Blks w B' A n p i t := by
  intro k hk
  obtain ⟨ad, e, hl, g⟩ := h k hk
  exact ⟨ad, e, by omega, g⟩

section
variable {H : Type} {enc : TypeId × Value → H} {P : Program} {w : World} {base : Nat} {spare : Nat → Bool} {held : Bool}
theorem slice_field {t e : TypeId} {v : Value} {m : Nat} {y : DataW H × List MemPlace} (ht : P.underlying t = some (.slice e)) (h : DataW.trod enc P w base spare held m t [v] = some y) :
    ∃ A n c, v = .slice A n c ∧ n ≤ maxLen := by
  rcases open_slice ht h with ⟨h0, _⟩ | ⟨a, len, cap, m, n, D, Pl, hcs, hb, hl, hm, _, _, _⟩
  · exact ⟨none, 0, 0, (List.cons.inj h0).1, by simp [maxLen]⟩
  · exact ⟨some a, len, cap, (List.cons.inj hcs).1, by omega⟩
def lenAt (w : World) (a : Addr) : Nat := match w.cell? a with | some (.slice _ n _) => n | _ => 0
theorem lenAt_of {w : World} {a : Addr} {A : Option Addr} {n c : Nat} (h : w.cell? a = some (.slice A n c)) : w.cell? a = some (.slice A (lenAt w a) c) := by
  unfold lenAt; rw [h]
theorem add_pos (X : Addr) (k : Nat) (hk : 0 < k) : X.add k = ⟨X.block, X.off + k, none⟩ := by
  unfold Addr.add; rw [if_neg (by omega)]
theorem nth {α : Type} {l : List α} {n k : Nat} (h : l.length = n) (hk : k < n) : ∃ y, l[k]? = some y := ⟨_, List.getElem?_eq_getElem (by omega)⟩
theorem int_cell {t : TypeId} {v : Value} {m : Nat} {y : DataW H × List MemPlace} (ht : P.underlying t = some (.int .i64)) (h : DataW.trod enc P w base spare held m t [v] = some y) : ∃ x : Int, v = .int .i64 x := by
  obtain ⟨x, e, _, _⟩ := DataW.trod_int ht h
  exact ⟨x, by simpa using e⟩
theorem open_blocks {t e I S0 S1 S2 S3 T : TypeId} {f0 f1 f2 f3 f4 f5 g0 g1 g2 g3 : Field} {s0 s1 s2 s3 : TypeId} {v : Value} {m : Nat} {y : DataW H × List MemPlace}
    (ht : P.underlying t = some (.slice e)) (he : P.underlying e = some (.struct #[f0, f1, f2, f3, f4, f5])) (hT : P.underlying T = some (.struct #[g0, g1, g2, g3])) (hI : P.underlying I = some (.int .i64))
    (u0 : P.underlying S0 = some (.slice s0)) (u1 : P.underlying S1 = some (.slice s1)) (u2 : P.underlying S2 = some (.slice s2)) (u3 : P.underlying S3 = some (.slice s3))
    (ty : [f0.type, f1.type, f2.type, f3.type, f4.type, f5.type, g0.type, g1.type, g2.type, g3.type] = [S0, S1, T, I, I, I, I, I, S2, S3])
    (of : [f0.offset, f1.offset, f2.offset, f3.offset, f4.offset, f5.offset, g0.offset, g1.offset, g2.offset, g3.offset] = [0, 1, 2, 6, 7, 8, 0, 1, 2, 3])
    (hC : P.cellsOf e = 9) (cT : P.cellsOf T = 4) (cI : P.cellsOf I = 1) (c0 : P.cellsOf S0 = 1) (c1 : P.cellsOf S1 = 1) (c2 : P.cellsOf S2 = 1) (c3 : P.cellsOf S3 = 1)
    (h : DataW.trod enc P w base spare held m t [v] = some y) :
    ∃ (A : Option Addr) (n c : Nat) (p i l : Nat → Nat), v = .slice A n c ∧ n ≤ maxLen ∧ Blks w w.heap.size A n p i l := by
  simp only [List.cons.injEq, and_true] at ty of
  obtain ⟨t0, t1, t2, t3, t4, t5, t6, t7, t8, t9⟩ := ty
  obtain ⟨o0, o1, o2, o3, o4, o5, o6, o7, o8, o9⟩ := of
  rcases open_slice ht h with ⟨h0, _⟩ | ⟨a, len, cap, m, n, D, Pl, hcs, hb, hl, hm, hmm, hx, hi'⟩
  · exact ⟨none, 0, 0, fun _ => 0, fun _ => 0, fun _ => 0, (List.cons.inj h0).1, by simp [maxLen], fun i hi => absurd hi (by omega)⟩
  · refine ⟨some a, len, cap, fun i => lenAt w (a.add (i * 9)), fun i => lenAt w ⟨(a.add (i * 9)).block, (a.add (i * 9)).off + 1, none⟩, fun i => lenAt w ⟨(a.add (i * 9)).block, (a.add (i * 9)).off + 4, none⟩, (List.cons.inj hcs).1, by omega, fun i hin => ?_⟩
    have him : i < m := by rw [hmm]; split <;> omega
    have key : (a.add (i * 9)).block < w.heap.size ∧ Blk9 w (a.add (i * 9)) (lenAt w (a.add (i * 9))) (lenAt w ⟨(a.add (i * 9)).block, (a.add (i * 9)).off + 1, none⟩) (lenAt w ⟨(a.add (i * 9)).block, (a.add (i * 9)).off + 4, none⟩) := by
      obtain ⟨cs', hc, ht'⟩ := hi' i him
      rw [hC] at hc
      obtain ⟨ys, n', _, _, hlen, hyl, hfd⟩ := DataW.trod_struct he ht'
      obtain ⟨_, hcl, hat⟩ := World.cells?_some hc
      generalize a.add (i * 9) = X at *
      match cs', hcl with
      | [b0, b1, b2, b3, b4, b5, b6, b7, b8], _ =>
        have yl : ys.length = 6 := hyl
        obtain ⟨y0, hy0⟩ := nth yl (k := 0) (by omega)
        obtain ⟨y1, hy1⟩ := nth yl (k := 1) (by omega)
        obtain ⟨y2, hy2⟩ := nth yl (k := 2) (by omega)
        obtain ⟨y3, hy3⟩ := nth yl (k := 3) (by omega)
        obtain ⟨y4, hy4⟩ := nth yl (k := 4) (by omega)
        obtain ⟨y5, hy5⟩ := nth yl (k := 5) (by omega)
        have h0 := hfd 0 f0 rfl
        have h1 := hfd 1 f1 rfl
        have h2 := hfd 2 f2 rfl
        have h3 := hfd 3 f3 rfl
        have h4 := hfd 4 f4 rfl
        have h5 := hfd 5 f5 rfl
        rw [o0, t0, c0, hy0] at h0
        rw [o1, t1, c1, hy1] at h1
        rw [o2, t2, cT, hy2] at h2
        rw [o3, t3, cI, hy3] at h3
        rw [o4, t4, cI, hy4] at h4
        rw [o5, t5, cI, hy5] at h5
        obtain ⟨A0, n0, m0, e0, _⟩ := slice_field u0 (show DataW.trod enc P w base spare held n' S0 [b0] = some y0 from h0)
        obtain ⟨A1, n1, m1, e1, _⟩ := slice_field u1 (show DataW.trod enc P w base spare held n' S1 [b1] = some y1 from h1)
        obtain ⟨zs, n2, _, _, zlen, zyl, zfd⟩ := DataW.trod_struct hT (show DataW.trod enc P w base spare held n' T [b2, b3, b4, b5] = some y2 from h2)
        obtain ⟨x6, e6⟩ := int_cell hI (show DataW.trod enc P w base spare held n' I [b6] = some y3 from h3)
        obtain ⟨x7, e7⟩ := int_cell hI (show DataW.trod enc P w base spare held n' I [b7] = some y4 from h4)
        obtain ⟨x8, e8⟩ := int_cell hI (show DataW.trod enc P w base spare held n' I [b8] = some y5 from h5)
        have zl : zs.length = 4 := zyl
        obtain ⟨z0, hz0⟩ := nth zl (k := 0) (by omega)
        obtain ⟨z1, hz1⟩ := nth zl (k := 1) (by omega)
        obtain ⟨z2, hz2⟩ := nth zl (k := 2) (by omega)
        obtain ⟨z3, hz3⟩ := nth zl (k := 3) (by omega)
        have k0 := zfd 0 g0 rfl
        have k1 := zfd 1 g1 rfl
        have k2 := zfd 2 g2 rfl
        have k3 := zfd 3 g3 rfl
        rw [o6, t6, cI, hz0] at k0
        rw [o7, t7, cI, hz1] at k1
        rw [o8, t8, c2, hz2] at k2
        rw [o9, t9, c3, hz3] at k3
        obtain ⟨x2, e2⟩ := int_cell hI (show DataW.trod enc P w base spare held n2 I [b2] = some z0 from k0)
        obtain ⟨x3, e3⟩ := int_cell hI (show DataW.trod enc P w base spare held n2 I [b3] = some z1 from k1)
        obtain ⟨A4, n4, m4, e4, _⟩ := slice_field u2 (show DataW.trod enc P w base spare held n2 S2 [b4] = some z2 from k2)
        obtain ⟨A5, n5, m5, e5, _⟩ := slice_field u3 (show DataW.trod enc P w base spare held n2 S3 [b5] = some z3 from k3)
        subst e0 e1 e2 e3 e4 e5 e6 e7 e8
        have d0 : w.cell? X = some (.slice A0 n0 m0) := by simpa [Addr.add] using hat 0 (by omega)
        have d1 : w.cell? ⟨X.block, X.off + 1, none⟩ = some (.slice A1 n1 m1) := hat 1 (by omega)
        have d2 : w.cell? ⟨X.block, X.off + 2, none⟩ = some (.int .i64 x2) := hat 2 (by omega)
        have d3 : w.cell? ⟨X.block, X.off + 3, none⟩ = some (.int .i64 x3) := hat 3 (by omega)
        have d4 : w.cell? ⟨X.block, X.off + 4, none⟩ = some (.slice A4 n4 m4) := hat 4 (by omega)
        have d5 : w.cell? ⟨X.block, X.off + 5, none⟩ = some (.slice A5 n5 m5) := hat 5 (by omega)
        have d6 : w.cell? ⟨X.block, X.off + 6, none⟩ = some (.int .i64 x6) := hat 6 (by omega)
        have d7 : w.cell? ⟨X.block, X.off + 7, none⟩ = some (.int .i64 x7) := hat 7 (by omega)
        have d8 : w.cell? ⟨X.block, X.off + 8, none⟩ = some (.int .i64 x8) := hat 8 (by omega)
        exact ⟨World.block_lt_of_cell? _ _ d0, A0, m0, A1, m1, x2, x3, A4, m4, A5, n5, m5, x6, x7, x8, lenAt_of d0, lenAt_of d1, d2, d3, lenAt_of d4, d5, d6, d7, d8⟩
    exact ⟨a, rfl, by rw [← block_of_add a (i * 9)]; exact key.1, key.2⟩
end
end Go.Proofs.Ytliochikjbalhaa
