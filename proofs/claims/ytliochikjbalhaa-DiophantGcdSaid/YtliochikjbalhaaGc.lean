/- The extended algorithm of Euclid in bounded integers, in plain mathematics. No program is imported. -/
import Derived.WalkKit
namespace Go.Proofs.Ytliochikjbalhaa

/-- What holds at each round: M bounds a and b. -/
structure GInv (M : Nat) (a b g s t h u v : Int) : Prop where
  eg : g = s * a + t * b
  eh : h = u * a + v * b
  gc : Nat.gcd g.natAbs h.natAbs = Nat.gcd a.natAbs b.natAbs
  mu : u.natAbs * g.natAbs + s.natAbs * h.natAbs ≤ M
  mv : v.natAbs * g.natAbs + t.natAbs * h.natAbs ≤ M
  bg : g.natAbs ≤ M
  bh : h.natAbs ≤ M
  bs : s.natAbs ≤ M
  bt : t.natAbs ≤ M
  bu : u.natAbs ≤ M
  bv : v.natAbs ≤ M

theorem GInv.start (M : Nat) (a b : Int) (h1 : 1 ≤ M) (ha : a.natAbs ≤ M) (hb : b.natAbs ≤ M) : GInv M a b a 1 0 b 0 1 :=
  ⟨by omega, by omega, rfl, by simpa using hb, by simpa using ha, ha, hb, by simpa using h1, by simp, by simp, by simpa using h1⟩

theorem quo_le (g h : Int) (hh : h ≠ 0) : (g.tdiv h).natAbs ≤ g.natAbs := by
  rw [Int.natAbs_tdiv]; exact Nat.div_le_self _ _
theorem quo_mul (g h : Int) : ((g.tdiv h) * h).natAbs ≤ g.natAbs := by
  rw [Int.natAbs_mul, Int.natAbs_tdiv]; exact Nat.div_mul_le_self _ _
theorem quo_rest (g h : Int) : g - (g.tdiv h) * h = g.tmod h := by
  rw [Int.tmod_def, Int.mul_comm]
theorem quo_u {M : Nat} (g h u : Int) (x : Nat) (m : u.natAbs * g.natAbs + x ≤ M) : ((g.tdiv h) * u).natAbs ≤ M := by
  have h1 : (g.natAbs / h.natAbs) * u.natAbs ≤ g.natAbs * u.natAbs := Nat.mul_le_mul_right _ (Nat.div_le_self _ _)
  rw [Int.natAbs_mul, Int.natAbs_tdiv]
  have h2 : g.natAbs * u.natAbs = u.natAbs * g.natAbs := Nat.mul_comm _ _
  show (g.natAbs / h.natAbs) * u.natAbs ≤ M
  generalize u.natAbs * g.natAbs = y at *
  generalize (g.natAbs / h.natAbs) * u.natAbs = z at *
  generalize g.natAbs * u.natAbs = y' at *
  omega
theorem step_bd {M : Nat} (g h s u : Int) (hh : h ≠ 0) (m : u.natAbs * g.natAbs + s.natAbs * h.natAbs ≤ M) :
    (s - (g.tdiv h) * u).natAbs * h.natAbs + u.natAbs * (g.tmod h).natAbs ≤ M := by
  have h1 : (s - (g.tdiv h) * u).natAbs ≤ s.natAbs + (g.natAbs / h.natAbs) * u.natAbs := by
    have := Int.natAbs_sub_le s ((g.tdiv h) * u)
    rwa [Int.natAbs_mul, Int.natAbs_tdiv] at this
  rw [Int.natAbs_tmod]
  generalize g.natAbs = G at *
  generalize h.natAbs = K at *
  generalize u.natAbs = U at *
  generalize s.natAbs = S at *
  have h2 := Nat.mul_le_mul_right K h1
  have h3 : (S + G / K * U) * K + U * (G % K) = U * G + S * K := by
    have e := Nat.div_add_mod G K
    calc (S + G / K * U) * K + U * (G % K) = S * K + U * (K * (G / K) + G % K) := by
          rw [Nat.add_mul, Nat.mul_add, Nat.add_assoc]
          congr 2
          rw [Nat.mul_comm (G / K) U, Nat.mul_assoc, Nat.mul_comm (G / K) K]
      _ = U * G + S * K := by rw [e, Nat.add_comm]
  omega
theorem GInv.step {M : Nat} {a b g s t h u v : Int} (H : GInv M a b g s t h u v) (hh : h ≠ 0) :
    GInv M a b h u v (g - (g.tdiv h) * h) (s - (g.tdiv h) * u) (t - (g.tdiv h) * v) := by
  have m1 := step_bd g h s u hh H.mu
  have m2 := step_bd g h t v hh H.mv
  have hp : 1 ≤ h.natAbs := by omega
  have l1 : (s - (g.tdiv h) * u).natAbs ≤ M := by
    have := Nat.mul_le_mul_left (s - (g.tdiv h) * u).natAbs hp
    omega
  have l2 : (t - (g.tdiv h) * v).natAbs ≤ M := by
    have := Nat.mul_le_mul_left (t - (g.tdiv h) * v).natAbs hp
    omega
  have r1 : (g.tmod h).natAbs ≤ M := by
    rw [Int.natAbs_tmod]
    exact Nat.le_trans (Nat.mod_le _ _) H.bg
  refine ⟨H.eh, ?_, ?_, ?_, ?_, H.bh, ?_, H.bu, H.bv, l1, l2⟩
  · have e1 := H.eg
    have e2 := H.eh
    generalize g.tdiv h = q
    rw [Int.sub_mul, Int.sub_mul, Int.mul_assoc, Int.mul_assoc]
    have : q * h = q * (u * a) + q * (v * b) := by rw [e2, Int.mul_add]
    omega
  · rw [quo_rest, Int.natAbs_tmod, ← H.gc, Nat.gcd_comm h.natAbs, ← Nat.gcd_rec, Nat.gcd_comm]
  · rw [quo_rest]; exact m1
  · rw [quo_rest]; exact m2
  · rw [quo_rest]; exact r1
theorem GInv.less {M : Nat} {a b g s t h u v : Int} (H : GInv M a b g s t h u v) (hh : h ≠ 0) : (g - (g.tdiv h) * h).natAbs < h.natAbs := by
  rw [quo_rest, Int.natAbs_tmod]; exact Nat.mod_lt _ (by omega)
end Go.Proofs.Ytliochikjbalhaa
