/- Package knownbits and its reference: contracts of Leq, Join, Meet and Contains. -/
import Derived.Test.YthkdojgagmaecabMath
import Derived.Below
import Derived.Test.YthkdojgagmaecabRows
namespace Go.Proofs.Ythkdojgagmaecab
open Go.RowKit

abbrev W64 := BitVec 64
/-- A word as the model's number. -/
def nv (x : W64) : Int := (x.toNat : Int)
def kbx (z o : W64) : Obj := .cells #[.int .u64 (nv z), .int .u64 (nv o)] 24

theorem lt64 (x : W64) : x.toNat < 18446744073709551616 := x.isLt
theorem kand (x y : W64) : bits .and .u64 (nv x) (nv y) = nv (x &&& y) := by
  unfold nv; rw [u64_and_nat _ _ (lt64 x) (lt64 y)]; simp
theorem kor (x y : W64) : bits .or .u64 (nv x) (nv y) = nv (x ||| y) := by
  unfold nv; rw [u64_or_nat _ _ (lt64 x) (lt64 y)]; simp
theorem kandnot (x y : W64) : bits .andNot .u64 (nv x) (nv y) = nv (x &&& ~~~ y) := by
  unfold nv; rw [u64_andNot_nat _ _ (lt64 x) (lt64 y)]; simp
def isZ (x : W64) : Bool := nv x == 0
theorem isZ_iff (x : W64) : isZ x = true ↔ x = 0#64 := by
  unfold isZ nv
  rw [beq_iff_eq]
  constructor
  · intro h; apply BitVec.eq_of_toNat_eq; simp; omega
  · rintro rfl; rfl
def isQ (x y : W64) : Bool := nv x == nv y
theorem isQ_iff (x y : W64) : isQ x y = true ↔ x = y := by
  unfold isQ nv
  rw [beq_iff_eq]
  constructor
  · intro h; apply BitVec.eq_of_toNat_eq; omega
  · rintro rfl; rfl

theorem kjoin_any (a0 a1 b0 b1 : W64) (w : World) :
    Calls Try.prog 18 #[.agg #[.int .u64 (nv a0), .int .u64 (nv a1)], .agg #[.int .u64 (nv b0), .int .u64 (nv b1)]] w fun e w' =>
      e = .returned (.agg #[.int .u64 (nv (a0 &&& b0)), .int .u64 (nv (a1 &&& b1))]) ∧ Below w.heap.size w w' := by
  have h0 := kand a0 b0
  have h1 := kand a1 b1
  go_enter Try.func18, Try.ntmps18
  go_wp2_with fail
  exact bodyPost_ret (v := .agg #[.int .u64 (nv (a0 &&& b0)), .int .u64 (nv (a1 &&& b1))]) (by simp [results, Try.results18, go_sem]) rfl ⟨rfl, by repeat (first | exact Below.refl _ _ | apply Below.drew | refine Below.alloc ?_ (by simp <;> omega) _ | refine Below.setCell ?_ (by simp) _)⟩
theorem kjoin_ref (a0 a1 b0 b1 : W64) (w : World) :
    Calls Try.prog 22 #[.agg #[.int .u64 (nv a0), .int .u64 (nv a1)], .agg #[.int .u64 (nv b0), .int .u64 (nv b1)]] w fun e w' =>
      e = .returned (.agg #[.int .u64 (nv (a0 &&& b0)), .int .u64 (nv (a1 &&& b1))]) ∧ Below w.heap.size w w' := by
  have h0 := kand a0 b0
  have h1 := kand a1 b1
  go_enter Try.func22, Try.ntmps22
  go_wp2_with fail
  exact bodyPost_ret (v := .agg #[.int .u64 (nv (a0 &&& b0)), .int .u64 (nv (a1 &&& b1))]) (by simp [results, Try.results22, go_sem]) rfl ⟨rfl, by repeat (first | exact Below.refl _ _ | apply Below.drew | refine Below.alloc ?_ (by simp <;> omega) _ | refine Below.setCell ?_ (by simp) _)⟩
def kleB (a0 a1 b0 b1 : W64) : Bool := isZ (b0 &&& ~~~ a0) && isZ (b1 &&& ~~~ a1)
theorem kleq_any (a0 a1 b0 b1 : W64) (w : World) :
    Calls Try.prog 20 #[.agg #[.int .u64 (nv a0), .int .u64 (nv a1)], .agg #[.int .u64 (nv b0), .int .u64 (nv b1)]] w fun e w' =>
      e = .returned (.bool (kleB a0 a1 b0 b1)) ∧ Below w.heap.size w w' := by
  have h0 := kandnot b0 a0
  have h1 := kandnot b1 a1
  by_cases hz : isZ (b0 &&& ~~~ a0) = true
  · have H := Lib.hid (show kleB a0 a1 b0 b1 = isZ (b1 &&& ~~~ a1) by simp [kleB, hz])
    unfold isZ at hz
    go_enter Try.func20, Try.ntmps20
    go_wp2_with fail
    go_ret
    exact ⟨by rw [H.out]; rfl, by repeat (first | exact Below.refl _ _ | apply Below.drew | refine Below.alloc ?_ (by simp <;> omega) _ | refine Below.setCell ?_ (by simp) _)⟩
  · have hz' : isZ (b0 &&& ~~~ a0) = false := by simpa using hz
    have H := Lib.hid (show kleB a0 a1 b0 b1 = false by simp [kleB, hz'])
    clear hz
    unfold isZ at hz'
    go_enter Try.func20, Try.ntmps20
    go_wp2_with fail
    go_ret
    exact ⟨by rw [H.out]; rfl, by repeat (first | exact Below.refl _ _ | apply Below.drew | refine Below.alloc ?_ (by simp <;> omega) _ | refine Below.setCell ?_ (by simp) _)⟩
theorem kleq_ref (a0 a1 b0 b1 : W64) (w : World) :
    Calls Try.prog 21 #[.agg #[.int .u64 (nv a0), .int .u64 (nv a1)], .agg #[.int .u64 (nv b0), .int .u64 (nv b1)]] w fun e w' =>
      e = .returned (.bool (kleB a0 a1 b0 b1)) ∧ Below w.heap.size w w' := by
  have h0 := kandnot b0 a0
  have h1 := kandnot b1 a1
  by_cases hz : isZ (b0 &&& ~~~ a0) = true
  · have H := Lib.hid (show kleB a0 a1 b0 b1 = isZ (b1 &&& ~~~ a1) by simp [kleB, hz])
    unfold isZ at hz
    go_enter Try.func21, Try.ntmps21
    go_wp2_with fail
    go_ret
    exact ⟨by rw [H.out]; rfl, by repeat (first | exact Below.refl _ _ | apply Below.drew | refine Below.alloc ?_ (by simp <;> omega) _ | refine Below.setCell ?_ (by simp) _)⟩
  · have hz' : isZ (b0 &&& ~~~ a0) = false := by simpa using hz
    have H := Lib.hid (show kleB a0 a1 b0 b1 = false by simp [kleB, hz'])
    clear hz
    unfold isZ at hz'
    go_enter Try.func21, Try.ntmps21
    go_wp2_with fail
    go_ret
    exact ⟨by rw [H.out]; rfl, by repeat (first | exact Below.refl _ _ | apply Below.drew | refine Below.alloc ?_ (by simp <;> omega) _ | refine Below.setCell ?_ (by simp) _)⟩
def kcon (z o n : W64) : Bool := isZ (n &&& z) && isQ (n &&& o) o
theorem kcon_any (z o n : W64) (w : World) :
    Calls Try.prog 12 #[.agg #[.int .u64 (nv z), .int .u64 (nv o)], .int .u64 (nv n)] w fun e w' =>
      e = .returned (.bool (kcon z o n)) ∧ Below w.heap.size w w' := by
  have h0 := kand n z
  have h1 := kand n o
  by_cases hz : isZ (n &&& z) = true
  · have H := Lib.hid (show kcon z o n = isQ (n &&& o) o by simp [kcon, hz])
    unfold isZ at hz
    go_enter Try.func12, Try.ntmps12
    go_wp2_with fail
    go_ret
    exact ⟨by rw [H.out]; rfl, by repeat (first | exact Below.refl _ _ | apply Below.drew | refine Below.alloc ?_ (by simp <;> omega) _ | refine Below.setCell ?_ (by simp) _)⟩
  · have hz' : isZ (n &&& z) = false := by simpa using hz
    have H := Lib.hid (show kcon z o n = false by simp [kcon, hz'])
    clear hz
    unfold isZ at hz'
    go_enter Try.func12, Try.ntmps12
    go_wp2_with fail
    go_ret
    exact ⟨by rw [H.out]; rfl, by repeat (first | exact Below.refl _ _ | apply Below.drew | refine Below.alloc ?_ (by simp <;> omega) _ | refine Below.setCell ?_ (by simp) _)⟩
/-- Two elements agree: no bit is known to be 0 in one and 1 in the other. -/
def kok (a0 a1 b0 b1 : W64) : Bool := isZ ((a0 ||| b0) &&& (a1 ||| b1))
theorem kmeet_yes (a0 a1 b0 b1 : W64) (w : World) (h : kok a0 a1 b0 b1 = true) :
    Calls Try.prog 19 #[.agg #[.int .u64 (nv a0), .int .u64 (nv a1)], .agg #[.int .u64 (nv b0), .int .u64 (nv b1)]] w fun e w' =>
      e = .returned (.tuple #[.agg #[.int .u64 (nv (a0 ||| b0)), .int .u64 (nv (a1 ||| b1))], .bool true]) ∧ Below w.heap.size w w' := by
  have h0 := kor a0 b0
  have h1 := kor a1 b1
  have h2 := kand (a0 ||| b0) (a1 ||| b1)
  have h3 : (nv ((a0 ||| b0) &&& (a1 ||| b1)) != 0) = false := by unfold kok isZ at h; simp only [bne, h]; rfl
  clear h
  go_enter Try.func19, Try.ntmps19
  go_wp2_with fail
  refine bodyPost_ret (v := .tuple #[.agg #[.int .u64 (nv (a0 ||| b0)), .int .u64 (nv (a1 ||| b1))], .bool true]) (by simp [results, Try.results19, go_sem]) rfl ⟨rfl, by repeat (first | exact Below.refl _ _ | apply Below.drew | refine Below.alloc ?_ (by simp <;> omega) _ | refine Below.setCell ?_ (by simp) _)⟩
theorem kmeet_no (a0 a1 b0 b1 : W64) (w : World) (h : kok a0 a1 b0 b1 = false) :
    Calls Try.prog 19 #[.agg #[.int .u64 (nv a0), .int .u64 (nv a1)], .agg #[.int .u64 (nv b0), .int .u64 (nv b1)]] w fun e w' =>
      e = .returned (.tuple #[.agg #[.int .u64 0, .int .u64 0], .bool false]) ∧ Below w.heap.size w w' := by
  have h0 := kor a0 b0
  have h1 := kor a1 b1
  have h2 := kand (a0 ||| b0) (a1 ||| b1)
  have h3 : (nv ((a0 ||| b0) &&& (a1 ||| b1)) != 0) = true := by unfold kok isZ at h; simp only [bne, h]; rfl
  clear h
  go_enter Try.func19, Try.ntmps19
  go_wp2_with fail
  refine bodyPost_ret (v := .tuple #[.agg #[.int .u64 0, .int .u64 0], .bool false]) (by simp [results, Try.results19, go_sem]) rfl ⟨rfl, by repeat (first | exact Below.refl _ _ | apply Below.drew | refine Below.alloc ?_ (by simp <;> omega) _ | refine Below.setCell ?_ (by simp) _)⟩
end Go.Proofs.Ythkdojgagmaecab
