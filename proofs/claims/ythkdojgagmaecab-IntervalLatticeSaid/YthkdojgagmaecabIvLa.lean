/- IntervalLattice, joined. -/
import Derived.Test.YthkdojgagmaecabIvL
namespace Go.Proofs.Ythkdojgagmaecab
open Go.RowKit

theorem ilattice_any (a0 a1 a2 a3 b0 b1 b2 b3 : Int) (n : Nat) (hn : n < 18446744073709551616) (w : World) :
    Calls Try.prog 5 #[.agg #[.int .u64 a0, .int .u64 a1, .int .i64 a2, .int .i64 a3], .agg #[.int .u64 b0, .int .u64 b1, .int .i64 b2, .int .i64 b3], .int .u64 n] w fun e w' => e = .returned (.bool true) ∧ Below w.heap.size w w' := by
  by_cases h : MeetOk (max a0 b0) (min a1 b1) (max a2 b2) (min a3 b3)
  · exact ilat_yes a0 a1 a2 a3 b0 b1 b2 b3 (min a0 b0) (max a1 b1) (min a2 b2) (max a3 b3) (max a0 b0) (min a1 b1) (max a2 b2) (min a3 b3) n (ileB a0 a1 a2 a3 b0 b1 b2 b3) hn (fun w => ijoin_any a0 a1 a2 a3 b0 b1 b2 b3 w) (fun w => ijoin_ref a0 a1 a2 a3 b0 b1 b2 b3 w)
      (fun w => (imeet_any a0 a1 a2 a3 b0 b1 b2 b3 _ _ _ _ rfl rfl rfl rfl w).mono fun _ _ ⟨h1, _, h3⟩ => ⟨h1 h, h3⟩)
      (fun w => (imeet_ref a0 a1 a2 a3 b0 b1 b2 b3 _ _ _ _ rfl rfl rfl rfl w).mono fun _ _ ⟨h1, _, h3⟩ => ⟨h1 h, h3⟩)
      (fun w => ileq_any a0 a1 a2 a3 b0 b1 b2 b3 w) (fun w => ileq_ref a0 a1 a2 a3 b0 b1 b2 b3 w)
      (fun w => by have := ileq_any a0 a1 a2 a3 (min a0 b0) (max a1 b1) (min a2 b2) (max a3 b3) w; rwa [ile_join1] at this) (fun w => by have := ileq_any b0 b1 b2 b3 (min a0 b0) (max a1 b1) (min a2 b2) (max a3 b3) w; rwa [ile_join2] at this)
      (fun w => by have := ileq_any (max a0 b0) (min a1 b1) (max a2 b2) (min a3 b3) a0 a1 a2 a3 w; rwa [ile_meet1] at this) (fun w => by have := ileq_any (max a0 b0) (min a1 b1) (max a2 b2) (min a3 b3) b0 b1 b2 b3 w; rwa [ile_meet2] at this)
      (Lib.hid fun d => icon_meet d a0 a1 a2 a3 b0 b1 b2 b3 n) (Lib.hid fun d h => icon_join1 d a0 a1 a2 a3 b0 b1 b2 b3 n h) (Lib.hid fun d h => icon_join2 d a0 a1 a2 a3 b0 b1 b2 b3 n h) w
  · exact ilat_no a0 a1 a2 a3 b0 b1 b2 b3 (min a0 b0) (max a1 b1) (min a2 b2) (max a3 b3) 0 0 0 0 n (ileB a0 a1 a2 a3 b0 b1 b2 b3) hn (fun w => ijoin_any a0 a1 a2 a3 b0 b1 b2 b3 w) (fun w => ijoin_ref a0 a1 a2 a3 b0 b1 b2 b3 w)
      (fun w => (imeet_any a0 a1 a2 a3 b0 b1 b2 b3 _ _ _ _ rfl rfl rfl rfl w).mono fun _ _ ⟨_, h2, h3⟩ => ⟨h2 h, h3⟩)
      (fun w => (imeet_ref a0 a1 a2 a3 b0 b1 b2 b3 _ _ _ _ rfl rfl rfl rfl w).mono fun _ _ ⟨_, h2, h3⟩ => ⟨h2 h, h3⟩)
      (fun w => ileq_any a0 a1 a2 a3 b0 b1 b2 b3 w) (fun w => ileq_ref a0 a1 a2 a3 b0 b1 b2 b3 w)
      (fun w => by have := ileq_any a0 a1 a2 a3 (min a0 b0) (max a1 b1) (min a2 b2) (max a3 b3) w; rwa [ile_join1] at this) (fun w => by have := ileq_any b0 b1 b2 b3 (min a0 b0) (max a1 b1) (min a2 b2) (max a3 b3) w; rwa [ile_join2] at this)
      (Lib.hid fun d => icon_apart d a0 a1 a2 a3 b0 b1 b2 b3 n h) (Lib.hid fun d h => icon_join1 d a0 a1 a2 a3 b0 b1 b2 b3 n h) (Lib.hid fun d h => icon_join2 d a0 a1 a2 a3 b0 b1 b2 b3 n h) w
end Go.Proofs.Ythkdojgagmaecab
