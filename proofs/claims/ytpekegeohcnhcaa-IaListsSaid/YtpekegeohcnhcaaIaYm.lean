/-
  The reference's bytes of an instruction are those of encF, and right where valB says so: mathematics alone.
-/
import Derived.Test.YtpekegeohcnhcaaIaM
namespace Go.Proofs.Ytpekegeohcnhcaa
/-- The bytes without the first one that a size has. -/
def bod (x : Ins) : List Int := wrB (rw_ x.op).w (rw_ x.op).o (rw_ x.op).n x
theorem sgnR_sgn (h n : Int) (h1 : 0 ≤ n) (h2 : n < 2 * h) : sgnR h n = sgn h n := by
  unfold sgnR sgn
  rw [Int.emod_eq_of_lt h1 h2]
theorem vb_m0 (d s sz imm : Int) : ((((decide (sz = 32) || decide (sz = 16)) && (isR d && isR s)) && (imm == 0))) = valB ⟨0, d, s, sz, imm⟩ := by
  rw [Bool.eq_iff_iff]
  simp [valB, rw_, tbl, szB, fitB, isR]
  try omega
theorem bb_m0 (d s sz imm : Int) (_ : valB ⟨0, d, s, sz, imm⟩ = true) : ([137, 192 + 8 * s + d]) = bod ⟨0, d, s, sz, imm⟩ := by
  simp [bod, rw_, tbl, wrB]
theorem vb_m2 (d s sz imm : Int) : (((((decide (sz = 32) || decide (sz = 16)) && (isR d && isR s)) && (s != 4)) && isS imm 2147483648)) = valB ⟨2, d, s, sz, imm⟩ := by
  rw [Bool.eq_iff_iff]
  simp [valB, rw_, tbl, szB, fitB, isR, isS]
  try omega
theorem bb_m2 (d s sz imm : Int) (_ : valB ⟨2, d, s, sz, imm⟩ = true) : (139 :: (128 + 8 * d + s) :: le4 imm) = bod ⟨2, d, s, sz, imm⟩ := by
  simp [bod, rw_, tbl, wrB]
theorem vb_m3 (d s sz imm : Int) : (((((decide (sz = 32) || decide (sz = 16)) && (isR d && isR s)) && (d != 4)) && isS imm 2147483648)) = valB ⟨3, d, s, sz, imm⟩ := by
  rw [Bool.eq_iff_iff]
  simp [valB, rw_, tbl, szB, fitB, isR, isS]
  try omega
theorem bb_m3 (d s sz imm : Int) (_ : valB ⟨3, d, s, sz, imm⟩ = true) : (137 :: (128 + 8 * s + d) :: le4 imm) = bod ⟨3, d, s, sz, imm⟩ := by
  simp [bod, rw_, tbl, wrB]
theorem vb_m4 (d s sz imm : Int) : (((((sz == 32) && (isR d && isR s)) && (s != 4)) && isS imm 2147483648)) = valB ⟨4, d, s, sz, imm⟩ := by
  rw [Bool.eq_iff_iff]
  simp [valB, rw_, tbl, szB, fitB, isR, isS]
  try omega
theorem bb_m4 (d s sz imm : Int) (_ : valB ⟨4, d, s, sz, imm⟩ = true) : (15 :: 182 :: (128 + 8 * d + s) :: le4 imm) = bod ⟨4, d, s, sz, imm⟩ := by
  simp [bod, rw_, tbl, wrB]
theorem vb_m5 (d s sz imm : Int) : (((((sz == 32) && (isR d && isR s)) && (s != 4)) && isS imm 2147483648)) = valB ⟨5, d, s, sz, imm⟩ := by
  rw [Bool.eq_iff_iff]
  simp [valB, rw_, tbl, szB, fitB, isR, isS]
  try omega
theorem bb_m5 (d s sz imm : Int) (_ : valB ⟨5, d, s, sz, imm⟩ = true) : (15 :: 183 :: (128 + 8 * d + s) :: le4 imm) = bod ⟨5, d, s, sz, imm⟩ := by
  simp [bod, rw_, tbl, wrB]
theorem vb_m6 (d s sz imm : Int) : ((((((sz == 32) && (isR d && isR s)) && isL s) && (d != 4)) && isS imm 2147483648)) = valB ⟨6, d, s, sz, imm⟩ := by
  rw [Bool.eq_iff_iff]
  simp [valB, rw_, tbl, szB, fitB, isR, isL, isS]
  try omega
theorem bb_m6 (d s sz imm : Int) (_ : valB ⟨6, d, s, sz, imm⟩ = true) : (136 :: (128 + 8 * s + d) :: le4 imm) = bod ⟨6, d, s, sz, imm⟩ := by
  simp [bod, rw_, tbl, wrB]
theorem vb_m1_8 (d s imm : Int) : (((((decide ((8 : Int) = 32) || decide ((8 : Int) = 16)) && isR d) && (s == 0)) && decide (0 ≤ imm ∧ imm < 256))) = valB ⟨1, d, s, 8, imm⟩ := by
  rw [Bool.eq_iff_iff]
  simp [valB, rw_, tbl, szB, fitB, isR, half]
  try omega
theorem bb_m1_8 (d s imm : Int) (hv : valB ⟨1, d, s, 8, imm⟩ = true) : ([184 + d, imm % 256]) = bod ⟨1, d, s, 8, imm⟩ := by
  rw [← vb_m1_8] at hv
  simp at hv
theorem vb_m1_16 (d s imm : Int) : (((((decide ((16 : Int) = 32) || decide ((16 : Int) = 16)) && isR d) && (s == 0)) && decide (0 ≤ imm ∧ imm < 65536))) = valB ⟨1, d, s, 16, imm⟩ := by
  rw [Bool.eq_iff_iff]
  simp [valB, rw_, tbl, szB, fitB, isR, half]
  try omega
theorem bb_m1_16 (d s imm : Int) (_ : valB ⟨1, d, s, 16, imm⟩ = true) : ((184 + d) :: le2 imm) = bod ⟨1, d, s, 16, imm⟩ := by
  simp [bod, rw_, tbl, wrB, les]
theorem vb_m1_32 (d s imm : Int) : (((((decide ((32 : Int) = 32) || decide ((32 : Int) = 16)) && isR d) && (s == 0)) && decide (0 ≤ imm ∧ imm < 4294967296))) = valB ⟨1, d, s, 32, imm⟩ := by
  rw [Bool.eq_iff_iff]
  simp [valB, rw_, tbl, szB, fitB, isR, half]
  try omega
theorem bb_m1_32 (d s imm : Int) (_ : valB ⟨1, d, s, 32, imm⟩ = true) : ((184 + d) :: le4 imm) = bod ⟨1, d, s, 32, imm⟩ := by
  simp [bod, rw_, tbl, wrB, les]
theorem vb_c7 (d s sz imm : Int) : (((decide (sz = 32) || decide (sz = 16)) && ((isR d && isR s) && (imm == 0)))) = valB ⟨7, d, s, sz, imm⟩ := by
  rw [Bool.eq_iff_iff]
  simp [valB, rw_, tbl, szB, fitB, isR]
  try omega
theorem bb_c7 (d s sz imm : Int) (_ : valB ⟨7, d, s, sz, imm⟩ = true) : ([1, 192 + 8 * s + d]) = bod ⟨7, d, s, sz, imm⟩ := by
  simp [bod, rw_, tbl, wrB]
theorem vb_c8 (d s sz imm : Int) : (((decide (sz = 32) || decide (sz = 16)) && ((isR d && isR s) && (imm == 0)))) = valB ⟨8, d, s, sz, imm⟩ := by
  rw [Bool.eq_iff_iff]
  simp [valB, rw_, tbl, szB, fitB, isR]
  try omega
theorem bb_c8 (d s sz imm : Int) (_ : valB ⟨8, d, s, sz, imm⟩ = true) : ([9, 192 + 8 * s + d]) = bod ⟨8, d, s, sz, imm⟩ := by
  simp [bod, rw_, tbl, wrB]
theorem vb_c9 (d s sz imm : Int) : (((decide (sz = 32) || decide (sz = 16)) && ((isR d && isR s) && (imm == 0)))) = valB ⟨9, d, s, sz, imm⟩ := by
  rw [Bool.eq_iff_iff]
  simp [valB, rw_, tbl, szB, fitB, isR]
  try omega
theorem bb_c9 (d s sz imm : Int) (_ : valB ⟨9, d, s, sz, imm⟩ = true) : ([33, 192 + 8 * s + d]) = bod ⟨9, d, s, sz, imm⟩ := by
  simp [bod, rw_, tbl, wrB]
theorem vb_c10 (d s sz imm : Int) : (((decide (sz = 32) || decide (sz = 16)) && ((isR d && isR s) && (imm == 0)))) = valB ⟨10, d, s, sz, imm⟩ := by
  rw [Bool.eq_iff_iff]
  simp [valB, rw_, tbl, szB, fitB, isR]
  try omega
theorem bb_c10 (d s sz imm : Int) (_ : valB ⟨10, d, s, sz, imm⟩ = true) : ([41, 192 + 8 * s + d]) = bod ⟨10, d, s, sz, imm⟩ := by
  simp [bod, rw_, tbl, wrB]
theorem vb_c11 (d s sz imm : Int) : (((decide (sz = 32) || decide (sz = 16)) && ((isR d && isR s) && (imm == 0)))) = valB ⟨11, d, s, sz, imm⟩ := by
  rw [Bool.eq_iff_iff]
  simp [valB, rw_, tbl, szB, fitB, isR]
  try omega
theorem bb_c11 (d s sz imm : Int) (_ : valB ⟨11, d, s, sz, imm⟩ = true) : ([49, 192 + 8 * s + d]) = bod ⟨11, d, s, sz, imm⟩ := by
  simp [bod, rw_, tbl, wrB]
theorem vb_c12 (d s sz imm : Int) : (((decide (sz = 32) || decide (sz = 16)) && ((isR d && isR s) && (imm == 0)))) = valB ⟨12, d, s, sz, imm⟩ := by
  rw [Bool.eq_iff_iff]
  simp [valB, rw_, tbl, szB, fitB, isR]
  try omega
theorem bb_c12 (d s sz imm : Int) (_ : valB ⟨12, d, s, sz, imm⟩ = true) : ([57, 192 + 8 * s + d]) = bod ⟨12, d, s, sz, imm⟩ := by
  simp [bod, rw_, tbl, wrB]
theorem vb_c13 (d s sz imm : Int) : (((decide (sz = 32) || decide (sz = 16)) && ((isR d && isR s) && (imm == 0)))) = valB ⟨13, d, s, sz, imm⟩ := by
  rw [Bool.eq_iff_iff]
  simp [valB, rw_, tbl, szB, fitB, isR]
  try omega
theorem bb_c13 (d s sz imm : Int) (_ : valB ⟨13, d, s, sz, imm⟩ = true) : ([133, 192 + 8 * s + d]) = bod ⟨13, d, s, sz, imm⟩ := by
  simp [bod, rw_, tbl, wrB]
theorem vb_c14_16 (d s imm : Int) : (((((decide ((16 : Int) = 32) || decide ((16 : Int) = 16)) && isR d) && (s == 0)) && decide (0 ≤ imm ∧ imm < 65536))) = valB ⟨14, d, s, 16, imm⟩ := by
  rw [Bool.eq_iff_iff]
  simp [valB, rw_, tbl, szB, fitB, isR, half]
  try omega
theorem bb_c14_16 (d s imm : Int) (hv : valB ⟨14, d, s, 16, imm⟩ = true) : (if isS (sgnR 32768 imm) 128 = true then [131, 192 + 8 * 0 + d, imm % 256] else 129 :: (192 + 8 * 0 + d) :: le2 imm) = bod ⟨14, d, s, 16, imm⟩ := by
  have hr : 0 ≤ imm ∧ imm < 65536 := by
    rw [← vb_c14_16] at hv
    simp at hv
    omega
  rw [sgnR_sgn _ _ hr.1 hr.2]
  simp [bod, rw_, tbl, wrB, les, half]
theorem vb_c14_32 (d s imm : Int) : (((((decide ((32 : Int) = 32) || decide ((32 : Int) = 16)) && isR d) && (s == 0)) && decide (0 ≤ imm ∧ imm < 4294967296))) = valB ⟨14, d, s, 32, imm⟩ := by
  rw [Bool.eq_iff_iff]
  simp [valB, rw_, tbl, szB, fitB, isR, half]
  try omega
theorem bb_c14_32 (d s imm : Int) (hv : valB ⟨14, d, s, 32, imm⟩ = true) : (if isS (sgnR 2147483648 imm) 128 = true then [131, 192 + 8 * 0 + d, imm % 256] else 129 :: (192 + 8 * 0 + d) :: le4 imm) = bod ⟨14, d, s, 32, imm⟩ := by
  have hr : 0 ≤ imm ∧ imm < 4294967296 := by
    rw [← vb_c14_32] at hv
    simp at hv
    omega
  rw [sgnR_sgn _ _ hr.1 hr.2]
  simp [bod, rw_, tbl, wrB, les, half]
theorem vb_c14_8 (d s imm : Int) : (false) = valB ⟨14, d, s, 8, imm⟩ := by
  rw [Bool.eq_iff_iff]
  simp [valB, rw_, tbl, szB, fitB, isR, half]
  try omega
theorem bb_c14_8 (d s imm : Int) (hv : valB ⟨14, d, s, 8, imm⟩ = true) : ([]) = bod ⟨14, d, s, 8, imm⟩ := by
  rw [← vb_c14_8] at hv
  cases hv
theorem vb_c15_16 (d s imm : Int) : (((((decide ((16 : Int) = 32) || decide ((16 : Int) = 16)) && isR d) && (s == 0)) && decide (0 ≤ imm ∧ imm < 65536))) = valB ⟨15, d, s, 16, imm⟩ := by
  rw [Bool.eq_iff_iff]
  simp [valB, rw_, tbl, szB, fitB, isR, half]
  try omega
theorem bb_c15_16 (d s imm : Int) (hv : valB ⟨15, d, s, 16, imm⟩ = true) : (if isS (sgnR 32768 imm) 128 = true then [131, 192 + 8 * 1 + d, imm % 256] else 129 :: (192 + 8 * 1 + d) :: le2 imm) = bod ⟨15, d, s, 16, imm⟩ := by
  have hr : 0 ≤ imm ∧ imm < 65536 := by
    rw [← vb_c15_16] at hv
    simp at hv
    omega
  rw [sgnR_sgn _ _ hr.1 hr.2]
  simp [bod, rw_, tbl, wrB, les, half]
theorem vb_c15_32 (d s imm : Int) : (((((decide ((32 : Int) = 32) || decide ((32 : Int) = 16)) && isR d) && (s == 0)) && decide (0 ≤ imm ∧ imm < 4294967296))) = valB ⟨15, d, s, 32, imm⟩ := by
  rw [Bool.eq_iff_iff]
  simp [valB, rw_, tbl, szB, fitB, isR, half]
  try omega
theorem bb_c15_32 (d s imm : Int) (hv : valB ⟨15, d, s, 32, imm⟩ = true) : (if isS (sgnR 2147483648 imm) 128 = true then [131, 192 + 8 * 1 + d, imm % 256] else 129 :: (192 + 8 * 1 + d) :: le4 imm) = bod ⟨15, d, s, 32, imm⟩ := by
  have hr : 0 ≤ imm ∧ imm < 4294967296 := by
    rw [← vb_c15_32] at hv
    simp at hv
    omega
  rw [sgnR_sgn _ _ hr.1 hr.2]
  simp [bod, rw_, tbl, wrB, les, half]
theorem vb_c15_8 (d s imm : Int) : (false) = valB ⟨15, d, s, 8, imm⟩ := by
  rw [Bool.eq_iff_iff]
  simp [valB, rw_, tbl, szB, fitB, isR, half]
  try omega
theorem bb_c15_8 (d s imm : Int) (hv : valB ⟨15, d, s, 8, imm⟩ = true) : ([]) = bod ⟨15, d, s, 8, imm⟩ := by
  rw [← vb_c15_8] at hv
  cases hv
theorem vb_c16_16 (d s imm : Int) : (((((decide ((16 : Int) = 32) || decide ((16 : Int) = 16)) && isR d) && (s == 0)) && decide (0 ≤ imm ∧ imm < 65536))) = valB ⟨16, d, s, 16, imm⟩ := by
  rw [Bool.eq_iff_iff]
  simp [valB, rw_, tbl, szB, fitB, isR, half]
  try omega
theorem bb_c16_16 (d s imm : Int) (hv : valB ⟨16, d, s, 16, imm⟩ = true) : (if isS (sgnR 32768 imm) 128 = true then [131, 192 + 8 * 4 + d, imm % 256] else 129 :: (192 + 8 * 4 + d) :: le2 imm) = bod ⟨16, d, s, 16, imm⟩ := by
  have hr : 0 ≤ imm ∧ imm < 65536 := by
    rw [← vb_c16_16] at hv
    simp at hv
    omega
  rw [sgnR_sgn _ _ hr.1 hr.2]
  simp [bod, rw_, tbl, wrB, les, half]
theorem vb_c16_32 (d s imm : Int) : (((((decide ((32 : Int) = 32) || decide ((32 : Int) = 16)) && isR d) && (s == 0)) && decide (0 ≤ imm ∧ imm < 4294967296))) = valB ⟨16, d, s, 32, imm⟩ := by
  rw [Bool.eq_iff_iff]
  simp [valB, rw_, tbl, szB, fitB, isR, half]
  try omega
theorem bb_c16_32 (d s imm : Int) (hv : valB ⟨16, d, s, 32, imm⟩ = true) : (if isS (sgnR 2147483648 imm) 128 = true then [131, 192 + 8 * 4 + d, imm % 256] else 129 :: (192 + 8 * 4 + d) :: le4 imm) = bod ⟨16, d, s, 32, imm⟩ := by
  have hr : 0 ≤ imm ∧ imm < 4294967296 := by
    rw [← vb_c16_32] at hv
    simp at hv
    omega
  rw [sgnR_sgn _ _ hr.1 hr.2]
  simp [bod, rw_, tbl, wrB, les, half]
theorem vb_c16_8 (d s imm : Int) : (false) = valB ⟨16, d, s, 8, imm⟩ := by
  rw [Bool.eq_iff_iff]
  simp [valB, rw_, tbl, szB, fitB, isR, half]
  try omega
theorem bb_c16_8 (d s imm : Int) (hv : valB ⟨16, d, s, 8, imm⟩ = true) : ([]) = bod ⟨16, d, s, 8, imm⟩ := by
  rw [← vb_c16_8] at hv
  cases hv
theorem vb_c17_16 (d s imm : Int) : (((((decide ((16 : Int) = 32) || decide ((16 : Int) = 16)) && isR d) && (s == 0)) && decide (0 ≤ imm ∧ imm < 65536))) = valB ⟨17, d, s, 16, imm⟩ := by
  rw [Bool.eq_iff_iff]
  simp [valB, rw_, tbl, szB, fitB, isR, half]
  try omega
theorem bb_c17_16 (d s imm : Int) (hv : valB ⟨17, d, s, 16, imm⟩ = true) : (if isS (sgnR 32768 imm) 128 = true then [131, 192 + 8 * 5 + d, imm % 256] else 129 :: (192 + 8 * 5 + d) :: le2 imm) = bod ⟨17, d, s, 16, imm⟩ := by
  have hr : 0 ≤ imm ∧ imm < 65536 := by
    rw [← vb_c17_16] at hv
    simp at hv
    omega
  rw [sgnR_sgn _ _ hr.1 hr.2]
  simp [bod, rw_, tbl, wrB, les, half]
theorem vb_c17_32 (d s imm : Int) : (((((decide ((32 : Int) = 32) || decide ((32 : Int) = 16)) && isR d) && (s == 0)) && decide (0 ≤ imm ∧ imm < 4294967296))) = valB ⟨17, d, s, 32, imm⟩ := by
  rw [Bool.eq_iff_iff]
  simp [valB, rw_, tbl, szB, fitB, isR, half]
  try omega
theorem bb_c17_32 (d s imm : Int) (hv : valB ⟨17, d, s, 32, imm⟩ = true) : (if isS (sgnR 2147483648 imm) 128 = true then [131, 192 + 8 * 5 + d, imm % 256] else 129 :: (192 + 8 * 5 + d) :: le4 imm) = bod ⟨17, d, s, 32, imm⟩ := by
  have hr : 0 ≤ imm ∧ imm < 4294967296 := by
    rw [← vb_c17_32] at hv
    simp at hv
    omega
  rw [sgnR_sgn _ _ hr.1 hr.2]
  simp [bod, rw_, tbl, wrB, les, half]
theorem vb_c17_8 (d s imm : Int) : (false) = valB ⟨17, d, s, 8, imm⟩ := by
  rw [Bool.eq_iff_iff]
  simp [valB, rw_, tbl, szB, fitB, isR, half]
  try omega
theorem bb_c17_8 (d s imm : Int) (hv : valB ⟨17, d, s, 8, imm⟩ = true) : ([]) = bod ⟨17, d, s, 8, imm⟩ := by
  rw [← vb_c17_8] at hv
  cases hv
theorem vb_c18_16 (d s imm : Int) : (((((decide ((16 : Int) = 32) || decide ((16 : Int) = 16)) && isR d) && (s == 0)) && decide (0 ≤ imm ∧ imm < 65536))) = valB ⟨18, d, s, 16, imm⟩ := by
  rw [Bool.eq_iff_iff]
  simp [valB, rw_, tbl, szB, fitB, isR, half]
  try omega
theorem bb_c18_16 (d s imm : Int) (hv : valB ⟨18, d, s, 16, imm⟩ = true) : (if isS (sgnR 32768 imm) 128 = true then [131, 192 + 8 * 6 + d, imm % 256] else 129 :: (192 + 8 * 6 + d) :: le2 imm) = bod ⟨18, d, s, 16, imm⟩ := by
  have hr : 0 ≤ imm ∧ imm < 65536 := by
    rw [← vb_c18_16] at hv
    simp at hv
    omega
  rw [sgnR_sgn _ _ hr.1 hr.2]
  simp [bod, rw_, tbl, wrB, les, half]
theorem vb_c18_32 (d s imm : Int) : (((((decide ((32 : Int) = 32) || decide ((32 : Int) = 16)) && isR d) && (s == 0)) && decide (0 ≤ imm ∧ imm < 4294967296))) = valB ⟨18, d, s, 32, imm⟩ := by
  rw [Bool.eq_iff_iff]
  simp [valB, rw_, tbl, szB, fitB, isR, half]
  try omega
theorem bb_c18_32 (d s imm : Int) (hv : valB ⟨18, d, s, 32, imm⟩ = true) : (if isS (sgnR 2147483648 imm) 128 = true then [131, 192 + 8 * 6 + d, imm % 256] else 129 :: (192 + 8 * 6 + d) :: le4 imm) = bod ⟨18, d, s, 32, imm⟩ := by
  have hr : 0 ≤ imm ∧ imm < 4294967296 := by
    rw [← vb_c18_32] at hv
    simp at hv
    omega
  rw [sgnR_sgn _ _ hr.1 hr.2]
  simp [bod, rw_, tbl, wrB, les, half]
theorem vb_c18_8 (d s imm : Int) : (false) = valB ⟨18, d, s, 8, imm⟩ := by
  rw [Bool.eq_iff_iff]
  simp [valB, rw_, tbl, szB, fitB, isR, half]
  try omega
theorem bb_c18_8 (d s imm : Int) (hv : valB ⟨18, d, s, 8, imm⟩ = true) : ([]) = bod ⟨18, d, s, 8, imm⟩ := by
  rw [← vb_c18_8] at hv
  cases hv
theorem vb_c19_16 (d s imm : Int) : (((((decide ((16 : Int) = 32) || decide ((16 : Int) = 16)) && isR d) && (s == 0)) && decide (0 ≤ imm ∧ imm < 65536))) = valB ⟨19, d, s, 16, imm⟩ := by
  rw [Bool.eq_iff_iff]
  simp [valB, rw_, tbl, szB, fitB, isR, half]
  try omega
theorem bb_c19_16 (d s imm : Int) (hv : valB ⟨19, d, s, 16, imm⟩ = true) : (if isS (sgnR 32768 imm) 128 = true then [131, 192 + 8 * 7 + d, imm % 256] else 129 :: (192 + 8 * 7 + d) :: le2 imm) = bod ⟨19, d, s, 16, imm⟩ := by
  have hr : 0 ≤ imm ∧ imm < 65536 := by
    rw [← vb_c19_16] at hv
    simp at hv
    omega
  rw [sgnR_sgn _ _ hr.1 hr.2]
  simp [bod, rw_, tbl, wrB, les, half]
theorem vb_c19_32 (d s imm : Int) : (((((decide ((32 : Int) = 32) || decide ((32 : Int) = 16)) && isR d) && (s == 0)) && decide (0 ≤ imm ∧ imm < 4294967296))) = valB ⟨19, d, s, 32, imm⟩ := by
  rw [Bool.eq_iff_iff]
  simp [valB, rw_, tbl, szB, fitB, isR, half]
  try omega
theorem bb_c19_32 (d s imm : Int) (hv : valB ⟨19, d, s, 32, imm⟩ = true) : (if isS (sgnR 2147483648 imm) 128 = true then [131, 192 + 8 * 7 + d, imm % 256] else 129 :: (192 + 8 * 7 + d) :: le4 imm) = bod ⟨19, d, s, 32, imm⟩ := by
  have hr : 0 ≤ imm ∧ imm < 4294967296 := by
    rw [← vb_c19_32] at hv
    simp at hv
    omega
  rw [sgnR_sgn _ _ hr.1 hr.2]
  simp [bod, rw_, tbl, wrB, les, half]
theorem vb_c19_8 (d s imm : Int) : (false) = valB ⟨19, d, s, 8, imm⟩ := by
  rw [Bool.eq_iff_iff]
  simp [valB, rw_, tbl, szB, fitB, isR, half]
  try omega
theorem bb_c19_8 (d s imm : Int) (hv : valB ⟨19, d, s, 8, imm⟩ = true) : ([]) = bod ⟨19, d, s, 8, imm⟩ := by
  rw [← vb_c19_8] at hv
  cases hv
theorem vb_c20 (d s sz imm : Int) : (((sz == 32) && ((isR d && isR s) && (imm == 0)))) = valB ⟨20, d, s, sz, imm⟩ := by
  rw [Bool.eq_iff_iff]
  simp [valB, rw_, tbl, szB, fitB, isR]
  try omega
theorem bb_c20 (d s sz imm : Int) (_ : valB ⟨20, d, s, sz, imm⟩ = true) : ([15, 175, 192 + 8 * d + s]) = bod ⟨20, d, s, sz, imm⟩ := by
  simp [bod, rw_, tbl, wrB]
theorem vb_c21 (d s sz imm : Int) : (((decide (sz = 32) || decide (sz = 16)) && ((isR d && (s == 0)) && (imm == 0)))) = valB ⟨21, d, s, sz, imm⟩ := by
  rw [Bool.eq_iff_iff]
  simp [valB, rw_, tbl, szB, fitB, isR]
  try omega
theorem bb_c21 (d s sz imm : Int) (_ : valB ⟨21, d, s, sz, imm⟩ = true) : ([211, 192 + 8 * 4 + d]) = bod ⟨21, d, s, sz, imm⟩ := by
  simp [bod, rw_, tbl, wrB]
theorem vb_c22 (d s sz imm : Int) : (((decide (sz = 32) || decide (sz = 16)) && ((isR d && (s == 0)) && (imm == 0)))) = valB ⟨22, d, s, sz, imm⟩ := by
  rw [Bool.eq_iff_iff]
  simp [valB, rw_, tbl, szB, fitB, isR]
  try omega
theorem bb_c22 (d s sz imm : Int) (_ : valB ⟨22, d, s, sz, imm⟩ = true) : ([211, 192 + 8 * 5 + d]) = bod ⟨22, d, s, sz, imm⟩ := by
  simp [bod, rw_, tbl, wrB]
theorem vb_c23 (d s sz imm : Int) : (((decide (sz = 32) || decide (sz = 16)) && ((isR d && (s == 0)) && (imm == 0)))) = valB ⟨23, d, s, sz, imm⟩ := by
  rw [Bool.eq_iff_iff]
  simp [valB, rw_, tbl, szB, fitB, isR]
  try omega
theorem bb_c23 (d s sz imm : Int) (_ : valB ⟨23, d, s, sz, imm⟩ = true) : ([211, 192 + 8 * 7 + d]) = bod ⟨23, d, s, sz, imm⟩ := by
  simp [bod, rw_, tbl, wrB]
theorem vb_c24 (d s sz imm : Int) : (((decide (sz = 32) || decide (sz = 16)) && ((isR d && (s == 0)) && (imm == 0)))) = valB ⟨24, d, s, sz, imm⟩ := by
  rw [Bool.eq_iff_iff]
  simp [valB, rw_, tbl, szB, fitB, isR]
  try omega
theorem bb_c24 (d s sz imm : Int) (_ : valB ⟨24, d, s, sz, imm⟩ = true) : ([247, 192 + 8 * 2 + d]) = bod ⟨24, d, s, sz, imm⟩ := by
  simp [bod, rw_, tbl, wrB]
theorem vb_c25 (d s sz imm : Int) : (((decide (sz = 32) || decide (sz = 16)) && ((isR d && (s == 0)) && (imm == 0)))) = valB ⟨25, d, s, sz, imm⟩ := by
  rw [Bool.eq_iff_iff]
  simp [valB, rw_, tbl, szB, fitB, isR]
  try omega
theorem bb_c25 (d s sz imm : Int) (_ : valB ⟨25, d, s, sz, imm⟩ = true) : ([247, 192 + 8 * 3 + d]) = bod ⟨25, d, s, sz, imm⟩ := by
  simp [bod, rw_, tbl, wrB]
theorem vb_c26 (d s sz imm : Int) : (((sz == 32) && ((isR d && (s == 0)) && (imm == 0)))) = valB ⟨26, d, s, sz, imm⟩ := by
  rw [Bool.eq_iff_iff]
  simp [valB, rw_, tbl, szB, fitB, isR]
  try omega
theorem bb_c26 (d s sz imm : Int) (_ : valB ⟨26, d, s, sz, imm⟩ = true) : ([247, 192 + 8 * 6 + d]) = bod ⟨26, d, s, sz, imm⟩ := by
  simp [bod, rw_, tbl, wrB]
theorem vb_c27 (d s sz imm : Int) : (((sz == 32) && ((isR d && (s == 0)) && (imm == 0)))) = valB ⟨27, d, s, sz, imm⟩ := by
  rw [Bool.eq_iff_iff]
  simp [valB, rw_, tbl, szB, fitB, isR]
  try omega
theorem bb_c27 (d s sz imm : Int) (_ : valB ⟨27, d, s, sz, imm⟩ = true) : ([247, 192 + 8 * 7 + d]) = bod ⟨27, d, s, sz, imm⟩ := by
  simp [bod, rw_, tbl, wrB]
theorem vb_o28 (d s sz imm : Int) : ((((d == 0) && (s == 0)) && (imm == 0)) && (sz == 32)) = valB ⟨28, d, s, sz, imm⟩ := by
  rw [Bool.eq_iff_iff]
  simp [valB, rw_, tbl, szB, fitB]
  try omega
theorem bb_o28 (d s sz imm : Int) (_ : valB ⟨28, d, s, sz, imm⟩ = true) : ([153]) = bod ⟨28, d, s, sz, imm⟩ := by
  simp [bod, rw_, tbl, wrB]
theorem vb_o34 (d s sz imm : Int) : ((((d == 0) && (s == 0)) && (imm == 0)) && (sz == 32)) = valB ⟨34, d, s, sz, imm⟩ := by
  rw [Bool.eq_iff_iff]
  simp [valB, rw_, tbl, szB, fitB]
  try omega
theorem bb_o34 (d s sz imm : Int) (_ : valB ⟨34, d, s, sz, imm⟩ = true) : ([244]) = bod ⟨34, d, s, sz, imm⟩ := by
  simp [bod, rw_, tbl, wrB]
theorem vb_o35 (d s sz imm : Int) : ((((d == 0) && (s == 0)) && (imm == 0)) && (sz == 32)) = valB ⟨35, d, s, sz, imm⟩ := by
  rw [Bool.eq_iff_iff]
  simp [valB, rw_, tbl, szB, fitB]
  try omega
theorem bb_o35 (d s sz imm : Int) (_ : valB ⟨35, d, s, sz, imm⟩ = true) : ([15, 11]) = bod ⟨35, d, s, sz, imm⟩ := by
  simp [bod, rw_, tbl, wrB]
theorem vb_o36 (d s sz imm : Int) : ((((d == 0) && (s == 0)) && (imm == 0)) && (sz == 32)) = valB ⟨36, d, s, sz, imm⟩ := by
  rw [Bool.eq_iff_iff]
  simp [valB, rw_, tbl, szB, fitB]
  try omega
theorem bb_o36 (d s sz imm : Int) (_ : valB ⟨36, d, s, sz, imm⟩ = true) : ([144]) = bod ⟨36, d, s, sz, imm⟩ := by
  simp [bod, rw_, tbl, wrB]
theorem vb_o29 (d s sz imm : Int) : (((((sz == 32) && isL d) && isC s) && (imm == 0))) = valB ⟨29, d, s, sz, imm⟩ := by
  rw [Bool.eq_iff_iff]
  simp [valB, rw_, tbl, szB, fitB, isL, isC]
  try omega
theorem bb_o29 (d s sz imm : Int) (_ : valB ⟨29, d, s, sz, imm⟩ = true) : ([15, 144 + s, 192 + 8 * 0 + d]) = bod ⟨29, d, s, sz, imm⟩ := by
  simp [bod, rw_, tbl, wrB]
theorem vb_o30 (d s sz imm : Int) : (((((sz == 32) && isR d) && isL s) && (imm == 0))) = valB ⟨30, d, s, sz, imm⟩ := by
  rw [Bool.eq_iff_iff]
  simp [valB, rw_, tbl, szB, fitB, isR, isL]
  try omega
theorem bb_o30 (d s sz imm : Int) (_ : valB ⟨30, d, s, sz, imm⟩ = true) : ([15, 182, 192 + 8 * d + s]) = bod ⟨30, d, s, sz, imm⟩ := by
  simp [bod, rw_, tbl, wrB]
theorem vb_o31 (d s sz imm : Int) : (((((sz == 32) && isR d) && isR s) && isC imm)) = valB ⟨31, d, s, sz, imm⟩ := by
  rw [Bool.eq_iff_iff]
  simp [valB, rw_, tbl, szB, fitB, isR, isC]
  try omega
theorem bb_o31 (d s sz imm : Int) (_ : valB ⟨31, d, s, sz, imm⟩ = true) : ([15, 64 + imm, 192 + 8 * d + s]) = bod ⟨31, d, s, sz, imm⟩ := by
  simp [bod, rw_, tbl, wrB]
theorem vb_o32_8 (d s imm : Int) : ((((d == 0) && isC s) && isS imm 128)) = valB ⟨32, d, s, 8, imm⟩ := by
  rw [Bool.eq_iff_iff]
  simp [valB, rw_, tbl, szB, fitB, isC, isS, half]
  try omega
theorem bb_o32_8 (d s imm : Int) (_ : valB ⟨32, d, s, 8, imm⟩ = true) : ([112 + s, imm % 256]) = bod ⟨32, d, s, 8, imm⟩ := by
  simp [bod, rw_, tbl, wrB]
theorem vb_o33_8 (d s imm : Int) : ((((d == 0) && (s == 0)) && isS imm 128)) = valB ⟨33, d, s, 8, imm⟩ := by
  rw [Bool.eq_iff_iff]
  simp [valB, rw_, tbl, szB, fitB, isS, half]
  try omega
theorem bb_o33_8 (d s imm : Int) (_ : valB ⟨33, d, s, 8, imm⟩ = true) : ([235, imm % 256]) = bod ⟨33, d, s, 8, imm⟩ := by
  simp [bod, rw_, tbl, wrB]
theorem vb_o32 (d s sz imm : Int) (h8 : (sz == 8) = false) : (((((sz == 32) && (d == 0)) && isC s) && isS imm 2147483648)) = valB ⟨32, d, s, sz, imm⟩ := by
  have h8' : sz ≠ 8 := ne_of_beq_false h8
  rw [Bool.eq_iff_iff]
  simp [valB, rw_, tbl, szB, fitB, isC, isS, half]
  try omega
theorem bb_o32 (d s sz imm : Int) (h8 : (sz == 8) = false) (_ : valB ⟨32, d, s, sz, imm⟩ = true) : (15 :: (128 + s) :: le4 imm) = bod ⟨32, d, s, sz, imm⟩ := by
  have h8' : sz ≠ 8 := ne_of_beq_false h8
  simp [bod, rw_, tbl, wrB, h8']
theorem vb_o33 (d s sz imm : Int) (h8 : (sz == 8) = false) : (((((sz == 32) && (d == 0)) && (s == 0)) && isS imm 2147483648)) = valB ⟨33, d, s, sz, imm⟩ := by
  have h8' : sz ≠ 8 := ne_of_beq_false h8
  rw [Bool.eq_iff_iff]
  simp [valB, rw_, tbl, szB, fitB, isS, half]
  try omega
theorem bb_o33 (d s sz imm : Int) (h8 : (sz == 8) = false) (_ : valB ⟨33, d, s, sz, imm⟩ = true) : (233 :: le4 imm) = bod ⟨33, d, s, sz, imm⟩ := by
  have h8' : sz ≠ 8 := ne_of_beq_false h8
  simp [bod, rw_, tbl, wrB, h8']
end Go.Proofs.Ytpekegeohcnhcaa
