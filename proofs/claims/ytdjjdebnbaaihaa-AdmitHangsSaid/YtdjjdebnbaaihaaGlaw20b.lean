/-
  Merged texts: Law20Knows.
-/
import Derived.Test.YtdjjdebnbaaihaaGadmitb
import Derived.Test.YtdjjdebnbaaihaaGlaw17
/-
  Layer 20: the helper knows: the document's example.
-/
namespace Go.Proofs.Ytdjjdebnbaaihaa
open Go.RowKit Mm Tk Vd
namespace Pm
set_option synthInstance.maxSize 2000
def qx : Tsk := (1, 4, 4, [])
def qL : List Tsk := [qx]
def q0 : St := ⟨qL, [false], [-1], [], []⟩
def q1 : St := ⟨[qx, qx], [false, false], [-1, -1], [], []⟩
theorem qn0 : bootS qL 2 1 = q0 := st_parts (by decide +kernel) (by decide +kernel) (by decide +kernel) (by decide +kernel) (by decide +kernel)
theorem qv0 : bootE qL 2 1 = 0 := by decide +kernel
theorem qn1 : admS q0 2 1 qx = q0 := st_parts (by decide +kernel) (by decide +kernel) (by decide +kernel) (by decide +kernel) (by decide +kernel)
theorem qv1 : admE q0 2 1 qx = 7 := by decide +kernel
theorem qn2 : admS q0 2 2 qx = q1 := st_parts (by decide +kernel) (by decide +kernel) (by decide +kernel) (by decide +kernel) (by decide +kernel)
theorem qv2 : admE q0 2 2 qx = 0 := by decide +kernel
theorem qL_rd (w : World) : Rd (w.alloc (.cells #[.int .i64 1, .int .i64 4, .int .i64 4, .slice none 0 0] 33)) (some ⟨w.heap.size, 0, none⟩) 1 qL :=
  rd_lit w qL 1 rfl _ _ (by decide) (rows_task (1, 4, 4, []) rfl (fit_small rfl) (fit_small rfl) (fit_small rfl) (rd_nil (fun _ => rfl) (by unfold maxLen; omega)) rows_none)
section
attribute [local go_sem ↓] buildTask3
set_option maxRecDepth 20000 in
set_option maxHeartbeats 1600000 in
theorem knows20_any (w : World) :
    Calls Try.prog 5 #[] w fun e w' => e = .returned (.bool true) ∧ Below w.heap.size w w' := by
  obtain ⟨t1, t2, t3, t4⟩ := box_new w 1 4 4 none 0 0
  have B0 := Lib.hid (below_one w (.cells #[.int .i64 1, .int .i64 4, .int .i64 4, .slice none 0 0] 33))
  go_enter Try.func5, Try.ntmps5
  go_wp2_with fail
  have HS : (w.alloc (.cells #[.int .i64 1, .int .i64 4, .int .i64 4, .slice none 0 0] 33)).heap.size = w.heap.size + 1 := World.size_alloc _ _
  generalize w.alloc (.cells #[.int .i64 1, .int .i64 4, .int .i64 4, .slice none 0 0] 33) = wt at *
  have HT : Hid _ := Lib.hid (qL_rd wt)
  have bt := below_one wt (.cells #[.int .i64 1, .int .i64 4, .int .i64 4, .slice none 0 0] 33)
  rw [HS] at HT
  have B1 := Lib.hid (below_step B0.out bt)
  replace t1 := (cell_below bt) t1
  replace t2 := (cell_below bt) t2
  replace t3 := (cell_below bt) t3
  replace t4 := (cell_below bt) t4
  clear bt HS
  generalize wt.alloc (.cells #[.int .i64 1, .int .i64 4, .int .i64 4, .slice none 0 0] 33) = w0 at *
  generalize (some ⟨w.heap.size + 1, 0, none⟩ : Option Addr) = A at *
  refine (boot_s A 1 qL 1 rfl 2 1 q0 0 qn0 qv0 (by decide) (fun j hj => by
    have : j = 0 := by simpa [qL] using hj
    subst this
    decide) w0 HT.out).mono ?_
  rintro e w1 ⟨p1, rfl, h1, b1⟩
  have HV := Lib.hid (Vs.made (below_step B1.out b1) h1)
  replace t1 := (cell_below b1) t1
  replace t2 := (cell_below b1) t2
  replace t3 := (cell_below b1) t3
  replace t4 := (cell_below b1) t4
  have bn := below_one w1 (.cells #[.slice p1.A q0.tasks.length p1.a, .slice p1.B q0.leaves.length p1.b, .slice p1.C q0.lasts.length p1.c, .slice p1.D q0.jobs.length p1.d, .slice p1.E q0.log.length p1.e] 28)
  replace t1 := (cell_below bn) t1
  replace t2 := (cell_below bn) t2
  replace t3 := (cell_below bn) t3
  replace t4 := (cell_below bn) t4
  clear h1 b1 HT bn
  have y0 := HV.out.y.c.c0
  have y1 := HV.out.y.c.c1
  have y2 := HV.out.y.c.c2
  have y3 := HV.out.y.c.c3
  have y4 := HV.out.y.c.c4
  go_wp2_with fail
  clear y0 y1 y2 y3 y4
  generalize w1.alloc (.cells #[.slice p1.A q0.tasks.length p1.a, .slice p1.B q0.leaves.length p1.b, .slice p1.C q0.lasts.length p1.c, .slice p1.D q0.jobs.length p1.d, .slice p1.E q0.log.length p1.e] 28) = w2 at *
  generalize w1.heap.size = V at *
  have HX : Hid (Rd w2 none 0 qx.2.2.2) := rd_nil (fun _ => rfl) (by unfold maxLen; omega)
  refine (adm_s _ p1 q0 q0 qx none 0 0 rfl (by decide) ⟨fit_small rfl, fit_small rfl, fit_small rfl⟩ 2 1 7 qn1 qv1 w2 (fun b h => h.1) HV.out.z HV.out.arg HX.out).mono ?_
  rintro e w3 ⟨p3, rfl, h3, b3⟩
  replace t1 := (cell_below b3) t1
  replace t2 := (cell_below b3) t2
  replace t3 := (cell_below b3) t3
  replace t4 := (cell_below b3) t4
  replace HV := Lib.hid (HV.out.below b3)
  have HW := Lib.hid (Vs.made HV.out.b h3)
  have bn := below_one w3 (.cells #[.slice p3.A q0.tasks.length p3.a, .slice p3.B q0.leaves.length p3.b, .slice p3.C q0.lasts.length p3.c, .slice p3.D q0.jobs.length p3.d, .slice p3.E q0.log.length p3.e] 28)
  replace t1 := (cell_below bn) t1
  replace t2 := (cell_below bn) t2
  replace t3 := (cell_below bn) t3
  replace t4 := (cell_below bn) t4
  replace HV := Lib.hid (HV.out.below bn)
  clear h3 b3 HX bn
  have y0 := HV.out.y.c.c0
  have y1 := HV.out.y.c.c1
  have y2 := HV.out.y.c.c2
  have y3 := HV.out.y.c.c3
  have y4 := HV.out.y.c.c4
  go_wp2_with fail
  clear y0 y1 y2 y3 y4
  generalize w3.alloc (.cells #[.slice p3.A q0.tasks.length p3.a, .slice p3.B q0.leaves.length p3.b, .slice p3.C q0.lasts.length p3.c, .slice p3.D q0.jobs.length p3.d, .slice p3.E q0.log.length p3.e] 28) = w4 at *
  generalize w3.heap.size = W at *
  have HX : Hid (Rd w4 none 0 qx.2.2.2) := rd_nil (fun _ => rfl) (by unfold maxLen; omega)
  refine (adm_s _ p1 q0 q1 qx none 0 0 rfl (by decide) ⟨fit_small rfl, fit_small rfl, fit_small rfl⟩ 2 2 0 qn2 qv2 w4 (fun b h => h.1) HV.out.z HV.out.arg HX.out).mono ?_
  rintro e w5 ⟨p5, rfl, h5, b5⟩
  replace HV := Lib.hid (HV.out.below b5)
  replace HW := Lib.hid (HW.out.below b5)
  have HU := Lib.hid (Vs.made HV.out.b h5)
  have bn := below_one w5 (.cells #[.slice p5.A q1.tasks.length p5.a, .slice p5.B q1.leaves.length p5.b, .slice p5.C q1.lasts.length p5.c, .slice p5.D q1.jobs.length p5.d, .slice p5.E q1.log.length p5.e] 28)
  replace HV := Lib.hid (HV.out.below bn)
  replace HW := Lib.hid (HW.out.below bn)
  clear h5 b5 HX bn t1 t2 t3 t4
  go_upto_region 5 with fail
  generalize w5.alloc (.cells #[.slice p5.A q1.tasks.length p5.a, .slice p5.B q1.leaves.length p5.b, .slice p5.C q1.lasts.length p5.c, .slice p5.D q1.jobs.length p5.d, .slice p5.E q1.log.length p5.e] 28) = w6 at *
  generalize w5.heap.size = U at *
  have y0 : w6.cell? ⟨V, 0, none⟩ = some (.slice p1.A 1 p1.a) := HV.out.y.c.c0
  have x0 : w6.cell? ⟨W, 0, none⟩ = some (.slice p3.A 1 p3.a) := HW.out.y.c.c0
  have z0 : w6.cell? ⟨U, 0, none⟩ = some (.slice p5.A 2 p5.a) := HU.out.y.c.c0
  go_wp2_with fail
  go_ret
  exact ⟨rfl, HV.out.b⟩
end

end Pm
end Go.Proofs.Ytdjjdebnbaaihaa

