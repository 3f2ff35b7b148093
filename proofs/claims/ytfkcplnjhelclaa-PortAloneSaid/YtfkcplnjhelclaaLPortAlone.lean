/-
  For any number of places, and any acts, the statement PortAlone of layer 18 returns true (what comes of a send hangs on what was sent on that line since it was delivered, alone: without all reads it is the same), and its arguments read as before. No condition.
-/
import Derived.Test.YtfkcplnjhelclaaGlaw18
import Derived.Test.YtfkcplnjhelclaaGmem
import Derived.Test.YtfkcplnjhelclaaGport
namespace Go.Proofs.Ytfkcplnjhelclaa.portAlone
open Go.ChangeShapes Go.WideShapes Go.ChangeAt Go.RowKit
open Mm Po

def Rel (w : World) (N : Int) (A : Option Addr) (c : Nat) (B : Option Addr) (d : Nat) (wr : World) : Prop :=
  ∃ x y, Mate N x y ∧ Rd wr A c [x] ∧ Rd wr B d [y] ∧ Below w.heap.size w wr
attribute [local go_sem ↓] buildPort
set_option maxHeartbeats 3200000 in
theorem walk (N : Int) (A1 : Option Addr) (c1 : Nat) (acts : List Byt) (w : World) (fN : Fit N) (hr : Rd w A1 c1 acts) :
    Calls Try.prog 6 #[.int .i64 N, .slice A1 acts.length c1] w fun e w' => e = .returned (.bool true) ∧ Below w.heap.size w w' := by
  have HL : Hid (Rd (w.alloc (.cells #[.int .i64 1, .int .i64 0, .int .i64 N] 34)) (some ⟨w.heap.size, 0, none⟩) 1 [((1, 0, N) : Pt)]) := rd_lit w 1 0 N ⟨by decide, by decide⟩ ⟨by decide, by decide⟩ fN
  have HB := Lib.hid (below_one w (.cells #[.int .i64 1, .int .i64 0, .int .i64 N] 34))
  have HR := Lib.hid hr
  have FN := Lib.hid fN
  clear hr fN
  go_enter Try.func6, Try.ntmps6
  go_wp2_with fail
  generalize w.alloc (.cells #[.int .i64 1, .int .i64 0, .int .i64 N] 34) = w0 at *
  cases hok : okP (1, 0, N) with
  | false =>
    refine (open_v 1 [] 1 rfl (open_no hok).1 (open_no hok).2 _ (by decide) HL.out).mono ?_
    rintro e w1 ⟨A2, c2, rfl, r1, b1⟩
    replace HB := Lib.hid (below_step HB.out b1)
    clear r1 b1 hok
    go_wp2_with fail
    refine (knows18_any _).mono ?_
    rintro e w2 ⟨rfl, b2⟩
    replace HB := Lib.hid (below_step HB.out b2)
    clear b2
    go_wp2_with fail
    go_ret
    exact ⟨rfl, HB.out⟩
  | true =>
    refine (open_v 1 [openP (1, 0, N)] 0 rfl (open_one hok).1 (open_one hok).2 _ (by decide) HL.out).mono ?_
    rintro e w1 ⟨A2, c2, rfl, r1, b1⟩
    have HREL : Hid (Rel w N A2 c2 A2 c2 w1) := ⟨_, _, ⟨open_good hok, open_good hok, rfl, rfl, rfl⟩, RdS.rd r1, RdS.rd r1, below_step HB.out b1⟩
    clear r1 b1 hok HL HB
    go_wp2_with fail
    go_loopw [5, 7, 8] (fun sa sb sk wr => ∃ (k : Nat) (A : Option Addr) (c : Nat) (B : Option Addr) (d : Nat), sa = .slice A 1 c ∧ sb = .slice B 1 d ∧ sk = .int .i64 (k : Int) ∧ k ≤ acts.length ∧ (k : Int) ≤ 60 ∧ Hid (Rel w N A c B d wr)) (fun _ _ i _ => acts.length - (intOf i).toNat)
    case atStart => exact ⟨0, _, _, _, _, rfl, rfl, rfl, Nat.zero_le _, by decide, HREL⟩
    case round =>
      obtain ⟨k, A, c, B, d, rfl, rfl, rfl, hk, hk60, HR⟩ := hrel
      obtain ⟨x, y, ht, rx, ry, hb⟩ := HR.out
      clear HR HREL
      have RX := Lib.hid rx
      have RY := Lib.hid ry
      have HB := Lib.hid hb
      clear rx ry hb
      by_cases hlt : k < acts.length
      · by_cases h60 : (k : Int) < 60
        · obtain ⟨b, off, rfl, hc⟩ := byte_at (HR.out.below HB.out) (by omega)
          have x0 := hc k hlt
          have i1 : (k : Int) < (acts.length : Int) := by omega
          have i0 : (0 : Int) ≤ (k : Int) := by omega
          have i2 : IntKind.i64.wrap ((k : Int) + 1) = (k : Int) + 1 := IntWalk.i64_in _ (by omega)
          have hfk : Fit (k : Int) := ⟨by omega, by omega⟩
          clear hc
          generalize (at_ acts k).v = m at *
          have HFK := Lib.hid hfk
          clear hfk
          by_cases hm0 : m = 0
          · subst hm0
            have hs := ht.send (k : Int)
            obtain ⟨s1, s2⟩ := send_one ht.kx (w := 1) (by rw [ht.px]) (k : Int)
            obtain ⟨t1, t2⟩ := send_one ht.ky (w := 1) (by rw [ht.py]) (k : Int)
            rw [← hs.1] at t1
            have h2 := hs.2
            generalize sent1E x = E at *
            generalize sent1 x (k : Int) = x' at *
            generalize sent1 y (k : Int) = y' at *
            have hee : (E != E) = false := by simp
            have S1 := Lib.hid s1
            have S2 := Lib.hid s2
            have T1 := Lib.hid t1
            have T2 := Lib.hid t2
            clear s1 s2 t1 t2
            clear hs
            go_wp2_with fail
            refine (send_v (S := fun _ => True) 1 0 (k : Int) 1 [x'] E rfl S2.out S1.out _ (by decide) RX.out HFK.out).mono ?_
            rintro e w2 ⟨A3, c3, rfl, r3, b3⟩
            have RX3 := Lib.hid (RdS.rd r3)
            replace RY := Lib.hid (RY.out.below b3)
            replace HB := Lib.hid (below_step HB.out b3)
            clear r3 b3 x0
            go_wp2_with fail
            refine (send_v (S := fun _ => True) 1 0 (k : Int) 1 [y'] E rfl T2.out T1.out _ (by decide) RY.out HFK.out).mono ?_
            rintro e w3 ⟨B3, d3, rfl, r4, b4⟩
            have RY3 := Lib.hid (RdS.rd r4)
            replace RX3 := Lib.hid (RX3.out.below b4)
            replace HB := Lib.hid (below_step HB.out b4)
            clear r4 b4
            go_wp2_with fail
            go_roundw
            case rel => exact ⟨k + 1, A3, c3, B3, d3, rfl, rfl, by go_num, hlt, by omega, ⟨x', y', h2, RX3.out, RY3.out, HB.out⟩⟩
            case measure => (simp [intOf] <;> omega)
          · have e0 : (m == 0) = false := beq_eq_false_iff_ne.2 hm0
            by_cases hm1 : m = 1
            · subst hm1
              obtain ⟨s1, s2, s3⟩ := read_one ht.kx (w := 0) (by rw [ht.px])
              have h2 := ht.read
              generalize got1E x = E at *
              generalize got1V x = v at *
              generalize got1 x = x' at *
              have S1 := Lib.hid s1
              have S2 := Lib.hid s2
              have S3 := Lib.hid s3
              clear s1 s2 s3
              clear hm0
              go_wp2_with fail
              refine (read_v (S := fun _ => True) 0 0 1 [x'] v E rfl S3.out S2.out S1.out _ (by decide) RX.out).mono ?_
              rintro e w2 ⟨A3, c3, rfl, r3, b3⟩
              have RX3 := Lib.hid (RdS.rd r3)
              replace RY := Lib.hid (RY.out.below b3)
              replace HB := Lib.hid (below_step HB.out b3)
              clear r3 b3 x0
              go_wp2_with fail
              go_roundw
              case rel => exact ⟨k + 1, A3, c3, B, d, rfl, rfl, by go_num, hlt, by omega, ⟨x', y, h2, RX3.out, RY.out, HB.out⟩⟩
              case measure => (simp [intOf] <;> omega)
            · have e1 : (m == 1) = false := beq_eq_false_iff_ne.2 hm1
              have s1 := del_one ht.kx
              have s2 := del_one ht.ky
              have h2 := ht.deliver
              generalize delivL x = x' at *
              generalize delivL y = y' at *
              have S1 := Lib.hid s1
              have S2 := Lib.hid s2
              clear s1 s2
              clear hm0 hm1
              go_wp2_with fail
              refine (deliver_v (S := fun _ => True) 1 [x'] rfl S1.out _ (by decide) RX.out).mono ?_
              rintro e w2 ⟨A3, c3, rfl, r3, b3⟩
              have RX3 := Lib.hid (RdS.rd r3)
              replace RY := Lib.hid (RY.out.below b3)
              replace HB := Lib.hid (below_step HB.out b3)
              clear r3 b3 x0
              go_wp2_with fail
              refine (deliver_v (S := fun _ => True) 1 [y'] rfl S2.out _ (by decide) RY.out).mono ?_
              rintro e w3 ⟨B3, d3, rfl, r4, b4⟩
              have RY3 := Lib.hid (RdS.rd r4)
              replace RX3 := Lib.hid (RX3.out.below b4)
              replace HB := Lib.hid (below_step HB.out b4)
              clear r4 b4
              go_wp2_with fail
              go_roundw
              case rel => exact ⟨k + 1, A3, c3, B3, d3, rfl, rfl, by go_num, hlt, by omega, ⟨x', y', h2, RX3.out, RY3.out, HB.out⟩⟩
              case measure => (simp [intOf] <;> omega)
        · have h60' : (60 : Int) ≤ (k : Int) := by omega
          have i1 : (k : Int) < (acts.length : Int) := by omega
          have hkx := Lib.hid (okS_one ht.kx)
          have hky := Lib.hid (okS_one ht.ky)
          go_wp2_with fail
          refine (right_n A c [x] 1 true rfl hkx.out _ (by decide) RX.out).mono ?_
          rintro e w2 ⟨rfl, b2⟩
          replace RY := Lib.hid (RY.out.below b2)
          replace HB := Lib.hid (below_step HB.out b2)
          clear b2
          go_wp2_with fail
          refine (right_n B d [y] 1 true rfl hky.out _ (by decide) RY.out).mono ?_
          rintro e w3 ⟨rfl, b3⟩
          replace HB := Lib.hid (below_step HB.out b3)
          clear b3
          go_wp2_with fail
          refine (knows18_any _).mono ?_
          rintro e w4 ⟨rfl, b4⟩
          replace HB := Lib.hid (below_step HB.out b4)
          clear b4
          go_wp2_with fail
          go_ret
          exact ⟨rfl, HB.out⟩
      · have i1 : (acts.length : Int) ≤ (k : Int) := by omega
        have hkx := Lib.hid (okS_one ht.kx)
        have hky := Lib.hid (okS_one ht.ky)
        go_wp2_with fail
        refine (right_n A c [x] 1 true rfl hkx.out _ (by decide) RX.out).mono ?_
        rintro e w2 ⟨rfl, b2⟩
        replace RY := Lib.hid (RY.out.below b2)
        replace HB := Lib.hid (below_step HB.out b2)
        clear b2
        go_wp2_with fail
        refine (right_n B d [y] 1 true rfl hky.out _ (by decide) RY.out).mono ?_
        rintro e w3 ⟨rfl, b3⟩
        replace HB := Lib.hid (below_step HB.out b3)
        clear b3
        go_wp2_with fail
        refine (knows18_any _).mono ?_
        rintro e w4 ⟨rfl, b4⟩
        replace HB := Lib.hid (below_step HB.out b4)
        clear b4
        go_wp2_with fail
        go_ret
        exact ⟨rfl, HB.out⟩

set_option maxRecDepth 100000 in
theorem lifted (os : Os) (started : os.Started) (H : Type) (enc : TypeId × Value → H) :
    ReturnsInHanded {} Try.checked os 6 .any (Rows.portAloneSpec.pre6 enc Try.prog Try.f6 Rows.portAloneRow.domain false) (Rows.portAloneSpec.post enc Try.prog Try.f6 false true false false) := by
  refine returnsInHanded_of_change (C := Try.checked) own started (by kernel_rfl) Try.func6
    (ChangeSpec.witness6 (enc := enc) (C := Try.checked) false ⟨#[], #[.int .i64 0, .slice none 0 0], []⟩ 8 (by kernel_rfl) (by kernel_rfl) (by kernel_rfl) (by kernel_rfl)) ?_
  intro W base args ds gs before hval0 hW hcnd _
  have hval : ∀ (j : Nat) t v, Try.f6.params[j]? = some t → args[j]? = some v → Value.okWide Try.prog W .any base t v := hval0
  have hW' := hW
  obtain ⟨p, q, hA0, hV, rfl, hfz, hnd⟩ := hW
  have hA : DataW.TrodAll enc Try.prog W 0 (fun _ => true) true Try.f6.params.toList args.toList ds p := hA0
  rw [Try.params6] at hA hval
  obtain ⟨v0, v1, d0, d1, p0, p1, rfl, rfl, rfl, h0, h1⟩ := trodAll_two hA
  obtain ⟨rfl, rfl⟩ := trodVars_none hV
  obtain ⟨n0, rfl, f0⟩ := Mm.open_num' Try.underlying3 (hval 0 3 v0 rfl rfl) h0
  obtain ⟨A1, c1, l1, rfl, hr1⟩ := Mm.open_list (α := Mm.Byt) Try.underlying47 Mm.opBytes (hval 1 47 v1 rfl rfl) h1
  clear hA0 hval0
  refine (walk n0 A1 c1 l1 W f0 hr1).mono fun e W' ⟨he, bel⟩ => ?_
  subst he
  have hlt0 : ∀ x ∈ p0, x.block < W.heap.size := fun x hx => hW'.lt x (by simp [hx])
  have hlt1 : ∀ x ∈ p1, x.block < W.heap.size := fun x hx => hW'.lt x (by simp [hx])
  exact ⟨_, rfl, _, _, _, [], _, [], hW', trodAll_mk1 (shut_bool Try.underlying4 _), trodAll_mk2 (Below.trod laidOut (by kernel_rfl) (of_decide_eq_true (by kernel_rfl)) h0 bel hlt0) (Below.trod laidOut (by kernel_rfl) (of_decide_eq_true (by kernel_rfl)) h1 bel hlt1), rfl, bel.frame _, fun h => by cases h⟩

/-- The statement. -/
theorem proved : Rows.PortAloneSaid :=
  OpenClaim.holds_of_wide 6 Try.f6 rfl rfl rfl rfl rfl rfl rfl ⟨rfl, rfl, rfl, rfl, rfl⟩ rfl rfl rfl rfl rfl (by kernel_rfl) Try.func6 (by kernel_rfl)
    (of_decide_eq_true (by kernel_rfl)) (by unfold Func.isWrapper; first | (rw [if_pos (by decide +kernel)]; kernel_rfl) | (rw [if_neg (by decide +kernel)]; exact ⟨rfl, rfl⟩))
    (fun os started H enc _ => lifted os started H enc)
#print axioms proved

end Go.Proofs.Ytfkcplnjhelclaa.portAlone
