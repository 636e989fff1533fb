/- The document's own sameness of houses: houses that are the same are told so. -/
import Derived.Test.YtdhdjnpgebddmaaTabRow
import Derived.Deep.RegionHeld3
import Derived.Deep.QuietTactic
import Derived.BigQuiet
namespace Go.Proofs.Ytdhdjnpgebddmaa
open Go.RowKit Tab

set_option maxHeartbeats 1000000 in
theorem sameLimit_t (x : Lm) (w : World) : Calls Try.prog 41 #[limV x, limV x] w fun e w' => e = .returned (.bool true) ∧ Below w.heap.size w w' := by
  obtain ⟨xs, xhb, xsb, xhn, xsn, xgr, xbu⟩ := x
  show Calls _ _ #[.agg #[.int .i64 xs, .int .i64 xhb, .int .i64 xsb, .int .i64 xhn, .int .i64 xsn, .int .i64 xgr, .int .i64 xbu], .agg #[.int .i64 xs, .int .i64 xhb, .int .i64 xsb, .int .i64 xhn, .int .i64 xsn, .int .i64 xgr, .int .i64 xbu]] _ _
  go_enter Try.func41, Try.ntmps41
  go_wp2_with fail
  go_ret
  exact ⟨rfl, ((Below.refl _ w).alloc (Nat.le_refl _) _).alloc (by simp) _⟩

set_option maxRecDepth 10000 in
set_option maxHeartbeats 8000000 in
theorem same_t (l : List Ho) (va vb : Value) (w : World) (ha : Houses w va l) (hb : Houses w vb l) (hl : l.length ≤ 1000) (hs : ∀ x ∈ l, x.segs.length ≤ 1000) :
    Calls Try.prog 19 #[va, vb] w fun e w' => e = .returned (.bool true) ∧ Below w.heap.size w w' := by
  obtain ⟨pad, pcap, rfl, hpc⟩ := ha
  obtain ⟨qad, qcap, rfl, hqc⟩ := hb
  have HP := tabhid hpc
  have HQ := tabhid hqc
  have HS := tabhid hs
  clear hpc hqc hs
  go_enter Try.func19, Try.ntmps19
  go_wp2_with fail
  go_loopw [5] (fun c wr => ∃ (i : Nat), i ≤ l.length ∧ c = .int .i64 i ∧ Hid (Below w.heap.size w wr)) (fun c _ => l.length - (intOf c).toNat)
  case atStart => exact ⟨0, by omega, rfl, Below.refl _ _⟩
  case round =>
    obtain ⟨i, hi, rfl, HB⟩ := hrel
    by_cases hlt : i < l.length
    · obtain ⟨pb, po, rfl, hpb, hpi⟩ := HP.out (by omega)
      obtain ⟨qb, qo, rfl, hqb, hqi⟩ := HQ.out (by omega)
      obtain ⟨pv, hpv⟩ := hpi i hlt
      obtain ⟨qv, hqv⟩ := hqi i hlt
      have hsl := HS.out l[i] (List.getElem_mem hlt)
      have hp2 := hpv.on hpb HB.out
      have hq2 := hqv.on hqb HB.out
      clear hpi hqi hpv hqv HP HQ HS
      generalize l[i] = x at *
      have hpw : pb < wr.heap.size := Nat.lt_of_lt_of_le hpb HB.out.size
      have hqw : qb < wr.heap.size := Nat.lt_of_lt_of_le hqb HB.out.size
      obtain ⟨p0, p1, p2, p3, p4, p5, p6, p7, p8, p9, hpI⟩ := hp2
      obtain ⟨q0, q1, q2, q3, q4, q5, q6, q7, q8, q9, hqI⟩ := hq2
      obtain ⟨pa, pc, rfl, hpn, hps⟩ := hpI
      obtain ⟨qa, qc, rfl, hqn, hqs⟩ := hqI
      have HPS := tabhid hps
      have HQS := tabhid hqs
      clear hpn hqn hps hqs
      go_wp2_with fail
      go_region_held3 (fun w' => w'.cell? ⟨pb, po + i * 10, none⟩ = some (.int .i64 x.st) ∧ w'.cell? ⟨pb, po + i * 10 + 1, none⟩ = some (.int .i64 x.gen) ∧ w'.cell? ⟨pb, po + i * 10 + 2, none⟩ = some (.int .i64 x.lim.s) ∧ w'.cell? ⟨pb, po + i * 10 + 3, none⟩ = some (.int .i64 x.lim.hb) ∧ w'.cell? ⟨pb, po + i * 10 + 4, none⟩ = some (.int .i64 x.lim.sb) ∧ w'.cell? ⟨pb, po + i * 10 + 5, none⟩ = some (.int .i64 x.lim.hn) ∧ w'.cell? ⟨pb, po + i * 10 + 6, none⟩ = some (.int .i64 x.lim.sn) ∧ w'.cell? ⟨pb, po + i * 10 + 7, none⟩ = some (.int .i64 x.lim.gr) ∧ w'.cell? ⟨pb, po + i * 10 + 8, none⟩ = some (.int .i64 x.lim.bu) ∧ w'.cell? ⟨pb, po + i * 10 + 9, none⟩ = some (.slice pa x.segs.length pc) ∧ w'.cell? ⟨qb, qo + i * 10, none⟩ = some (.int .i64 x.st) ∧ w'.cell? ⟨qb, qo + i * 10 + 1, none⟩ = some (.int .i64 x.gen) ∧ w'.cell? ⟨qb, qo + i * 10 + 2, none⟩ = some (.int .i64 x.lim.s) ∧ w'.cell? ⟨qb, qo + i * 10 + 3, none⟩ = some (.int .i64 x.lim.hb) ∧ w'.cell? ⟨qb, qo + i * 10 + 4, none⟩ = some (.int .i64 x.lim.sb) ∧ w'.cell? ⟨qb, qo + i * 10 + 5, none⟩ = some (.int .i64 x.lim.hn) ∧ w'.cell? ⟨qb, qo + i * 10 + 6, none⟩ = some (.int .i64 x.lim.sn) ∧ w'.cell? ⟨qb, qo + i * 10 + 7, none⟩ = some (.int .i64 x.lim.gr) ∧ w'.cell? ⟨qb, qo + i * 10 + 8, none⟩ = some (.int .i64 x.lim.bu) ∧ w'.cell? ⟨qb, qo + i * 10 + 9, none⟩ = some (.slice qa x.segs.length qc)) (first | go_keep)
        (first
          | (go_at_call 41; refine (sameLimit_t x.lim _).mono ?_; rintro e w1 ⟨rfl, hb1⟩; have hp1 : Below wr.heap.size wr w1 := ⟨hb1.os, hb1.tape, hb1.output, hb1.size, hb1.block⟩; have kp0 : w1.cell? ⟨pb, po + i * 10, none⟩ = some (.int .i64 x.st) := (by rw [hp1.cell (by show pb < _; omega)]; exact p0); have kp1 : w1.cell? ⟨pb, po + i * 10 + 1, none⟩ = some (.int .i64 x.gen) := (by rw [hp1.cell (by show pb < _; omega)]; exact p1); have kp2 : w1.cell? ⟨pb, po + i * 10 + 2, none⟩ = some (.int .i64 x.lim.s) := (by rw [hp1.cell (by show pb < _; omega)]; exact p2); have kp3 : w1.cell? ⟨pb, po + i * 10 + 3, none⟩ = some (.int .i64 x.lim.hb) := (by rw [hp1.cell (by show pb < _; omega)]; exact p3); have kp4 : w1.cell? ⟨pb, po + i * 10 + 4, none⟩ = some (.int .i64 x.lim.sb) := (by rw [hp1.cell (by show pb < _; omega)]; exact p4); have kp5 : w1.cell? ⟨pb, po + i * 10 + 5, none⟩ = some (.int .i64 x.lim.hn) := (by rw [hp1.cell (by show pb < _; omega)]; exact p5); have kp6 : w1.cell? ⟨pb, po + i * 10 + 6, none⟩ = some (.int .i64 x.lim.sn) := (by rw [hp1.cell (by show pb < _; omega)]; exact p6); have kp7 : w1.cell? ⟨pb, po + i * 10 + 7, none⟩ = some (.int .i64 x.lim.gr) := (by rw [hp1.cell (by show pb < _; omega)]; exact p7); have kp8 : w1.cell? ⟨pb, po + i * 10 + 8, none⟩ = some (.int .i64 x.lim.bu) := (by rw [hp1.cell (by show pb < _; omega)]; exact p8); have kp9 : w1.cell? ⟨pb, po + i * 10 + 9, none⟩ = some (.slice pa x.segs.length pc) := (by rw [hp1.cell (by show pb < _; omega)]; exact p9); have kq0 : w1.cell? ⟨qb, qo + i * 10, none⟩ = some (.int .i64 x.st) := (by rw [hp1.cell (by show qb < _; omega)]; exact q0); have kq1 : w1.cell? ⟨qb, qo + i * 10 + 1, none⟩ = some (.int .i64 x.gen) := (by rw [hp1.cell (by show qb < _; omega)]; exact q1); have kq2 : w1.cell? ⟨qb, qo + i * 10 + 2, none⟩ = some (.int .i64 x.lim.s) := (by rw [hp1.cell (by show qb < _; omega)]; exact q2); have kq3 : w1.cell? ⟨qb, qo + i * 10 + 3, none⟩ = some (.int .i64 x.lim.hb) := (by rw [hp1.cell (by show qb < _; omega)]; exact q3); have kq4 : w1.cell? ⟨qb, qo + i * 10 + 4, none⟩ = some (.int .i64 x.lim.sb) := (by rw [hp1.cell (by show qb < _; omega)]; exact q4); have kq5 : w1.cell? ⟨qb, qo + i * 10 + 5, none⟩ = some (.int .i64 x.lim.hn) := (by rw [hp1.cell (by show qb < _; omega)]; exact q5); have kq6 : w1.cell? ⟨qb, qo + i * 10 + 6, none⟩ = some (.int .i64 x.lim.sn) := (by rw [hp1.cell (by show qb < _; omega)]; exact q6); have kq7 : w1.cell? ⟨qb, qo + i * 10 + 7, none⟩ = some (.int .i64 x.lim.gr) := (by rw [hp1.cell (by show qb < _; omega)]; exact q7); have kq8 : w1.cell? ⟨qb, qo + i * 10 + 8, none⟩ = some (.int .i64 x.lim.bu) := (by rw [hp1.cell (by show qb < _; omega)]; exact q8); have kq9 : w1.cell? ⟨qb, qo + i * 10 + 9, none⟩ = some (.slice qa x.segs.length qc) := (by rw [hp1.cell (by show qb < _; omega)]; exact q9)))
      have HBW := HB
      have HW1 := tabhid hp1
      clear hb1 hp1 HB p0 p1 p2 p3 p4 p5 p6 p7 p8 q0 q1 q2 q3 q4 q5 q6 q7 q8 kp0 kp1 kp2 kp3 kp4 kp5 kp6 kp7 kp8 kp9 kq0 kq1 kq2 kq3 kq4 kq5 kq6 kq7 kq8 kq9
      have P9 := tabhid p9
      have Q9 := tabhid q9
      clear p9 q9
      go_wp2_with fail
      go_loopw [6] (fun c w2 => ∃ (j : Nat), j ≤ x.segs.length ∧ c = .int .i64 j ∧ Hid (Below wr.heap.size wr w2)) (fun c _ => x.segs.length - (intOf c).toNat)
      case atStart => exact ⟨0, by omega, rfl, HW1⟩
      case round =>
        obtain ⟨j, hj, rfl, HB2⟩ := hrel
        rename World => w2
        have p9 : w2.cell? ⟨pb, po + i * 10 + 9, none⟩ = some (.slice pa x.segs.length pc) := by rw [HB2.out.cell hpw]; exact P9.out
        have q9 : w2.cell? ⟨qb, qo + i * 10 + 9, none⟩ = some (.slice qa x.segs.length qc) := by rw [HB2.out.cell hqw]; exact Q9.out
        by_cases hjl : j < x.segs.length
        · obtain ⟨sb, so, rfl, hsb, hsi⟩ := HPS.out (by omega)
          obtain ⟨rb, ro, rfl, hrb, hri⟩ := HQS.out (by omega)
          have s0 : w2.cell? ⟨sb, so + j, none⟩ = some (.int .i64 x.segs[j]) := by rw [HB2.out.cell hsb]; exact hsi j hjl
          have r0 : w2.cell? ⟨rb, ro + j, none⟩ = some (.int .i64 x.segs[j]) := by rw [HB2.out.cell hrb]; exact hri j hjl
          clear hsi hri
          generalize x.segs[j] = y at *
          go_wp2_with fail
          go_quiet (fail)
          go_wp2_with fail
          refine ⟨⟨j + 1, by omega, by go_num, ?_⟩, by simp [intOf]; omega⟩
          exact ⟨HB2.out.os, HB2.out.tape, HB2.out.output, HB2.out.size, HB2.out.block⟩
        · have HB3 : Hid (Below w.heap.size w w2) := HBW.out.trans (HB2.out.mono HBW.out.size)
          go_wp2_with fail
          exact ⟨⟨i + 1, by omega, by go_num, HB3⟩, by simp [intOf]; omega⟩
    · go_wp2_with fail
      go_ret
      exact ⟨rfl, HB.out⟩
end Go.Proofs.Ytdhdjnpgebddmaa
