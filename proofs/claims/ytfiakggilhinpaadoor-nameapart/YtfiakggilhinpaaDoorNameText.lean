/- The laws' own Place and Text walked: what they make is so many small letters. -/
import Derived.Test.YtfiakggilhinpaaDoorNameCode
import Derived.Laws.BytesArg
import Derived.Deep.AppendLies
namespace Go.Proofs.YtfiakggilhinpaaDoor
open Go.RowKit

theorem nameEnd {k : IntKind} {a b : Int} (h : a = b) : Ending.returned (.int k a) = .returned (.int k b) := by rw [h]

theorem nplace_emod {v n : Int} (hn : 0 < n) : v % n = if v.tmod n < 0 then v.tmod n + n else v.tmod n := by
  rw [Int.tmod_eq_emod]
  have h1 := Int.emod_nonneg v (show n ≠ 0 by omega)
  have h2 := Int.emod_lt_of_pos v hn
  split <;> split <;> omega

set_option maxHeartbeats 400000 in
theorem nplace_t (v n : Int) (w : World) (hn : 0 < n) (hn2 : n ≤ 4611686018427387904) :
    Calls Tryd.prog 16 #[.int .i64 v, .int .i64 n] w fun e w' => (∃ p : Nat, e = .returned (.int .i64 p) ∧ p < n) ∧ w = w' := by
  have hn0 : (n == 0) = false := by simp; omega
  have e := @nplace_emod v n hn
  have h1 := Int.emod_nonneg v (show n ≠ 0 by omega)
  have h2 := Int.emod_lt_of_pos v hn
  have b1 : -n ≤ v.tmod n := by split at e <;> omega
  have b2 : v.tmod n < n := by split at e <;> omega
  have H : Hid (v % n = if v.tmod n < 0 then v.tmod n + n else v.tmod n) := e
  have HP : Hid ((v % n).toNat = v % n ∧ ((v % n).toNat : Int) < n) := ⟨by omega, by omega⟩
  clear e h1 h2
  go_enter Tryd.func16, Tryd.ntmps16
  go_wp2
  all_goals go_ret
  · exact ⟨⟨(v % n).toNat, nameEnd (by rw [HP.out.1, H.out, if_pos (by assumption)]), HP.out.2⟩, rfl⟩
  · exact ⟨⟨(v % n).toNat, nameEnd (by rw [HP.out.1, H.out, if_neg (by omega)]), HP.out.2⟩, rfl⟩

/-- Small letters alone. -/
def Low (T : List UInt8) : Prop := ∀ b ∈ T, 97 ≤ b.toNat ∧ b.toNat ≤ 122

/-- Bytes as cells. -/
def bcells (T : List UInt8) : List Value := T.map fun b => .int .u8 (b.toNat : Int)
theorem bcells_snoc (T : List UInt8) (b : UInt8) : bcells (T ++ [b]) = bcells T ++ [.int .u8 (b.toNat : Int)] := by simp [bcells]

theorem Tryd.ninfo5 : (Tryd.prog.info? 5).map (fun i => (i.zero, i.size, i.bytes)) = some (some (.int .u8 0), 1, 1) := by kernel_rfl

theorem name_str (l : List UInt8) : strOfNums (l.map fun b => (b.toNat : Int)) = ⟨l.toArray⟩ := by
  have e : ((fun n : Int => UInt8.ofNat n.toNat) ∘ fun b : UInt8 => (b.toNat : Int)) = id := by
    funext b
    simp
  apply ByteArray.ext
  simp [strOfNums, e]

theorem name_conv (w : World) (b off cap : Nat) (l : List UInt8) (h : ∀ t (h : t < l.length), w.cell? ⟨b, off + t, none⟩ = some (.int .u8 (l[t].toNat : Int))) :
    (convert 32 9 (.slice (some ⟨b, off, none⟩) l.length cap)).run Tryd.prog w = .ok (.string ⟨l.toArray⟩) w := by
  have := run_convert_bytes_arg (P := Tryd.prog) w 32 5 Tryd.underlying32 Tryd.underlying5 b off l.length cap (l.map fun b => (b.toNat : Int)) (by simp) (fun i hi => by
    rw [h i hi]
    simp [List.getD, hi]) 9 Tryd.underlying9
  rw [this, name_str]

theorem owns_conv {w : World} {base : Nat} {a : Option Addr} {c : Nat} {T : List UInt8} (h : w.ownsRow base 5 1 (.slice a T.length c) T.length (bcells T)) :
    (convert 32 9 (.slice a T.length c)).run Tryd.prog w = .ok (.string ⟨T.toArray⟩) w := by
  obtain ⟨_, ⟨he, hn⟩ | ⟨g, cap, cur, he, _, hg, _, _, _, ht⟩⟩ := h
  · have hT := List.eq_nil_of_length_eq_zero hn
    subst hT
    cases he
    exact run_convert_bytes_nil (P := Tryd.prog) w 32 5 Tryd.underlying32 Tryd.underlying5 0 0 9 Tryd.underlying9
  · cases he
    refine name_conv w g 0 c T fun t htl => ?_
    rw [cell_of_row w g _ cur 5 _ hg, Nat.zero_add]
    have e : (bcells T)[t]? = some (.int .u8 (T[t].toNat : Int)) := by simp [bcells, htl]
    rw [← e, ← ht, Nat.mul_one, List.getElem?_take_of_lt htl, Array.getElem?_toList]

set_option maxHeartbeats 2000000 in
/-- Text: so many small letters. -/
theorem text_t (v : Int) (n : Nat) (w : World) (h1 : -1000000 ≤ v) (h2 : v ≤ 1000000) (hn : n ≤ 1000) :
    Calls Tryd.prog 17 #[.int .i64 v, .int .i64 n] w fun e w' => (∃ T : List UInt8, e = .returned (.string ⟨T.toArray⟩) ∧ T.length = n ∧ Low T) ∧ Below w.heap.size w w' := by
  obtain ⟨i0, hi0, hz0, hz1, hz2⟩ := info_parts Tryd.ninfo5
  go_enter Tryd.func17, Tryd.ntmps17
  go_wp2_with fail
  go_loopw [5, 6] (fun bv iv wr => ∃ (T : List UInt8) (av : Option Addr) (cv : Nat), bv = .slice av T.length cv ∧ iv = .int .i64 T.length ∧ T.length ≤ n ∧ Hid (Low T) ∧ Hid (wr.ownsRow w.heap.size 5 1 (.slice av T.length cv) T.length (bcells T)) ∧ Hid (Below w.heap.size w wr)) (fun _ iv _ => n - (intOf iv).toNat)
  case atStart => exact ⟨[], none, 0, rfl, rfl, by simp, fun b hb => (by cases hb), World.ownsRow_nil _ _ _ _, Below.refl _ _⟩
  case round =>
    obtain ⟨T, av, cv, rfl, rfl, hT, HL, HO, HB⟩ := hrel
    by_cases hlt : T.length < n
    · go_wp2_with fail
      refine (nplace_t v 7 wr (by decide) (by decide)).mono ?_
      rintro e w2 ⟨⟨p, rfl, hp⟩, rfl⟩
      obtain ⟨q, hq⟩ : ∃ q : Nat, (T.length : Int) * (1 + (p : Int)) = (q : Int) := ⟨T.length * (1 + p), by simp⟩
      have hq2 : q ≤ 7000 := by
        have : T.length * (1 + p) ≤ 1000 * 7 := Nat.mul_le_mul (by omega) (by omega)
        have e : ((T.length * (1 + p) : Nat) : Int) = q := by rw [← hq]; simp
        omega
      go_wp2_with fail
      refine (nplace_t (v + q) 26 wr (by decide) (by decide)).mono ?_
      rintro e w2 ⟨⟨p2, rfl, hp2⟩, rfl⟩
      obtain ⟨b, hb⟩ : ∃ b : UInt8, (97 : Int) + (p2 : Int) = (b.toNat : Int) := ⟨UInt8.ofNat (97 + p2), by rw [UInt8.toNat_ofNat_of_lt' (by show 97 + p2 < 256; omega)]; simp⟩
      have hb2 : 97 ≤ b.toNat ∧ b.toNat ≤ 122 := by omega
      have hb3 : b.toNat ≤ 122 := hb2.2
      have HL2 : Hid (Low (T ++ [b])) := fun c hc => by
        rcases List.mem_append.1 hc with h | h
        · exact HL.out c h
        · rw [List.mem_singleton.1 h]; exact hb2
      have HM1 : Hid (T.length + 1 ≤ maxLen) := by show T.length + 1 ≤ maxLen; unfold maxLen; omega
      have HM2 : Hid ((T.length + 1) * 1 ≤ 140737488355328) := by show (T.length + 1) * 1 ≤ 140737488355328; omega
      have hbs := HB.out.size
      clear hq hp hp2 hq2 HL hb2
      go_wp2_with (at_builtin; refine wpList_append_lies _ rfl _ _ _ rfl w.heap.size 5 i0 (.int .u8 0) 1 1 Tryd.underlying32 hi0 hz0 hz1 hz2 rfl (by omega) (.slice av T.length cv) T.length (bcells T) rfl (HO.out.alloc _) ⟨wr.heap.size, 0, none⟩ 1 1 [.int .u8 (b.toNat : Int)] rfl rfl (World.news_of_block (cs := #[.int .u8 (b.toNat : Int)]) (t := 5) (fr := (0, 0)) (heap_alloc_new wr _)) (by simp [Value.oneCell']) (by omega) HM1.out HM2.out (by simp; omega) (wr.heap.size + 1) (by simp) ?_; intro g' cap' w7 hown7 hgrow7 hat7 hlt7)
      have HB7 : Hid (Below w.heap.size w w7) := (HB.out.alloc hbs _).grown hgrow7 (by simp; omega) (fun q hq => (HO.out.lt q hq).1)
      have HO7 : Hid (w7.ownsRow w.heap.size 5 1 (.slice (some ⟨g', 0, none⟩) (T ++ [b]).length cap') (T ++ [b]).length (bcells (T ++ [b]))) := by
        show World.ownsRow _ _ _ _ _ _ _
        rw [bcells_snoc, List.length_append]
        exact hown7
      clear hgrow7 hat7 hown7 HO HB
      go_wp2_with fail
      exact ⟨⟨T ++ [b], some ⟨g', 0, none⟩, cap', by rw [List.length_append]; rfl, by rw [List.length_append]; go_num, by rw [List.length_append]; exact hlt, HL2, HO7, HB7⟩, by simp [intOf]; omega⟩
    · have hcv := owns_conv HO.out
      have HT : Hid (T.length = n) := by show T.length = n; omega
      clear HO
      go_wp2_with fail
      go_ret
      exact ⟨⟨T, rfl, HT.out, HL.out⟩, HB.out⟩

theorem low_ok {T : List UInt8} (h : Low T) : T.all Word.okb = true := by
  rw [List.all_eq_true]
  intro b hb
  have := h b hb
  simp [Word.okb]
  omega

theorem low_free {T : List UInt8} (h : Low T) : 47 ∉ T := fun hm => by
  have := h _ hm
  simp at this

/-- Letters are a name, if they are neither none nor too many. -/
theorem low_chk {T : List UInt8} (h : Low T) : Word.chk T = decide (1 ≤ T.length ∧ T.length ≤ 26) := by
  have p1 : (T != [46]) = true := by
    rw [bne_iff_ne]
    intro e
    have := h 46 (by rw [e]; simp)
    simp at this
  have p2 : (T != [46, 46]) = true := by
    rw [bne_iff_ne]
    intro e
    have := h 46 (by rw [e]; simp)
    simp at this
  rw [Word.chk, low_ok h, p1, p2]
  simp
end Go.Proofs.YtfiakggilhinpaaDoor
