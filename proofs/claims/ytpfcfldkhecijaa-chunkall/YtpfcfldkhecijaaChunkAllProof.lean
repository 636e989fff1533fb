/-
  The law ChunkAll answers true for every input: any head, any blocks, any bytes: Make and Parse of the program answer as the document's own; nothing that was there is changed.
-/
import Derived.Test.YtpfcfldkhecijaaChunkAll
import Derived.Test.YtpfcfldkhecijaaHeadOpen
import Derived.Below
import Derived.SliceStrings
namespace Go.Proofs.Ytpfcfldkhecijaa
open Go.ChangeShapes Go.WideShapes Go.ChangeAt Go.RowKit Rec Hdp Chk
open Go.ChangeMaps (open_string shut_string)
theorem chunkAll_own : ownKnob Try.prog.godebug = none := by kernel_rfl
theorem chunkAll_laidOut : laidOutB Try.prog = true := by kernel_rfl

set_option maxRecDepth 100000 in
theorem chunkAll_lifted (os : Os) (started : os.Started) (H : Type) (enc : TypeId × Value → H) :
    ReturnsInHanded {} Try.checked os 3 .any (Rows.chunkAllSpec.pre6 enc Try.prog Try.f3 Rows.chunkAllRow.domain false) (Rows.chunkAllSpec.post enc Try.prog Try.f3 false true false false) := by
  refine returnsInHanded_of_change (C := Try.checked) chunkAll_own started (by kernel_rfl) Try.func3
    (ChangeSpec.witness6 (enc := enc) (C := Try.checked) false ⟨#[], #[.agg #[.int .i64 0, .int .i64 0, .int .i64 0, .int .i64 0, .int .i64 0, .int .i64 0, .int .i64 0, .int .i64 0, .slice none 0 0], .slice none 0 0, .string ⟨#[]⟩], []⟩ 8 (by kernel_rfl) (by kernel_rfl) (by kernel_rfl) (by kernel_rfl)) ?_
  intro W base args ds gs before hval0 hW hcnd _
  have hval : ∀ (j : Nat) t v, Try.f3.params[j]? = some t → args[j]? = some v → Value.okWide Try.prog W .any base t v := hval0
  have hW' := hW
  obtain ⟨p, q, hA0, hV, rfl, hfz, hnd⟩ := hW
  have hA : DataW.TrodAll enc Try.prog W 0 (fun _ => true) true Try.f3.params.toList args.toList ds p := hA0
  rw [Try.params3] at hA hval
  obtain ⟨v0, vs0, d0, ds0, p0, q0, hargs, rfl, rfl, h0, r0⟩ := trodAll_cons hA
  obtain ⟨v1, vs1, d1, ds1, p1, q1, rfl, rfl, rfl, h1, r1⟩ := trodAll_cons r0
  obtain ⟨v2, vs2, d2, ds2, p2, q2, rfl, rfl, rfl, h2, r2⟩ := trodAll_cons r1
  obtain ⟨rfl, rfl, rfl⟩ := trodAll_nil r2
  obtain rfl : args = #[v0, v1, v2] := by cases args; simp_all
  obtain ⟨rfl, rfl⟩ := trodVars_none hV
  obtain ⟨cs0, rfl, hcs0⟩ := okWide_struct Try.underlying24 (hval 0 24 v0 rfl rfl)
  have k0 := h0
  have lt0 : ∀ x ∈ p0, x.block < W.heap.size := by obtain ⟨m, hm⟩ := k0; exact DataW.trod_lt m _ _ _ hm
  obtain ⟨x0, y0, hx0, hE0, hl0⟩ : ∃ (x : Hd) (v : Value), Value.agg cs0 = headV x v ∧ Ents W v x.list ∧ x.list.length ≤ 9223372036854775807 := by
    obtain ⟨fuel, hf⟩ := h0
    exact open_headV hf
  obtain ⟨a1, len1, cap1, rfl⟩ := okWide_slice Try.underlying25 (hval 1 25 v1 rfl rfl)
  have k1 := h1
  have lt1 : ∀ x ∈ p1, x.block < W.heap.size := by obtain ⟨m, hm⟩ := k1; exact DataW.trod_lt m _ _ _ hm
  obtain ⟨x1, hT1, hl1⟩ : ∃ xs : List ByteArray, Txts W (.slice a1 len1 cap1) xs ∧ xs.length ≤ 9223372036854775807 := by
    obtain ⟨fuel, hf⟩ := h1
    rcases open_strings Try.underlying25 Try.underlying9 (by kernel_rfl) hf with ⟨hcs, _⟩ | ⟨x, l, c, ss, hcs, _, hl, hm, hz, _, hcell, _⟩
    · simp [Value.cells] at hcs
      obtain ⟨rfl, rfl, rfl⟩ := hcs
      exact ⟨[], Txts.nil _, by simp⟩
    · simp [Value.cells] at hcs
      obtain ⟨rfl, rfl, rfl⟩ := hcs
      simp only [if_true] at hz
      unfold maxLen at hm
      have hlen : (ss.take len1).length = len1 := by rw [List.length_take]; omega
      refine ⟨ss.take len1, ⟨some x, cap1, by rw [hlen], (fun h => by cases h), by rw [hlen]; exact hl, fun h0 => ?_⟩, by rw [hlen]; omega⟩
      rw [hlen] at h0
      obtain ⟨b, off, spot⟩ := x
      have hspot : spot = none := by simpa [Addr.add] using World.cell?_spot (hcell 0 (by omega))
      subst hspot
      have hc0 : ∀ i, i < ss.length → W.cell? ⟨b, off + i, none⟩ = some (.string (ss.getD i ByteArray.empty)) := fun i hi => by rw [← tx_addr]; exact hcell i hi
      refine ⟨b, off, rfl, block_lt_of_cell (hc0 0 (by omega)), fun i hi => ?_⟩
      rw [hlen] at hi
      have hi2 : i < ss.length := by omega
      rw [hc0 i hi2, List.getElem_take]
      simp [List.getD, hi2]
  obtain ⟨s2, rfl, rfl, rfl, w2⟩ := open_string Try.underlying9 (hval 2 9 v2 rfl rfl) h2
  clear hA0 hval0
  have hs2 : s2.size ≤ 9223372036854775807 := by
    have e : s2.data.toList.length = s2.size := by simp
    unfold maxLen at w2
    omega
  have CALL : Calls Try.prog 3 #[.agg cs0, .slice a1 len1 cap1, .string s2] W fun e w' => e = .returned (.bool true) ∧ Below W.heap.size W w' := by
    rw [hx0]
    exact chunkAll_t x0 y0 _ x1 s2 W hE0 hT1 hl0 hl1 hs2
  refine CALL.mono fun e W' ⟨he, bel⟩ => ?_
  subst he
  exact ⟨_, rfl, _, _, _, [], _, [], hW', trodAll_mk1 (shut_bool Try.underlying4 _), (trodAll_cons_mk (Below.trod chunkAll_laidOut (by kernel_rfl) (of_decide_eq_true (by kernel_rfl)) k0 bel lt0) (trodAll_cons_mk (Below.trod chunkAll_laidOut (by kernel_rfl) (of_decide_eq_true (by kernel_rfl)) k1 bel lt1) (trodAll_cons_mk (shut_string Try.underlying9 w2) trodAll_mk0))), rfl, bel.frame _, fun h => by cases h⟩

theorem chunkAll_over : Rows.chunkAllRow.holds Try.pinned (OpenSpec.ofChange Rows.chunkAllSpec) :=
  OpenClaim.holds_of_wide 3 Try.f3 rfl rfl rfl rfl rfl rfl rfl ⟨rfl, rfl, rfl, rfl, rfl⟩ rfl rfl rfl rfl rfl (by kernel_rfl) Try.func3 (by kernel_rfl)
    (of_decide_eq_true (by kernel_rfl)) (by unfold Func.isWrapper; first | (rw [if_pos (by decide +kernel)]; kernel_rfl) | (rw [if_neg (by decide +kernel)]; exact ⟨rfl, rfl⟩))
    (fun os started H enc _ => chunkAll_lifted os started H enc)

theorem chunkAll_holds : Rows.ChunkAllSaid := chunkAll_over
#print axioms chunkAll_holds
end Go.Proofs.Ytpfcfldkhecijaa
