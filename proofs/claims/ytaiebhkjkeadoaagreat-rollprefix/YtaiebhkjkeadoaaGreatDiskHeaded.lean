/- A disk whose head's numbers are turned. -/
import Derived.Test.YtaiebhkjkeadoaaGreatDiskMeth
namespace Go.Proofs.YtaiebhkjkeadoaaGreat
open Go.RowKit

/-- A disk whose head alone is turned. -/
theorem Disk.headed {w w1 : World} {b gd : Nat} {S S' : St} {V : Nat → Value} (h : Disk w b S gd V) (hn : S'.n = S.n) (hdur : S'.dur = S.dur) (hw : S'.waits = S.waits) (hok : S'.Ok)
    (hh : DHd w1 b S'.n gd V S'.writes S'.left S'.down) (hk : Keep (fun k => k = b) w w1) : Disk w1 b S' gd V ∧ Step b gd w V w1 V := by
  refine ⟨⟨hh, ?_, fun o ho => ?_, h.bg, h.vb, h.vv, hok⟩, hk.mono (fun i _ hi => .inl hi), fun k hf => .inl hf⟩
  · rw [hn, hdur]; exact h.du.of_block (hk.block gd h.du.lt h.bg)
  · rw [hw]; exact owns_of_block (h.row o ho) (fun g hg => hk.block g ((h.row o ho).lt g hg).2 (h.vb o ho g hg).1)
end Go.Proofs.YtaiebhkjkeadoaaGreat
