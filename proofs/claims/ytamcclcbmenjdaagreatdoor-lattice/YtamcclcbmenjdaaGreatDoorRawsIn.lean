/- A list of raw samples among the arguments. -/
import Derived.Test.YtamcclcbmenjdaaGreatDoorInRaw
import Derived.SizedLaws
import Derived.WalkKit
import Derived.ProofKit
namespace Go.Proofs.YtamcclcbmenjdaaGreatDoor
open Go.RowKit Go.Lib Go.ChangeShapes Go.WideShapes Go.ChangeAt

theorem raws_in {H : Type} {enc : TypeId × Value → H} {W : World} {a0 : Option Addr} {len cap : Nat} {d : DataW H} {ps : List MemPlace} (h : DataW.Trod enc Tryz.prog W 0 (fun _ => true) true 45 (.slice a0 len cap) d ps)
    {ts : List TypeId} {ds : List (DataW H)} (hz : (DataW.weightsEach Tryz.prog ts ds).all (· ≤ reachBytes) = true) {j : Nat} (ht : ts[j]? = some 45) (hd : ds[j]? = some d) :
    ∃ raws, RawsAt W W.heap.size (.slice a0 len cap) raws ∧ raws.length ≤ 100000000000000 := by
  obtain ⟨raws, hR, hlen⟩ := raws_of h
  refine ⟨raws, hR, ?_⟩
  rcases hlen with ⟨_, h⟩ | ⟨elems, spare, rfl, h⟩
  · omega
  · have h2 := sized_slice hz ht hd Tryz.underlying45
    rw [Tryz.bytesRaw] at h2
    have := reachBytes_lt
    omega
end Go.Proofs.YtamcclcbmenjdaaGreatDoor
