/- The closed facts of the law ChunksSums, one by one. -/
import Derived.Test.YtgfdijemhanfkaaGreatDoorP8
import Derived.Test.YtgfdijemhanfkaaGreatDoorPTk
set_option maxRecDepth 100000
set_option maxHeartbeats 400000000
namespace Go.Proofs.YtgfdijemhanfkaaGreatDoor
open Ending renaming returned→c8
open Option renaming some→av,none→aK
open Value renaming string→cu,slice→cx
open Bool renaming and_eq_true->fk
section
open Go.ChangeShapes Go.WideShapes Go.ChangeAt Go.RowKit
open Go.ChangeMaps (open_string shut_string)
namespace lawChunksSums
set_option maxRecDepth 100000
theorem closed:joinedFacts Tryz.pinned.checked.prog 3 Tryz.f3 (OpenSpec.ofChange Rows.chunksSumsSpec).bare Rows.chunksSumsRow=true:=by
 unfold joinedFacts;simp only[fk]
 repeat' apply And.intro
 all_goals (as_aux_lemma=>kernel_rfl)
end lawChunksSums
end
end Go.Proofs.YtgfdijemhanfkaaGreatDoor
