/- Elder texts, cut down and merged (17). -/
import Derived.Test.YtgfdijemhanfkaaGreatDoorP7
import Derived.Test.YtgfdijemhanfkaaGreatDoorP16
import Derived.Test.YtgfdijemhanfkaaGreatDoorIter
import Derived.Test.YtgfdijemhanfkaaGreatDoorPTk
set_option maxRecDepth 100000
set_option maxHeartbeats 8000000
namespace Go.Proofs.YtgfdijemhanfkaaGreatDoor
open _root_.Go.Proofs.Tryz
open Value renaming pointer→dr
open Ending renaming returned→c8
open Obj renaming cells→dg
open Option renaming none→aK,some→av
open IntKind renaming i64→ct
open World renaming block_lt_of_cell?->bA
section
open Go.RowKit Go.Maps Go.Sort Go.Shelf
theorem XU (m:Nat):AnyZI.SortsIn prog sortedA_ren Fence.wide m:=
 ⟨fun blk off cap ss W a h H=>callsIn_wide.2 (AnyM.slices_Sort_int sortA blk off cap ss W a h H),
  fun p cap W=>callsIn_wide.2 (AnyM.slices_Sort_int_none sortA p cap W)⟩
theorem Nr (mb:Option Nat) (w:World):Calls prog 59 #[.map mb] w fun e w'=>
  e=c8 (.func (.func 100) #[] #[dr (av ⟨w.heap.size,0,aK⟩)])/\w'=w.alloc (dg #[.map mb] 84):=
 (callsIn_wide (n:=5)).1 (AnyZI.keys_in keysA Fence.wide 5 trivial rfl mb w)
theorem DM {m:Wl.ew} (h:Wl.cB m) {ss:List Int} (hp:ss.Perm (m.map fun x=>(x.1:Int))):ss.mergeSort (fun x y=>decide (x<=y))=m.map fun x=>(x.1:Int):=by rw[mergeSort_of_perm_i hp];refine List.mergeSort_of_pairwise ?_;rw[List.pairwise_map];exact h.imp fun {x y} hxy=>by simp only[leI,decide_eq_true_eq];omega
theorem FX (b q:Nat) (m:Wl.ew) (w:World) (a:SMap w b m) (c:m.length<=1000000) (d:w.cell? ⟨q,0,aK⟩=av (.map (av b))):
  Calls prog 58 #[.func (.func 100) #[] #[dr (av ⟨q,0,aK⟩)]] w fun e w'=>
   ∃v,e=c8 v/\Own (eo ct) 3 w.heap.size w' v (m.map fun x=>(x.1:Int))/\Below w.heap.size w w':=by
 have H:SeqGives Fence.wide 2 prog 100 #[dr (av ⟨q,0,aK⟩)] encZ (fun ss=>ss.Perm (intKeys (dat m))) (Maps.size (dat m)) w:=
  AnyZI.keys_gives (ρ:=keysA_ren) {keysA with} Fence.wide _ trivial rfl κ q b m.length (dat m) _ (bA _ _ d) d a.1
 have C:=AnyZI.sorted_in sortedA Fence.wide 5 trivial trivial trivial trivial rfl κ (XU _) (enters_of func99 η rfl) 100 #[dr (av ⟨q,0,aK⟩)] trivial (enters_of func100 η rfl) _ _ (by rw[zj];unfold maxLen;omega) (by rw[zj];omega) w H
 change CallsIn _ _ prog 58 _ _ _ at C
 refine ((callsIn_wide (n:=5)).1 C).mono ?_
 rintro e w' ⟨v,ss,rfl,hS,h,f,g⟩
 refine⟨v,rfl, ?_,g⟩
 rw[Ql] at hS
 rw[DM a.2.1 hS] at h
 have hl:ss.length=(m.map fun x=>(x.1:Int)).length:=hS.length_eq
 rw[hl] at h
 unfold Own
 rw[show (eo ct).cells (m.map fun x=>(x.1:Int))=(m.map fun x=>(x.1:Int)).map (fun n=>Value.int ct n) from cv _ _ _]
 exact h
end
end Go.Proofs.YtgfdijemhanfkaaGreatDoor
