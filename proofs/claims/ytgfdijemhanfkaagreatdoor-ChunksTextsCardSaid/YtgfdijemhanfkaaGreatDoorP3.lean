/- Elder texts, cut down and merged (3). -/
import Derived.Test.YtgfdijemhanfkaaGreatDoorP2
import Derived.Deep.QuietTactic
import Derived.Laws.Tables
import Derived.Laws.IdiomStrings
import Derived.Laws.MakeOwn
import Derived.Lib.AppendStr
import Derived.Lib.Hide
import Derived.Test.YtgfdijemhanfkaaGreatDoorPTk
set_option maxRecDepth 100000
set_option maxHeartbeats 8000000
namespace Go.Proofs.YtgfdijemhanfkaaGreatDoor
open _root_.Go.Proofs.Tryz
open Value renaming int→bf,string→cu,slice→cx
open IntKind renaming u8→eD,i64→ct
open Option renaming none→aK,some→av
open Obj renaming cells→dg
open Or renaming inl→cS
open Nat renaming le_refl->af,mul_one->eR
open List renaming take_of_length_le->bD,length_drop->aS,replicate->aV
open _root_.Array renaming length_toList->aU
open Int renaming toNat_natCast->cK
section
open Go.RowKit
theorem aE.setRow {S:Φ} {a w:World} (h:aE S a w) (g:Nat) (cs:Array Value) (hp:g<a.heap.size->S g):aE S a (w.setRow g cs):=
 h.trans (T:=fun k=>k=g) ⟨rfl,rfl,rfl,ν,fun k _ hn=>setRow_other _ _ _ _ hn⟩ fun i hi e=>by subst e;exact hp hi
def bU (b:UInt8):Value:=bf eD (b.toNat:Int)
theorem dF (w:World) (m:Nat):Below w.heap.size w (w.drewN m):=⟨rfl,rfl,rfl,af _,fun _ _=>rfl⟩
def bs (l:List UInt8):ByteArray:=⟨l.toArray⟩
theorem aG (l:List UInt8):(bs l).size=l.length:=by unfold bs;simp[ByteArray.size]
theorem vM (l m:List UInt8):bs l++bs m=bs (l++m):=by apply ByteArray.ext;apply Array.ext';simp[bs]
theorem KD (s:ByteArray):bs s.data.toList=s:=rfl
theorem bJ (l:List UInt8):(bs l).data.toList=l:=rfl
theorem bN (a:List UInt8):(bs a).toList=a:=by rw[ByteArray.toList_eq];rfl
theorem jW (t:ByteArray) (n:Nat):(t.extract n t.size).data.toList=t.data.toList.drop n:=by simp_all[Array.toList_extract,bD,aS,aU]
theorem mV (t:ByteArray) (n:Nat):t.extract 0 n=bs (t.data.toList.take n):=by apply ByteArray.ext;apply Array.ext';rw[ByteArray.data_extract,Array.toList_extract,List.extract_eq_take_drop];rfl
def Reads (w:World) (v:Value) (l:List (List UInt8)):Prop:=
 ∃(a:Option Addr) (cap:Nat),v=cx a l.length cap/\l.length<=cap/\∀i (hi:i<l.length),∃g o,a=av ⟨g,o,aK⟩/\g<w.heap.size/\∀j (h:j<l.length),w.cell? ⟨g,o+j,aK⟩=av (cu (bs l[j]))
theorem iL {P:Program} {E:TypeId} {size bytes:Nat} {z:Value} (hi:(P.info? E).map (fun i=>(i.zero,i.size,i.bytes))=av (av z,size,bytes)):
  ∃i,P.info? E=av i/\i.zero=av z/\i.size=size/\i.bytes=bytes:=by
 cases h:P.info? E with
 |none=>rw[h] at hi;cases hi
 |some i=>rw[h] at hi;simp only[Option.map_some,Option.some.injEq,Prod.mk.injEq] at hi;exact⟨i,rfl,hi.1,hi.2.1,hi.2.2⟩
theorem yF (v:Value) (n:Nat):madeCells #[v] n=(aV n v).toArray:=by
 apply Array.ext;·simp[madeCells]
 ·intro k h H;simp[madeCells,Nat.mod_one]
theorem yG (w:World) (n:Nat) (hn:n<=1000000):(Instr.makeSlice 151 (.int ct n) (.int ct n)).run prog w=.ok (.slice (av ⟨w.heap.size,0,aK⟩) n n) (w.alloc (dg (aV n (.int eD 0)).toArray 5)):=by obtain⟨i,hi,h,hs,H⟩:=iL (P:=prog) (E:=5) (size:=1) (bytes:=1) (z:=.int eD 0) η;have:=run_make (P:=prog) w 151 5 i (.int eD 0) underlying151 hi h ct ct n n κ κ zaT κ;rw[this,hs,cK,eR,show (Value.int IntKind.u8 0).cells=#[.int eD 0] from rfl,yF]
end
section
open Go.RowKit Lib
section
variable {P:Program}
theorem rK (w:World) (t ty e:TypeId) (i:TypeInfo) (k:P.underlying t=av (.slice e)) (hi:P.info? e=av i) (H:i.size=1)
  (g s S:Nat) (cur:Array Value) (f:Nat×Nat) (hg:w.heap[g]?=av (dg cur e f)) (l:¬(f.1<=s/\s<f.2))
  (a:Addr) (u:Value) (hu:w.cell? a=av u) (m:u.oneCell'=true) (b:s+1<=S) (hfit:s<cur.size):
  (Builtin.append_ #[t,t] ty #[.slice (av ⟨g,0,aK⟩) s S,.slice (av a) 1 1]).run P w=.ok (.slice (av ⟨g,0,aK⟩) (s+1) S) (w.setRow g (cur.setIfInBounds s u)):=by
 have hf:=run_firstCells_some (P:=P) w i.size 1 a 1 1 [u] (by simp[H]) (fun j v c=>by
  cases j with
  |zero=>simp at c;subst c;simpa[Addr.add] using hu
  |succ j=>simp at c)
 have hcell:w.cell? ⟨g,s,aK⟩=av cur[s]:=by simp[World.cell?,hg,hfit]
 have A:w.frozen? ⟨g,s,aK⟩=false:=by
  unfold World.frozen?;rw[hg];simp only[Bool.and_eq_false_iff,decide_eq_false_iff_not];by_cases h:f.1<=s;·omega
  ·exact cS h
 have T:(⟨g,s,aK⟩:Addr).add 0=⟨g,s,aK⟩:=by simp[Addr.add]
 have d:(storeCells ⟨g,s,aK⟩ [u]).run P w=.ok () (w.setRow g (cur.setIfInBounds s u)):=by simp only[storeCells,Sem.run_bind];rw[T,run_store P w _ u _ m,hcell];simp[A,setCell_eq_setRow w g s cur e f u hg]
 simp[Builtin.append_,run_underlying k,sizeOf,typeInfo,hi,H,Builtin.lenOf,b,H▸hf,Addr.add_lit,d]
end
def Pm (B:Nat) (w:World) (v:Value) (l:List UInt8):Prop:=
 ∃g cap cur f,v=cx (av ⟨g,0,aK⟩) l.length cap/\B<=g/\w.heap[g]?=av (dg cur 5 f)/\(∀j,j<cur.size->¬(f.1<=j/\j<f.2))/\l.length<=cap/\cap<=maxLen/\cur.size=cap/\cur.toList.take l.length=l.map bU
theorem Pm.slice {B:Nat} {w:World} {v:Value} {l:List UInt8} (h:Pm B w v l):∃g cap,v=cx (av ⟨g,0,aK⟩) l.length cap/\B<=g:=by obtain⟨g,cap,cur,f,rfl,H,_⟩:=h;exact⟨g,cap,rfl,H⟩
theorem rX (w:World) (s:ByteArray) (hs:s.size<=1000000):∃v o,(convert 9 151 (.string s)).run prog w=.ok v (w.drew.alloc o)/\Pm w.heap.size (w.drew.alloc o) v s.data.toList:=by
 refine⟨_,_,run_bytes_of_string (P:=prog) w 9 151 5 s underlying9 underlying151 underlying5, ?_⟩;have H:=grownCap_ge w s.size 0 5;have hle:=grownCap_le_maxLen w s.size 0 5 zat;have a:(bytesRow s (grownCap w s.size 0 5)).size=grownCap w s.size 0 5:=by have hd:s.data.size=s.size:=rfl;simp[bytesRow,hd];omega
 have hl:s.data.toList.length=s.size:=aU;refine⟨w.heap.size,grownCap w s.size 0 5,bytesRow s (grownCap w s.size 0 5),_,by rw[hl],af _,heap_alloc_new w.drew _,fun j b h=>by have:=h.1;simp only at this;omega,by rw[hl];exact H,hle,a, ?_⟩;unfold bytesRow;rw[Array.toList_append,List.take_append_of_le_length ν,bD ν,Array.toList_map];rfl
end
end Go.Proofs.YtgfdijemhanfkaaGreatDoor
