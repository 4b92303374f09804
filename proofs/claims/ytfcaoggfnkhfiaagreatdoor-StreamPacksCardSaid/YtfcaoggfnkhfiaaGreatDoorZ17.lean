import Derived.Test.YtfcaoggfnkhfiaaGreatDoorZ11
import Derived.Laws.BitsAllLaws
import Derived.StillTailTactics
namespace Go.Proofs.YtfcaoggfnkhfiaaGreatDoor
set_option maxRecDepth 100000
set_option maxHeartbeats 8000000
open Go.RowKit Go.Proofs.Tryz
section
section
variable{ge n m:Nat}{α β:Type}
end
end

structure CkS where
 out:List UInt8
 start:Nat
 clear:Bool
 asked:Bool
 lc:Nat
 lp:Nat
 pb:Nat
 st:Nat
 r:R4
 P:Nat->Nat

section
structure UkP where
 base:Nat
 w0:World
 bb:Nat
 ab:Nat
 R:Nat
 A:Option Addr
 B:List UInt8
 c:Nat
 dict:Int
theorem Own.neT{base:Nat}{W:Lo}{v:Value}{l:An}(h:Own base W v l){j:Nat}{cs:Array Value}{t:TypeId}{x:Nat×Nat}(hj:W.heap[j]? =some (.cells cs t x))(ht:t≠5):v.ownBlock≠some j:=by
 intro he;rcases h with⟨_,⟨rfl,_⟩|⟨g',bW,cur,rfl,_,h4,_⟩⟩
 ·cases he
 ·have e:g'=j:=by simpa [Value.ownBlock]using he
  subst e;rw[h4]at hj;injection hj with hj;injection hj with _ e2 _;exact ht e2.symm
section
variable{k:UkP}{w w':Lo}{pos:Nat}{s:CkS}{cv:Value}
end
end







def C5(w:Lo)(res:List UInt8×Nat×Nat)(e:Ending)(w':Lo):Prop:=
 ∃A c,e= .returned (.tuple #[.slice A res.1.length c,.int .i64 res.2.1,.int .i64 res.2.2])/\(res.1.length<=c/\c<=9223372036854775807)/\Bytes w' A res.1/\Below w.heap.size w w'
theorem Oj{k:ip}(hc:1<=k.chunk.toNat):(mH k).length<=4*k.D.length+1:=by have h1:=pF (k:=k) (n:=k.D.length) (c:=k.chunk.toNat) hc rfl k.D.length 0 (none,false) aa;have h2:=pE (n:=k.D.length) (c:=k.chunk.toNat) hc k.D.length 0 aa;unfold mH;rw[aG,List.length_singleton];omega

end Go.Proofs.YtfcaoggfnkhfiaaGreatDoor
