import Derived.Test.YtgfpocdiojifoaaGreatDoorZ15
import Derived.Laws.BitsAllLaws
namespace Go.Proofs.YtgfpocdiojifoaaGreatDoor
set_option maxRecDepth 100000
set_option maxHeartbeats 8000000
open Go.RowKit Go.Proofs.Tryz


theorem Wu(lc lp pb:Int)(w:World):Calls prog 49 #[.int .i64 lc,.int .i64 lp,.int .i64 pb] w fun e w'=>e= .returned (.bool (mX lc lp pb))∧w=w':=by
 have⟨R,hR⟩:=ex (mX lc lp pb);rw[hR];by_cases au1:0≤lc;case neg=>have Dl:Hid (R=false):=hdd (by rw[←hR];exact decide_eq_false aa);clear hR;go_enter func49,ntmps49;go_wp2_with fail;go_ret;exact⟨iL,rfl⟩
 by_cases au2:lc≤4;case neg=>have Dl:Hid (R=false):=hdd (by rw[←hR];exact decide_eq_false aa);clear hR;go_enter func49,ntmps49;go_wp2_with fail;go_ret;exact⟨iL,rfl⟩
 by_cases au3:0≤lp;case neg=>have Dl:Hid (R=false):=hdd (by rw[←hR];exact decide_eq_false aa);clear hR;go_enter func49,ntmps49;go_wp2_with fail;go_ret;exact⟨iL,rfl⟩
 by_cases au4:lp≤4;case neg=>have Dl:Hid (R=false):=hdd (by rw[←hR];exact decide_eq_false aa);clear hR;go_enter func49,ntmps49;go_wp2_with fail;go_ret;exact⟨iL,rfl⟩
 by_cases wM:lc+lp≤4;case neg=>have Dl:Hid (R=false):=hdd (by rw[←hR];exact decide_eq_false aa);clear hR;go_enter func49,ntmps49;go_wp2_with fail;go_ret;exact⟨iL,rfl⟩
 by_cases au5:0≤pb;case neg=>have Dl:Hid (R=false):=hdd (by rw[←hR];exact decide_eq_false aa);clear hR;go_enter func49,ntmps49;go_wp2_with fail;go_ret;exact⟨iL,rfl⟩
 by_cases au6:pb≤4;case neg=>have Dl:Hid (R=false):=hdd (by rw[←hR];exact decide_eq_false aa);clear hR;go_enter func49,ntmps49;go_wp2_with fail;go_ret;exact⟨iL,rfl⟩
 have Dl:Hid (R=true):=hdd (by rw[←hR];exact decide_eq_true aa);clear hR;go_enter func49,ntmps49;go_wp2_with fail;go_ret;exact⟨iL,rfl⟩
section
section
variable{gd o cap:Nat}{L:List UInt8}{lc lp pb:Nat}{dict:Int}{fin:Nat}
end
end
section
section
variable{g lc lp pb:Nat}{ss:List Sy}{M:Nat→MSt}{L:List UInt8}{gd o cap:Nat}{dict:Int}{fin:Nat}
end
end

section
section
variable{g lc lp pb:Nat}{ss:List Sy}{M:Nat→MSt}{L:List UInt8}{gd o cap:Nat}{H0:List UInt8}{dict:Int}
end
end
section
section
variable{w0 w w':World}{io:Io}{C L lc lp pb st:Nat}{r:R4}{x:io.S}{X:List Nat}{C2 base SR:Nat}{r2:R4}{hv:Value}{H:List UInt8}{pv:Value}{ss:List Sy}{R:World→Prop}{Wr:Nat→Prop}{p:Nat→List Nat}
end
end


theorem Own.afM{base:Nat}{w w':World}{v:Value}{l:List UInt8}(h:Own base w v l)(hb: ∀g,v.ownBlock=some g→w'.heap[g]? =w.heap[g]?):Own base w' v l:=by
 rcases h with⟨h1,h2 | ⟨g,cap,cur,h2,h3,h4,h5⟩⟩
 ·exact⟨h1,.inl h2⟩
 ·exact⟨h1,.inr ⟨g,cap,cur,h2,h3,(hb g (by rw[h2];rfl)).trans h4,h5⟩⟩
end Go.Proofs.YtgfpocdiojifoaaGreatDoor
