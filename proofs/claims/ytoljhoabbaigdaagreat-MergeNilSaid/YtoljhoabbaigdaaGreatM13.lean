/- Proved parts: B1q. Conditions: each theorem's own. -/
import Derived.Test.YtoljhoabbaigdaaGreatM11
import Derived.Test.YtoljhoabbaigdaaGreatM12
import Derived.Test.YtoljhoabbaigdaaGreatQ0
set_option maxRecDepth 100000
set_option maxHeartbeats 8000000
namespace Go.Proofs.YtoljhoabbaigdaaGreat
open Go.RowKit

theorem get_ch (L:Ch) {i:Nat} (hi:i<L.length):L[i]?=some (L.key i,L.chn i):=by rw [List.getElem?_eq_getElem hi,Ch.getE L hi]
theorem put_len {L:Ch} {k:ByteArray} {v:Ver}:(L.put k v).length=if L.has k then L.length else L.length+1:=by
 have:=L.pos_le k
 unfold Ch.put
 split
 ·simp
 ·simp; omega
theorem put_old {L:Ch} {k:ByteArray} {v:Ver} (h:L.has k=true) {i:Nat} (hi:i<L.length):(L.put k v)[i]?=some (if i=L.pos k then (k,L.chn (L.pos k)++[v]) else (L.key i,L.chn i)):=by
 unfold Ch.put
 rw [if_pos h,List.getElem?_set]
 by_cases e:i=L.pos k
 ·rw [if_pos e.symm,if_pos (by omega),if_pos e]
 ·rw [if_neg (fun q=>e q.symm),if_neg e,get_ch L hi]
section
variable {w wr W2 w6:World} {B:Nat} {u v':Value} {zs:Zs} {G:Nat->Prop} {N:Ch}
theorem SlVG.gn {A':Option Addr} {l:List Ver} (h:SlVG w G A' l):SlVG w (Gn G B u) A' l:=h.mono fun _ e=>.inl e
end
end Go.Proofs.YtoljhoabbaigdaaGreat
