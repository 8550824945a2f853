/- Proved parts: Co. Conditions: each theorem's own. -/
import Derived.Test.YtoljhoabbaigdaaGreatProg
import Derived.Shelf.Strconv.Clone
import Derived.KernelRfl
import Derived.WalkKit
import Derived.WalkLawsBesides
import Derived.Test.YtoljhoabbaigdaaGreatQ0
set_option maxRecDepth 100000
set_option maxHeartbeats 8000000
namespace Go.Proofs.YtoljhoabbaigdaaGreat
open Go.RowKit Go.Shelf

def cloneRen:Ren:={ f:=fun k=>if k=316 then 53 else k,t:=fun k=>if k=0 then 0 else if k=3 then 3 else if k=4 then 4 else if k=9 then 9 else if k=37 then 26 else if k=5 then 5 else if k=127 then 179 else k,g:=fun k=>k }
theorem cloneLays:LaysM.n316 Tryz.prog cloneRen where
 mixed:=by kernel_rfl
 f316:=by kernel_rfl
 t0:=by kernel_rfl
 a0:=by intro w; rfl
 z0:=by intro w; rfl
 v0:=by intro w; rfl
 t3:=by kernel_rfl
 a3:=by intro w; rfl
 z3:=by intro w; rfl
 v3:=by intro w; rfl
 t4:=by kernel_rfl
 a4:=by intro w; rfl
 z4:=by intro w; rfl
 v4:=by intro w; rfl
 t9:=by kernel_rfl
 a9:=by intro w; rfl
 z9:=by intro w; rfl
 v9:=by intro w; rfl
 t37:=by kernel_rfl
 a37:=by intro w; rfl
 z37:=by intro w; rfl
 v37:=by intro w; rfl
 t127:=by kernel_rfl
 a127:=by intro w; rfl
 z127:=by intro w; rfl
 v127:=by intro w; rfl
 t5:=by kernel_rfl
 a5:=by intro w; rfl
 z5:=by intro w; rfl
 v5:=by intro w; rfl
 i0:=by kernel_rfl
 i3:=by kernel_rfl
 i4:=by kernel_rfl
 i5:=by kernel_rfl
 i9:=by kernel_rfl
 i37:=by kernel_rfl
 i127:=by kernel_rfl

theorem lclone (s:ByteArray) (w:World) (h:s.size<=281474976710656):Calls Tryz.prog 34 #[.string s] w fun e w'=>e=.returned (.string s)∧Below w.heap.size w w':=by



 go_enter Tryz.func34,Tryz.ntmps34
 go_wp2_with fail
 refine (Any.stringslite_Clone cloneLays s w h).mono ?_
 rintro e w' ⟨rfl,hb⟩
 have HB:Hid _:=hb
 clear hb
 go_wp2_with fail
 go_ret
 exact ⟨rfl,HB.out⟩

end Go.Proofs.YtoljhoabbaigdaaGreat
