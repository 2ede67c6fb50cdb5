import Derived.Test.YtmeaiaecmmglnaaGreatDoorSL
import Derived.Deep.DeepCutAuto
set_option linter.all false
set_option maxRecDepth 100000
namespace Go.Proofs.YtmeaiaecmmglnaaGreatDoor
open Go.RowKit
open Lib (hid)
set_option maxHeartbeats 8000000 in
theorem qEU (s:ByteArray) (w:World) (_hs:s.size≤9223372036854775807) (hM:Mw w):Calls Tryz.prog 3 #[.string s] w fun e w'=>e=.returned (.bool true)∧Below w.heap.size w w':=by
 have HA:=hid (fun W (h:Mw W)=>qDU W h)
 have HM:=hid hM
 clear hM
 by_cases hs:1000 < s.size
 · have g1:decide ((1000:Int) < (s.size:Int))=true:=decide_eq_true (by omega)
   go_enter Tryz.func3,Tryz.ntmps3
   go_wp2_with (first
    | (go_at_call 7; refine (HA.out _ HM.out).mono ?_; rintro e w1 ⟨rfl,hb⟩)
    | fail)
   go_ret
   exact ⟨rfl,hb⟩
 · have g1:decide ((1000:Int) < (s.size:Int))=false:=decide_eq_false (by omega)
   have HP:=hid (fun W (h:Mw W)=>qD5 s W (by omega) h);have HR:=hid (fun W=>rcomp_v s W (by omega));generalize compZ (bts s)=C at *;obtain ⟨P,e,p⟩:=C;dsimp only at HP HR
   go_enter Tryz.func3,Tryz.ntmps3
   go_upto_region 3 with (first | go_skip | fail)
   go_cut [3,4] (McP P e p w)
   case first=>
    go_wp2_with (first
     | go_skip
     | (go_at_call 8; refine (HP.out _ HM.out).mono ?_; rintro e w1 ⟨PV,rfl,hpt,hb1⟩; obtain ⟨hsz,h20,hce⟩:=hpt.out.sz)
     | (refine wpList_store_row rfl 25 _ _ rfl w1.heap.size PV rfl rfl 25 patZ ((BX.new w1 patZ 25).alloc _) hsz h20 hce ?_)
     | (refine wpList_store_row rfl 28 _ _ rfl (w1.heap.size+1) #[.int .i64 _,.int .i64 _] rfl rfl 28 _ (pb_f PV) (qA2 _ _) rfl (qA4 _ _) ?_)
     | fail)
    go_meet
    exact qCD hpt.out hb1
   case rest=>
   obtain ⟨a,PVa,rfl,rfl,hpb,hbc⟩:=hcut;have HPA:=hid hpb;have HBA:=hid hbc;clear hpb hbc;go_step;go_step
   go_cut [5,6] (McP P e p wc)
   case first=>
    go_wp2_with (first
     | go_skip
     | (go_at_call 9; refine (HR.out _).mono ?_; rintro e w1 ⟨PV,rfl,hpt,hb1⟩; obtain ⟨hsz,h20,hce⟩:=hpt.out.sz)
     | (refine wpList_store_row rfl 25 _ _ rfl w1.heap.size PV rfl rfl 25 patZ ((BX.new w1 patZ 25).alloc _) hsz h20 hce ?_)
     | (refine wpList_store_row rfl 28 _ _ rfl (w1.heap.size+1) #[.int .i64 _,.int .i64 _] rfl rfl 28 _ (pb_f PV) (qA2 _ _) rfl (qA4 _ _) ?_)
     | fail)
    go_meet
    exact qCD hpt.out hb1
   case rest=>
   obtain ⟨b,PVb,rfl,rfl,hpb,hbc⟩:=hcut;have HPB:=hid hpb;have HBB:=hid hbc;clear hpb hbc;go_step;have HPA:=hid (HPA.out.below HBB.out);have HBW:=hid (HBA.out.trans (HBB.out.mono HBA.out.size));clear HBA HP HR
   go_wp2_with (first
    | go_skip
    | (go_at_call 7; refine (HA.out _ (HM.out.below HBW.out)).mono ?_; rintro e w5 ⟨rfl,hb5⟩; have HPA5:=hid (HPA.out.below hb5); have HPB5:=hid (HPB.out.below hb5); have y0:=HPA5.out.bf.c 0; have y1:=HPA5.out.bf.c 1; have z0:=HPB5.out.bf.c 0; have z1:=HPB5.out.bf.c 1; have k0:=HPA5.out.bp; have k1:=HPB5.out.bp; have s0:=HPA5.out.pt.sz.1; have s1:=HPB5.out.pt.sz.1)
    | (refine qAI rfl 25 _ rfl a rfl 25 PVa (0,0) _ k0 Tryz.underlying25 rfl s0 ?_)
    | (refine qAI rfl 25 _ rfl b rfl 25 PVb (0,0) _ k1 Tryz.underlying25 rfl s1 ?_)
    | (go_at_call 10; refine (qJS PVa PVb P _ HPA5.out.pt HPB5.out.pt).mono ?_; rintro e w6 ⟨rfl,hb6⟩)
    | fail)
   go_ret
   exact ⟨rfl,HBW.out.trans ((hb5.trans (hb6.mono hb5.size)).mono HBW.out.size)⟩
end Go.Proofs.YtmeaiaecmmglnaaGreatDoor
