import Derived.Deep.DeepCutAuto
import Derived.Test.YtnoeonaajefajaaGreatDoorQVE
set_option linter.all false
set_option maxRecDepth 100000
namespace Go.Proofs.YtnoeonaajefajaaGreatDoor
open Go.RowKit
open Lib (hid)
def TokMid (w0:World) (vs:Array Value) (v:Value) (W:World):Prop:=∃ g,v=.pointer (some ⟨g,0,none⟩)∧w0.heap.size≤g∧BX W g vs 58∧Below w0.heap.size w0 W
set_option maxHeartbeats 2000000 in
theorem refTokens_c (A:Option Addr) (n c:Nat) (is:List Itm) (w:World) (h:Its w A n is) (hn:n≤10000000000) (hm:is.all mayI=true):Calls Tryz.prog 80 #[.slice A n c] w fun e w'=>
 ∃ A' m c',e=.returned (.slice A' m c')∧Hid (OwnT w' w.heap.size A' m c' (is.map tkI))∧Hid (Below w.heap.size w w'):=by
 have HL:=hid h.len
 have H:=hid h
 have HM:=hid hm
 clear h hm
 generalize hg:w.heap.size=g at *
 have Hg:=hid hg
 clear hg
 have B0:=hid (show Below g w w by rw [← Hg.out]; exact Below.refl _ _)
 go_enter Tryz.func80,Tryz.ntmps80
 go_wp2
 go_loopw [3,4] (fun v iv wr=>∃ (k:Nat),k≤n∧iv=.int .i64 (k:Int)∧wr.ownsRow g 58 3 v k (qCL ((is.take k).map tkI))∧Below g w wr) (fun _ iv _=>n - (intOf iv).toNat)
 case atStart=>exact ⟨0,Nat.zero_le _,rfl,World.ownsRow_nil _ _ _ _,B0.out⟩
 case round=>
  obtain ⟨k,hk,rfl,ho0,hb0⟩:=hrel;have HO:=hid ho0;have HB:=hid hb0;have hqs:g≤wr.heap.size:=by have:=hb0.size; have:=Hg.out; omega
  have HT:=hid (H.out.below (w':=wr) (by rw [Hg.out]; exact hb0));have HOB:Hid (∀ j,u3.ownBlock=some j→j < wr.heap.size):=hid fun j hj=>(ho0.lt j hj).2
  clear ho0 hb0
  by_cases hlt:k < n
  · obtain ⟨ad,rfl,hab,c0,c1,hri⟩:=HT.out.at_ hlt
    have HS:=hid (qH5 is (k:=k) (by rw [HL.out]; exact hlt));have hmay:=List.all_eq_true.1 HM.out _ (im_mem (is:=is) (k:=k) (by rw [HL.out]; exact hlt));have HMAY:=hid hmay;clear hri hmay;generalize im is k=i at *;obtain ⟨a,r⟩:=i;dsimp only at c0 c1;have hpb:(ad.add (k * 2)).block < wr.heap.size:=by rw [qAB]; exact hab
    have HC:=hid (refNeeds_c r);generalize hN:nds r=N at HC;have HN:=hid hN;clear hN
    go_wp2
    go_cut [5] (TokMid wr #[.int .i32 r,.bool N,.int .i64 0])
    case first=>
     go_region_with (go_at_call 119; refine (HC.out _).mono ?_; rintro e W5 ⟨rfl,rfl⟩)
     all_goals (go_wp2_with fail; go_meet)
     all_goals exact ⟨wr.heap.size,rfl,Nat.le_refl _,BX.new wr _ _,((Below.refl _ wr).alloc (Nat.le_refl _) _).drew⟩
    case rest=>
     obtain ⟨gt,rfl,hgt,hx0,hwc0⟩:=hcut;have hx:=hid hx0;have hwc:=hid hwc0;have hadc:(ad.add (k * 2)).block < wc.heap.size:=Nat.lt_of_lt_of_le hpb hwc0.size;have d0:=(hwc0.cell (p:=ad.add (k * 2)) hpb).trans c0;have d1:wc.cell? ⟨(ad.add (k * 2)).block,(ad.add (k * 2)).off+1,none⟩=_:=(hwc0.cell (p:=⟨(ad.add (k * 2)).block,(ad.add (k * 2)).off+1,none⟩) hpb).trans c1;clear hx0 hwc0 c0 c1 hpb
     by_cases ha:a=1
     · subst ha
       have HV:=hid (show tkI (1,r)=(r,N,0) by rw [qKB,HN.out]);have OE:=hid (qBW HO.out HOB.out hwc.out);have BG:=hid (HB.out.trans (hwc.out.mono hqs));have hqe:g≤wc.heap.size:=by have:=hwc.out.size; omega
       have e0:=hx.out.v 0 rfl;have e1:=hx.out.v 1 rfl;have e2:=hx.out.v 2 rfl
       go_wp2_with (at_builtin; go_must (refine qAF rfl (.tmp 40) (.tmp 42) _ rfl Tryz.underlying36 g u3 k ((is.take k).map tkI) rfl OE.out (r,N,0) rfl (r) (N) (0) rfl (by omega) BG.out hqe ?_))
       intro v' w' ho4 hb4 _
       go_wp2
       go_roundw
       case rel=>
        have e:(is.take (k+1)).map tkI=(is.map tkI).take k++[(r,N,0)]:=by rw [HS.out,List.map_append,List.map_take,List.map_cons,List.map_nil,HV.out]
        refine ⟨k+1,by omega,by go_num,?_,hb4.out⟩;rw [e]; exact ho4.out
       case measure=>simp [intOf]; omega
     · obtain ⟨h1,h2⟩ | ⟨j,hj,e⟩:=qI6 HMAY.out
       · exact absurd h1 ha
       · cases e
         clear HMAY ha;have hj5:j=0∨j=1∨j=2∨j=3∨j=4:=by omega
         clear hj
         rcases hj5 with rfl | rfl | rfl | rfl | rfl
         · have HV:=hid (show tkI (2+((0:Nat):Int),0)=(45,false,0) from rfl)
           have FX:=hx.out.alloc (.cells #[.int .i32 45,.int .i32 43,.int .i32 37,.int .i32 8240,.int .i32 164] 21);have f0:=FX.v 0 rfl;have f1:=FX.v 1 rfl;have f2:=FX.v 2 rfl;have f3:=FX.fr 0;have f4:=FX.fr 1;have f5:=FX.fr 2;have FE:=FX.set3 (.int .i32 45) (.bool false) (.int .i64 0);have e0:=FE.v 0 rfl;have e1:=FE.v 1 rfl;have e2:=FE.v 2 rfl;have BE:=hid (Below.set3 (hwc.out.alloc hwc.out.size (.cells #[.int .i32 45,.int .i32 43,.int .i32 37,.int .i32 8240,.int .i32 164] 21)) hgt (.int .i32 45) (.bool false) (.int .i64 0));have OE:=hid (qBW HO.out HOB.out BE.out);have BG:=hid (HB.out.trans (BE.out.mono hqs));have d0':(wc.alloc (.cells #[.int .i32 45,.int .i32 43,.int .i32 37,.int .i32 8240,.int .i32 164] 21)).cell? (ad.add (k * 2))=some (.int .i64 2):=(((Below.refl _ wc).alloc (Nat.le_refl _) (.cells #[.int .i32 45,.int .i32 43,.int .i32 37,.int .i32 8240,.int .i32 164] 21)).cell (p:=ad.add (k * 2)) hadc).trans d0;clear FX FE;have hqe:g≤((((wc.alloc (.cells #[.int .i32 45,.int .i32 43,.int .i32 37,.int .i32 8240,.int .i32 164] 21)).setCell ⟨gt,0,none⟩ (.int .i32 45)).setCell ⟨gt,1,none⟩ (.bool false)).setCell ⟨gt,2,none⟩ (.int .i64 0)).heap.size:=by have:=BE.out.size; omega
           go_wp2_with (at_builtin; go_must (refine qAF rfl (.tmp 40) (.tmp 42) _ rfl Tryz.underlying36 g u3 k ((is.take k).map tkI) rfl OE.out (45,false,0) (by simp only [World.size_setCell,World.size_alloc]; rfl) (45) (false) (0) rfl (by omega) BG.out hqe ?_))
           intro v' w' ho4 hb4 _
           go_wp2
           go_roundw
           case rel=>
            have e:(is.take (k+1)).map tkI=(is.map tkI).take k++[(45,false,0)]:=by rw [HS.out,List.map_append,List.map_take,List.map_cons,List.map_nil,HV.out]
            refine ⟨k+1,by omega,by go_num,?_,hb4.out⟩;rw [e]; exact ho4.out
           case measure=>simp [intOf]; omega
         · have HV:=hid (show tkI (2+((1:Nat):Int),0)=(43,false,0) from rfl)
           have FX:=hx.out.alloc (.cells #[.int .i32 45,.int .i32 43,.int .i32 37,.int .i32 8240,.int .i32 164] 21);have f0:=FX.v 0 rfl;have f1:=FX.v 1 rfl;have f2:=FX.v 2 rfl;have f3:=FX.fr 0;have f4:=FX.fr 1;have f5:=FX.fr 2;have FE:=FX.set3 (.int .i32 43) (.bool false) (.int .i64 0);have e0:=FE.v 0 rfl;have e1:=FE.v 1 rfl;have e2:=FE.v 2 rfl;have BE:=hid (Below.set3 (hwc.out.alloc hwc.out.size (.cells #[.int .i32 45,.int .i32 43,.int .i32 37,.int .i32 8240,.int .i32 164] 21)) hgt (.int .i32 43) (.bool false) (.int .i64 0));have OE:=hid (qBW HO.out HOB.out BE.out);have BG:=hid (HB.out.trans (BE.out.mono hqs));have d0':(wc.alloc (.cells #[.int .i32 45,.int .i32 43,.int .i32 37,.int .i32 8240,.int .i32 164] 21)).cell? (ad.add (k * 2))=some (.int .i64 3):=(((Below.refl _ wc).alloc (Nat.le_refl _) (.cells #[.int .i32 45,.int .i32 43,.int .i32 37,.int .i32 8240,.int .i32 164] 21)).cell (p:=ad.add (k * 2)) hadc).trans d0;clear FX FE;have hqe:g≤((((wc.alloc (.cells #[.int .i32 45,.int .i32 43,.int .i32 37,.int .i32 8240,.int .i32 164] 21)).setCell ⟨gt,0,none⟩ (.int .i32 43)).setCell ⟨gt,1,none⟩ (.bool false)).setCell ⟨gt,2,none⟩ (.int .i64 0)).heap.size:=by have:=BE.out.size; omega
           go_wp2_with (at_builtin; go_must (refine qAF rfl (.tmp 40) (.tmp 42) _ rfl Tryz.underlying36 g u3 k ((is.take k).map tkI) rfl OE.out (43,false,0) (by simp only [World.size_setCell,World.size_alloc]; rfl) (43) (false) (0) rfl (by omega) BG.out hqe ?_))
           intro v' w' ho4 hb4 _
           go_wp2
           go_roundw
           case rel=>
            have e:(is.take (k+1)).map tkI=(is.map tkI).take k++[(43,false,0)]:=by rw [HS.out,List.map_append,List.map_take,List.map_cons,List.map_nil,HV.out]
            refine ⟨k+1,by omega,by go_num,?_,hb4.out⟩;rw [e]; exact ho4.out
           case measure=>simp [intOf]; omega
         · have HV:=hid (show tkI (2+((2:Nat):Int),0)=(37,false,0) from rfl)
           have FX:=hx.out.alloc (.cells #[.int .i32 45,.int .i32 43,.int .i32 37,.int .i32 8240,.int .i32 164] 21);have f0:=FX.v 0 rfl;have f1:=FX.v 1 rfl;have f2:=FX.v 2 rfl;have f3:=FX.fr 0;have f4:=FX.fr 1;have f5:=FX.fr 2;have FE:=FX.set3 (.int .i32 37) (.bool false) (.int .i64 0);have e0:=FE.v 0 rfl;have e1:=FE.v 1 rfl;have e2:=FE.v 2 rfl;have BE:=hid (Below.set3 (hwc.out.alloc hwc.out.size (.cells #[.int .i32 45,.int .i32 43,.int .i32 37,.int .i32 8240,.int .i32 164] 21)) hgt (.int .i32 37) (.bool false) (.int .i64 0));have OE:=hid (qBW HO.out HOB.out BE.out);have BG:=hid (HB.out.trans (BE.out.mono hqs));have d0':(wc.alloc (.cells #[.int .i32 45,.int .i32 43,.int .i32 37,.int .i32 8240,.int .i32 164] 21)).cell? (ad.add (k * 2))=some (.int .i64 4):=(((Below.refl _ wc).alloc (Nat.le_refl _) (.cells #[.int .i32 45,.int .i32 43,.int .i32 37,.int .i32 8240,.int .i32 164] 21)).cell (p:=ad.add (k * 2)) hadc).trans d0;clear FX FE;have hqe:g≤((((wc.alloc (.cells #[.int .i32 45,.int .i32 43,.int .i32 37,.int .i32 8240,.int .i32 164] 21)).setCell ⟨gt,0,none⟩ (.int .i32 37)).setCell ⟨gt,1,none⟩ (.bool false)).setCell ⟨gt,2,none⟩ (.int .i64 0)).heap.size:=by have:=BE.out.size; omega
           go_wp2_with (at_builtin; go_must (refine qAF rfl (.tmp 40) (.tmp 42) _ rfl Tryz.underlying36 g u3 k ((is.take k).map tkI) rfl OE.out (37,false,0) (by simp only [World.size_setCell,World.size_alloc]; rfl) (37) (false) (0) rfl (by omega) BG.out hqe ?_))
           intro v' w' ho4 hb4 _
           go_wp2
           go_roundw
           case rel=>
            have e:(is.take (k+1)).map tkI=(is.map tkI).take k++[(37,false,0)]:=by rw [HS.out,List.map_append,List.map_take,List.map_cons,List.map_nil,HV.out]
            refine ⟨k+1,by omega,by go_num,?_,hb4.out⟩;rw [e]; exact ho4.out
           case measure=>simp [intOf]; omega
         · have HV:=hid (show tkI (2+((3:Nat):Int),0)=(8240,false,0) from rfl)
           have FX:=hx.out.alloc (.cells #[.int .i32 45,.int .i32 43,.int .i32 37,.int .i32 8240,.int .i32 164] 21);have f0:=FX.v 0 rfl;have f1:=FX.v 1 rfl;have f2:=FX.v 2 rfl;have f3:=FX.fr 0;have f4:=FX.fr 1;have f5:=FX.fr 2;have FE:=FX.set3 (.int .i32 8240) (.bool false) (.int .i64 0);have e0:=FE.v 0 rfl;have e1:=FE.v 1 rfl;have e2:=FE.v 2 rfl;have BE:=hid (Below.set3 (hwc.out.alloc hwc.out.size (.cells #[.int .i32 45,.int .i32 43,.int .i32 37,.int .i32 8240,.int .i32 164] 21)) hgt (.int .i32 8240) (.bool false) (.int .i64 0));have OE:=hid (qBW HO.out HOB.out BE.out);have BG:=hid (HB.out.trans (BE.out.mono hqs));have d0':(wc.alloc (.cells #[.int .i32 45,.int .i32 43,.int .i32 37,.int .i32 8240,.int .i32 164] 21)).cell? (ad.add (k * 2))=some (.int .i64 5):=(((Below.refl _ wc).alloc (Nat.le_refl _) (.cells #[.int .i32 45,.int .i32 43,.int .i32 37,.int .i32 8240,.int .i32 164] 21)).cell (p:=ad.add (k * 2)) hadc).trans d0;clear FX FE;have hqe:g≤((((wc.alloc (.cells #[.int .i32 45,.int .i32 43,.int .i32 37,.int .i32 8240,.int .i32 164] 21)).setCell ⟨gt,0,none⟩ (.int .i32 8240)).setCell ⟨gt,1,none⟩ (.bool false)).setCell ⟨gt,2,none⟩ (.int .i64 0)).heap.size:=by have:=BE.out.size; omega
           go_wp2_with (at_builtin; go_must (refine qAF rfl (.tmp 40) (.tmp 42) _ rfl Tryz.underlying36 g u3 k ((is.take k).map tkI) rfl OE.out (8240,false,0) (by simp only [World.size_setCell,World.size_alloc]; rfl) (8240) (false) (0) rfl (by omega) BG.out hqe ?_))
           intro v' w' ho4 hb4 _
           go_wp2
           go_roundw
           case rel=>
            have e:(is.take (k+1)).map tkI=(is.map tkI).take k++[(8240,false,0)]:=by rw [HS.out,List.map_append,List.map_take,List.map_cons,List.map_nil,HV.out]
            refine ⟨k+1,by omega,by go_num,?_,hb4.out⟩;rw [e]; exact ho4.out
           case measure=>simp [intOf]; omega
         · have HV:=hid (show tkI (2+((4:Nat):Int),0)=(164,false,0) from rfl)
           have FX:=hx.out.alloc (.cells #[.int .i32 45,.int .i32 43,.int .i32 37,.int .i32 8240,.int .i32 164] 21);have f0:=FX.v 0 rfl;have f1:=FX.v 1 rfl;have f2:=FX.v 2 rfl;have f3:=FX.fr 0;have f4:=FX.fr 1;have f5:=FX.fr 2;have FE:=FX.set3 (.int .i32 164) (.bool false) (.int .i64 0);have e0:=FE.v 0 rfl;have e1:=FE.v 1 rfl;have e2:=FE.v 2 rfl;have BE:=hid (Below.set3 (hwc.out.alloc hwc.out.size (.cells #[.int .i32 45,.int .i32 43,.int .i32 37,.int .i32 8240,.int .i32 164] 21)) hgt (.int .i32 164) (.bool false) (.int .i64 0));have OE:=hid (qBW HO.out HOB.out BE.out);have BG:=hid (HB.out.trans (BE.out.mono hqs));have d0':(wc.alloc (.cells #[.int .i32 45,.int .i32 43,.int .i32 37,.int .i32 8240,.int .i32 164] 21)).cell? (ad.add (k * 2))=some (.int .i64 6):=(((Below.refl _ wc).alloc (Nat.le_refl _) (.cells #[.int .i32 45,.int .i32 43,.int .i32 37,.int .i32 8240,.int .i32 164] 21)).cell (p:=ad.add (k * 2)) hadc).trans d0;clear FX FE;have hqe:g≤((((wc.alloc (.cells #[.int .i32 45,.int .i32 43,.int .i32 37,.int .i32 8240,.int .i32 164] 21)).setCell ⟨gt,0,none⟩ (.int .i32 164)).setCell ⟨gt,1,none⟩ (.bool false)).setCell ⟨gt,2,none⟩ (.int .i64 0)).heap.size:=by have:=BE.out.size; omega
           go_wp2_with (at_builtin; go_must (refine qAF rfl (.tmp 40) (.tmp 42) _ rfl Tryz.underlying36 g u3 k ((is.take k).map tkI) rfl OE.out (164,false,0) (by simp only [World.size_setCell,World.size_alloc]; rfl) (164) (false) (0) rfl (by omega) BG.out hqe ?_))
           intro v' w' ho4 hb4 _
           go_wp2
           go_roundw
           case rel=>
            have e:(is.take (k+1)).map tkI=(is.map tkI).take k++[(164,false,0)]:=by rw [HS.out,List.map_append,List.map_take,List.map_cons,List.map_nil,HV.out]
            refine ⟨k+1,by omega,by go_num,?_,hb4.out⟩;rw [e]; exact ho4.out
           case measure=>simp [intOf]; omega
  · have hkm:k=n:=by omega
    subst hkm;rw [List.take_of_length_le (by rw [HL.out]; exact Nat.le_refl _)] at HO;obtain ⟨A7,c7,hA⟩:=qAJ HO.out;subst hA
    go_wp2
    go_ret
    refine ⟨_,_,_,rfl,hid ⟨HO.out,hn,fun t ht=>?_⟩,HB⟩;obtain ⟨i,hi,rfl⟩:=List.mem_map.1 ht;exact r32_tkI (H.out.2.2 i hi)
end Go.Proofs.YtnoeonaajefajaaGreatDoor
