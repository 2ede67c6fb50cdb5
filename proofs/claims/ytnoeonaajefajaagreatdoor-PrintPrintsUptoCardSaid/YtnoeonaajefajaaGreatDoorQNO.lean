import Derived.Test.YtnoeonaajefajaaGreatDoorQNM2
import Derived.Test.YtnoeonaajefajaaGreatDoorQNH
set_option linter.all false
set_option maxRecDepth 100000
namespace Go.Proofs.YtnoeonaajefajaaGreatDoor
open Go.RowKit
open Lib (hid)
theorem qIG {c:Nat} {l:List Nat} (h:∀ b ∈ l,b < 256):∀ b ∈ upA c l,b < 256:=fun b hb=>h b ((List.takeWhile_sublist _).subset hb)
theorem dn_lt {c:Nat} {l:List Nat} (h:∀ b ∈ l,b < 256):∀ b ∈ dnA c l,b < 256:=fun b hb=>h b ((List.dropWhile_sublist _).subset (List.mem_of_mem_drop hb))
theorem qIH (c:Nat) (l:List Nat):(upA c l).length≤l.length:=(List.takeWhile_sublist _).length_le
theorem dn_len (c:Nat) (l:List Nat):(dnA c l).length≤l.length:=by
 unfold dnA
 rw [List.length_drop]
 have:=qBM (· != c) l
 omega
theorem pln_lt {l:List Nat} (h:∀ b ∈ l,b < 256):∀ b ∈ pln l,b < 256:=fun b hb=>h b (List.mem_filter.1 hb).1
structure CX (w0 W:World) (r h:Nat) (T:TypeId) (zs vs:Array Value):Prop where
 m0:Mw w0
 b:Below w0.heap.size w0 W
 br:BX W r zs T
 bh:BX W h vs T
 h0:w0.heap.size≤r
 h1:r < h
section
variable {w0 W:World} {r h:Nat} {T:TypeId} {zs vs:Array Value}
theorem CX.mw (x:CX w0 W r h T zs vs):Mw W:=x.m0.below x.b
theorem CX.set (x:CX w0 W r h T zs vs) (j:Nat) (v:Value):CX w0 (W.setCell ⟨h,j,none⟩ v) r h T zs (vs.setIfInBounds j v):=
 ⟨x.m0,x.b.setCell (p:=⟨h,j,none⟩) (by have:=x.h0; have:=x.h1; show _≤h; omega) v,(heap_setCell_other W ⟨h,j,none⟩ r v (Nat.ne_of_lt x.h1)).trans x.br,heap_setCell_same W h j vs T v x.bh,x.h0,x.h1⟩
theorem CX.setr (x:CX w0 W r h T zs vs) (j:Nat) (v:Value):CX w0 (W.setCell ⟨r,j,none⟩ v) r h T (zs.setIfInBounds j v) vs:=
 ⟨x.m0,x.b.setCell (p:=⟨r,j,none⟩) x.h0 v,heap_setCell_same W r j zs T v x.br,(heap_setCell_other W ⟨r,j,none⟩ h v (Nat.ne_of_gt x.h1)).trans x.bh,x.h0,x.h1⟩
theorem CX.below {W':World} (x:CX w0 W r h T zs vs) (hb:Below W.heap.size W W'):CX w0 W' r h T zs vs:=
 ⟨x.m0,x.b.trans (hb.mono x.b.size),x.br.below hb x.br.lt,x.bh.below hb x.bh.lt,x.h0,x.h1⟩
theorem CX.drewN (x:CX w0 W r h T zs vs) (n:Nat):CX w0 (W.drewN n) r h T zs vs:=⟨x.m0,x.b.of_drewN n,x.br,x.bh,x.h0,x.h1⟩
theorem CX.to {vs':Array Value} (x:CX w0 W r h T zs vs) (e:vs=vs'):CX w0 W r h T zs vs':=e ▸ x
theorem CX.tor {zs':Array Value} (x:CX w0 W r h T zs vs) (e:zs=zs'):CX w0 W r h T zs' vs:=e ▸ x
theorem CX.new (hm:Mw w0):CX w0 ((w0.alloc (.cells zs T)).alloc (.cells vs T)) w0.heap.size (w0.heap.size+1) T zs vs:=
 ⟨hm,((Below.refl _ _).alloc (Nat.le_refl _) _).alloc (by simp) _,(BX.new w0 zs T).alloc _,by have:=BX.new (w0.alloc (.cells zs T)) vs T; simpa using this,Nat.le_refl _,Nat.lt_succ_self _⟩
end
set_option maxHeartbeats 2000000 in
theorem cut15_c (s:ByteArray) (w:World) (hM:Mw w) (hs:s.size < 4294967281):Calls Tryz.prog 129 #[.string s] w fun e w'=>
 e=.returned (.agg (ptV (stz (cutP (bts s)).main) (cutP (bts s)).sci (stz (cutP (bts s)).exp) (stz (cutP (bts s)).whole) (stz (cutP (bts s)).frac) (cutP (bts s)).pointed (stz (cutP (bts s)).bare)))∧Below w.heap.size w w':=by
 have hlt:=qAO s
 have hm:=qAE (qIG (c:=69) hlt)
 have hw:=qAE (qIG (c:=46) (qIG (c:=69) hlt))
 have hms:(stz (upA 69 (bts s))).size < 4294967281:=by have:=qIH 69 (bts s); rw [qA1] at this; rw [qA9]; omega
 have hws:(stz (upA 46 (upA 69 (bts s)))).size < 4294967281:=by have:=qIH 69 (bts s); have h2:=qIH 46 (upA 69 (bts s)); rw [qA1] at this; rw [qA9]; omega
 have H1:Hid (∀ W,Mw W→Calls Tryz.prog 179 #[.string s,.string ⟨#[69]⟩] W fun e w'=>
  e=.returned (.tuple #[.string (stz (upA 69 (bts s))),.string (stz (dnA 69 (bts s))),.bool ((bts s).any (· == 69))])∧∃ n,w'=W.drewN n):=hid (fun W h=>strCut_c s 69 W h hs)
 have H2:Hid (∀ W,Mw W→Calls Tryz.prog 179 #[.string (stz (upA 69 (bts s))),.string ⟨#[46]⟩] W fun e w'=>
  e=.returned (.tuple #[.string (stz (upA 46 (upA 69 (bts s)))),.string (stz (dnA 46 (upA 69 (bts s)))),.bool ((upA 69 (bts s)).any (· == 46))])∧∃ n,w'=W.drewN n):=hid (fun W h=>by
   have:=strCut_c (stz (upA 69 (bts s))) 46 W h hms
   rwa [hm] at this)
 have H3:Hid (∀ W,Mw W→Calls Tryz.prog 180 #[.string (stz (upA 46 (upA 69 (bts s)))),.string ⟨#[44]⟩,.string ⟨#[]⟩] W fun e w'=>
  e=.returned (.string (stz (pln (upA 46 (upA 69 (bts s))))))∧Below W.heap.size W w'):=hid (fun W h=>by
   have:=qLR (stz (upA 46 (upA 69 (bts s)))) 44 W h hws
   rwa [hw] at this)
 show Calls _ _ _ w fun e w'=>e=.returned (.agg (ptV (stz (upA 69 (bts s))) ((bts s).any (· == 69)) (stz (dnA 69 (bts s))) (stz (upA 46 (upA 69 (bts s)))) (stz (dnA 46 (upA 69 (bts s)))) ((upA 69 (bts s)).any (· == 46)) (stz (pln (upA 46 (upA 69 (bts s)))))))∧Below w.heap.size w w'
 clear hm hw hms hws hlt
 generalize stz (pln (upA 46 (upA 69 (bts s))))=ba at *
 generalize stz (upA 46 (upA 69 (bts s)))=wh at *
 generalize stz (dnA 46 (upA 69 (bts s)))=fr at *
 generalize (upA 69 (bts s)).any (· == 46)=pt at *
 generalize stz (upA 69 (bts s))=m at *
 generalize stz (dnA 69 (bts s))=ex at *
 generalize (bts s).any (· == 69)=sc at *
 have HX:=hid (CX.new (T:=156) (zs:=#[.string ⟨#[]⟩,.bool false,.string ⟨#[]⟩,.string ⟨#[]⟩,.string ⟨#[]⟩,.bool false,.string ⟨#[]⟩]) (vs:=#[.string ⟨#[]⟩,.bool false,.string ⟨#[]⟩,.string ⟨#[]⟩,.string ⟨#[]⟩,.bool false,.string ⟨#[]⟩]) hM)
 clear hM
 go_enter Tryz.func129,Tryz.ntmps129
 go_upto_region 2 with fail
 generalize (w.alloc (.cells #[.string ⟨#[]⟩,.bool false,.string ⟨#[]⟩,.string ⟨#[]⟩,.string ⟨#[]⟩,.bool false,.string ⟨#[]⟩] 156)).alloc (.cells #[.string ⟨#[]⟩,.bool false,.string ⟨#[]⟩,.string ⟨#[]⟩,.string ⟨#[]⟩,.bool false,.string ⟨#[]⟩] 156)=W at *
 generalize hg:w.heap.size=r at *
 have Hg:=hid hg
 clear hg
 have d0:=HX.out.bh.v 0 rfl
 have df0:=HX.out.bh.fr 0
 have d1:=HX.out.bh.v 1 rfl
 have df1:=HX.out.bh.fr 1
 have d2:=HX.out.bh.v 2 rfl
 have df2:=HX.out.bh.fr 2
 go_upto_region 3 with (go_at_call 179; refine (H1.out _ HX.out.mw).mono ?_; rintro e w' ⟨rfl,n1,rfl⟩)
 have HX:=hid (((((HX.out.drewN n1).set 0 (.string m)).set 2 (.string ex)).set 1 (.bool sc)).to (vs':=#[.string m,.bool sc,.string ex,.string ⟨#[]⟩,.string ⟨#[]⟩,.bool false,.string ⟨#[]⟩]) (by simp))
 clear d0 df0 d1 df1 d2 df2
 generalize (((W.drewN n1).setCell ⟨r+1,0,none⟩ (.string m)).setCell ⟨r+1,2,none⟩ (.string ex)).setCell ⟨r+1,1,none⟩ (.bool sc)=W2 at *
 have d0:=HX.out.bh.v 0 rfl
 have df0:=HX.out.bh.fr 0
 have d3:=HX.out.bh.v 3 rfl
 have df3:=HX.out.bh.fr 3
 have d4:=HX.out.bh.v 4 rfl
 have df4:=HX.out.bh.fr 4
 have d5:=HX.out.bh.v 5 rfl
 have df5:=HX.out.bh.fr 5
 go_upto_region 4 with (go_at_call 179; refine (H2.out _ HX.out.mw).mono ?_; rintro e w' ⟨rfl,n2,rfl⟩)
 have HX:=hid (((((HX.out.drewN n2).set 3 (.string wh)).set 4 (.string fr)).set 5 (.bool pt)).to (vs':=#[.string m,.bool sc,.string ex,.string wh,.string fr,.bool pt,.string ⟨#[]⟩]) (by simp))
 clear d0 df0 d3 df3 d4 df4 d5 df5
 generalize (((W2.drewN n2).setCell ⟨r+1,3,none⟩ (.string wh)).setCell ⟨r+1,4,none⟩ (.string fr)).setCell ⟨r+1,5,none⟩ (.bool pt)=W3 at *
 have d3:=HX.out.bh.v 3 rfl
 have df3:=HX.out.bh.fr 3
 go_upto_region 5 with (go_at_call 180; refine (H3.out _ HX.out.mw).mono ?_; rintro e W4 ⟨rfl,hbx⟩; have HX:=hid (HX.out.below hbx); have d6:=HX.out.bh.v 6 rfl; have df6:=HX.out.bh.fr 6; clear hbx)
 have HX:=hid ((HX.out.set 6 (.string ba)).to (vs':=#[.string m,.bool sc,.string ex,.string wh,.string fr,.bool pt,.string ba]) (by simp))
 clear d6 df6 d3 df3
 generalize W4.setCell ⟨r+1,6,none⟩ (.string ba)=W5 at *
 have d0:=HX.out.bh.v 0 rfl
 have d1:=HX.out.bh.v 1 rfl
 have d2:=HX.out.bh.v 2 rfl
 have d3:=HX.out.bh.v 3 rfl
 have d4:=HX.out.bh.v 4 rfl
 have d5:=HX.out.bh.v 5 rfl
 have d6:=HX.out.bh.v 6 rfl
 have z0:=HX.out.br.v 0 rfl
 have z1:=HX.out.br.v 1 rfl
 have z2:=HX.out.br.v 2 rfl
 have z3:=HX.out.br.v 3 rfl
 have z4:=HX.out.br.v 4 rfl
 have z5:=HX.out.br.v 5 rfl
 have z6:=HX.out.br.v 6 rfl
 have zf0:=HX.out.br.fr 0
 have zf1:=HX.out.br.fr 1
 have zf2:=HX.out.br.fr 2
 have zf3:=HX.out.br.fr 3
 have zf4:=HX.out.br.fr 4
 have zf5:=HX.out.br.fr 5
 have zf6:=HX.out.br.fr 6
 go_wp2
 have HX:=hid ((((((((HX.out.setr 0 (.string m)).setr 1 (.bool sc)).setr 2 (.string ex)).setr 3 (.string wh)).setr 4 (.string fr)).setr 5 (.bool pt)).setr 6 (.string ba)).tor (zs':=ptV m sc ex wh fr pt ba) (by simp [ptV]))
 generalize (((((((W5.setCell ⟨r,0,none⟩ (.string m)).setCell ⟨r,1,none⟩ (.bool sc)).setCell ⟨r,2,none⟩ (.string ex)).setCell ⟨r,3,none⟩ (.string wh)).setCell ⟨r,4,none⟩ (.string fr)).setCell ⟨r,5,none⟩ (.bool pt)).setCell ⟨r,6,none⟩ (.string ba))=WF at *
 have e0:=HX.out.br.v 0 rfl
 have e1:=HX.out.br.v 1 rfl
 have e2:=HX.out.br.v 2 rfl
 have e3:=HX.out.br.v 3 rfl
 have e4:=HX.out.br.v 4 rfl
 have e5:=HX.out.br.v 5 rfl
 have e6:=HX.out.br.v 6 rfl
 exact bodyPost_ret (v:=.agg (ptV m sc ex wh fr pt ba)) (by simp [results,Tryz.results129,go_sem,ptV,e0,e1,e2,e3,e4,e5,e6]) rfl ⟨rfl,Hg.out ▸ HX.out.b⟩
theorem qKO (a b:List Nat) (hb:∀ x ∈ b,x≠44):∀ k,spl (a++44 :: b) k=spl a k++[b.length]:=by
 induction a with
 | nil=>intro k; show spl (44 :: b) k=[k]++_; rw [spl,if_pos rfl,qG8 hb,Nat.zero_add]; rfl
 | cons c t ih=>
  intro k
  show spl (c :: (t++44 :: b)) k=_
  by_cases hc:c=44
  · subst hc; rw [spl,if_pos rfl,ih,spl,if_pos rfl]; rfl
  · rw [spl,if_neg hc,ih,spl,if_neg hc]
theorem prim_snoc {l:List Nat} (h:1≤l.length) (x:Nat):primZ (l++[x])=x:=by
 unfold primZ
 rw [if_pos (by rw [List.length_append,List.length_singleton]; omega),List.length_append,List.length_singleton,Nat.add_sub_cancel,List.getD,List.getElem?_append_right (Nat.le_refl _),Nat.sub_self]; rfl
theorem sec_snoc {l:List Nat} (h:1≤l.length) (y x:Nat):secZ ((l++[y])++[x])=y:=by
 unfold secZ
 rw [if_pos (by simp only [List.length_append,List.length_singleton]; omega),show ((l++[y])++[x]).length - 2=l.length by simp only [List.length_append,List.length_singleton]; omega,List.append_assoc,List.getD,List.getElem?_append_right (Nat.le_refl _),Nat.sub_self]; rfl
set_option maxHeartbeats 1000000 in
theorem sizes_c (s:ByteArray) (w:World) (hs:s.size < 4294967281):Calls Tryz.prog 191 #[.string s] w fun e w'=>
 e=.returned (.tuple #[.int .i64 ((primZ (spl (bts s) 0):Nat):Int),.int .i64 ((secZ (spl (bts s) 0):Nat):Int)])∧w=w':=by
 have H1:=hid (fun W=>qIF s W hs)
 rcases qLQ s 44 with ⟨hl,hn⟩ | ⟨i,hi,hl,hsp,hn⟩
 · rw [hl] at H1
   have HP:=hid (show primZ (spl (bts s) 0)=0∧secZ (spl (bts s) 0)=0 by rw [qG8 hn]; exact ⟨rfl,rfl⟩);clear hn hl
   go_enter Tryz.func191,Tryz.ntmps191
   go_wp2_with (first
    | (go_at_call 244; refine (H1.out _).mono ?_; rintro e w' ⟨rfl,rfl⟩)
    | fail)
   go_ret2
   rw [HP.out.1,HP.out.2];exact ⟨rfl,rfl⟩
 · rw [hl] at H1
   have hel:(s.extract 0 i).size < 4294967281:=by rw [ByteArray.size_extract]; omega
   have H2:=hid (fun W=>qIF (s.extract 0 i) W hel);have hlen:((bts s).drop (i+1)).length=s.size - i - 1:=by rw [List.length_drop,qA1]; omega
   have hsz:(s.extract 0 i).size=i:=by rw [ByteArray.size_extract]; omega
   have hpos:=qGY ((bts s).take i) 0
   rcases qLQ (s.extract 0 i) 44 with ⟨hl2,hn2⟩ | ⟨j,hj,hl2,hsp2,hn2⟩
   · rw [hl2] at H2
     rw [qBL] at hn2;have HP:=hid (show primZ (spl (bts s) 0)=s.size - i - 1∧secZ (spl (bts s) 0)=s.size - i - 1 by
      rw [hsp,qKO _ _ hn,qG8 hn2,← hlen]; exact ⟨rfl,rfl⟩)
     have hw1:(s.size:Int) - (i:Int) - 1=((s.size - i - 1:Nat):Int):=by omega
     clear hn hn2 hl hl2 hsp hlen hel hpos hsz
     go_enter Tryz.func191,Tryz.ntmps191
     go_upto_region 5 with (go_at_call 244; refine (H1.out _).mono ?_; rintro e w' ⟨rfl,rfl⟩)
     go_wp2_with (go_at_call 244; refine (H2.out _).mono ?_; rintro e w' ⟨rfl,rfl⟩)
     go_ret2
     rw [HP.out.1,HP.out.2];exact ⟨rfl,rfl⟩
   · rw [hl2] at H2
     have hbl:((bts (s.extract 0 i)).drop (j+1)).length=i - j - 1:=by rw [List.length_drop,qA1,hsz]; omega
     have hpos2:=qGY ((bts (s.extract 0 i)).take j) 0;have HP:=hid (show primZ (spl (bts s) 0)=s.size - i - 1∧secZ (spl (bts s) 0)=i - j - 1 by
      rw [qBL] at hsp2 hn2 hbl hpos2;rw [hsp,qKO _ _ hn,hsp2,qKO _ _ hn2,hlen,hbl];exact ⟨prim_snoc (by rw [List.length_append,List.length_singleton]; omega) _,sec_snoc hpos2 _ _⟩)
     have hw1:(s.size:Int) - (i:Int) - 1=((s.size - i - 1:Nat):Int):=by omega
     have hw2:(i:Int) - (j:Int) - 1=((i - j - 1:Nat):Int):=by omega
     clear hn hn2 hl hl2 hsp hsp2 hlen hel hpos hsz hbl hpos2
     go_enter Tryz.func191,Tryz.ntmps191
     go_upto_region 5 with (go_at_call 244; refine (H1.out _).mono ?_; rintro e w' ⟨rfl,rfl⟩)
     go_wp2_with (go_at_call 244; refine (H2.out _).mono ?_; rintro e w' ⟨rfl,rfl⟩)
     go_ret2
     rw [HP.out.1,HP.out.2];exact ⟨rfl,rfl⟩
end Go.Proofs.YtnoeonaajefajaaGreatDoor

set_option linter.all false
set_option maxRecDepth 100000
namespace Go.Proofs.YtnoeonaajefajaaGreatDoor
open Go.RowKit
open Lib (hid)
set_option maxHeartbeats 1000000 in
theorem step15_c (m:ByteArray) (sc:Bool) (ex wh fr:ByteArray) (pt:Bool) (ba:ByteArray) (w:World) (hM:Mw w) (hs:ba.size+fr.size < 4294967281) :
 Calls Tryz.prog 194 #[.agg (ptV m sc ex wh fr pt ba)] w fun e w'=>e=.returned (.string (stz (incZ (bts ba++bts fr))))∧Below w.heap.size w w':=by
 have HX:=hid (PX.new (m:=m) (sc:=sc) (ex:=ex) (wh:=wh) (fr:=fr) (pt:=pt) (ba:=ba) hM)
 obtain ⟨c0,c1,c2,c3,c4,c5,c6⟩:=HX.out.cells
 clear hM
 generalize hW:w.alloc (.cells (ptV m sc ex wh fr pt ba) 156)=W at *
 have HW:=hid hW
 clear hW
 generalize hg:w.heap.size=g at *
 have Hg:=hid hg
 clear hg
 have h1:¬ 9223372036854775807 < ba.size+fr.size:=by omega
 have hf:∀ b ∈ ((bts ba++bts fr).filter fun c=>!h35 c),b < 256:=fun b hb=>by
  rcases List.mem_append.1 (List.mem_filter.1 hb).1 with h | h
  · exact qAO _ b h
  · exact qAO _ b h
 have hfl:((bts ba++bts fr).filter fun c=>!h35 c).length≤ba.size+fr.size:=by
  have:=List.length_filter_le (fun c=>!h35 c) (bts ba++bts fr);rw [List.length_append,qA1,qA1] at this;exact this
 have H1:Hid (∀ W,Mw W→Calls Tryz.prog 180 #[.string (ba++fr),.string ⟨#[35]⟩,.string ⟨#[]⟩] W fun e w'=>
  e=.returned (.string (stz ((bts ba++bts fr).filter fun c=>!h35 c)))∧Below W.heap.size W w'):=hid (fun W h=>by
   have:=qLR (ba++fr) 35 W h (by rw [ByteArray.size_append]; exact hs);rw [qAP] at this;exact this)
 have H2:Hid (∀ W,Calls Tryz.prog 193 #[.string (stz ((bts ba++bts fr).filter fun c=>!h35 c)),.string ⟨#[48]⟩] W fun e w'=>e=.returned (.string (stz (incZ (bts ba++bts fr))))∧W=w'):=hid (fun W=>by
  have:=qID (stz ((bts ba++bts fr).filter fun c=>!h35 c)) 48 (by decide) W;rw [qAE hf] at this;exact this)
 have hil:(stz (incZ (bts ba++bts fr))).size < 4294967281:=by
  rw [qA9];have:=qBM z48 ((bts ba++bts fr).filter fun c=>!h35 c);unfold incZ;omega
 clear hf hfl
 generalize stz ((bts ba++bts fr).filter fun c=>!h35 c)=A at *
 generalize stz (incZ (bts ba++bts fr))=I at *
 have H3:=hid (fun W=>strClone_c I W hil)
 go_enter Tryz.func194,Tryz.ntmps194
 go_upto_region 1 with fail
 rw [HW.out,Hg.out]
 go_wp2_with (first
  | (go_at_call 180; refine (H1.out _ HX.out.mw).mono ?_; rintro e w1 ⟨rfl,hbx⟩; have HX:=hid (HX.out.below hbx); clear hbx)
  | (go_at_call 193; refine (H2.out _).mono ?_; rintro e w' ⟨rfl,rfl⟩)
  | (go_at_call 225; refine (H3.out _).mono ?_; rintro e w2 ⟨rfl,hbx⟩; have HX:=hid (HX.out.below hbx); clear hbx)
  | go_in)
 go_ret
 exact ⟨rfl,Hg.out ▸ HX.out.b⟩
def cntV (p:NF):Array Value:=#[.int .i64 (p.minInt:Int),.int .i64 (p.maxInt:Int),.int .i64 (p.minFrac:Int),.int .i64 (p.maxFrac:Int),.int .i64 (p.minSig:Int),.int .i64 (p.maxSig:Int),.int .i64 (p.prim:Int),.int .i64 (p.sec:Int),.int .i64 (p.inc.length:Int),.int .i64 (p.minExp:Int)]
set_option maxHeartbeats 1000000 in
theorem qKP (x0 x1 x2 x3 x4 y0 y1 y2:Value) (p:NF) (w:World):Calls Tryz.prog 268 #[.agg (patV x0 x1 x2 x3 x4 p y0 y1 y2)] w fun e w'=>e=.returned (.agg (cntV p))∧Below w.heap.size w w':=by
 have hI:(stz p.inc).size=p.inc.length:=qA9 _
 unfold patV
 generalize stz p.inc=I at *
 go_enter Tryz.func268,Tryz.ntmps268
 go_wp2
 exact bodyPost_ret (v:=.agg (cntV p)) (by simp [results,Tryz.results268,go_sem,cntV]) rfl ⟨rfl,((Below.refl _ _).alloc (Nat.le_refl _) _).alloc (by simp) _⟩
theorem idx_cnt (p:NF) {k:Nat} (hk:k < 10) (W:World):(Instr.index 271 (.agg (cntV p)) (.int .i64 (k:Int))).run Tryz.prog W=.ok (.int .i64 (((cntN p).getD k 0:Nat):Int)) W:=by
 have:k=0∨k=1∨k=2∨k=3∨k=4∨k=5∨k=6∨k=7∨k=8∨k=9:=by omega
 rcases this with rfl | rfl | rfl | rfl | rfl | rfl | rfl | rfl | rfl | rfl <;> rfl
theorem qA0 (x0 x1 x2 x3 x4:Value) (p:NF) (y0 y1 y2:Value):(Tryz.prog.info? 24).map (·.size)=some (patV x0 x1 x2 x3 x4 p y0 y1 y2).size:=by
 rw [show (patV x0 x1 x2 x3 x4 p y0 y1 y2).size=20 from rfl]
 kernel_rfl
set_option maxHeartbeats 1000000 in
theorem within_c (x0 x1 x2 x3 x4 y0 y1 y2:Value) (p:NF) (w:World):Calls Tryz.prog 226 #[.agg (patV x0 x1 x2 x3 x4 p y0 y1 y2)] w fun e w'=>e=.returned (.bool (!(cntN p).any (fun k=>decide (40 < k))))∧Below w.heap.size w w':=by
 have HC:=hid (fun W=>qKP x0 x1 x2 x3 x4 y0 y1 y2 p W)
 have HN:=hid (fun k (hk:k < 10) W=>idx_cnt p (k:=k) hk W)
 have HL:=hid (show (cntN p).length=10 from rfl)
 have hsz:=qA0 x0 x1 x2 x3 x4 p y0 y1 y2
 have hbx:BX (w.alloc (.cells (patV x0 x1 x2 x3 x4 p y0 y1 y2) 24)) w.heap.size (patV x0 x1 x2 x3 x4 p y0 y1 y2) 24:=BX.new _ _ _
 have HB:=hid (qA2 w (.cells (patV x0 x1 x2 x3 x4 p y0 y1 y2) 24))
 generalize hbb:(cntN p).any (fun k=>decide (40 < k))=bb at *
 have HBB:=hid hbb
 clear hbb
 go_enter Tryz.func226,Tryz.ntmps226
 go_upto_region 1 with fail
 generalize w.alloc (.cells (patV x0 x1 x2 x3 x4 p y0 y1 y2) 24)=W at *
 generalize patV x0 x1 x2 x3 x4 p y0 y1 y2=PV at *
 generalize hg:w.heap.size=g at *
 have Hg:=hid hg
 clear hg
 go_wp2_with (first
  | (refine wpList_load_row rfl 24 _ rfl g rfl 24 PV (0,0) _ hbx Tryz.underlying24 rfl hsz ?_)
  | (go_at_call 268; refine (HC.out _).mono ?_; rintro e w1 ⟨rfl,hb⟩; have HB:=hid (HB.out.trans (hb.mono (Hg.out ▸ HB.out.size))); clear hb))
 clear HC hsz hbx
 generalize cntV p=V at *
 generalize cntN p=L at *
 go_loopw [7] (fun iv wr=>∃ k:Nat,k≤10∧iv=.int .i64 (k:Int)∧Below g w wr∧∀ j,j < k→L.getD j 0≤40) (fun iv _=>10 - (intOf iv).toNat)
 case atStart=>exact ⟨0,Nat.zero_le _,rfl,HB.out,fun j hj=>absurd hj (Nat.not_lt_zero _)⟩
 case round=>
  obtain ⟨k,hk,rfl,hb0,hall0⟩:=hrel;have HB:=hid hb0;have HA:=hid hall0;clear hb0 hall0
  by_cases hlt:k < 10
  · have hlt':decide ((k:Int) < 10)=true:=decide_eq_true (by omega)
    have hix:=HN.out k hlt;obtain ⟨x,hx⟩:∃ x,L.getD k 0=x:=⟨_,rfl⟩;rw [hx] at hix;have HX:=hid hx;have hx0:decide ((x:Int) < 0)=false:=decide_eq_false (by omega);clear hx
    by_cases h40:40 < x
    · have h4:decide ((40:Int) < (x:Int))=true:=decide_eq_true (by omega)
      have HV:=hid (show L.any (fun k=>decide (40 < k))=true from List.any_eq_true.2 ⟨x,by
       rw [← HX.out];exact qEJ (by rw [HL.out]; exact hlt),decide_eq_true h40⟩)
      clear h40;obtain rfl:bb=true:=HBB.out.symm.trans HV.out
      go_wp2
      go_ret
      exact ⟨rfl,Hg.out ▸ HB.out⟩
    · have h4:decide ((40:Int) < (x:Int))=false:=decide_eq_false (by omega)
      go_wp2
      go_roundw
      case rel=>
       refine ⟨k+1,by omega,by go_num,HB.out,fun j hj=>?_⟩
       rcases Nat.lt_or_eq_of_le (Nat.le_of_lt_succ hj) with h | h
       · exact HA.out j h
       · subst h; rw [HX.out]; omega
      case measure=>simp [intOf]; omega
  · have hke:k=10:=by omega
    subst hke;have HV:=hid (show L.any (fun k=>decide (40 < k))=false by
     refine qBK fun c hc=>?_
     obtain ⟨j,hj,e⟩:=List.getElem_of_mem hc;have:=HA.out j (by rw [← HL.out]; exact hj);rw [List.getD,List.getElem?_eq_getElem hj,Option.getD_some,e] at this;exact decide_eq_false (by omega))
    obtain rfl:bb=false:=HBB.out.symm.trans HV.out
    go_wp2
    go_ret
    exact ⟨rfl,Hg.out ▸ HB.out⟩
def patN (p:NF):Array Value:=patV (.slice none 0 0) (.slice none 0 0) (.bool false) (.slice none 0 0) (.slice none 0 0) p (.int .i64 0) (.int .i32 0) (.int .i64 0)
def patZ:Array Value:=#[.slice none 0 0,.slice none 0 0,.bool false,.slice none 0 0,.slice none 0 0,.int .i64 0,.int .i64 0,.int .i64 0,.int .i64 0,.int .i64 0,.int .i64 0,.int .i64 0,.int .i64 0,.string ⟨#[]⟩,.bool false,.int .i64 0,.bool false,.int .i64 0,.int .i32 0,.int .i64 0]
end Go.Proofs.YtnoeonaajefajaaGreatDoor
