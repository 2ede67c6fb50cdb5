import Derived.StillTailTactics
import Derived.Test.YtnoeonaajefajaaGreatDoorQSB
import Derived.Test.YtnoeonaajefajaaGreatDoorQSA
import Derived.Test.YtnoeonaajefajaaGreatDoorQMF
set_option linter.all false
set_option maxRecDepth 100000
namespace Go.Proofs.YtnoeonaajefajaaGreatDoor
open Go.RowKit
open Lib (hid)
theorem qAC {P:Program} {fn:Func} {p q:Tmp} {ty ty2:TypeId} (h:fn.results=#[.cell p ty,.cell q ty2]) (tmps:Array Value) (w:World) (g:Nat) (t:TypeId) (cs:Array Value) (fr:Nat × Nat) (d:TypeDesc)
 (hp:tmps.getD p undef=.pointer (some ⟨g,0,none⟩)) (hg:w.heap[g]? = some (.cells cs t fr))
 (hu:P.underlying ty=some d) (hd:(match d with | .struct _ | .array _ _=>true | _=>false)=true) (hi:(P.info? ty).map (·.size)=some cs.size)
 (g2:Nat) (t2:TypeId) (cs2:Array Value) (fr2:Nat × Nat) (d2:TypeDesc)
 (hp2:tmps.getD q undef=.pointer (some ⟨g2,0,none⟩)) (hg2:w.heap[g2]? = some (.cells cs2 t2 fr2))
 (hu2:P.underlying ty2=some d2) (hd2:(match d2 with | .struct _ | .array _ _=>true | _=>false)=true) (hi2:(P.info? ty2).map (·.size)=some cs2.size) :
 (results fn tmps).run P w=.ok (.tuple #[.agg cs,.agg cs2]) w:=by
 have hp':tmps[p]?.getD undef=.pointer (some ⟨g,0,none⟩):=by simpa using hp
 have hp2':tmps[q]?.getD undef=.pointer (some ⟨g2,0,none⟩):=by simpa using hp2
 simp [results,h,hp',hp2',asAddr,run_loadVar_row w g t ty cs fr d hg hu hd hi,run_loadVar_row w g2 t2 ty2 cs2 fr2 d2 hg2 hu2 hd2 hi2]
theorem qA3 (x y:Value):(Tryz.prog.info? 27).map (·.size)=some #[x,y].size:=by kernel_rfl
theorem qA6 (e p:Int):(#[Value.int .i64 e,Value.int .i64 p].all (·.oneCell'))=true:=by simp [Value.oneCell']
structure Btw (w:World) (lo hi:Nat) (A:Option Addr) (n c:Nat) (is:List Itm):Prop where
 cp:Cp A n c
 hi_:hi≤w.heap.size
 len:(itsV is).length=n * 2
 rd:0 < n→∃ ad,A=some ad∧lo≤ad.block∧ad.block < hi∧∀ j u,(itsV is)[j]? = some u→w.cell? (ad.add j)=some u
 sm:n≤36000000000000
 ri:∀ i ∈ is,RI i
theorem Btw.its {w:World} {lo hi:Nat} {A:Option Addr} {n c:Nat} {is:List Itm} (h:Btw w lo hi A n c is):Its w A n is:=
 ⟨⟨h.len,fun h0=>by
  obtain ⟨ad,e,-,h2,h3⟩:=h.rd h0;exact ⟨ad,e,Nat.lt_of_lt_of_le h2 h.hi_,h3⟩⟩,h.sm,h.ri⟩
theorem Btw.mono {w:World} {lo hi lo' hi':Nat} {A:Option Addr} {n c:Nat} {is:List Itm} (h:Btw w lo hi A n c is) (h1:lo'≤lo) (h2:hi≤hi') (h3:hi'≤w.heap.size):Btw w lo' hi' A n c is:=
 ⟨h.cp,h3,h.len,fun h0=>by
  obtain ⟨ad,e,a,b,d⟩:=h.rd h0;exact ⟨ad,e,Nat.le_trans h1 a,Nat.lt_of_lt_of_le b h2,d⟩,h.sm,h.ri⟩
theorem Btw.keep {w w':World} {lo hi:Nat} {A:Option Addr} {n c:Nat} {is:List Itm} (h:Btw w lo hi A n c is) (hs:w.heap.size≤w'.heap.size) (hk:∀ k,lo≤k→k < hi→w'.heap[k]? = w.heap[k]?):Btw w' lo hi A n c is:=
 ⟨h.cp,Nat.le_trans h.hi_ hs,h.len,fun h0=>by
  obtain ⟨ad,e,a,b,d⟩:=h.rd h0;refine ⟨ad,e,a,b,fun j u hu=>?_⟩;rw [← d j u hu];unfold World.cell?;rw [qAB,hk _ a b],h.sm,h.ri⟩
theorem Btw.below {w w':World} {lo hi B:Nat} {A:Option Addr} {n c:Nat} {is:List Itm} (h:Btw w lo hi A n c is) (hb:Below B w w') (hB:hi≤B):Btw w' lo hi A n c is:=
 h.keep hb.size fun k _ hk=>hb.block k (Nat.lt_of_lt_of_le hk hB)
theorem Btw.set {w:World} {lo hi:Nat} {A:Option Addr} {n c:Nat} {is:List Itm} (h:Btw w lo hi A n c is) {f:Nat} (hf:f < lo∨hi≤f) (j:Nat) (v:Value):Btw (w.setCell ⟨f,j,none⟩ v) lo hi A n c is:=
 h.keep (by simp) fun k h1 h2=>heap_setCell_other w ⟨f,j,none⟩ k v (by show k≠f; omega)
theorem Btw.row {w:World} {lo hi:Nat} {A:Option Addr} {n c:Nat} {is:List Itm} (h:Btw w lo hi A n c is) {f:Nat} (hf:f < lo∨hi≤f) (cs:Array Value):Btw (w.setRow f cs) lo hi A n c is:=
 h.keep ((Below.refl 0 w).setRow (Nat.zero_le f) cs).size fun k h1 h2=>setRow_other w f k cs (by omega)
theorem Btw.of_own {w:World} {base:Nat} {A:Option Addr} {n c:Nat} {is:List Itm} (h:OwnI w base A n c is):Btw w base w.heap.size A n c is:=by
 have h0:=h.1.1
 refine ⟨?_,Nat.le_refl _,h0,fun hn=>?_,Nat.le_trans h.2.1 (by omega),h.2.2⟩
 · rcases h.1.2 with ⟨e,rfl⟩ | ⟨g',cap,cur,e,_,_,hc,_⟩
   · cases e; exact Cp.nil
   · cases e; exact Cp.some hc
 · rcases h.1.2 with ⟨_,rfl⟩ | ⟨g',cap,cur,e,hb,hg,_⟩
   · exact absurd hn (Nat.lt_irrefl _)
   · cases e
     exact ⟨_,rfl,hb,(Array.getElem?_eq_some_iff.1 hg).1,h.1.cells rfl⟩
structure TX (w W:World) (g:Nat) (b:Int) (l:Bool) (x y z:Value):Prop where
 bb:Below g w W
 hx:BX W g #[.int .i64 b,.bool l,x,y,z] 77
 rx:BX W (g+1) patZ 24
 fx:FB W (g+2) (.int .i64 0) (.int .i64 0)
section
variable {w W W':World} {g:Nat} {b:Int} {l:Bool} {x y z:Value}
theorem TX.below (h:TX w W g b l x y z) (hb:Below W.heap.size W W'):TX w W' g b l x y z:=
 ⟨h.bb.trans (hb.mono (Nat.le_of_lt h.hx.lt)),h.hx.below hb h.hx.lt,h.rx.below hb h.rx.lt,h.fx.below hb h.fx.lt⟩
theorem TX.drew (h:TX w W g b l x y z):TX w W.drew g b l x y z:=⟨h.bb.drew,h.hx,h.rx,h.fx⟩
theorem TX.new (w:World) (b:Int) (l:Bool) (x y z:Value):TX w (((w.alloc (.cells #[.int .i64 b,.bool l,x,y,z] 77)).alloc (.cells patZ 24)).alloc (.cells #[.int .i64 0,.int .i64 0] 27)) w.heap.size b l x y z:=
 ⟨(((Below.refl _ _).alloc (Nat.le_refl _) _).alloc (by simp) _).alloc (by simp; omega) _,((BX.new _ _ _).alloc _).alloc _,by
  have:=(BX.new (w.alloc (.cells #[.int .i64 b,.bool l,x,y,z] 77)) patZ 24).alloc (.cells #[.int .i64 0,.int .i64 0] 27)
  simpa using this,by
  have:=FB.new ((w.alloc (.cells #[.int .i64 b,.bool l,x,y,z] 77)).alloc (.cells patZ 24)) (.int .i64 0) (.int .i64 0)
  simpa using this⟩
theorem TX.ret (h:TX w W g b l x y z) (cs:Array Value) (e p:Value) :
 BX ((W.setRow (g+1) cs).setRow (g+2) #[e,p]) (g+1) cs 24∧FB ((W.setRow (g+1) cs).setRow (g+2) #[e,p]) (g+2) e p ∧
 Below g w ((W.setRow (g+1) cs).setRow (g+2) #[e,p])∧Below (g+1) W ((W.setRow (g+1) cs).setRow (g+2) #[e,p]):=by
 have h1:BX (W.setRow (g+1) cs) (g+1) cs 24:=setRow_heap _ _ patZ _ _ _ h.rx
 have h2:FB (W.setRow (g+1) cs) (g+2) (.int .i64 0) (.int .i64 0):=(setRow_other W (g+1) (g+2) cs (by omega)).trans h.fx
 exact ⟨(setRow_other _ (g+2) (g+1) _ (by omega)).trans h1,setRow_heap _ _ _ _ _ _ h2,(h.bb.setRow (by omega) cs).setRow (by omega) _,((Below.refl (g+1) W).setRow (by omega) cs).setRow (by omega) _⟩
theorem TX.setF (h:TX w W g b l x y z) {f:Nat} (hf:g+2 < f) (j:Nat) (v:Value):TX w (W.setCell ⟨f,j,none⟩ v) g b l x y z:=
 ⟨h.bb.setCell (p:=⟨f,j,none⟩) (by show g≤f; omega) v,(heap_setCell_other W ⟨f,j,none⟩ g v (by show g≠f; omega)).trans h.hx,(heap_setCell_other W ⟨f,j,none⟩ (g+1) v (by show g+1≠f; omega)).trans h.rx,(heap_setCell_other W ⟨f,j,none⟩ (g+2) v (by show g+2≠f; omega)).trans h.fx⟩
theorem TX.at_ (h:TX w W g b l x y z) (cs:Array Value):FB (W.setRow (g+1) cs) (g+2) (.int .i64 0) (.int .i64 0):=
 (setRow_other W (g+1) (g+2) cs (by omega)).trans h.fx
theorem qE3 {w:World} {g j:Nat} {cs ds:Array Value} {v:Value} {f:Nat} (h:w.cell? ⟨f,j,none⟩=some v) (h1:f≠g+1) (h2:f≠g+2):(w.setRow (g+1) cs).cell? ⟨f,j,none⟩=some v∧((w.setRow (g+1) cs).setRow (g+2) ds).cell? ⟨f,j,none⟩=some v:=
 ⟨(cell_setRow_other _ _ _ _ h1).trans h,(cell_setRow_other _ _ _ _ h2).trans ((cell_setRow_other _ _ _ _ h1).trans h)⟩
end
theorem qH2 (A1 A2:Option Addr) (n1 c1 n2 c2:Nat) (p:NF) (a r z:Int) :
 ((patV (.slice A1 n1 c1) (.slice A2 n2 c2) (.bool false) (.slice none 0 0) (.slice none 0 0) p (.int .i64 a) (.int .i32 r) (.int .i64 z)).all (·.oneCell'))=true:=by
 simp [patV,Value.oneCell']
theorem BX.other {w:World} {g:Nat} {vs:Array Value} {T:TypeId} (h:BX w g vs T) {f:Nat} (hf:g≠f) (j:Nat) (v:Value):BX (w.setCell ⟨f,j,none⟩ v) g vs T:=
 (heap_setCell_other w ⟨f,j,none⟩ g v hf).trans h
theorem Btw.num {w:World} {lo hi:Nat} {A:Option Addr} {n c:Nat} {is:List Itm} (h:Btw w lo hi A n c is):is.length=n:=by
 have:=h.len; rw [qCO] at this; omega
set_option maxHeartbeats 4000000 in
theorem tell16_c {D:Nat} (v:Value) (b:Int) (l:Bool) (es:List El) (w:World) (h:HfM w D v b l es) (hn:es.length≤1000) (hM:Mw w) :
 Calls Tryz.prog 48 #[v] w fun e w'=>∃ PV,e=.returned (.tuple #[.agg PV,.agg #[.int .i64 (halfZ (!l) b es).2.1,.int .i64 (halfZ (!l) b es).2.2]]) ∧
  Hid ((halfZ (!l) b es).2.1≠0→PV=patZ) ∧
  Hid ((halfZ (!l) b es).2.1=0→∃ A1 n1 c1 A2 n2 c2,PV=patV (.slice A1 n1 c1) (.slice A2 n2 c2) (.bool false) (.slice none 0 0) (.slice none 0 0) (halfZ (!l) b es).1.num (.int .i64 (halfZ (!l) b es).1.at_) (.int .i32 (halfZ (!l) b es).1.pad)
   (.int .i64 (((halfZ (!l) b es).1.wid:Nat):Int))∧Btw w' w.heap.size w'.heap.size A1 n1 c1 (halfZ (!l) b es).1.pre∧Btw w' w.heap.size w'.heap.size A2 n2 c2 (halfZ (!l) b es).1.suf)∧Hid (Below w.heap.size w w'):=by
 have HLE:Hid (es.length≤1000∧(hpre es).length≤1000∧(hnum es).length≤1000∧(hsuf es).length≤1000):=hid (by have:=hpl es; omega)
 generalize hH:halfZ (!l) b es=H
 have HPD:=hid (fun (W:World) (hb:Below w.heap.size w W)=>padded_c v b l es W (h.below hb) hn)
 have HM:=hid hM
 obtain ⟨A1,n1,c1,A2,n2,c2,A3,n3,c3,rfl,h1,h2,h3,l1,l2,l3⟩:=h
 have HX:=hid (TX.new w b l (.slice A1 n1 c1) (.slice A2 n2 c2) (.slice A3 n3 c3))
 have e1:=h1.len
 have e2:=h2.len
 have e3:=h3.len
 have HI1:=hid (fun (W:World) (hb:Below w.heap.size w W)=>qLY A1 n1 c1 _ W (h1.below hb) (by rw [← e1]; exact HLE.out.2.1))
 have HI3:=hid (fun (W:World) (hb:Below w.heap.size w W)=>qLY A3 n3 c3 _ W (h3.below hb) (by rw [← e3]; exact HLE.out.2.2.2))
 have HTX:=hid (fun (W:World) (hb:Below w.heap.size w W)=>text16_c A2 n2 c2 _ W (h2.below hb) (by rw [← e2]; exact HLE.out.2.2.1) (fun e he=>⟨(qD3 es e he).1,(qD3 es e he).2.2.2⟩))
 have HPS:=hid (fun (W:World) (hb:Below w.heap.size w W)=>by
  have:=parse_c (stz (chE (hnum es))) W (hM.below hb) (by rw [qA9,chE,List.length_map]; have:=HLE.out.2.2.1; omega)
  rwa [qAE (chE_lt es)] at this)
 have HP2:=hid h2
 clear h1 h2 h3 hn hM
 cases hnn:hnum es with
 | nil=>
  have hHe:H=({},4,b):=by rw [← hH]; unfold halfZ; rw [hnn]
  rw [hnn] at e2;obtain rfl:n2=0:=e2.symm;have HHe:=hid hHe;clear hHe hH e2 hnn HPD HI1 HI3 HTX HPS HP2 HLE e1 e3
  go_enter Tryz.func48,Tryz.ntmps48
  go_upto_region 1 with fail
  change Code.wp _ _ _ _ (((w.alloc (.cells #[.int .i64 b,.bool l,.slice A1 n1 c1,.slice A2 0 c2,.slice A3 n3 c3] 77)).alloc (.cells patZ 24)).alloc (.cells #[.int .i64 0,.int .i64 0] 27))
  generalize ((w.alloc (.cells #[.int .i64 b,.bool l,.slice A1 n1 c1,.slice A2 0 c2,.slice A3 n3 c3] 77)).alloc (.cells patZ 24)).alloc (.cells #[.int .i64 0,.int .i64 0] 27)=W0 at *;generalize hg:w.heap.size=g at *;have HGe:=hid hg;clear hg;have x0:W0.cell? ⟨g,0,none⟩=some (.int .i64 b):=HX.out.hx.c 0;have x3:W0.cell? ⟨g,3,none⟩=some (.slice A2 0 c2):=HX.out.hx.c 3
  go_upto_region 2 with fail
  have HXd:=hid HX.out.drew;have HR:=hid (HXd.out.ret patZ (.int .i64 4) (.int .i64 b));refine wp_region_held_drew (S:=(fun W9:World=>W9.cell? ⟨g,0,none⟩=some (.int .i64 b))) (by kernel_rfl) (by first | assumption | exact ⟨by assumption,by assumption⟩) (fun hHeld=>?_);refine' qt 0 hHeld ?_
  try simp only [pk]
  refine' qt 1 hHeld ?_
  try simp only [pk]
  refine' qt 2 hHeld ?_
  try simp only [pk]
  refine' qt 3 hHeld ?_
  try simp only [pk]
  refine qp 4 fun K hK=>?_;refine wp_store_row 24 _ _ rfl (g+1) patZ rfl rfl 24 patZ HXd.out.rx (qA0 _ _ _ _ _ {} _ _ _) rfl (qA5 {}) ?_;refine hK.out _ _ ((qE3 (g:=g) (f:=g) (ds:=#[]) hHeld (by omega) (by omega)).1) (fun hHeld=>?_);clear hK K
  try simp only [Act.put]
  refine qp 5 fun K hK=>?_;refine wp_store_row 27 _ _ rfl (g+2) #[.int .i64 4,.int .i64 b] rfl rfl 27 _ (HXd.out.at_ patZ) (qA3 _ _) rfl (qA6 _ _) ?_;refine hK.out _ _ ((cell_setRow_other _ _ _ _ (by show g≠g+2; omega)).trans hHeld) (fun hHeld=>?_);clear hK K
  try simp only [Act.put]
  refine wpAnyH_done (by kernel_rfl) ?_ _;clear hHeld
  go_wp2
  exact bodyPost_ret (v:=.tuple #[.agg patZ,.agg #[.int .i64 4,.int .i64 b]]) (qAC Tryz.results48 _ _ (g+1) _ _ (0,0) _ rfl HR.out.1 Tryz.underlying24 rfl (qA0 _ _ _ _ _ {} _ _ _) (g+2) _ _ (0,0) _ rfl HR.out.2.1 Tryz.underlying27 rfl (qA3 _ _)) rfl ⟨patZ,by rw [HHe.out],hid (fun _=>rfl),hid (fun h=>absurd h (by rw [HHe.out]; dsimp only; exact (by decide))),hid (HGe.out ▸ HR.out.2.2.1)⟩
 | cons e0 es0=>
  have hHe:H=(if (padZ (!l) es).2.1≠0 then ({},(padZ (!l) es).2) else
   if (itms (tksE (hpre es))).2.1≠0 then ({},(itms (tksE (hpre es))).2) else
   if (((numZ (chE (hnum es))).2:Nat):Int)≠0 then ({},((numZ (chE (hnum es))).2:Int),e0.1.2.2) else
   if (itms (tksE (hsuf es))).2.1≠0 then ({},(itms (tksE (hsuf es))).2) else
   (⟨(itms (tksE (hpre es))).1,(itms (tksE (hsuf es))).1,(numZ (chE (hnum es))).1,(padZ (!l) es).1.1,(padZ (!l) es).1.2,n2⟩,0,0)):=by
   have hcast:∀ k:Nat,(((k:Nat):Int)≠0)=(k≠0):=fun k=>by simp
   rw [← hH]; unfold halfZ; rw [hnn,← e2,hnn]; simp only [hcast]
  have hE0:=qD3 es e0 (by rw [hnn]; simp);have hil:(itms (tksE (hpre es))).1.length≤40∧(itms (tksE (hsuf es))).1.length≤40:=⟨qF2 _,qF2 _⟩;clear hH;rw [hnn] at HP2;generalize padZ (!l) es=PZ at *;generalize itms (tksE (hpre es))=X1 at *;generalize itms (tksE (hsuf es))=X3 at *;generalize (((numZ (chE (hnum es))).2:Nat):Int)=ne at *;generalize (numZ (chE (hnum es))).1=nf at *;generalize stz (chE (hnum es))=tx at *;obtain ⟨⟨pa,pr⟩,pe,pp⟩:=PZ;obtain ⟨i1,ie1,ip1⟩:=X1;obtain ⟨i3,ie3,ip3⟩:=X3;dsimp only at *;have HHe:=hid hHe;obtain ⟨ad,rfl,hn0⟩:=qGJ HP2.out;obtain ⟨⟨er,eq,ea⟩,epd⟩:=e0;obtain rfl:epd=false:=hE0.1;have HIL:=hid hil;have hn2:=HLE.out.2.2.1;have hn2':n2≤1000:=by rw [← e2]; exact hn2
  clear hE0 hil hn2;clear hHe e1 e2 e3 hnn;have gn0:((n2:Int) == 0)=false:=by rw [beq_eq_false_iff_ne]; omega
  go_enter Tryz.func48,Tryz.ntmps48
  go_upto_region 1 with fail
  change Code.wp _ _ _ _ (((w.alloc (.cells #[.int .i64 b,.bool l,.slice A1 n1 c1,.slice (some ad) n2 c2,.slice A3 n3 c3] 77)).alloc (.cells patZ 24)).alloc (.cells #[.int .i64 0,.int .i64 0] 27))
  generalize ((w.alloc (.cells #[.int .i64 b,.bool l,.slice A1 n1 c1,.slice (some ad) n2 c2,.slice A3 n3 c3] 77)).alloc (.cells patZ 24)).alloc (.cells #[.int .i64 0,.int .i64 0] 27)=W0 at *;generalize hg:w.heap.size=g at *;have HGe:=hid hg;clear hg;have x0:W0.cell? ⟨g,0,none⟩=some (.int .i64 b):=HX.out.hx.c 0;have x1:W0.cell? ⟨g,1,none⟩=some (.bool l):=HX.out.hx.c 1;have x2:W0.cell? ⟨g,2,none⟩=some (.slice A1 n1 c1):=HX.out.hx.c 2;have x3:W0.cell? ⟨g,3,none⟩=some (.slice (some ad) n2 c2):=HX.out.hx.c 3;have x4:W0.cell? ⟨g,4,none⟩=some (.slice A3 n3 c3):=HX.out.hx.c 4
  go_upto_region 4 with (first
   | (go_at_call 86; refine (HPD.out _ HX.out.bb).mono ?_; rintro e w1 ⟨rfl,hb1⟩)
   | fail)
  have HX1:=hid ((HX.out.below hb1.out).below (qA2 w1 (.cells #[.int .i64 pe,.int .i64 pp] 27)));have HFb:=hid (FB.new w1 (.int .i64 pe) (.int .i64 pp));have hfg:g+2 < w1.heap.size:=(HX.out.below hb1.out).fx.lt;have hfs:w1.heap.size < (w1.alloc (.cells #[.int .i64 pe,.int .i64 pp] 27)).heap.size:=by simp
  generalize w1.alloc (.cells #[.int .i64 pe,.int .i64 pp] 27)=W4 at *;generalize w1.heap.size=f at *;clear x0 x1 x2 x3 x4 hb1 HX;have y0:W4.cell? ⟨f,0,none⟩=some (.int .i64 pe):=HFb.out.c0;have y1:W4.cell? ⟨f,1,none⟩=some (.int .i64 pp):=HFb.out.c1
  by_cases he1:pe≠0
  · rw [if_pos he1] at HHe
    have gp:(pe != 0)=true:=by simpa using he1
    have HE1:=hid he1;clear he1
    go_upto_region 5 with fail
    have HXd:=hid HX1.out.drew;have HR:=hid (HXd.out.ret patZ (.int .i64 pe) (.int .i64 pp));refine wp_region_held_drew (S:=(fun W9:World=>W9.cell? ⟨f,0,none⟩=some (.int .i64 pe)∧W9.cell? ⟨f,1,none⟩=some (.int .i64 pp))) (by kernel_rfl) (by first | assumption | exact ⟨by assumption,by assumption⟩) (fun hHeld=>?_);refine' qt 0 hHeld ?_
    try simp only [pk]
    refine' qt 1 hHeld ?_
    try simp only [pk]
    refine qp 2 fun K hK=>?_;refine wp_store_row 24 _ _ rfl (g+1) patZ rfl rfl 24 patZ HXd.out.rx (qA0 _ _ _ _ _ {} _ _ _) rfl (qA5 {}) ?_;refine hK.out _ _ (⟨(qE3 (g:=g) (f:=f) (ds:=#[]) hHeld.1 (by omega) (by omega)).1,(qE3 (g:=g) (f:=f) (ds:=#[]) hHeld.2 (by omega) (by omega)).1⟩) (fun hHeld=>?_);clear hK K
    try simp only [Act.put]
    refine qp 3 fun K hK=>?_;refine wp_store_row 27 _ _ rfl (g+2) #[.int .i64 pe,.int .i64 pp] rfl rfl 27 _ (HXd.out.at_ patZ) (qA3 _ _) rfl (qA6 _ _) ?_;refine hK.out _ _ (⟨(cell_setRow_other _ _ _ _ (by show f≠g+2; omega)).trans hHeld.1,(cell_setRow_other _ _ _ _ (by show f≠g+2; omega)).trans hHeld.2⟩) (fun hHeld=>?_);clear hK K
    try simp only [Act.put]
    refine wpAnyH_done (by kernel_rfl) ?_ _;clear hHeld
    go_wp2
    exact bodyPost_ret (v:=.tuple #[.agg patZ,.agg #[.int .i64 pe,.int .i64 pp]]) (qAC Tryz.results48 _ _ (g+1) _ _ (0,0) _ rfl HR.out.1 Tryz.underlying24 rfl (qA0 _ _ _ _ _ {} _ _ _) (g+2) _ _ (0,0) _ rfl HR.out.2.1 Tryz.underlying27 rfl (qA3 _ _)) rfl ⟨patZ,by rw [HHe.out],hid (fun _=>rfl),hid (fun h=>absurd h (by rw [HHe.out]; dsimp only; exact HE1.out)),hid (HGe.out ▸ HR.out.2.2.1)⟩
  · rw [if_neg he1] at HHe
    have hpe0:pe=0:=by simpa using he1
    subst hpe0;clear he1;have x2:W4.cell? ⟨g,2,none⟩=some (.slice A1 n1 c1):=HX1.out.hx.c 2
    go_upto_region 7 with (first
     | (go_at_call 87; refine (HI1.out _ (HGe.out ▸ HX1.out.bb)).mono ?_; rintro e w5 ⟨A5,n5,c5,rfl,ho5,hb5⟩; have HFq:=hid (HFb.out.below hb5.out hfs); have a0:=HFq.out.c0; have a1:=HFq.out.c1; have q0:=HFq.out.fr 0; have q1:=HFq.out.fr 1)
     | fail)
    have HX7:=hid (((HX1.out.below hb5.out).setF hfg 0 (.int .i64 ie1)).setF hfg 1 (.int .i64 ip1));have HF7:=hid (HFq.out.set (.int .i64 ie1) (.int .i64 ip1));have HPre:=hid (((Btw.of_own ho5.out).set (.inl hfs) 0 (.int .i64 ie1)).set (.inl hfs) 1 (.int .i64 ip1));have hs7:((w5.setCell ⟨f,0,none⟩ (.int .i64 ie1)).setCell ⟨f,1,none⟩ (.int .i64 ip1)).heap.size=w5.heap.size:=by simp
    have hs45:W4.heap.size≤w5.heap.size:=hb5.out.size;generalize (w5.setCell ⟨f,0,none⟩ (.int .i64 ie1)).setCell ⟨f,1,none⟩ (.int .i64 ip1)=W7 at *;generalize W4.heap.size=s4 at *;generalize w5.heap.size=s5 at *;clear x2 y0 y1 a0 a1 q0 q1 HFq ho5 hb5 HX1 HFb;have y0:W7.cell? ⟨f,0,none⟩=some (.int .i64 ie1):=HF7.out.c0;have y1:W7.cell? ⟨f,1,none⟩=some (.int .i64 ip1):=HF7.out.c1
    by_cases he2:ie1≠0
    · rw [if_pos he2] at HHe
      have gp:(ie1 != 0)=true:=by simpa using he2
      have HE2:=hid he2;clear he2
      go_upto_region 8 with fail
      have HXd:=hid HX7.out.drew;have HR:=hid (HXd.out.ret patZ (.int .i64 ie1) (.int .i64 ip1));refine wp_region_held_drew (S:=(fun W9:World=>W9.cell? ⟨f,0,none⟩=some (.int .i64 ie1)∧W9.cell? ⟨f,1,none⟩=some (.int .i64 ip1))) (by kernel_rfl) (by first | assumption | exact ⟨by assumption,by assumption⟩) (fun hHeld=>?_);refine' qt 0 hHeld ?_
      try simp only [pk]
      refine' qt 1 hHeld ?_
      try simp only [pk]
      refine qp 2 fun K hK=>?_;refine wp_store_row 24 _ _ rfl (g+1) patZ rfl rfl 24 patZ HXd.out.rx (qA0 _ _ _ _ _ {} _ _ _) rfl (qA5 {}) ?_;refine hK.out _ _ (⟨(qE3 (g:=g) (f:=f) (ds:=#[]) hHeld.1 (by omega) (by omega)).1,(qE3 (g:=g) (f:=f) (ds:=#[]) hHeld.2 (by omega) (by omega)).1⟩) (fun hHeld=>?_);clear hK K
      try simp only [Act.put]
      refine qp 3 fun K hK=>?_;refine wp_store_row 27 _ _ rfl (g+2) #[.int .i64 ie1,.int .i64 ip1] rfl rfl 27 _ (HXd.out.at_ patZ) (qA3 _ _) rfl (qA6 _ _) ?_;refine hK.out _ _ (⟨(cell_setRow_other _ _ _ _ (by show f≠g+2; omega)).trans hHeld.1,(cell_setRow_other _ _ _ _ (by show f≠g+2; omega)).trans hHeld.2⟩) (fun hHeld=>?_);clear hK K
      try simp only [Act.put]
      refine wpAnyH_done (by kernel_rfl) ?_ _;clear hHeld
      go_wp2
      exact bodyPost_ret (v:=.tuple #[.agg patZ,.agg #[.int .i64 ie1,.int .i64 ip1]]) (qAC Tryz.results48 _ _ (g+1) _ _ (0,0) _ rfl HR.out.1 Tryz.underlying24 rfl (qA0 _ _ _ _ _ {} _ _ _) (g+2) _ _ (0,0) _ rfl HR.out.2.1 Tryz.underlying27 rfl (qA3 _ _)) rfl ⟨patZ,by rw [HHe.out],hid (fun _=>rfl),hid (fun h=>absurd h (by rw [HHe.out]; dsimp only; exact HE2.out)),hid (HGe.out ▸ HR.out.2.2.1)⟩
    · rw [if_neg he2] at HHe
      have hie0:ie1=0:=by simpa using he2
      subst hie0;clear he2;have x3:W7.cell? ⟨g,3,none⟩=some (.slice (some ad) n2 c2):=HX7.out.hx.c 3;have hgW7:g≤W7.heap.size:=Nat.le_of_lt HX7.out.hx.lt
      go_upto_region 10 with (first
       | (go_at_call 89; refine (HTX.out _ (HGe.out ▸ HX7.out.bb)).mono ?_; rintro e w8 ⟨rfl,hb8⟩)
       | (go_at_call 88; refine (HPS.out _ (HGe.out ▸ HX7.out.bb.trans (hb8.out.mono hgW7))).mono ?_; rintro e w9 ⟨rfl,hb9⟩)
       | (refine wpList_store_row rfl 24 _ _ rfl w9.heap.size (patN nf) rfl rfl 24 patZ (BX.new w9 patZ _) (qA0 ..) rfl (qA5 _) ?_)
       | fail)
      change Code.wp _ _ _ _ ((w9.alloc (.cells patZ 24)).setRow w9.heap.size (patN nf))
      have hb79:=hb8.out.trans (hb9.mono hb8.out.size);have HB10:=hid (st_below (vs:=patN nf) hb79 hb79.size);have hoW:W7.heap.size≤w9.heap.size:=hb79.size;have HO10:=hid (st_new (w1:=w9) (vs:=patN nf));have hos:w9.heap.size < ((w9.alloc (.cells patZ 24)).setRow w9.heap.size (patN nf)).heap.size:=HO10.out.lt;generalize (w9.alloc (.cells patZ 24)).setRow w9.heap.size (patN nf)=W10 at *;generalize w9.heap.size=o at *;have HX10:=hid (HX7.out.below HB10.out);have HF10:=hid (HF7.out.below HB10.out HF7.out.lt);have HPre10:=hid (HPre.out.below HB10.out (Nat.le_of_eq hs7.symm));clear hb8 hb9 hb79 x3 y0 y1 HX7 HPre
      by_cases he3:ne≠0
      · rw [if_pos he3] at HHe
        have gp:(ne != 0)=true:=by simpa using he3
        have HE3:=hid he3;clear he3;have x3:W10.cell? ⟨g,3,none⟩=some (.slice (some ad) n2 c2):=HX10.out.hx.c 3;obtain ⟨ad',ead,hbk,k0,-⟩:=(HP2.out.below (HGe.out ▸ HX10.out.bb)).at_ hn0;obtain rfl:=Option.some.inj ead
        change W10.cell? ad=some (.iface 147 (.agg #[.int .i32 er,.bool eq,.int .i64 ea])) at k0
        go_wp2_with (first
         | (go_at_call 310; refine (qKX _ _ _ _).mono ?_; rintro e w12 ⟨rfl,hb12⟩; have HX12:=hid (HX10.out.below hb12); have hrx:=HX12.out.rx; have hfx:=HX12.out.at_ patZ; have HR:=hid (HX12.out.ret patZ (.int .i64 ne) (.int .i64 ea)))
         | (refine wpList_store_row rfl 24 _ _ rfl (g+1) patZ rfl rfl 24 patZ hrx (qA0 _ _ _ _ _ {} _ _ _) rfl (qA5 {}) ?_)
         | (refine wpList_store_row rfl 27 _ _ rfl (g+2) #[.int .i64 ne,.int .i64 ea] rfl rfl 27 _ hfx (qA3 _ _) rfl (qA6 _ _) ?_)
         | fail)
        exact bodyPost_ret (v:=.tuple #[.agg patZ,.agg #[.int .i64 ne,.int .i64 ea]]) (qAC Tryz.results48 _ _ (g+1) _ _ (0,0) _ rfl HR.out.1 Tryz.underlying24 rfl (qA0 _ _ _ _ _ {} _ _ _) (g+2) _ _ (0,0) _ rfl HR.out.2.1 Tryz.underlying27 rfl (qA3 _ _)) rfl ⟨patZ,by rw [HHe.out],hid (fun _=>rfl),hid (fun h=>absurd h (by rw [HHe.out]; dsimp only; exact HE3.out)),hid (HGe.out ▸ HR.out.2.2.1)⟩
      · rw [if_neg he3] at HHe
        have hne0:ne=0:=by simpa using he3
        subst hne0;clear he3;have x4:W10.cell? ⟨g,4,none⟩=some (.slice A3 n3 c3):=HX10.out.hx.c 4
        go_upto_region 13 with (first
         | (go_at_call 87; refine (HI3.out _ (HGe.out ▸ HX10.out.bb)).mono ?_; rintro e w11 ⟨A6,n6,c6,rfl,ho6,hb6⟩; have HFr:=hid (HF10.out.below hb6.out HF10.out.lt); have a0:=HFr.out.c0; have a1:=HFr.out.c1; have q0:=HFr.out.fr 0; have q1:=HFr.out.fr 1)
         | fail)
        have hf10:f < W10.heap.size:=HF10.out.lt;have hfo:o≠f:=by omega
        have HX13:=hid (((HX10.out.below hb6.out).setF hfg 0 (.int .i64 ie3)).setF hfg 1 (.int .i64 ip3));have HF13:=hid (HFr.out.set (.int .i64 ie3) (.int .i64 ip3));have HSuf:=hid (((Btw.of_own ho6.out).set (.inl hf10) 0 (.int .i64 ie3)).set (.inl hf10) 1 (.int .i64 ip3));have HPre13:=hid (((HPre10.out.below hb6.out HPre10.out.hi_).set (.inl hfs) 0 (.int .i64 ie3)).set (.inl hfs) 1 (.int .i64 ip3));have HO13:=hid (((HO10.out.below hb6.out hos).other hfo 0 (.int .i64 ie3)).other hfo 1 (.int .i64 ip3));have hs13:((w11.setCell ⟨f,0,none⟩ (.int .i64 ie3)).setCell ⟨f,1,none⟩ (.int .i64 ip3)).heap.size=w11.heap.size:=by simp
        have hs1011:W10.heap.size≤w11.heap.size:=hb6.out.size;generalize (w11.setCell ⟨f,0,none⟩ (.int .i64 ie3)).setCell ⟨f,1,none⟩ (.int .i64 ip3)=W13 at *;generalize w11.heap.size=s11 at *;generalize W10.heap.size=s10 at *;clear x4 a0 a1 q0 q1 HFr ho6 hb6 HX10 HF10 HPre10 HO10;have y0:W13.cell? ⟨f,0,none⟩=some (.int .i64 ie3):=HF13.out.c0;have y1:W13.cell? ⟨f,1,none⟩=some (.int .i64 ip3):=HF13.out.c1
        by_cases he4:ie3≠0
        · rw [if_pos he4] at HHe
          have gp:(ie3 != 0)=true:=by simpa using he4
          have HE4:=hid he4;clear he4
          go_upto_region 14 with fail
          have HXd:=hid HX13.out.drew;have HR:=hid (HXd.out.ret patZ (.int .i64 ie3) (.int .i64 ip3));refine wp_region_held_drew (S:=(fun W9:World=>W9.cell? ⟨f,0,none⟩=some (.int .i64 ie3)∧W9.cell? ⟨f,1,none⟩=some (.int .i64 ip3))) (by kernel_rfl) (by first | assumption | exact ⟨by assumption,by assumption⟩) (fun hHeld=>?_);refine' qt 0 hHeld ?_
          try simp only [pk]
          refine' qt 1 hHeld ?_
          try simp only [pk]
          refine qp 2 fun K hK=>?_;refine wp_store_row 24 _ _ rfl (g+1) patZ rfl rfl 24 patZ HXd.out.rx (qA0 _ _ _ _ _ {} _ _ _) rfl (qA5 {}) ?_;refine hK.out _ _ (⟨(qE3 (g:=g) (f:=f) (ds:=#[]) hHeld.1 (by omega) (by omega)).1,(qE3 (g:=g) (f:=f) (ds:=#[]) hHeld.2 (by omega) (by omega)).1⟩) (fun hHeld=>?_);clear hK K
          try simp only [Act.put]
          refine qp 3 fun K hK=>?_;refine wp_store_row 27 _ _ rfl (g+2) #[.int .i64 ie3,.int .i64 ip3] rfl rfl 27 _ (HXd.out.at_ patZ) (qA3 _ _) rfl (qA6 _ _) ?_;refine hK.out _ _ (⟨(cell_setRow_other _ _ _ _ (by show f≠g+2; omega)).trans hHeld.1,(cell_setRow_other _ _ _ _ (by show f≠g+2; omega)).trans hHeld.2⟩) (fun hHeld=>?_);clear hK K
          try simp only [Act.put]
          refine wpAnyH_done (by kernel_rfl) ?_ _;clear hHeld
          go_wp2
          exact bodyPost_ret (v:=.tuple #[.agg patZ,.agg #[.int .i64 ie3,.int .i64 ip3]]) (qAC Tryz.results48 _ _ (g+1) _ _ (0,0) _ rfl HR.out.1 Tryz.underlying24 rfl (qA0 _ _ _ _ _ {} _ _ _) (g+2) _ _ (0,0) _ rfl HR.out.2.1 Tryz.underlying27 rfl (qA3 _ _)) rfl ⟨patZ,by rw [HHe.out],hid (fun _=>rfl),hid (fun h=>absurd h (by rw [HHe.out]; dsimp only; exact HE4.out)),hid (HGe.out ▸ HR.out.2.2.1)⟩
        · rw [if_neg he4] at HHe
          have hie0:ie3=0:=by simpa using he4
          subst hie0;clear he4;have z0:=HO13.out.c 0;have z1:=HO13.out.c 1;have z17:=HO13.out.c 17;have z18:=HO13.out.c 18;have r0:=HO13.out.fr 0;have r1:=HO13.out.fr 1;have r17:=HO13.out.fr 17;have r18:=HO13.out.fr 18
          go_upto_region 16 with fail
          have hog:g+2 < o:=by omega
          have HX16:=hid ((((HX13.out.setF hog 0 (.slice A5 n5 c5)).setF hog 1 (.slice A6 n6 c6)).setF hog 17 (.int .i64 pa)).setF hog 18 (.int .i32 pr));have HPre16:=hid ((((HPre13.out.set (.inr (show s5≤o by omega)) 0 (.slice A5 n5 c5)).set (.inr (show s5≤o by omega)) 1 (.slice A6 n6 c6)).set (.inr (show s5≤o by omega)) 17 (.int .i64 pa)).set (.inr (show s5≤o by omega)) 18 (.int .i32 pr));have HSuf16:=hid ((((HSuf.out.set (.inl hos) 0 (.slice A5 n5 c5)).set (.inl hos) 1 (.slice A6 n6 c6)).set (.inl hos) 17 (.int .i64 pa)).set (.inl hos) 18 (.int .i32 pr));have HO16:Hid (BX ((((W13.setCell ⟨o,0,none⟩ (.slice A5 n5 c5)).setCell ⟨o,1,none⟩ (.slice A6 n6 c6)).setCell ⟨o,17,none⟩ (.int .i64 pa)).setCell ⟨o,18,none⟩ (.int .i32 pr)) o (patV (.slice A5 n5 c5) (.slice A6 n6 c6) (.bool false) (.slice none 0 0) (.slice none 0 0) nf (.int .i64 pa) (.int .i32 pr) (.int .i64 0)) 24):=
           hid (heap_setCell_same _ o 18 _ _ _ (heap_setCell_same _ o 17 _ _ _ (heap_setCell_same _ o 1 _ _ _ (heap_setCell_same W13 o 0 _ _ _ HO13.out))))
          generalize (((W13.setCell ⟨o,0,none⟩ (.slice A5 n5 c5)).setCell ⟨o,1,none⟩ (.slice A6 n6 c6)).setCell ⟨o,17,none⟩ (.int .i64 pa)).setCell ⟨o,18,none⟩ (.int .i32 pr)=W16 at *;clear z0 z1 z17 z18 r0 r1 r17 r18 y0 y1 HX13 HF13 HSuf HPre13 HO13
          by_cases hpa:pa=0
          · subst hpa
            have hbo:=HO16.out;have hrx:=HX16.out.rx;have hsz:=qA0 (.slice A5 n5 c5) (.slice A6 n6 c6) (.bool false) (.slice none 0 0) (.slice none 0 0) nf (.int .i64 0) (.int .i32 pr) (.int .i64 0);have hce:((patV (.slice A5 n5 c5) (.slice A6 n6 c6) (.bool false) (.slice none 0 0) (.slice none 0 0) nf (.int .i64 0) (.int .i32 pr) (.int .i64 0)).all (·.oneCell'))=true:=qH2 _ _ _ _ _ _ _ _ _ _;have h20:patZ.size=(patV (.slice A5 n5 c5) (.slice A6 n6 c6) (.bool false) (.slice none 0 0) (.slice none 0 0) nf (.int .i64 0) (.int .i32 pr) (.int .i64 0)).size:=rfl;have HPV:Hid (patV (.slice A5 n5 c5) (.slice A6 n6 c6) (.bool false) (.slice none 0 0) (.slice none 0 0) nf (.int .i64 0) (.int .i32 pr) (.int .i64 0)=patV (.slice A5 n5 c5) (.slice A6 n6 c6) (.bool false) (.slice none 0 0) (.slice none 0 0) nf (.int .i64 0) (.int .i32 pr) (.int .i64 0)):=hid rfl;have HW:Hid ((0:Nat)=Hf.wid ⟨i1,i3,nf,0,pr,n2⟩):=hid rfl;generalize hPV:patV (.slice A5 n5 c5) (.slice A6 n6 c6) (.bool false) (.slice none 0 0) (.slice none 0 0) nf (.int .i64 0) (.int .i32 pr) (.int .i64 0)=PV at hbo hsz hce h20;clear HPV;have HPV:=hid hPV;clear hPV;have hfx:=HX16.out.at_ PV;have HR:=hid (HX16.out.ret PV (.int .i64 0) (.int .i64 0))
            go_wp2_with (first
             | (refine wpList_load_row rfl 24 _ rfl o rfl 24 PV (0,0) _ hbo Tryz.underlying24 rfl hsz ?_)
             | (refine wpList_store_row rfl 24 _ _ rfl (g+1) PV rfl rfl 24 patZ hrx hsz h20 hce ?_)
             | (refine wpList_store_row rfl 27 _ _ rfl (g+2) #[.int .i64 0,.int .i64 0] rfl rfl 27 _ hfx (qA3 _ _) rfl (qA6 _ _) ?_)
             | fail)
            have hsW:((W16.setRow (g+1) PV).setRow (g+2) #[.int .i64 0,.int .i64 0]).heap.size=W16.heap.size:=by simp
            refine bodyPost_ret (v:=.tuple #[.agg PV,.agg #[.int .i64 0,.int .i64 0]]) (qAC Tryz.results48 _ _ (g+1) _ _ (0,0) _ rfl HR.out.1 Tryz.underlying24 rfl hsz (g+2) _ _ (0,0) _ rfl HR.out.2.1 Tryz.underlying27 rfl (qA3 _ _)) rfl ⟨PV,by rw [HHe.out],hid (fun h=>absurd (by rw [HHe.out]) h),hid (fun _=>?_),hid (HGe.out ▸ HR.out.2.2.1)⟩;rw [HHe.out,HGe.out];refine ⟨A5,n5,c5,A6,n6,c6,?_,((HPre16.out.row (.inl (by omega)) PV).row (.inl (by omega)) _).mono (by omega) (by rw [hsW]; exact HPre16.out.hi_) (Nat.le_refl _),((HSuf16.out.row (.inl (by omega)) PV).row (.inl (by omega)) _).mono (by omega) (by rw [hsW]; exact HSuf16.out.hi_) (Nat.le_refl _)⟩;rw [← HPV.out];dsimp only;rw [← HW.out]; rfl
          · have gpa:(pa != 0)=true:=by simpa using hpa
            have z19:=HO16.out.c 19;have r19:=HO16.out.fr 19;have x3:W16.cell? ⟨g,3,none⟩=some (.slice (some ad) n2 c2):=HX16.out.hx.c 3;have hq5:n5≤40:=by rw [← HPre16.out.num]; exact HIL.out.1
            have hq6:n6≤40:=by rw [← HSuf16.out.num]; exact HIL.out.2
            have gw:∀ z:Int,-9223372036854775808≤z→z≤9223372036854775807→IntKind.i64.wrap z=z:=fun z _ _=>by rw [IntKind.wrap_i64]; omega
            have gw1:=gw ((n5:Int)+(n2:Int)) (by omega) (by omega);have gw2:=gw ((n5:Int)+(n2:Int)+(n6:Int)) (by omega) (by omega);clear gw
            go_upto_region 18 with fail
            have HO18:Hid (BX (W16.setCell ⟨o,19,none⟩ (.int .i64 ((n5:Int)+(n2:Int)+(n6:Int)))) o (patV (.slice A5 n5 c5) (.slice A6 n6 c6) (.bool false) (.slice none 0 0) (.slice none 0 0) nf (.int .i64 pa) (.int .i32 pr) (.int .i64 ((n5:Int)+(n2:Int)+(n6:Int)))) 24):=hid (heap_setCell_same W16 o 19 _ _ _ HO16.out);have HX18:=hid (HX16.out.setF hog 19 (.int .i64 ((n5:Int)+(n2:Int)+(n6:Int))));have HPre18:=hid (HPre16.out.set (.inr (show s5≤o by omega)) 19 (.int .i64 ((n5:Int)+(n2:Int)+(n6:Int))));have HSuf18:=hid (HSuf16.out.set (.inl hos) 19 (.int .i64 ((n5:Int)+(n2:Int)+(n6:Int))));generalize W16.setCell ⟨o,19,none⟩ (.int .i64 ((n5:Int)+(n2:Int)+(n6:Int)))=W18 at *;clear z19 r19 x3 HX16 HPre16 HSuf16 HO16;have HX16:=HX18;have HPre16:=HPre18;have HSuf16:=HSuf18;have HO16:=HO18;clear HX18 HPre18 HSuf18 HO18;have hbo:=HO16.out;have hrx:=HX16.out.rx;have hwid:(n5:Int)+(n2:Int)+(n6:Int)=((Hf.wid ⟨i1,i3,nf,pa,pr,n2⟩:Nat):Int):=by
             unfold Hf.wid;rw [if_pos hpa,HPre16.out.num,HSuf16.out.num];dsimp only;omega
            rw [hwid] at hbo;have HW:Hid (Hf.wid ⟨i1,i3,nf,pa,pr,n2⟩=Hf.wid ⟨i1,i3,nf,pa,pr,n2⟩):=hid rfl;have HWI:=hid hwid;clear hwid;generalize hwg:Hf.wid ⟨i1,i3,nf,pa,pr,n2⟩=wd at *;have HWG:=hid hwg;clear hwg;have hsz:=qA0 (.slice A5 n5 c5) (.slice A6 n6 c6) (.bool false) (.slice none 0 0) (.slice none 0 0) nf (.int .i64 pa) (.int .i32 pr) (.int .i64 (wd:Int));have hce:((patV (.slice A5 n5 c5) (.slice A6 n6 c6) (.bool false) (.slice none 0 0) (.slice none 0 0) nf (.int .i64 pa) (.int .i32 pr) (.int .i64 (wd:Int))).all (·.oneCell'))=true:=qH2 _ _ _ _ _ _ _ _ _ _;have h20:patZ.size=(patV (.slice A5 n5 c5) (.slice A6 n6 c6) (.bool false) (.slice none 0 0) (.slice none 0 0) nf (.int .i64 pa) (.int .i32 pr) (.int .i64 (wd:Int))).size:=rfl;have HPV:Hid (patV (.slice A5 n5 c5) (.slice A6 n6 c6) (.bool false) (.slice none 0 0) (.slice none 0 0) nf (.int .i64 pa) (.int .i32 pr) (.int .i64 (wd:Int))=patV (.slice A5 n5 c5) (.slice A6 n6 c6) (.bool false) (.slice none 0 0) (.slice none 0 0) nf (.int .i64 pa) (.int .i32 pr) (.int .i64 (wd:Int))):=hid rfl;generalize hPV:patV (.slice A5 n5 c5) (.slice A6 n6 c6) (.bool false) (.slice none 0 0) (.slice none 0 0) nf (.int .i64 pa) (.int .i32 pr) (.int .i64 (wd:Int))=PV at hbo hsz hce h20;clear HPV;have HPV:=hid hPV;clear hPV;have hfx:=HX16.out.at_ PV;have HR:=hid (HX16.out.ret PV (.int .i64 0) (.int .i64 0))
            go_wp2_with (first
             | (refine wpList_load_row rfl 24 _ rfl o rfl 24 PV (0,0) _ hbo Tryz.underlying24 rfl hsz ?_)
             | (refine wpList_store_row rfl 24 _ _ rfl (g+1) PV rfl rfl 24 patZ hrx hsz h20 hce ?_)
             | (refine wpList_store_row rfl 27 _ _ rfl (g+2) #[.int .i64 0,.int .i64 0] rfl rfl 27 _ hfx (qA3 _ _) rfl (qA6 _ _) ?_)
             | fail)
            have hsW:((W18.setRow (g+1) PV).setRow (g+2) #[.int .i64 0,.int .i64 0]).heap.size=W18.heap.size:=by simp
            refine bodyPost_ret (v:=.tuple #[.agg PV,.agg #[.int .i64 0,.int .i64 0]]) (qAC Tryz.results48 _ _ (g+1) _ _ (0,0) _ rfl HR.out.1 Tryz.underlying24 rfl hsz (g+2) _ _ (0,0) _ rfl HR.out.2.1 Tryz.underlying27 rfl (qA3 _ _)) rfl ⟨PV,by rw [HHe.out],hid (fun h=>absurd (by rw [HHe.out]) h),hid (fun _=>?_),hid (HGe.out ▸ HR.out.2.2.1)⟩;rw [HHe.out,HGe.out];refine ⟨A5,n5,c5,A6,n6,c6,?_,((HPre16.out.row (.inl (by omega)) PV).row (.inl (by omega)) _).mono (by omega) (by rw [hsW]; exact HPre16.out.hi_) (Nat.le_refl _),((HSuf16.out.row (.inl (by omega)) PV).row (.inl (by omega)) _).mono (by omega) (by rw [hsW]; exact HSuf16.out.hi_) (Nat.le_refl _)⟩;rw [← HPV.out];dsimp only;rw [HWG.out]
def hzV:Array Value:=#[.int .i64 0,.bool false,.slice none 0 0,.slice none 0 0,.slice none 0 0]
def noE (vs:Array Value):Prop:=∀ (j:Nat) (T:TypeId) (y:Value),vs[j]?≠some (.iface T y)
theorem noE5 (b:Int) (l:Bool) (A1 A2 A3:Option Addr) (n1 c1 n2 c2 n3 c3:Nat):noE #[.int .i64 b,.bool l,.slice A1 n1 c1,.slice A2 n2 c2,.slice A3 n3 c3]:=by
 intro j T y
 match j with
 | 0=>simp
 | 1=>simp
 | 2=>simp
 | 3=>simp
 | 4=>simp
 | _+5=>simp
theorem noE2 (e p:Int):noE #[.int .i64 e,.int .i64 p]:=by
 intro j T y
 match j with
 | 0=>simp
 | 1=>simp
 | _+2=>simp
theorem Pls.other {w w':World} {D n:Nat} {A:Option Addr} {es:List El} (h:Pls w D A n es) {q:Nat} {vs:Array Value} {T:TypeId} (hx:BX w q vs T) (hv:noE vs) (hs:w.heap.size≤w'.heap.size) (hk:∀ k,k≠q→w'.heap[k]? = w.heap[k]?):Pls w' D A n es:=by
 refine ⟨⟨h.1.1,fun h0=>?_⟩,Nat.le_trans h.2.1 hs,h.2.2⟩
 obtain ⟨ad,e,hb,hc⟩:=h.1.2 h0
 have hl:0 < es.length:=by rw [h.len]; exact h0
 have hne:ad.block≠q:=by
  intro hq;have h1:=hc 0 (pE es[0]) (by rw [List.getElem?_map,List.getElem?_eq_getElem hl]; rfl);obtain ⟨T',y,hT⟩:=qKV es[0];rw [hT] at h1;unfold World.cell? at h1;rw [qAB,hq,show w.heap[q]? = _ from hx] at h1;dsimp only at h1
  split at h1
  · cases h1
  · exact hv _ _ _ h1
 refine ⟨ad,e,hb,fun j u hu=>?_⟩
 rw [← hc j u hu]
 unfold World.cell?
 rw [qAB,hk _ hne]
theorem HfM.other {w w':World} {D:Nat} {v:Value} {b:Int} {l:Bool} {es:List El} (h:HfM w D v b l es) {q:Nat} {vs:Array Value} {T:TypeId} (hx:BX w q vs T) (hv:noE vs) (hs:w.heap.size≤w'.heap.size) (hk:∀ k,k≠q→w'.heap[k]? = w.heap[k]?):HfM w' D v b l es:=by
 obtain ⟨A1,n1,c1,A2,n2,c2,A3,n3,c3,e,h1,h2,h3,l1,l2,l3⟩:=h
 exact ⟨A1,n1,c1,A2,n2,c2,A3,n3,c3,e,h1.other hx hv hs hk,h2.other hx hv hs hk,h3.other hx hv hs hk,l1,l2,l3⟩
theorem qCV {P:Program} {fn:Func} {p q r:Tmp} {ty ty2 ty3:TypeId} (h:fn.results=#[.cell p ty,.cell q ty2,.cell r ty3]) (tmps:Array Value) (w:World) (g:Nat) (t:TypeId) (cs:Array Value) (fr:Nat × Nat) (d:TypeDesc)
 (hp:tmps.getD p undef=.pointer (some ⟨g,0,none⟩)) (hg:w.heap[g]? = some (.cells cs t fr))
 (hu:P.underlying ty=some d) (hd:(match d with | .struct _ | .array _ _=>true | _=>false)=true) (hi:(P.info? ty).map (·.size)=some cs.size)
 (g2:Nat) (t2:TypeId) (cs2:Array Value) (fr2:Nat × Nat) (d2:TypeDesc)
 (hp2:tmps.getD q undef=.pointer (some ⟨g2,0,none⟩)) (hg2:w.heap[g2]? = some (.cells cs2 t2 fr2))
 (hu2:P.underlying ty2=some d2) (hd2:(match d2 with | .struct _ | .array _ _=>true | _=>false)=true) (hi2:(P.info? ty2).map (·.size)=some cs2.size)
 (g3:Nat) (t3:TypeId) (cs3:Array Value) (fr3:Nat × Nat) (d3:TypeDesc)
 (hp3:tmps.getD r undef=.pointer (some ⟨g3,0,none⟩)) (hg3:w.heap[g3]? = some (.cells cs3 t3 fr3))
 (hu3:P.underlying ty3=some d3) (hd3:(match d3 with | .struct _ | .array _ _=>true | _=>false)=true) (hi3:(P.info? ty3).map (·.size)=some cs3.size) :
 (results fn tmps).run P w=.ok (.tuple #[.agg cs,.agg cs2,.agg cs3]) w:=by
 have hp':tmps[p]?.getD undef=.pointer (some ⟨g,0,none⟩):=by simpa using hp
 have hp2':tmps[q]?.getD undef=.pointer (some ⟨g2,0,none⟩):=by simpa using hp2
 have hp3':tmps[r]?.getD undef=.pointer (some ⟨g3,0,none⟩):=by simpa using hp3
 simp [results,h,hp',hp2',hp3',asAddr,run_loadVar_row w g t ty cs fr d hg hu hd hi,run_loadVar_row w g2 t2 ty2 cs2 fr2 d2 hg2 hu2 hd2 hi2,run_loadVar_row w g3 t3 ty3 cs3 fr3 d3 hg3 hu3 hd3 hi3]
theorem qAL (b l x y z:Value):(Tryz.prog.info? 77).map (·.size)=some #[b,l,x,y,z].size:=by kernel_rfl
theorem qB3 (b:Int) (l:Bool) (A1 A2 A3:Option Addr) (n1 c1 n2 c2 n3 c3:Nat):(#[Value.int .i64 b,.bool l,.slice A1 n1 c1,.slice A2 n2 c2,.slice A3 n3 c3].all (·.oneCell'))=true:=by simp [Value.oneCell']
structure GX3 (w W:World) (g:Nat) (V2:Array Value) (e p:Int):Prop where
 bb:Below g w W
 r1:BX W g hzV 77
 r2:BX W (g+1) V2 77
 r3:FB W (g+2) (.int .i64 e) (.int .i64 p)
section
variable {w W W':World} {g:Nat} {V2:Array Value} {e p:Int}
theorem GX3.below (h:GX3 w W g V2 e p) (hb:Below W.heap.size W W'):GX3 w W' g V2 e p:=
 ⟨h.bb.trans (hb.mono (Nat.le_of_lt h.r1.lt)),h.r1.below hb h.r1.lt,h.r2.below hb h.r2.lt,h.r3.below hb h.r3.lt⟩
theorem GX3.setE (h:GX3 w W g V2 e p) (e' p':Int):GX3 w ((W.setCell ⟨g+2,0,none⟩ (.int .i64 e')).setCell ⟨g+2,1,none⟩ (.int .i64 p')) g V2 e' p':=
 ⟨Below.set2 h.bb (by omega) _ _,(h.r1.other (by omega) 0 _).other (by omega) 1 _,(h.r2.other (by omega) 0 _).other (by omega) 1 _,h.r3.set _ _⟩
theorem GX3.drew (h:GX3 w W g V2 e p):GX3 w W.drew g V2 e p:=⟨h.bb.drew,h.r1,h.r2,h.r3⟩
theorem GX3.new (w:World):GX3 w (((w.alloc (.cells hzV 77)).alloc (.cells hzV 77)).alloc (.cells #[.int .i64 0,.int .i64 0] 27)) w.heap.size hzV 0 0:=
 ⟨(((Below.refl _ _).alloc (Nat.le_refl _) _).alloc (by simp) _).alloc (by simp; omega) _,((BX.new _ _ _).alloc _).alloc _,by
  have:=(BX.new (w.alloc (.cells hzV 77)) hzV 77).alloc (.cells #[.int .i64 0,.int .i64 0] 27)
  simpa using this,by
  have:=FB.new ((w.alloc (.cells hzV 77)).alloc (.cells hzV 77)) (.int .i64 0) (.int .i64 0)
  simpa using this⟩
theorem GX3.set2 (h:GX3 w W g V2 e p) (c2:Array Value):GX3 w (W.setRow (g+1) c2) g c2 e p:=
 ⟨h.bb.setRow (by omega) c2,(setRow_other W (g+1) g c2 (by omega)).trans h.r1,setRow_heap _ _ V2 _ _ _ h.r2,(setRow_other W (g+1) (g+2) c2 (by omega)).trans h.r3⟩
theorem GX3.ret (h:GX3 w W g V2 e p) (c1 c2:Array Value) (e' p':Int) :
 BX (((W.setRow g c1).setRow (g+1) c2).setRow (g+2) #[.int .i64 e',.int .i64 p']) g c1 77∧BX (((W.setRow g c1).setRow (g+1) c2).setRow (g+2) #[.int .i64 e',.int .i64 p']) (g+1) c2 77 ∧
 FB (((W.setRow g c1).setRow (g+1) c2).setRow (g+2) #[.int .i64 e',.int .i64 p']) (g+2) (.int .i64 e') (.int .i64 p')∧Below g w (((W.setRow g c1).setRow (g+1) c2).setRow (g+2) #[.int .i64 e',.int .i64 p']):=by
 have h1:BX (W.setRow g c1) g c1 77:=setRow_heap _ _ hzV _ _ _ h.r1
 have h2:BX (W.setRow g c1) (g+1) V2 77:=(setRow_other W g (g+1) c1 (by omega)).trans h.r2
 have h3:FB (W.setRow g c1) (g+2) (.int .i64 e) (.int .i64 p):=(setRow_other W g (g+2) c1 (by omega)).trans h.r3
 have k2:BX ((W.setRow g c1).setRow (g+1) c2) (g+1) c2 77:=setRow_heap _ _ V2 _ _ _ h2
 have k3:FB ((W.setRow g c1).setRow (g+1) c2) (g+2) (.int .i64 e) (.int .i64 p):=(setRow_other _ (g+1) (g+2) c2 (by omega)).trans h3
 exact ⟨(setRow_other _ (g+2) g _ (by omega)).trans ((setRow_other _ (g+1) g c2 (by omega)).trans h1),(setRow_other _ (g+2) (g+1) _ (by omega)).trans k2,setRow_heap _ _ _ _ _ _ k3,((h.bb.setRow (Nat.le_refl _) c1).setRow (by omega) c2).setRow (by omega) _⟩
end
theorem cell_ne {w:World} {ad:Addr} {q:Nat} {vs:Array Value} {T T':TypeId} {y:Value} (hx:BX w q vs T) (hv:noE vs) (h:w.cell? ad=some (.iface T' y)):ad.block≠q:=by
 intro hq
 unfold World.cell? at h
 rw [hq,show w.heap[q]? = _ from hx] at h
 dsimp only at h
 split at h
 · cases h
 · exact hv _ _ _ h
theorem dw_hd {α:Type} {p:α→Bool} {l:List α} {x:α} {t:List α} (h:l.dropWhile p=x :: t):p x=false:=by
 induction l with
 | nil=>simp at h
 | cons y l ih=>
  rw [List.dropWhile_cons] at h
  split at h
  · exact ih h
  · rename_i hp
    injection h with h1 _
    subst h1
    simpa using hp
theorem qJM {es:List El} {e:El} {r:List El} (h:qAY es=e :: r):e.2=false:=by
 have h1:(!smi e)=false:=dw_hd (p:=fun e=>!smi e) h
 have h2:plE 59 e=true:=by simpa [smi] using h1
 exact (plE_iff.1 h2).1
def semF (es:List El):Int × Int:=match qAY es with
 | []=>(0,0)
 | _ :: r=>match qAY r with
  | []=>(0,0)
  | f :: _=>(4,f.1.2.2)
def hvsT (t:List Tok × Int × Int):Int × Int:=if t.2.1≠0 then t.2 else match elsB t.1 with
 | some a=>(7,a)
 | none=>semF (elsL t.1)
def HvOk (w:World) (v1 v2:Value) (es:List El):Prop:=∃ D,HfM w D v1 0 false (qA7 es)∧(match qAY es with
 | []=>v2=.agg hzV
 | e :: r=>HfM w D v2 (e.1.2.2+1) true r)
theorem own_cp {w:World} {base size m c:Nat} {T:TypeId} {A:Option Addr} {xs:List Value} (h:w.ownsRow base T size (.slice A m c) m xs):Cp A m c:=by
 rcases h.2 with ⟨e,rfl⟩ | ⟨g',cap,cur,e,_,_,hc,_⟩
 · cases e; exact Cp.nil
 · cases e; exact Cp.some hc
theorem qAD {w:World} {g k:Nat} {cs vs:Array Value} {T:TypeId} (h:BX w k vs T) (hk:k≠g):BX (w.setRow g cs) k vs T:=(setRow_other w g k cs hk).trans h
set_option maxHeartbeats 4000000 in
theorem halves_c (s:ByteArray) (w:World) (hs:s.size≤10000000000):Calls Tryz.prog 47 #[.string s] w fun x w'=>∃ v1 v2,x=.returned (.tuple #[v1,v2,.agg #[.int .i64 (hvsT (toks (bts s))).1,.int .i64 (hvsT (toks (bts s))).2]]) ∧
 Hid ((hvsT (toks (bts s))).1≠0→v1=.agg hzV∧v2=.agg hzV)∧Hid ((hvsT (toks (bts s))).1=0→HvOk w' v1 v2 (elsL (toks (bts s)).1))∧Hid (Below w.heap.size w w'):=by
 generalize hF:hvsT (toks (bts s))=F
 have HSC:=hid (fun W=>tokScan_c s W hs)
 obtain ⟨hmay,hlen,-⟩:=qEG (qAO s)
 have hpl:∀ t ∈ (toks (bts s)).1,0≤t.2.2∧t.2.2≤10000000000:=fun t ht=>by
  have:=toks_at (qAO s) t ht;rw [qA1] at this;exact ⟨this.1,by omega⟩
 clear hs
 generalize toks (bts s)=TK at *
 obtain ⟨ts,te,tp⟩:=TK
 unfold hvsT at hF
 dsimp only at *
 have HMY:=hid hmay
 have HPL:=hid hpl
 clear hpl
 have HX:=hid (GX3.new w)
 clear hmay
 go_enter Tryz.func47,Tryz.ntmps47
 go_upto_region 1 with fail
 change Code.wp _ _ _ _ (((w.alloc (.cells hzV 77)).alloc (.cells hzV 77)).alloc (.cells #[.int .i64 0,.int .i64 0] 27))
 generalize ((w.alloc (.cells hzV 77)).alloc (.cells hzV 77)).alloc (.cells #[.int .i64 0,.int .i64 0] 27)=W0 at *
 generalize hg:w.heap.size=g at *
 have HGe:=hid hg
 clear hg
 go_upto_region 2 with (first
  | (go_at_call 81; refine (HSC.out W0).mono ?_; rintro e w1 ⟨A,m,c,rfl,ho1,hb1⟩; have HX1:=hid (HX.out.below hb1.out); have a0:=HX1.out.r3.c0; have a1:=HX1.out.r3.c1; have q0:=HX1.out.r3.fr 0; have q1:=HX1.out.r3.fr 1)
  | fail)
 have hg0:g+2 < W0.heap.size:=HX.out.r3.lt
 have HX2:=hid (HX1.out.setE te tp)
 have HT2:Hid (OwnT ((w1.setCell ⟨g+2,0,none⟩ (.int .i64 te)).setCell ⟨g+2,1,none⟩ (.int .i64 tp)) W0.heap.size A m c ts):=hid ⟨qAH (qAH ho1.out.1 (p:=⟨g+2,0,none⟩) hg0 _) (p:=⟨g+2,1,none⟩) hg0 _,ho1.out.2⟩
 have hm:=ho1.out.len
 have hcp:=own_cp ho1.out.1
 generalize (w1.setCell ⟨g+2,0,none⟩ (.int .i64 te)).setCell ⟨g+2,1,none⟩ (.int .i64 tp)=W2 at *
 clear a0 a1 q0 q1 ho1 hb1 HX1
 have y0:=HX2.out.r3.c0
 have y1:=HX2.out.r3.c1
 by_cases hte:te≠0
 · rw [if_pos hte] at hF
   have gp:(te != 0)=true:=by simpa using hte
   have HE:=hid hte;have HF:=hid hF.symm;clear hte hF
   go_upto_region 3 with fail
   have HXd:=hid HX2.out.drew;have HR:=hid (HXd.out.ret hzV hzV te tp);refine wp_region_held_drew (S:=(fun W9:World=>Hid (FB W9 (g+2) (.int .i64 te) (.int .i64 tp)))) (by kernel_rfl) (hid HXd.out.r3) (fun hHeld=>?_);refine' qt 0 hHeld ?_
   try simp only [pk]
   refine' qt 1 hHeld ?_
   try simp only [pk]
   refine' qA8 2 (v:=_) rfl (by kernel_rfl) (by kernel_rfl) (by kernel_rfl) (fun _ _ _ h=>h) rfl ?y3 hHeld ?r3
   case y3=>
    intro w hSw
    try dsimp only at hSw
    have k0:=hSw.out.c0;have k1:=hSw.out.c1;go_simp
    try with_reducible rfl
   try simp only [pk]
   refine qp 3 fun K hK=>?_;refine wp_store_row 77 _ _ rfl g hzV rfl rfl 77 _ HXd.out.r1 (qAL _ _ _ _ _) rfl (qB3 _ _ _ _ _ _ _ _ _ _ _) ?_;refine hK.out _ _ (hid (qAD hHeld.out (by omega))) (fun hHeld=>?_);clear hK K
   try simp only [Act.put]
   refine qp 4 fun K hK=>?_;refine wp_store_row 77 _ _ rfl (g+1) hzV rfl rfl 77 _ (qAD (g:=g) (cs:=hzV) HXd.out.r2 (by omega)) (qAL _ _ _ _ _) rfl (qB3 _ _ _ _ _ _ _ _ _ _ _) ?_;refine hK.out _ _ (hid (qAD hHeld.out (by omega))) (fun hHeld=>?_);clear hK K
   try simp only [Act.put]
   refine qp 5 fun K hK=>?_;refine wp_store_row 27 _ _ rfl (g+2) #[.int .i64 te,.int .i64 tp] rfl rfl 27 _ hHeld.out (qA3 _ _) rfl (qA6 _ _) ?_;refine hK.out _ _ (hid (setRow_heap _ _ _ _ _ _ hHeld.out)) (fun hHeld=>?_);clear hK K
   try simp only [Act.put]
   refine wpAnyH_done (by kernel_rfl) ?_ _;clear hHeld
   go_wp2
   exact bodyPost_ret (v:=.tuple #[.agg hzV,.agg hzV,.agg #[.int .i64 te,.int .i64 tp]]) (qCV Tryz.results47 _ _ g _ _ (0,0) _ rfl HR.out.1 Tryz.underlying77 rfl (qAL _ _ _ _ _) (g+1) _ _ (0,0) _ rfl HR.out.2.1 Tryz.underlying77 rfl (qAL _ _ _ _ _) (g+2) _ _ (0,0) _ rfl HR.out.2.2.1 Tryz.underlying27 rfl (qA3 _ _)) rfl ⟨_,_,by rw [HF.out],hid (fun _=>⟨rfl,rfl⟩),hid (fun h=>absurd h (by rw [HF.out]; dsimp only; exact HE.out)),hid (HGe.out ▸ HR.out.2.2.2)⟩
 · rw [if_neg hte] at hF
   have hte0:te=0:=by simpa using hte
   subst hte0;clear hte
   go_upto_region 5 with (first
    | (go_at_call 82; refine (elements_c A m c ts W2 HT2.out.tks hcp.1 (by omega) HMY.out).mono ?_; rintro e w3 ⟨A3,m3,c3,rfl,ho3,hb3⟩; have HX3:=hid (HX2.out.below hb3.out); have a0:=HX3.out.r3.c0; have a1:=HX3.out.r3.c1; have q0:=HX3.out.r3.fr 0; have q1:=HX3.out.r3.fr 1)
    | fail)
   have hg2:g+2 < W2.heap.size:=HX2.out.r3.lt;have HX4:=hid (HX3.out.setE (elsQ ts).2.1 (elsQ ts).2.2);have HE4:Hid (OwnE ((w3.setCell ⟨g+2,0,none⟩ (.int .i64 (elsQ ts).2.1)).setCell ⟨g+2,1,none⟩ (.int .i64 (elsQ ts).2.2)) W2.heap.size A3 m3 c3 (elsQ ts).1):=hid ⟨qAH (qAH ho3.out.1 (p:=⟨g+2,0,none⟩) hg2 _) (p:=⟨g+2,1,none⟩) hg2 _,ho3.out.2⟩;have hcp3:=own_cp ho3.out.1;generalize (w3.setCell ⟨g+2,0,none⟩ (.int .i64 (elsQ ts).2.1)).setCell ⟨g+2,1,none⟩ (.int .i64 (elsQ ts).2.2)=W4 at *;clear a0 a1 q0 q1 ho3 hb3 HX3 y0 y1 HX2 HT2
   cases hB:elsB ts with
   | some a=>
    rw [hB] at hF;dsimp only at hF;rw [elsQ_yes hB] at *;dsimp only at *;have HF:=hid hF.symm;clear hF hB;have y0:=HX4.out.r3.c0;have y1:=HX4.out.r3.c1
    go_upto_region 6 with fail
    have HXd:=hid HX4.out.drew;have HR:=hid (HXd.out.ret hzV hzV 7 a);refine wp_region_held_drew (S:=(fun W9:World=>Hid (FB W9 (g+2) (.int .i64 7) (.int .i64 a)))) (by kernel_rfl) (hid HXd.out.r3) (fun hHeld=>?_);refine' qt 0 hHeld ?_
    try simp only [pk]
    refine' qt 1 hHeld ?_
    try simp only [pk]
    refine' qA8 2 (v:=_) rfl (by kernel_rfl) (by kernel_rfl) (by kernel_rfl) (fun _ _ _ h=>h) rfl ?y6 hHeld ?r6
    case y6=>
     intro w hSw
     try dsimp only at hSw
     have k0:=hSw.out.c0;have k1:=hSw.out.c1;go_simp
     try with_reducible rfl
    try simp only [pk]
    refine qp 3 fun K hK=>?_;refine wp_store_row 77 _ _ rfl g hzV rfl rfl 77 _ HXd.out.r1 (qAL _ _ _ _ _) rfl (qB3 _ _ _ _ _ _ _ _ _ _ _) ?_;refine hK.out _ _ (hid (qAD hHeld.out (by omega))) (fun hHeld=>?_);clear hK K
    try simp only [Act.put]
    refine qp 4 fun K hK=>?_;refine wp_store_row 77 _ _ rfl (g+1) hzV rfl rfl 77 _ (qAD (g:=g) (cs:=hzV) HXd.out.r2 (by omega)) (qAL _ _ _ _ _) rfl (qB3 _ _ _ _ _ _ _ _ _ _ _) ?_;refine hK.out _ _ (hid (qAD hHeld.out (by omega))) (fun hHeld=>?_);clear hK K
    try simp only [Act.put]
    refine qp 5 fun K hK=>?_;refine wp_store_row 27 _ _ rfl (g+2) #[.int .i64 7,.int .i64 a] rfl rfl 27 _ hHeld.out (qA3 _ _) rfl (qA6 _ _) ?_;refine hK.out _ _ (hid (setRow_heap _ _ _ _ _ _ hHeld.out)) (fun hHeld=>?_);clear hK K
    try simp only [Act.put]
    refine wpAnyH_done (by kernel_rfl) ?_ _;clear hHeld
    go_wp2
    exact bodyPost_ret (v:=.tuple #[.agg hzV,.agg hzV,.agg #[.int .i64 7,.int .i64 a]]) (qCV Tryz.results47 _ _ g _ _ (0,0) _ rfl HR.out.1 Tryz.underlying77 rfl (qAL _ _ _ _ _) (g+1) _ _ (0,0) _ rfl HR.out.2.1 Tryz.underlying77 rfl (qAL _ _ _ _ _) (g+2) _ _ (0,0) _ rfl HR.out.2.2.1 Tryz.underlying27 rfl (qA3 _ _)) rfl ⟨_,_,by rw [HF.out],hid (fun _=>⟨rfl,rfl⟩),hid (fun h=>absurd h (by rw [HF.out]; dsimp only; exact (by decide))),hid (HGe.out ▸ HR.out.2.2.2)⟩
   | none=>
    rw [hB] at hF;dsimp only at hF;rw [elsQ_no hB] at *;dsimp only at *;have HPE:Hid (∀ e ∈ elsL ts,0≤e.1.2.2∧e.1.2.2≤10000000000):=hid fun e he=>by
     obtain ⟨⟨t,ht,e1⟩,-⟩:=qKR ts e he;rw [e1]; exact HPL.out t ht
    generalize hes:elsL ts=es at *;have HES:=hid hes;clear hes;have HF:=hid hF.symm;clear hF hB;have y0:=HX4.out.r3.c0;have y1:=HX4.out.r3.c1;have HP4:=hid HE4.out.pls
    go_upto_region 8 with (first
     | (go_at_call 84; refine (of16_c ⟨#[59]⟩ _).mono ?_; rintro e w5 ⟨B,rfl,hB,hS,hb5⟩)
     | (go_at_call 83; refine (qKY ⟨#[59]⟩ smi B A3 m3 c3 es w5 (HP4.out.below hb5) hcp3 (qBY (by decide)) (by decide) (fun e he=>qIM 59 (HP4.out.z e he)) hB hS.out).mono ?_; rintro e w6 ⟨A5,n5,c5,A6,n6,c6,rfl,h5,h6,hc5,hc6,hb6⟩)
     | fail)
    have HX6:=hid (HX4.out.below (hb5.trans (hb6.out.mono hb5.size)));clear hb5 hb6 hS hB HX4 y0 y1;have hs6:W4.heap.size≤w6.heap.size:=by have:=HP4.out.2.1; exact (h5.out).2.1
    generalize W4.heap.size=D at *
    cases hsn:qAY es with
    | nil=>
     have hsF:semF es=(0,0):=by unfold semF; rw [hsn]
     rw [hsF] at HF;have hn6:n6=0:=by rw [← h6.out.len]; exact congrArg List.length hsn
     subst hn6
     go_upto_region 13 with fail
     have HXd:=hid HX6.out.drew;refine wp_region_held_drew (S:=(fun W9:World=>Hid (BX W9 (g+1) #[.int .i64 0,.bool false,.slice none 0 0,.slice none 0 0,.slice none 0 0] 77))) (by kernel_rfl) (hid HXd.out.r2) (fun hHeld=>?_);refine' qt 0 hHeld ?_
     try simp only [pk]
     refine' qt 1 hHeld ?_
     try simp only [pk]
     refine' qA8 3 (v:=_) rfl (by kernel_rfl) (by kernel_rfl) (by kernel_rfl) (fun _ _ _ h=>h) rfl ?y9 hHeld ?r9
     case y9=>
      intro w hSw
      try dsimp only at hSw
      have k0:=hSw.out.c 0;have k1:=hSw.out.c 1;have k2:=hSw.out.c 2;have k3:=hSw.out.c 3;have k4:=hSw.out.c 4;go_simp
      try with_reducible rfl
     try simp only [pk]
     refine' qt 4 hHeld ?_
     try simp only [pk]
     refine qp 2 fun K hK=>?_;go_simp;refine (cut16_c (D:=D) 0 false _ _ _ A5 n5 c5 _ _ (h5.out.below ((Below.refl _ _).drew)) hc5).mono ?_;rintro rr w7 ⟨v1,rfl,hm7,hb7⟩;have HM7:=hid hm7;obtain ⟨B1,p1,k1,B2,p2,k2,B3,p3,k3,rfl,-⟩:=hm7.f;have HX7:=hid (HXd.out.below hb7.out);have HR:=hid (HX7.out.ret #[.int .i64 0,.bool false,.slice B1 p1 k1,.slice B2 p2 k2,.slice B3 p3 k3] #[.int .i64 0,.bool false,.slice none 0 0,.slice none 0 0,.slice none 0 0] 0 0);have hS:Hid (BX w7 (g+1) #[.int .i64 0,.bool false,.slice none 0 0,.slice none 0 0,.slice none 0 0] 77):=hid HX7.out.r2;clear hHeld
     go_wp2_with fail
     refine hK.out _ _ hS (fun hHeld=>?_);clear hK K hS
     try simp only [pk]
     refine qp 5 fun K hK=>?_;refine wp_store_row 77 _ _ rfl g #[.int .i64 0,.bool false,.slice B1 p1 k1,.slice B2 p2 k2,.slice B3 p3 k3] rfl rfl 77 _ HX7.out.r1 (qAL _ _ _ _ _) rfl (qB3 _ _ _ _ _ _ _ _ _ _ _) ?_;refine hK.out _ _ (hid (qAD hHeld.out (by omega))) (fun hHeld=>?_);clear hK K
     try simp only [Act.put]
     refine qp 6 fun K hK=>?_;refine wp_store_row 77 _ _ rfl (g+1) #[.int .i64 0,.bool false,.slice none 0 0,.slice none 0 0,.slice none 0 0] rfl rfl 77 _ hHeld.out (qAL _ _ _ _ _) rfl (qB3 _ _ _ _ _ _ _ _ _ _ _) ?_;refine hK.out _ _ (hid (setRow_heap _ _ _ _ _ _ hHeld.out)) (fun hHeld=>?_);clear hK K
     try simp only [Act.put]
     refine qp 7 fun K hK=>?_;refine wp_store_row 27 _ _ rfl (g+2) #[.int .i64 0,.int .i64 0] rfl rfl 27 _ (qAD (qAD (g:=g) HX7.out.r3 (by omega)) (by omega)) (qA3 _ _) rfl (qA6 _ _) ?_;refine hK.out _ _ (hid (qAD hHeld.out (by omega))) (fun hHeld=>?_);clear hK K
     try simp only [Act.put]
     refine wpAnyH_done (by kernel_rfl) ?_ _;clear hHeld
     go_wp2
     have hmove:∀ {v:Value} {b:Int} {l:Bool} {l9:List El},HfM w7 D v b l l9→HfM (((w7.setRow g #[.int .i64 0,.bool false,.slice B1 p1 k1,.slice B2 p2 k2,.slice B3 p3 k3]).setRow (g+1) #[.int .i64 0,.bool false,.slice none 0 0,.slice none 0 0,.slice none 0 0]).setRow (g+2) #[.int .i64 0,.int .i64 0]) D v b l l9:=fun h=>
      ((h.other HX7.out.r1 (noE5 _ _ _ _ _ _ _ _ _ _ _) (by simp) (fun k hk=>setRow_other _ _ _ _ hk)).other (qAD (g:=g) HX7.out.r2 (by omega)) (noE5 _ _ _ _ _ _ _ _ _ _ _) (by simp) (fun k hk=>setRow_other _ _ _ _ hk)).other (qAD (qAD (g:=g) HX7.out.r3 (by omega)) (by omega)) (noE2 _ _) (by simp) (fun k hk=>setRow_other _ _ _ _ hk)
     exact bodyPost_ret (v:=.tuple #[.agg #[.int .i64 0,.bool false,.slice B1 p1 k1,.slice B2 p2 k2,.slice B3 p3 k3],.agg #[.int .i64 0,.bool false,.slice none 0 0,.slice none 0 0,.slice none 0 0],.agg #[.int .i64 0,.int .i64 0]]) (qCV Tryz.results47 _ _ g _ _ (0,0) _ rfl HR.out.1 Tryz.underlying77 rfl (qAL _ _ _ _ _) (g+1) _ _ (0,0) _ rfl HR.out.2.1 Tryz.underlying77 rfl (qAL _ _ _ _ _) (g+2) _ _ (0,0) _ rfl HR.out.2.2.1 Tryz.underlying27 rfl (qA3 _ _)) rfl ⟨_,_,by rw [HF.out],hid (fun h=>absurd (by rw [HF.out]) h),hid (fun _=>by rw [HES.out]; exact ⟨D,hmove HM7.out,by rw [hsn]; rfl⟩),hid (HGe.out ▸ HR.out.2.2.2)⟩
    | cons e0 r=>
     have he0:=qJM hsn;have hpe0:=HPE.out e0 ((List.dropWhile_suffix _).subset (show e0 ∈ qAY es by rw [hsn]; simp));have hsF:semF es=(match qAY r with | []=>(0,0) | f :: _=>(4,f.1.2.2)):=by unfold semF; rw [hsn]; try rfl
     rw [hsF] at HF;clear hsF;have h6':=hid (show Pls w6 D A6 n6 (e0 :: r) by rw [← hsn]; exact h6.out);clear h6;obtain ⟨ad6,rfl,h06⟩:=qGJ h6'.out;obtain ⟨a7,HSL,HA7⟩:=sl1_el ad6 n6 c6 h06 hc6.1;obtain ⟨t1,t2⟩:=h6'.out.tail;have hr6:Hid (Pls w6 D (some a7) (n6 - 1) r):=hid (by
      rcases HA7 with h | rfl
      · have:=hc6.1
        rw [t2 (by omega),show n6 - 1=0 by omega]; exact t1.nil _
      · exact t1)
     have hc7:Cp (some a7) (n6 - 1) (c6 - 1):=Cp.some (by have:=hc6.1; omega);obtain ⟨ad',ead,hbk,k0,-⟩:=h6'.out.at_ h06;obtain rfl:=Option.some.inj ead;obtain ⟨⟨er,eq,ea⟩,ep⟩:=e0;obtain rfl:ep=false:=he0
     change w6.cell? ad6=some (.iface 147 (.agg #[.int .i32 er,.bool eq,.int .i64 ea])) at k0
     clear t1 t2 HA7 h6' ead hbk;generalize n6 - 1=n7 at *;generalize c6 - 1=c7 at *;dsimp only at hpe0;have gwr:IntKind.i64.wrap (ea+1)=ea+1:=by rw [IntKind.wrap_i64]; omega
     go_upto_region 9 with fail
     have HXd:=hid HX6.out.drew;have hne6:=cell_ne HX6.out.r2 (noE5 _ _ _ _ _ _ _ _ _ _ _) k0;have hbk6:ad6.block < w6.heap.size:=World.block_lt_of_cell? _ _ k0;refine wp_region_held_drew (S:=(fun W9:World=>Hid (W9.cell? ad6=some (.iface 147 (.agg #[.int .i32 er,.bool eq,.int .i64 ea]))))) (by kernel_rfl) (hid k0) (fun hHeld=>?_);refine' qt 0 hHeld ?_
     try simp only [pk]
     refine' qt 1 hHeld ?_
     try simp only [pk]
     refine' qA8 2 (v:=_) rfl (by kernel_rfl) (by kernel_rfl) (by kernel_rfl) (fun _ _ _ h=>h) rfl ?y13 hHeld ?r13
     case y13=>
      intro w hSw
      try dsimp only at hSw
      have k9:=hSw.out;go_simp
      try with_reducible rfl
     try simp only [pk]
     refine' qt 6 hHeld ?_
     try simp only [pk]
     refine' qt 7 hHeld ?_
     try simp only [pk]
     refine qp 3 fun K hK=>?_;go_simp;refine (qKX er ea eq _).mono ?_;rintro rr w8 ⟨rfl,hb8⟩;have HX8:=hid (HXd.out.below hb8);have HB8:=hid (show Below w6.heap.size w6 w8 from ((Below.refl _ _).drew).trans hb8);have hS:=hid ((hb8.cell (p:=ad6) hbk6).trans hHeld.out);clear hHeld
     go_wp2_with fail
     refine hK.out _ _ hS (fun hHeld=>?_);clear hK K hS
     try simp only [pk]
     refine' qt 4 hHeld ?_
     try simp only [pk]
     refine' qt 5 hHeld ?_
     try simp only [pk]
     refine qp 8 fun K hK=>?_;go_simp;refine (cut16_c (D:=D) (ea+1) true _ _ _ (some a7) n7 c7 r _ (hr6.out.below HB8.out) hc7).mono ?_;rintro rr w9 ⟨v2,rfl,hm9,hb9⟩;have HM9:=hid hm9;obtain ⟨E1,f1,m1,E2,f2,m2,E3,f3,m3,rfl,-⟩:=hm9.f;have HX9:=hid (HX8.out.below hb9.out);have HB9:=hid (HB8.out.trans (hb9.out.mono HB8.out.size));have hS:=hid ((hb9.out.cell (p:=ad6) (Nat.lt_of_lt_of_le hbk6 HB8.out.size)).trans hHeld.out);clear hHeld
     go_wp2_with fail
     refine hK.out _ _ hS (fun hHeld=>?_);clear hK K hS
     try simp only [pk]
     refine qp 9 fun K hK=>?_;refine wp_store_row 77 _ _ rfl (g+1) #[.int .i64 (ea+1),.bool true,.slice E1 f1 m1,.slice E2 f2 m2,.slice E3 f3 m3] rfl rfl 77 _ HX9.out.r2 (qAL _ _ _ _ _) rfl (qB3 _ _ _ _ _ _ _ _ _ _ _) ?_;refine hK.out _ _ (hid ((cell_setRow_other _ _ _ _ hne6).trans hHeld.out)) (fun hHeld=>?_);clear hK K
     try simp only [Act.put]
     refine wpAnyH_done (by kernel_rfl) ?_ _;clear hHeld;have HX10:=hid (HX9.out.set2 #[.int .i64 (ea+1),.bool true,.slice E1 f1 m1,.slice E2 f2 m2,.slice E3 f3 m3]);have h5x:=hid (show Pls (w9.setRow (g+1) #[.int .i64 (ea+1),.bool true,.slice E1 f1 m1,.slice E2 f2 m2,.slice E3 f3 m3]) D A5 n5 _ from (h5.out.below HB9.out).other HX9.out.r2 (noE5 _ _ _ _ _ _ _ _ _ _ _) (by simp) (fun k hk=>setRow_other _ _ _ _ hk));have hr10:=hid (show Pls (w9.setRow (g+1) #[.int .i64 (ea+1),.bool true,.slice E1 f1 m1,.slice E2 f2 m2,.slice E3 f3 m3]) D (some a7) n7 r from (hr6.out.below HB9.out).other HX9.out.r2 (noE5 _ _ _ _ _ _ _ _ _ _ _) (by simp) (fun k hk=>setRow_other _ _ _ _ hk));have HM10:=hid (show HfM (w9.setRow (g+1) #[.int .i64 (ea+1),.bool true,.slice E1 f1 m1,.slice E2 f2 m2,.slice E3 f3 m3]) D _ (ea+1) true r from HM9.out.other HX9.out.r2 (noE5 _ _ _ _ _ _ _ _ _ _ _) (by simp) (fun k hk=>setRow_other _ _ _ _ hk));generalize w9.setRow (g+1) #[.int .i64 (ea+1),.bool true,.slice E1 f1 m1,.slice E2 f2 m2,.slice E3 f3 m3]=W10 at *;clear hr6 h5 HM9 HX9 HX8 HXd HB8 HB9 k0 hbk6 hne6 HX6 hs6
     go_upto_region 10 with fail
     refine wp_region_held_drew (S:=(fun W9:World=>Hid (Below W10.heap.size W10 W9))) (by kernel_rfl) (hid ((Below.refl _ _).drew)) (fun hHeld=>?_);refine' qt 0 hHeld ?_
     try simp only [pk]
     refine' qt 1 hHeld ?_
     try simp only [pk]
     refine qp 2 fun K hK=>?_;go_simp;refine (of16_c ⟨#[59]⟩ _).mono ?_;rintro rr w11 ⟨B,rfl,hB,hSS,hb11⟩;have hS:=hid (hHeld.out.trans (hb11.mono hHeld.out.size));have HB11:=hS;clear hHeld
     go_wp2_with fail
     refine hK.out _ _ hS (fun hHeld=>?_);clear hK K hS
     try simp only [pk]
     refine qp 3 fun K hK=>?_;go_simp;refine (qKY ⟨#[59]⟩ smi B (some a7) n7 c7 r w11 (hr10.out.below HB11.out) hc7 (qBY (by decide)) (by decide) (fun e he=>qIM 59 (hr10.out.z e he)) hB hSS.out).mono ?_;rintro rr w12 ⟨A8,n8,c8,A9,n9,c9,rfl,h8,h9,hc8,hc9,hb12⟩;have hS:=hid (HB11.out.trans (hb12.out.mono HB11.out.size));have HB12:=hS;clear hHeld
     go_wp2_with fail
     refine hK.out _ _ hS (fun hHeld=>?_);clear hK K hS
     try simp only [pk]
     refine' qt 4 hHeld ?_
     try simp only [pk]
     refine' qt 5 hHeld ?_
     try simp only [pk]
     refine' qt 6 hHeld ?_
     try simp only [pk]
     refine' qt 7 hHeld ?_
     try simp only [pk]
     refine' qt 8 hHeld ?_
     try simp only [pk]
     refine wpAnyH_done (by kernel_rfl) ?_ _;clear hHeld;have HX12:=hid (HX10.out.below HB12.out);have h5y:=hid (h5x.out.below HB12.out);have HM12:=hid (HM10.out.below HB12.out)
     cases hsr:qAY r with
     | nil=>
      rw [hsr] at HF;dsimp only at HF;have hn9:n9=0:=by rw [← h9.out.len]; exact congrArg List.length hsr
      subst hn9
      go_upto_region 13 with fail
      have HXd:=hid HX12.out.drew;refine wp_region_held_drew (S:=(fun W9:World=>Hid (BX W9 (g+1) #[.int .i64 (ea+1),.bool true,.slice E1 f1 m1,.slice E2 f2 m2,.slice E3 f3 m3] 77))) (by kernel_rfl) (hid HXd.out.r2) (fun hHeld=>?_);refine' qt 0 hHeld ?_
      try simp only [pk]
      refine' qt 1 hHeld ?_
      try simp only [pk]
      refine' qA8 3 (v:=_) rfl (by kernel_rfl) (by kernel_rfl) (by kernel_rfl) (fun _ _ _ h=>h) rfl ?y27 hHeld ?r27
      case y27=>
       intro w hSw
       try dsimp only at hSw
       have k0:=hSw.out.c 0;have k1:=hSw.out.c 1;have k2:=hSw.out.c 2;have k3:=hSw.out.c 3;have k4:=hSw.out.c 4;go_simp
       try with_reducible rfl
      try simp only [pk]
      refine' qt 4 hHeld ?_
      try simp only [pk]
      refine qp 2 fun K hK=>?_;go_simp;refine (cut16_c (D:=D) 0 false _ _ _ A5 n5 c5 _ _ (h5y.out.below ((Below.refl _ _).drew)) hc5).mono ?_;rintro rr w7 ⟨v1,rfl,hm7,hb7⟩;have HM7:=hid hm7;obtain ⟨B1,p1,k1,B2,p2,k2,B3,p3,k3,rfl,-⟩:=hm7.f;have HX7:=hid (HXd.out.below hb7.out);have HR:=hid (HX7.out.ret #[.int .i64 0,.bool false,.slice B1 p1 k1,.slice B2 p2 k2,.slice B3 p3 k3] #[.int .i64 (ea+1),.bool true,.slice E1 f1 m1,.slice E2 f2 m2,.slice E3 f3 m3] 0 0);have hS:Hid (BX w7 (g+1) #[.int .i64 (ea+1),.bool true,.slice E1 f1 m1,.slice E2 f2 m2,.slice E3 f3 m3] 77):=hid HX7.out.r2;clear hHeld
      go_wp2_with fail
      refine hK.out _ _ hS (fun hHeld=>?_);clear hK K hS
      try simp only [pk]
      refine qp 5 fun K hK=>?_;refine wp_store_row 77 _ _ rfl g #[.int .i64 0,.bool false,.slice B1 p1 k1,.slice B2 p2 k2,.slice B3 p3 k3] rfl rfl 77 _ HX7.out.r1 (qAL _ _ _ _ _) rfl (qB3 _ _ _ _ _ _ _ _ _ _ _) ?_;refine hK.out _ _ (hid (qAD hHeld.out (by omega))) (fun hHeld=>?_);clear hK K
      try simp only [Act.put]
      refine qp 6 fun K hK=>?_;refine wp_store_row 77 _ _ rfl (g+1) #[.int .i64 (ea+1),.bool true,.slice E1 f1 m1,.slice E2 f2 m2,.slice E3 f3 m3] rfl rfl 77 _ hHeld.out (qAL _ _ _ _ _) rfl (qB3 _ _ _ _ _ _ _ _ _ _ _) ?_;refine hK.out _ _ (hid (setRow_heap _ _ _ _ _ _ hHeld.out)) (fun hHeld=>?_);clear hK K
      try simp only [Act.put]
      refine qp 7 fun K hK=>?_;refine wp_store_row 27 _ _ rfl (g+2) #[.int .i64 0,.int .i64 0] rfl rfl 27 _ (qAD (qAD (g:=g) HX7.out.r3 (by omega)) (by omega)) (qA3 _ _) rfl (qA6 _ _) ?_;refine hK.out _ _ (hid (qAD hHeld.out (by omega))) (fun hHeld=>?_);clear hK K
      try simp only [Act.put]
      refine wpAnyH_done (by kernel_rfl) ?_ _;clear hHeld
      go_wp2
      have hmove:∀ {v:Value} {b:Int} {l:Bool} {l9:List El},HfM w7 D v b l l9→HfM (((w7.setRow g #[.int .i64 0,.bool false,.slice B1 p1 k1,.slice B2 p2 k2,.slice B3 p3 k3]).setRow (g+1) #[.int .i64 (ea+1),.bool true,.slice E1 f1 m1,.slice E2 f2 m2,.slice E3 f3 m3]).setRow (g+2) #[.int .i64 0,.int .i64 0]) D v b l l9:=fun h=>
       ((h.other HX7.out.r1 (noE5 _ _ _ _ _ _ _ _ _ _ _) (by simp) (fun k hk=>setRow_other _ _ _ _ hk)).other (qAD (g:=g) HX7.out.r2 (by omega)) (noE5 _ _ _ _ _ _ _ _ _ _ _) (by simp) (fun k hk=>setRow_other _ _ _ _ hk)).other (qAD (qAD (g:=g) HX7.out.r3 (by omega)) (by omega)) (noE2 _ _) (by simp) (fun k hk=>setRow_other _ _ _ _ hk)
      exact bodyPost_ret (v:=.tuple #[.agg #[.int .i64 0,.bool false,.slice B1 p1 k1,.slice B2 p2 k2,.slice B3 p3 k3],.agg #[.int .i64 (ea+1),.bool true,.slice E1 f1 m1,.slice E2 f2 m2,.slice E3 f3 m3],.agg #[.int .i64 0,.int .i64 0]]) (qCV Tryz.results47 _ _ g _ _ (0,0) _ rfl HR.out.1 Tryz.underlying77 rfl (qAL _ _ _ _ _) (g+1) _ _ (0,0) _ rfl HR.out.2.1 Tryz.underlying77 rfl (qAL _ _ _ _ _) (g+2) _ _ (0,0) _ rfl HR.out.2.2.1 Tryz.underlying27 rfl (qA3 _ _)) rfl ⟨_,_,by rw [HF.out],hid (fun h=>absurd (by rw [HF.out]) h),hid (fun _=>by rw [HES.out]; exact ⟨D,hmove HM7.out,by rw [hsn]; exact hmove (HM12.out.below (((Below.refl _ _).drew).trans hb7.out))⟩),hid (HGe.out ▸ HR.out.2.2.2)⟩
     | cons f r2=>
      rw [hsr] at HF;dsimp only at HF;have hf0:=qJM hsr;have h9':=hid (show Pls w12 D A9 n9 (f :: r2) by rw [← hsr]; exact h9.out);obtain ⟨ad9,rfl,h09⟩:=qGJ h9'.out;obtain ⟨ad'',ead2,-,k9,-⟩:=h9'.out.at_ h09;obtain rfl:=Option.some.inj ead2;obtain ⟨⟨fr,fq,fa⟩,fp⟩:=f;obtain rfl:fp=false:=hf0
      change w12.cell? ad9=some (.iface 147 (.agg #[.int .i32 fr,.bool fq,.int .i64 fa])) at k9
      clear h9' ead2 h9
      go_wp2_with (first
       | (go_at_call 310; refine (qKX _ _ _ _).mono ?_; rintro e w13 ⟨rfl,hb13⟩; have HX13:=hid (HX12.out.below hb13); have z1:=HX13.out.r1; have z2:=qAD (g:=g) (cs:=hzV) HX13.out.r2 (by omega); have z3:=qAD (g:=g+1) (cs:=hzV) (qAD (g:=g) (cs:=hzV) HX13.out.r3 (by omega)) (by omega); have HR:=hid (HX13.out.ret hzV hzV 4 fa))
       | (refine wpList_store_row rfl 77 _ _ rfl g hzV rfl rfl 77 _ z1 (qAL _ _ _ _ _) rfl (qB3 _ _ _ _ _ _ _ _ _ _ _) ?_)
       | (refine wpList_store_row rfl 77 _ _ rfl (g+1) hzV rfl rfl 77 _ z2 (qAL _ _ _ _ _) rfl (qB3 _ _ _ _ _ _ _ _ _ _ _) ?_)
       | (refine wpList_store_row rfl 27 _ _ rfl (g+2) #[.int .i64 4,.int .i64 fa] rfl rfl 27 _ z3 (qA3 _ _) rfl (qA6 _ _) ?_)
       | fail)
      exact bodyPost_ret (v:=.tuple #[.agg hzV,.agg hzV,.agg #[.int .i64 4,.int .i64 fa]]) (qCV Tryz.results47 _ _ g _ _ (0,0) _ rfl HR.out.1 Tryz.underlying77 rfl (qAL _ _ _ _ _) (g+1) _ _ (0,0) _ rfl HR.out.2.1 Tryz.underlying77 rfl (qAL _ _ _ _ _) (g+2) _ _ (0,0) _ rfl HR.out.2.2.1 Tryz.underlying27 rfl (qA3 _ _)) rfl ⟨_,_,by rw [HF.out],hid (fun _=>⟨rfl,rfl⟩),hid (fun h=>absurd h (by rw [HF.out]; simp)),hid (HGe.out ▸ HR.out.2.2.2)⟩
end Go.Proofs.YtnoeonaajefajaaGreatDoor
