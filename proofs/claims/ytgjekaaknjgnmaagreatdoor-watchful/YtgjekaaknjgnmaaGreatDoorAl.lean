import Derived.Test.YtgjekaaknjgnmaaGreatDoorAk
set_option linter.all false
set_option maxHeartbeats 40000000
set_option maxRecDepth 200000
namespace Go.Proofs.Kz
open Go.Proofs.Tryz
open Go.Proofs.Tryz renaming prog → ar
open _root_.ByteArray renaming empty → aN
open Go.Ren Go.Conc Go.Proofs Go.ConcN
theorem xj{P:Program}(W:ae)(base:Nat)(t ty e:TypeId)(i:TypeInfo)(z:Value)(size bytes:Nat)(ht:P.underlying t=some (.slice e))(hi:P.info? e=some i)(hz:i.zero=some z)(pP:i.size=size)(hby:i.bytes=bytes)(v:Value)(n:Nat)(xs:List Value)(eH:W.ownsRow base e size v n xs)(a:Addr)(c:Nat)(news:List Value)(hl:news.length=1*size)(HX:∀j u,news[j]?=some u->W.cell? (a.add j)=some u)(h1:∀u∈news,u.oneCell'=true)(h63:n<=100000)(Yl:(n+1)*bytes<=140737488355328){v':Value}{W':ae}(hr:(Builtin.append_ #[t,t] ty #[v,.slice (some a) 1 c]).run P W=.ok v' W'):v'.ownBlock=v.ownBlock\/v'.ownBlock=some W.heap.size:=by
 subst pP hby;rcases eH.2 with⟨rfl,rfl⟩|⟨g,cap,cur,rfl,hbg,hg,hnc,hcm,Ps,aiE⟩
 ·have h:=run_append_nil (P:=P) W t ty e i z ht hi hz a 1 c news hl HX aa aa aa;rw[hr] at h;injection h with h _;rw[h];exact .inr rfl
 ·by_cases V9:n+1<=cap
  ·have af0:n*i.size+news.length<=cur.size:=by rw[hl,Ps,<- Nat.add_mul];exact iu _ V9
   have h:=run_append_room (P:=P) W t ty e i ht hi g n cap cur hg a 1 c news hl HX h1 V9 af0;rw[hr] at h;injection h with h _;rw[h];exact .inl rfl
  ·have h:=run_append_grow (P:=P) W t ty e i z ht hi hz ⟨g,0,none⟩ n cap xs eH.1 (eH.cells (g:=g) rfl) a 1 c news hl HX aa aa (growslice_fits aa Yl);rw[hr] at h;injection h with h _;rw[h];exact .inr rfl
theorem Ir{P:Program}{L:Nat->Bool}{o:aM}{w:ae}(hF:bE P L o w){g:Nat}(hg:¬o g):∃f:Rn,(lR P L o).has f/\f.b g≠g:=by
 obtain⟨g',Cw,cV,hG'⟩:∃g',¬o g'/\g'≠g/\P.globals.size<=g':=⟨g+w.heap.size+P.globals.size+1,fun h=>by have:=hF.lt h;omega,aa,aa⟩;have hG:P.globals.size<=g:=cL fun h=>hg (hF.jF g h);refine⟨⟨fun x=>if x=g then g' else if x=g' then g else x,id,id,id⟩,⟨fun x y h=>?_,fun r hr=>?_,fun _ _=>rfl,fun r=>?_⟩,by simp;exact cV⟩
 ·simp only at h;by_cases h1:x=g<;>by_cases h2:y=g<;>by_cases h3:x=g'<;>by_cases h4:y=g'<;>simp_all
 ·have h1:r≠g:=fun e=>hg (e▸hr);have h2:r≠g':=fun e=>Cw (e▸hr);simp[h1,h2,lR]
 ·simp only[lR];by_cases h1:r=g
  ·simp[h1];omega
  ·by_cases h2:r=g'
   ·simp[h1,h2,cV];omega
   ·simp[h1,h2]
theorem Fu{P:Program}{L:Nat->Bool}{o:aM}{w:ae}(hF:bE P L o w){g off l c:Nat}(h:Cl P L o (.slice (some ⟨g,off,none⟩) l c)):o g:=aO fun hg=>by
 obtain⟨f,hf,cV⟩:=Ir hF hg;have:=h f hf;simp only[val,Option.map_some,addr,Value.slice.injEq,Option.some.injEq,Addr.mk.injEq] at this;exact cV this.1.1
section
variable {Fin:bH} {o:aM} {w:ae}
theorem UH(hF:bE ar L0 o w)(K off n c:Nat)(p:Option Addr)(lost:Bool)(hK:o K)(h0:w.cell? ⟨K,off,none⟩=some (.slice p n c))(h1:w.cell? ⟨K,off+1,none⟩=some (.bool lost)):
  bp ar (XB ar Fin 0) 103 #[.pointer (some ⟨K,off,none⟩)] o w fun v o' w'=>v=.bool (decide (0<n)||lost)/\o'=o/\w'=w:=by
 have W:=bJ (P:=ar) (Fin:=Fin) (d:=0);refine bA W func103 ai ?_;walk_nrmf Tryz.f103;refine aA ?_;refine aP aX hF rfl ai ai ?_ rfl (v:=.slice p n c) (gG hK h0) fun _=>?_
 ·exact cj (aH hK)
 walk_nrm;rcases aZ n with hn|hn
 ·subst hn;refine aA ?_;refine aP aX hF rfl ai ai ?_ rfl (v:=.bool lost) (gG hK h1) fun _=>?_
  ·exact cj (aH hK)
  refine aA ?_;exact⟨.inr trivial,trivial,_,resultsC_tmp (t:=2) ai _,aC⟩
 ·have hnI:(0:Int)<(n:Int):=aa;refine aA ?_;exact⟨.inr trivial,trivial,_,resultsC_tmp (t:=2) ai _,by simp[Act.eval,hn]⟩
theorem Ym(hF:bE ar L0 o w)(K off:Nat)(lost:Bool)(hK:o K)(h1:w.cell? ⟨K,off+1,none⟩=some (.bool lost)):
  bp ar (XB ar Fin 0) 53 #[.pointer (some ⟨K,off,none⟩)] o w fun v o' w'=>v=.bool lost/\o'=o/\w'=w:=by
 have W:=bJ (P:=ar) (Fin:=Fin) (d:=0);refine bA W func53 ai ?_;walk_nrmf Tryz.f53;refine aA ?_;refine aP aX hF rfl ai ai ?_ rfl (v:=.bool lost) (gG hK h1) fun _=>?_
 ·exact cj (aH hK)
 refine aA ?_;exact⟨.inr trivial,trivial,_,resultsC_tmp (t:=2) ai _,aC⟩
theorem Rm(hF:bE ar L0 o w)(K off b c:Nat)(p:Option Addr)(ts:List ah)(hK:o K)(h0:w.cell? ⟨K,off,none⟩=some (.slice p ts.length c))(hn:ts.length<=100000)(hp:p=none->ts=[])(hq:ts≠[]->p=some ⟨b,0,none⟩/\o b)(ht:dP w b 0 ts)(hc:Cl ar L0 o (.slice p ts.length c)):
  bp ar (XB ar Fin 0) 52 #[.pointer (some ⟨K,off,none⟩)] o w fun v o' w'=>fw o w v o' w'/\ga w.heap.size ts v w':=by
 have W:=bJ (P:=ar) (Fin:=Fin) (d:=0);refine bA W func52 ai ?_;walk_nrmf Tryz.f52;refine aA ?_;refine aP aX hF rfl ai ai ?_ rfl (v:=.slice p ts.length c) (gG hK h0) fun _=>?_
 ·exact cj (aH hK)
 refine aA ?_;refine aF W rfl ai rfl func51 af rfl aC rfl ((xe hF _ b c p ts rfl hn hp hq ht hc).mono ?_);rintro v2 o2 w2 ⟨N2,t2⟩;refine aA ?_;exact⟨.inr trivial,trivial,_,resultsC_tmp (t:=2) ai _,by simpa[Act.eval] using⟨N2,t2⟩⟩
theorem UI(hF:bE ar L0 o w)(K off t n:Nat)(g:Nat->Value)(hK:o K)(hr:w.rowIs K t n g)(hn:off+1<n):
  bp ar (XB ar Fin 0) 104 #[.pointer (some ⟨K,off,none⟩)] o w fun v o' w'=>v=.tuple #[]/\o'=o/\bE ar L0 o w'/\cN K w w'/\w'.rowIs K t n (fun j=>if j=off+1 then .bool false else if j=off then .slice none 0 0 else g j):=by
 have W:=bJ (P:=ar) (Fin:=Fin) (d:=0);refine bA W func104 ai ?_;walk_nrmf Tryz.f104;refine aA ?_;refine bD aX hF rfl ai ai ?_ rfl (R:=fun wl aI=>aI=(wl.setCell ⟨K,off,none⟩ (.slice none 0 0)).setCell ⟨K,off+1,none⟩ (.bool false)) (fun wl aE=>⟨_,?_,rfl⟩) fun wl aI w9 aE hR ba=>?_
 ·refine dU ?_ ?_
  ·exact aH hK
  ·exact cJ (vs:=[_,_]) (fun x hx=>by
    simp at hx;rcases hx with rfl|rfl
    ·exact gS
    ·exact kn)
 ·have rl:=World.rowIs.of_block hr (aE.heap K hK);have e0:=rl.cell (i:=off) aa;have e1:=rl.cell (i:=off+1) hn;have f:=rl.frozen;simp[go_sem,e0,e1,f]
 have hO:cN K wl aI:=by rw[hR];exact iB _ _ _ _ _ _
 obtain⟨kK,kr,e9⟩:=ba.only aE hK hO;have gw:=ba.ay;rw[e9] at gw |-;refine aA ?_;refine⟨.inl trivial,trivial,.tuple #[],fun w1=>results_none af _ _,an,an,gw,kK,?_⟩;rw[hR] at kr;exact World.rowIs.of_block (((World.rowIs.of_block hr (aE.heap K hK)).set off _).set (off+1) _) kr
theorem KX(hF:bE ar L0 o w)(b c:Nat)(p:Option Addr)(ts:List ah)(x:ah)(hn:ts.length<=100000)(hq:ts≠[]->p=some ⟨b,0,none⟩/\o b)(ht:dP w b 0 ts)(hc:Cl ar L0 o (.slice p ts.length c)):
  bp ar (XB ar Fin 0) 80 #[.slice p ts.length c,.string x] o w fun v o' w'=>v=.bool (Lib.containsS ts x)/\fw o w v o' w':=by
 refine bp.mono (dS af hF (fun y hy=>by simp at hy;rcases hy with rfl|rfl;exact hc;exact bf) (Q:=fun wl v w'=>v=.bool (Lib.containsS ts x)) (fun wl Ai v w1 w2 e1 e2 h=>h) (fun wl hz aE=>?_)) (fun v o' w' hq=>⟨hq.2.choose_spec.choose_spec.2.2.2,hq.1⟩);by_cases cV:ts=[]
 ·subst cV;refine(Tryz.slices_Contains_string_empty p c x wl).mono fun e w' hq=>?_;obtain⟨rfl,rfl⟩:=hq;refine⟨_,rfl,ag _,fun _ _=>rfl,?_⟩;cases hx:Lib.containsS [] x with
  |false=>rfl
  |true=>have:=(Lib.containsS_iff [] x).1 hx;cases this
 ·obtain⟨rfl,hb⟩:=hq cV;refine(wZ b c ts x wl hn (cI ht (aE b hb))).mono fun e w' hq=>?_;obtain⟨rfl,rfl⟩:=hq;exact⟨_,rfl,ag _,fun _ _=>rfl,rfl⟩
structure Ot(o:aM)(w:ae)(v:Value)(ts:List ah):Prop where
 row:∃lo,lo<=w.heap.size/\w.ownsRow lo 9 1 v ts.length (ts.map .string)
 cl:Cl ar L0 o v
theorem Ot.view{v:Value}{ts:List ah}(h:Ot o w v ts)(hF:bE ar L0 o w):∃p b c,v=.slice p ts.length c/\(p=none->ts=[])/\(ts≠[]->p=some ⟨b,0,none⟩/\o b)/\dP w b 0 ts/\(∀g,v.ownBlock=some g->o g):=by
 obtain⟨lo,uL,b6⟩:=h.row;have ht:=tu b6 (fun _ _ _=>rfl) rfl;rcases ht with⟨q1,q2⟩|⟨g,cap,q1,q2,q3,q4,q5⟩
 ·exact⟨none,0,0,by rw[q1,q2];rfl,fun _=>q2,fun cV=>absurd q2 cV,fun k hk=>by rw[q2] at hk;simp at hk,fun g hg=>by rw[q1] at hg;cases hg⟩
 ·have hc:=h.cl;rw[q1] at hc;have hg:=Fu hF hc;exact⟨_,g,cap,q1,(fun e=>by cases e),fun _=>⟨rfl,hg⟩,q5,fun g' Cw=>by rw[q1] at Cw;cases Cw;exact hg⟩
theorem Ot.keep{v:Value}{ts:List ah}{o':aM}{w':ae}(h:Ot o w v ts)(mW:∀b,o b->o' b)(hz:w.heap.size<=w'.heap.size)(e:∀g,v.ownBlock=some g->w'.heap[g]?=w.heap[g]?):Ot o' w' v ts:=by
 obtain⟨lo,uL,b6⟩:=h.row;exact⟨⟨lo,aa,cQ b6 fun g hg _=>e g hg.symm⟩,h.cl.up mW⟩
def iX(ts:List ah)(lost:Bool)(x:ah):List ah×Bool:=if Lib.containsS ts x then(ts,lost) else if 4<=ts.length then(ts,true) else(ts++[x],lost)
theorem Wa(hF:bE ar L0 o w)(K off t n:Nat)(g:Nat->Value)(qv:Value)(ts:List ah)(lost:Bool)(x:ah)(hK:o K)(hQ:Ot o w qv ts)(cV:qv.ownBlock≠some K)(hr:w.rowIs K t n g)(hn:off+1<n)(h0:g off=qv)(h1:g (off+1)=.bool lost)(hl:ts.length<=1000):
  bp ar (XB ar Fin 0) 48 #[.pointer (some ⟨K,off,none⟩),.string x] o w fun v o' w'=>v=.tuple #[]/\bu (fun b=>b=K\/qv.ownBlock=some b) o w o' w'/\∃rE,Ot o' w' rE (iX ts lost x).1/\(∀b,rE.ownBlock=some b->b≠K/\(qv.ownBlock=some b\/w.heap.size<=b))/\w'.rowIs K t n (fun j=>if j=off+1 then .bool (iX ts lost x).2 else if j=off then rE else g j):=by
 have W:=bJ (P:=ar) (Fin:=Fin) (d:=0);refine bA W func48 ai ?_;walk_nrmf Tryz.f48;obtain⟨p,b,c,rfl,v1,v2,v3,v4⟩:=hQ.view hF;have hKw:=hF.lt hK;have cell0:∀{w':ae},w'.rowIs K t n g->w'.cell? ⟨K,off,none⟩=some (.slice p ts.length c):=fun h=>by rw[h.cell aa,h0]
 refine aA ?_;refine aP aX hF rfl ai ai ?_ rfl (v:=.slice p ts.length c) (gG hK (cell0 hr)) fun _=>?_
 ·exact cj (aH hK)
 refine aA ?_;refine aF W rfl ai rfl func80 af rfl aC rfl ((KX hF b c p ts x aa v2 v3 hQ.cl).mono ?_);rintro v3' o3 w3 ⟨rfl,N3⟩;have W3:bu (fun b=>b=K\/(Value.slice p ts.length c).ownBlock=some b) o w o3 w3:=bu.dL N3;have Ro:=W3.more _ hK;have C2:=World.rowIs.of_block hr (N3.old K hKw);have hQ3:Ot o3 w3 (.slice p ts.length c) ts:=hQ.keep W3.more W3.size fun g hg=>N3.old g (hF.lt (v4 g hg));cases hcx:Lib.containsS ts x with
 |true =>
  refine aA ?_;have Wb:iX ts lost x=(ts,lost):=by simp[iX,hcx]
  refine⟨.inr trivial,trivial,.tuple #[],fun w1=>results_none af _ _,an,W3,_,by rw[Wb];exact hQ3,fun g hg=>⟨fun e=>cV (by rw[hg,e]),.inl hg⟩,?_⟩;rw[Wb];refine C2.congr fun j _=>?_;by_cases e1:j=off+1
  ·rw[if_pos e1,e1,h1]
  ·by_cases e0:j=off
   ·rw[if_neg e1,if_pos e0,e0,h0]
   ·rw[if_neg e1,if_neg e0]
 |false =>
  refine aA ?_;refine aP aX W3.ay rfl ai ai ?_ rfl (v:=.slice p ts.length c) (gG Ro (cell0 C2)) fun _=>?_
  ·exact cj (aH Ro)
  walk_nrm;by_cases h4:4<=ts.length
  ·have hlI:(4:Int)<=(ts.length:Int):=aa;refine aA ?_;have Wb:iX ts lost x=(ts,true):=by simp[iX,hcx,h4]
   refine bD aX W3.ay rfl ai ai ?_ rfl (R:=fun wl aI=>aI=wl.setCell ⟨K,off+1,none⟩ (.bool true)) (fun wl aE=>⟨_,?_,rfl⟩) fun wl aI w9 aE hR ba=>?_
   ·exact dU (aH Ro) kn
   ·have rl:=World.rowIs.of_block C2 (aE.heap K Ro);have e1:=rl.cell (i:=off+1) hn;rw[h1] at e1;have f:=rl.frozen;simp[go_sem,e1,f]
   have hO:cN K wl aI:=by rw[hR];exact fW _ _ _ _
   obtain⟨kK,kr,e9⟩:=ba.only aE Ro hO;have gw:=ba.ay;rw[e9] at gw |-;refine aA ?_;have W9:bu (fun b=>b=K\/(Value.slice p ts.length c).ownBlock=some b) o3 w3 o3 w9:=⟨gw,fun _ h=>h,fun _ h=>.inl h,bq kK.1.symm,fun b _ hb=>kK.2 b fun e=>hb (.inl e)⟩;refine⟨.inr trivial,trivial,.tuple #[],fun w1=>results_none af _ _,an,W3.trans W9,_,by rw[Wb];exact hQ3.keep (fun _ h=>h) (bq kK.1.symm) (fun g hg=>kK.2 g fun e=>cV (by rw[hg,e])),fun g hg=>⟨fun e=>cV (by rw[hg,e]),.inl hg⟩,?_⟩;rw[hR] at kr;rw[Wb];refine World.rowIs.of_block (((World.rowIs.of_block C2 (aE.heap K Ro)).set (off+1) _).congr fun j _=>?_) kr;by_cases e1:j=off+1
   ·rw[if_pos e1,if_pos e1]
   ·by_cases e0:j=off
    ·rw[if_neg e1,if_neg e1,if_pos e0,e0,h0]
    ·rw[if_neg e1,if_neg e1,if_neg e0]
  ·have hlI:¬(4:Int)<=(ts.length:Int):=aa;refine aA ?_;have Wb:iX ts lost x=(ts++[x],lost):=by simp[iX,hcx,h4]
   refine aP aX W3.ay rfl ai ai ?_ rfl (v:=.slice p ts.length c) (gG Ro (cell0 C2)) fun _=>?_
   ·exact cj (aH Ro)
   refine aA ?_;refine cq aX W3.ay rfl ai ai ?_ rfl (R:=fun wl v aI=>v=.slice (some ⟨wl.heap.size,0,none⟩) 1 1/\aI=wl.alloc (.cells #[.string x] 9)) (fun wl aE=>⟨_,_,fa,rfl,rfl⟩) fun wl v5 aI w5 aE X0 ba=>?_
   ·exact cj bf
   obtain⟨rfl,X0⟩:=X0;obtain⟨z5,k5,Jj⟩:=ba.alloc W3.ay aE X0;have SQ:=ba.ay;rw[aE.size];clear X0 ba aE wl aI;walk_nrm;have u5:∀b,o3 b->grow o3 w3 w5 b:=fun b hb=>.inl hb;have qi:grow o3 w3 w5 w3.heap.size:=.inr ⟨ag _,aa⟩;have hQ5:Ot (grow o3 w3 w5) w5 (.slice p ts.length c) ts:=hQ3.keep u5 aa fun g hg=>k5 g (W3.ay.lt (W3.more _ (v4 g hg)));obtain⟨lo,uL,b6⟩:=hQ5.row;refine cq aX SQ rfl ai ai ?_ rfl (R:=fun wl v aI=>aI.ownsRow lo 9 1 v (ts++[x]).length ((ts++[x]).map .string)/\wl.grownBy aI (Value.slice p ts.length c).ownBlock/\(v.ownBlock=(Value.slice p ts.length c).ownBlock\/v.ownBlock=some wl.heap.size)) (fun wl aE=>?_) fun wl v6 aI w6 aE Zy ba=>?_
   ·intro y hy;simp[Op.operands,Call.operands] at hy;rcases hy with rfl|rfl
    ·simp[Act.eval];exact hQ5.cl
    ·simp[Act.eval];exact di qi
   ·obtain⟨v',W',e1,e2,e3⟩:=pz wl lo (.slice p ts.length c) ts x w3.heap.size (cQ b6 fun g hg _=>aE.heap g (u5 _ (W3.more _ (v4 g hg.symm)))) aa (by rw[aE.size];exact uL) ((BP ((aE.heap _ qi).trans Jj)).1);refine⟨v',W',gm (.tmp 23) (.tmp 25) 40 rfl aC aC e1,e2,e3,?_⟩;obtain⟨i,hi,oF⟩:=Option.map_eq_some_iff.1 pq;simp only[Prod.mk.injEq] at oF;refine xj wl lo 40 40 9 i _ 1 16 underlying40 hi oF.1 oF.2.1 oF.2.2 _ ts.length (ts.map .string) (cQ b6 fun g hg _=>aE.heap g (u5 _ (W3.more _ (v4 g hg.symm)))) ⟨w3.heap.size,0,none⟩ 1 [.string x] rfl (fun j u hj=>?_) (by simp;rfl) aa aa e1;cases j with
    |zero=>simp at hj;subst hj;simpa[Addr.add] using(BP ((aE.heap _ qi).trans Jj)).1
    |succ j=>simp at hj
   obtain⟨Mg,CS,Wc⟩:=Zy;rw[aE.size] at Wc;have C3:=ba.ay;have Yn:Cl ar L0 (grow (grow o3 w3 w5) w5 w6) v6:=ba.val;have z6:=ba.gO;have abS:∀b,b<w5.heap.size->(Value.slice p ts.length c).ownBlock≠some b->w6.heap[b]?=w5.heap[b]?:=fun b hb X3=>by
    by_cases ho:grow o3 w3 w5 b
    ·rw[ba.same b (.inl ho),CS.block b (by rw[aE.size];exact hb) (fun e=>X3 e.symm),aE.heap b ho]
    ·exact ba.rest b hb ho
   have Is:∀b,v6.ownBlock=some b->grow (grow o3 w3 w5) w5 w6 b:=fun b hb=>by
    obtain⟨-,fy⟩:=Mg;rcases fy with⟨rfl,-⟩|⟨g',cap,cur,rfl,-⟩
    ·cases hb
    ·cases hb;exact Fu C3 Yn
   have HM:w6.ownsRow lo 9 1 v6 (ts++[x]).length ((ts++[x]).map .string):=cQ Mg fun b hb _=>ba.same b (Is b hb.symm);have hv6:∃q l cc,v6=.slice q l cc:=by
    obtain⟨-,fy⟩:=Mg;rcases fy with⟨rfl,-⟩|⟨g',cap,cur,rfl,-⟩
    ·exact⟨_,_,_,rfl⟩
    ·exact⟨_,_,_,rfl⟩
   have Wd:∀b,v6.ownBlock=some b->b≠K/\((Value.slice p ts.length c).ownBlock=some b\/w.heap.size<=b):=fun b hb=>by
    have zz:=W3.size;have hKl:=W3.ay.lt Ro;rcases Wc with e|e
    ·rw[hb] at e;exact⟨fun q=>cV (by rw[<- e,q]),.inl e.symm⟩
    ·rw[hb] at e;have e:=aK e;exact⟨aa,.inr aa⟩
   clear CS Mg ba aE wl aI;refine aA ?_;have hK6:grow (grow o3 w3 w5) w5 w6 K:=.inl (.inl Ro);have af3:=W3.ay.lt Ro;have NJ:w6.rowIs K t n g:=World.rowIs.of_block C2 ((abS K aa cV).trans (k5 K af3));obtain⟨q6,l6,c6,rfl⟩:=hv6;refine bD aX C3 rfl ai ai ?_ rfl (R:=fun wl aI=>aI=wl.setCell ⟨K,off,none⟩ (.slice q6 l6 c6)) (fun wl aE=>⟨_,?_,rfl⟩) fun wl aI w9 aE hR ba=>?_
   ·refine dU ?_ ?_
    ·exact aH hK6
    ·exact Yn
   ·have rl:=World.rowIs.of_block NJ (aE.heap K hK6);have e1:=cell0 rl;have f:=rl.frozen;simp[go_sem,e1,f]
   have hO:cN K wl aI:=by rw[hR];exact fW _ _ _ _
   obtain⟨kK,kr,e9⟩:=ba.only aE hK6 hO;have gw:=ba.ay;rw[e9] at gw |-;refine aA ?_;have W9:bu (fun b=>b=K\/(Value.slice p ts.length c).ownBlock=some b) o3 w3 (grow (grow o3 w3 w5) w5 w6) w9:=by
    refine⟨gw,fun b hb=>.inl (.inl hb),fun b hb=>?_,by rw[kK.1];omega,fun b hb hx=>?_⟩
    ·rcases hb with(hb|hb)|hb
     ·exact .inl hb
     ·exact .inr hb.1
     ·exact .inr aa
    ·rw[kK.2 b fun e=>hx (.inl e),abS b aa fun e=>hx (.inr e),k5 b hb]
   refine⟨.inl trivial,trivial,.tuple #[],fun w1=>results_none af _ _,an,W3.trans W9,_,by rw[Wb];exact⟨⟨lo,by rw[kK.1];omega,cQ HM fun b hb _=>kK.2 b (Wd b hb.symm).1⟩,Yn⟩,Wd,?_⟩;rw[hR] at kr;rw[Wb];refine World.rowIs.of_block (((World.rowIs.of_block NJ (aE.heap K hK6)).set off _).congr fun j _=>?_) kr;by_cases e1:j=off+1
   ·rw[if_neg aa,if_pos e1,e1,h1]
   ·by_cases e0:j=off
    ·simp[e0]
    ·simp[e0,e1]
end
section
open Go.RowKit
def small(x:ah)(k:Nat):Prop:=∀j (h:j<x.size),j<k->97<=x[j].toNat/\x[j].toNat<=122
def isName(x:ah):Prop:=1<=x.size/\x.size<=4/\small x x.size
structure abT(x:ah)(e:Ending):Prop where
 ex:∃b,e=.returned (.bool b)/\(b=true↔isName x)
theorem It(x:ah)(w:ae)(hx:x.size<=1000000):Calls ar 68 #[.string x] w fun e w'=>abT x e/\w'=w:=by
 go_enter func68,ntmps68;by_cases h1:x.size<1
 ·have h1I:(x.size:Int)<1:=aa;go_wp2;go_ret;exact⟨⟨⟨false,rfl,by simp[isName];omega⟩⟩,rfl⟩
 ·have h1I:¬(x.size:Int)<1:=aa;by_cases h2:x.size>4
  ·have h2I:(4:Int)<(x.size:Int):=aa;go_wp2;go_ret;exact⟨⟨⟨false,rfl,by simp[isName];omega⟩⟩,rfl⟩
  ·have h2I:¬(4:Int)<(x.size:Int):=aa;go_wp2;go_loop [14] (fun i=>∃k:Nat,k<=x.size/\i=.int .i64 k/\small x k) (fun i=>x.size-(intOf i).toNat)
   case atStart=>exact⟨0,aQ _,rfl,fun j _ hj=>aa⟩
   case round =>
    obtain⟨k,hk,rfl,hs⟩:=hrel;by_cases bZ:k<x.size
    ·by_cases c1:x[k].toNat<97
     ·have c1I:(x[k].toNat:Int)<97:=aa;go_wp2;go_ret;exact⟨⟨⟨false,rfl,⟨(fun e=>by cases e),fun h=>by have:=h.2.2 k bZ bZ;omega⟩⟩⟩,rfl⟩
     ·have c1I:¬(x[k].toNat:Int)<97:=aa;by_cases c2:x[k].toNat>122
      ·have c2I:(122:Int)<(x[k].toNat:Int):=aa;go_wp2;go_ret;exact⟨⟨⟨false,rfl,⟨(fun e=>by cases e),fun h=>by have:=h.2.2 k bZ bZ;omega⟩⟩⟩,rfl⟩
      ·have c2I:¬(122:Int)<(x[k].toNat:Int):=aa;go_wp2
       go_round
       case rel=>exact⟨k+1,aa,by go_num,fun j h hj=>if e:j=k then by subst e;omega else hs j h aa⟩
       case measure=>simp[intOf];omega
    ·go_wp2;go_ret;have e:k=x.size:=aa;subst e;exact⟨⟨⟨true,rfl,by simp only[true_iff];exact⟨aa,aa,hs⟩⟩⟩,rfl⟩
theorem Rp(x:ah)(w:ae):Calls ar 70 #[.string x] w fun e w'=>e=.returned (.bool (decide ((x.size:Int)<=12)))/\w'=w:=by
 go_enter func70,ntmps70;go_wp2;go_ret;exact⟨rfl,rfl⟩
section
variable {Fin:bH} {o:aM} {w:ae}
theorem Rq(hF:bE ar L0 o w)(x:ah)(hx:x.size<=1000000):
  bp ar (XB ar Fin 0) 68 #[.string x] o w fun v o' w'=>∃b,v=.bool b/\(b=true↔isName x)/\fw o w v o' w':=by
 refine bp.mono (dS af hF (fun y hy=>by simp at hy;subst hy;exact bf) (Q:=fun wl v w'=>∃b,v=.bool b/\(b=true↔isName x)) (fun wl Ai v w1 w2 e1 e2 h=>h) (fun wl hz aE=>?_)) (fun v o' w' hq=>?_)
 ·refine(It x wl hx).mono fun e w' hq=>?_;obtain⟨⟨b,rfl,hb⟩,rfl⟩:=hq;exact⟨_,rfl,ag _,fun _ _=>rfl,b,rfl,hb⟩
 ·obtain⟨hN,wl,aI,-,-,-,b,h1,h2⟩:=hq;exact⟨b,h1,h2,hN⟩
theorem Yo(hF:bE ar L0 o w)(x:ah):
  bp ar (XB ar Fin 0) 70 #[.string x] o w fun v o' w'=>v=.bool (decide ((x.size:Int)<=12))/\fw o w v o' w':=by
 refine bp.mono (dS af hF (fun y hy=>by simp at hy;subst hy;exact bf) (Q:=fun wl v w'=>v=.bool (decide ((x.size:Int)<=12))) (fun wl Ai v w1 w2 e1 e2 h=>h) (fun wl hz aE=>?_)) (fun v o' w' hq=>?_)
 ·refine(Rp x wl).mono fun e w' hq=>?_;obtain⟨rfl,rfl⟩:=hq;exact⟨_,rfl,ag _,fun _ _=>rfl,rfl⟩
 ·obtain⟨hN,wl,aI,-,-,-,h1⟩:=hq;exact⟨h1,hN⟩
end
end
def Fv(t:ah):Value:=.agg #[.bool true,.string t]
def B1(n:Int):Value:=.int .i64 n
structure gI(o:aM)(w:ae)(fb mT mS:Nat)(th:List (ah×ah))(st:List (ah×Int)):Prop where
 blk:w.heap[fb]?=some (.cells #[.map (some mT),.map (some mS)] 164)
 tm:mj w mT (qF Fv th)
 sm:mj w mS (qF B1 st)
 own:o fb/\o mT/\o mS
 apart:fb≠mT/\fb≠mS/\mT≠mS
def jE(th:List (ah×ah))(x:ah):V:=match eO th x with
 |some t=>(true,t)
 |none=>V0
def dC(st:List (ah×Int))(x:ah):Int:=(eO st x).getD 0
section
variable {Fin:bH} {o:aM} {w:ae} {fb mT mS:Nat} {th:List (ah×ah)} {st:List (ah×Int)}
theorem gI.keep{o':aM}{w':ae}(h:gI o w fb mT mS th st)(mW:∀b,o b->o' b)(e:∀b,b=fb\/b=mT\/b=mS->w'.heap[b]?=w.heap[b]?):gI o' w' fb mT mS th st :=
 ⟨(e fb (.inl rfl)).trans h.blk,h.tm.of_block (e mT (.inr (.inl rfl))),h.sm.of_block (e mS (.inr (.inr rfl))),⟨mW _ h.own.1,mW _ h.own.2.1,mW _ h.own.2.2⟩,h.apart⟩
theorem Rr(w:ae):(zeroValue 159).run ar w=.ok (.agg #[.bool false,.string aN]) w:=af
theorem Rs(w:ae):(zeroValue 3).run ar w=.ok (.int .i64 0) w:=af
theorem yu(w:ae)(x:ah)(h:mj w mT (qF Fv th)):(Instr.lookup 161 (.map (some mT)) (.string x) false).run ar w=.ok (.agg #[.bool (jE th x).1,.string (jE th x).2]) w:=by
 rw[zh underlying161 underlying9 h (Rr w),Ft];unfold jE;cases eO th x<;>rfl
theorem tU(w:ae)(x:ah)(h:mj w mS (qF B1 st)):(Instr.lookup 162 (.map (some mS)) (.string x) false).run ar w=.ok (.int .i64 (dC st x)) w:=by
 rw[zh underlying162 underlying9 h (Rs w),Ft];unfold dC;cases eO st x<;>rfl
theorem ml{r:Nat}(h:o r):Cl ar L0 o (.map (some r)):=fun f hf=>by simp[val,hf.at_ r h,lR]
theorem We(hF:bE ar L0 o w)(h:gI o w fb mT mS th st)(x:ah):
  bp ar (XB ar Fin 0) 100 #[.pointer (some ⟨fb,0,none⟩),.string x] o w fun v o' w'=>v=.agg #[.bool (jE th x).1,.string (jE th x).2,.int .i64 (dC st x)]/\fw o w v o' w':=by
 have W:=bJ (P:=ar) (Fin:=Fin) (d:=0);refine dJ W func100 ai ?_;walk_nrmf Tryz.f100;refine aA ?_;refine cq aX hF rfl ai ai kp rfl (R:=fun wl v aI=>v=.pointer (some ⟨wl.heap.size,0,none⟩)/\aI=wl.alloc (Obj.cells #[.bool false,.string aN,.int .i64 0] 194)) (fun wl aE=>⟨_,_,by simp[go_sem];rfl,rfl,rfl⟩) fun wl v1 aI w1 aE hR ba=>?_;obtain⟨rfl,hR⟩:=hR;obtain⟨z1,k1,qK⟩:=ba.alloc hF aE hR;have mw:=ba.ay;rw[aE.size];clear hR ba aE wl aI;walk_nrm;have hfb:=hF.lt h.own.1;have h1:gI (grow o w w1) w1 fb mT mS th st:=h.keep iK fun b hb=>by
  rcases hb with rfl|rfl|rfl
  ·exact k1 _ hfb
  ·exact k1 _ (hF.lt h.own.2.1)
  ·exact k1 _ (hF.lt h.own.2.2)
 have hA:grow o w w1 w.heap.size:=.inr ⟨ag _,aa⟩;obtain⟨c0,c1,-⟩:=bT h1.blk;obtain⟨o1,EL⟩:∃x,x=grow o w w1:=⟨_,rfl⟩;rw[<- EL] at h1 hA mw |-;generalize Ou:jE th x=sv;obtain⟨sb,stx⟩:=sv;generalize hss:dC st x=ss;refine aA ?_;refine dq mixed af [some none,some none,some none,some (some (.map (some mT))),some none,some (some (.agg #[.bool sb,.string stx])),some none,some none,some none,some (some (.map (some mS))),some none,some (some (.int .i64 ss)),some none,none]
  (S:=fun σ o' w'=>o'=o1/\(σ 13=none->w'=w1)/\∀y,σ 13=some y->bE ar L0 o1 w'/\cN w.heap.size w1 w'/\w'.heap[w.heap.size]?=some (Obj.cells #[.bool sb,.string stx,.int .i64 ss] 194)) ?_ fun v=>?_
 ·exact⟨rfl,fun _=>rfl,fun y hy=>by cases hy⟩
 refine dp ?_;refine bO ?_;refine bK aX rfl rfl rfl ai ai (fun σ o' w' H hS=>?_) ?_
 ·obtain⟨rfl,e1,-⟩:=hS;obtain rfl:=e1 (H.kF [12,5] 13 af);exact⟨mw,cj (aH h1.own.1),gG h1.own.1 c0⟩
 refine bO ?_;refine bK aX rfl rfl rfl ai ai (fun σ o' w' H hS=>?_) ?_
 ·obtain⟨rfl,e1,-⟩:=hS;obtain rfl:=e1 (H.kF [12] 13 af);refine⟨mw,fun y hy=>?_,fun wl aE=>?_⟩
  ·simp[Op.operands] at hy;rcases hy with rfl|rfl
   ·simp[Act.eval];exact ml h1.own.2.1
   ·simp[Act.eval];exact bf
  ·have:=yu wl x (h1.tm.of_block (aE.heap _ h1.own.2.1));rw[Ou] at this;simp[go_sem,this]
 refine bO ?_;refine bK aX rfl rfl rfl ai ai (fun σ o' w' H hS=>?_) ?_
 ·obtain⟨rfl,e1,-⟩:=hS;obtain rfl:=e1 (H.kF [12,11] 13 af);exact⟨mw,cj (aH h1.own.1),gG h1.own.1 c1⟩
 refine bO ?_;refine bK aX rfl rfl rfl ai ai (fun σ o' w' H hS=>?_) ?_
 ·obtain⟨rfl,e1,-⟩:=hS;obtain rfl:=e1 (H.kF [12] 13 af);refine⟨mw,fun y hy=>?_,fun wl aE=>?_⟩
  ·simp[Op.operands] at hy;rcases hy with rfl|rfl
   ·simp[Act.eval];exact ml h1.own.2.2
   ·simp[Act.eval];exact bf
  ·have:=tU wl x (h1.sm.of_block (aE.heap _ h1.own.2.2));rw[hss] at this;simp[go_sem,this]
 refine bO ?_;refine jg aX rfl rfl rfl ai ai (fun σ o' w' H zK hS=>?_) ?_
 ·obtain⟨rfl,e1,-⟩:=hS;obtain rfl:=e1 zK;refine⟨mw,fun y hy=>?_,fun wl aI=>aI=((wl.setCell ⟨w.heap.size,0,none⟩ (.bool sb)).setCell ⟨w.heap.size,1,none⟩ (.string stx)).setCell ⟨w.heap.size,2,none⟩ (.int .i64 ss),fun wl aE=>⟨_,?_,rfl⟩,fun wl aI w2 aE hR ba=>?_⟩
  ·simp[Op.operands] at hy;rcases hy with rfl|rfl
   ·simp[Act.eval];exact aH hA
   ·simp[Act.eval];exact cJ (vs:=[_,_,_]) (fun x hx=>by
     simp at hx;rcases hx with rfl|rfl|rfl
     ·exact kn
     ·exact bf
     ·exact bN)
  ·obtain⟨e0,e1,e2,f0,f1,f2⟩:=eE ((aE.heap _ hA).trans qK);simp[go_sem,e0,e1,e2,f0,f1,f2]
  ·have hO:cN w.heap.size wl aI:=by rw[hR];exact uR _ _ _ _ _ _ _ _
   obtain⟨on,kb,eg⟩:=ba.only aE hA hO;have rh:=ba.ay;rw[eg] at rh |-;refine⟨rfl,fun h=>by simp[dB] at h,fun y _=>⟨rh,on,?_⟩⟩;rw[kb,hR,KL ((aE.heap _ hA).trans qK)]
 walk_nrm;refine cd fun σ o' w' kP hS=>?_;obtain⟨rfl,-,e2⟩:=hS;obtain⟨rh,on,kb⟩:=e2 _ (kP 13 dh rfl);simp only[gN,cZ,if_true,if_false,reduceIte,Nat.reduceEqDiff];refine aA ?_;have c9:∀n,(w'.at n).cell? ⟨w.heap.size,0,none⟩=some (.bool sb)/\(w'.at n).cell? ⟨w.heap.size,1,none⟩=some (.string stx)/\(w'.at n).cell? ⟨w.heap.size,2,none⟩=some (.int .i64 ss):=fun n=>⟨(eE kb).1,(eE kb).2.1,(eE kb).2.2.1⟩;refine⟨.inr trivial,trivial,.agg #[.bool sb,.string stx,.int .i64 ss],p7 (fun n=>?_) (fun n e he=>?_),rfl,?_,rh,by rw[on.1];omega,fun b hb=>?_,?_⟩
 ·obtain⟨c0,c1,c2⟩:=c9 n;simp[results,results100,go_sem,c0,c1,c2]
 ·obtain⟨c0,c1,c2⟩:=c9 n;simp[results,results100,go_sem,c0,c1,c2] at he;rcases he with rfl|rfl|rfl;all_goals exact⟨_,_,_,rfl,hA⟩
 ·rw[EL];exact Fi on.1.symm
 ·rw[on.2 b aa];exact k1 b hb
 ·exact cJ (vs:=[_,_,_]) (fun x hx=>by
   simp at hx;rcases hx with rfl|rfl|rfl
   ·exact kn
   ·exact bf
   ·exact bN)
theorem lP(w:ae)(r:Nat)(X:Obj):cN r w (pB w r X):=⟨by simp[pB],fun c hc=>by simp[pB,Ne.symm hc]⟩
theorem bu.db{r:Nat}{ex:Nat->Prop}{w':ae}(hF:bE ar L0 o w')(h:cN r w w')(hr:ex r):bu ex o w o w':=⟨hF,fun _ h=>h,fun _ h=>.inl h,bq h.1.symm,fun b _ hb=>h.2 b fun e=>hb (e▸hr)⟩
theorem yv(b:Bool)(t:ah)(w:ae):(Instr.field 159 (.agg #[.bool b,.string t]) 0).events ar w #[]=#[]:=af
theorem UJ(hF:bE ar L0 o w)(h:gI o w fb mT mS th st)(x t:ah)(hx:x.size<=1000000)(hth:th.length<=100000):
  bp ar (XB ar Fin 0) 47 #[.pointer (some ⟨fb,0,none⟩),.string x,.string t] o w fun v o' w'=>bu (fun b=>b=mT\/b=mS) o w o' w'/\((v=.int .i64 2/\¬isName x/\gI o' w' fb mT mS th st)\/(v=.int .i64 6/\isName x/\12<t.size/\gI o' w' fb mT mS th st)\/(v=.int .i64 1/\isName x/\t.size<=12/\eO th x=none/\12<=th.length/\gI o' w' fb mT mS th st) \/
   (v=.int .i64 0/\isName x/\t.size<=12/\¬(eO th x=none/\12<=th.length)/\gI o' w' fb mT mS (gU th x t) (gU st x (IntKind.i64.wrap (dC st x+1))))):=by
 have W:=bJ (P:=ar) (Fin:=Fin) (d:=0);refine bA W func47 ai ?_;walk_nrmf Tryz.f47;refine aA ?_;refine aF W rfl ai rfl func68 af rfl aC rfl ((Rq hF x hx).mono ?_);rintro v1 o1 w1 ⟨b1,rfl,Ag,N1⟩;have W1:bu (fun b=>b=mT\/b=mS) o w o1 w1:=bu.dL N1;have lt3:∀b,b=fb\/b=mT\/b=mS->b<w.heap.size:=fun b hb=>by
  rcases hb with rfl|rfl|rfl
  ·exact hF.lt h.own.1
  ·exact hF.lt h.own.2.1
  ·exact hF.lt h.own.2.2
 have h1:=h.keep W1.more fun b hb=>N1.old b (lt3 b hb);cases b1 with
 |false =>
  have hn:¬isName x:=fun q=>by have:=Ag.2 q;cases this
  refine aA ?_;exact⟨.inr trivial,trivial,_,resultsC_tmp (t:=6) ai _,W1,.inl ⟨aC,hn,h1⟩⟩
 |true =>
  have hn:isName x:=Ag.1 rfl;refine aA ?_;refine aF W rfl ai rfl func70 af rfl aC rfl ((Yo N1.ay t).mono ?_);rintro v2 o2 w2 ⟨rfl,N2⟩;have W2:=W1.trans (bu.dL (ex:=fun b=>b=mT\/b=mS) N2);have h2:=h1.keep (bu.dL (ex:=fun _=>False) N2).more fun b hb=>N2.old b (by have:=lt3 b hb;have:=N1.size;omega);by_cases ht:t.size<=12
  ·have htI:(t.size:Int)<=12:=aa;rw[dv htI];refine aA ?_;obtain⟨c0,c1,-⟩:=bT h2.blk;refine aP aX N2.ay rfl ai ai ?_ rfl (v:=.map (some mT)) (gG h2.own.1 c0) fun _=>?_
   ·exact cj (aH h2.own.1)
   refine aA ?_;refine aP aX N2.ay rfl ai ai ?_ rfl (v:=.agg #[.bool (jE th x).1,.string (jE th x).2]) (fun wl aE=>by simp[go_sem,yu wl x (h2.tm.of_block (aE.heap _ h2.own.2.1))]) fun _=>?_
   ·exact dU (ml h2.own.2.1) bf
   walk_nrm;cases hg:eO th x with
   |some t0 =>
    have Ou:jE th x=(true,t0):=by simp[jE,hg]
    rw[Ou];have evf:=yv;refine aA ?_;refine aP aX N2.ay rfl ai ai ?_ rfl (v:=.map (some mT)) (gG h2.own.1 c0) fun _=>?_
    ·exact cj (aH h2.own.1)
    refine aA ?_;refine bD aX N2.ay rfl ai ai ?_ rfl (R:=fun wl aI=>cN mT wl aI/\mj aI mT (qF Fv (gU th x t))) (fun wl aE=>?_) fun wl aI w3 aE hR ba=>?_
    ·intro y hy;simp[Op.operands] at hy;rcases hy with rfl|rfl|rfl
     ·simp[Act.eval];exact ml h2.own.2.1
     ·simp[Act.eval];exact bf
     ·simp[Act.eval];exact cJ (vs:=[_,_]) (fun x hx=>by
       simp at hx;rcases hx with rfl|rfl
       ·exact kn
       ·exact bf)
    ·obtain⟨X,e1,e2⟩:=nI (P:=ar) (x:=x) underlying161 underlying9 (h2.tm.of_block (aE.heap _ h2.own.2.1)) (Fv t);rw[tT] at e2;unfold Fv at e1;exact⟨_,by simp[go_sem,e1],lP _ _ _,e2⟩
    obtain⟨Iu,vz,e3⟩:=ba.only aE h2.own.2.1 hR.1;have tm3:=hR.2.of_block vz;have qu:=ba.ay;rw[e3] at qu |-;clear hR ba aE vz wl aI e3;have Cp:=(cell_of (a:=⟨fb,1,none⟩) (Iu.2 fb h2.apart.1)).trans c1;refine aA ?_;refine aP aX qu rfl ai ai ?_ rfl (v:=.map (some mS)) (gG h2.own.1 Cp) fun _=>?_
    ·exact cj (aH h2.own.1)
    refine aA ?_;have Wf:=h2.sm.of_block (Iu.2 mS (fun e=>h2.apart.2.2 e.symm));refine aP aX qu rfl ai ai ?_ rfl (v:=.int .i64 (dC st x)) (fun wl aE=>by simp[go_sem,tU wl x (Wf.of_block (aE.heap _ h2.own.2.2))]) fun _=>?_
    ·exact dU (ml h2.own.2.2) bf
    refine aA ?_;refine bD aX qu rfl ai ai ?_ rfl (R:=fun wl aI=>cN mS wl aI/\mj aI mS (qF B1 (gU st x (IntKind.i64.wrap (dC st x+1))))) (fun wl aE=>?_) fun wl aI w4 aE hR ba=>?_
    ·intro y hy;simp[Op.operands] at hy;rcases hy with rfl|rfl|rfl
     ·simp[Act.eval];exact ml h2.own.2.2
     ·simp[Act.eval];exact bf
     ·simp[Act.eval];exact bN
    ·obtain⟨X,e1,e2⟩:=nI (P:=ar) (x:=x) underlying162 underlying9 (Wf.of_block (aE.heap _ h2.own.2.2)) (B1 (IntKind.i64.wrap (dC st x+1)));rw[tT] at e2;unfold B1 at e1;exact⟨_,by simp[go_sem,e1],lP _ _ _,e2⟩
    obtain⟨FV,si,e4⟩:=ba.only aE h2.own.2.2 hR.1;have sm4:=hR.2.of_block si;have D9:=ba.ay;rw[e4] at D9 |-;clear hR ba aE si wl aI e4;refine aA ?_;have W4:=(W2.trans (bu.db qu Iu (.inl rfl))).trans (bu.db D9 FV (.inr rfl));refine⟨.inr trivial,trivial,_,resultsC_tmp (t:=6) ai _,W4,.inr (.inr (.inr ⟨aC,hn,ht,(fun q=>by cases q.1),?_⟩))⟩;exact⟨(FV.2 fb h2.apart.2.1).trans ((Iu.2 fb h2.apart.1).trans h2.blk),tm3.of_block (FV.2 mT h2.apart.2.2),sm4,h2.own,h2.apart⟩
   |none =>
    have Ou:jE th x=(false,aN):=by simp[jE,hg,V0]
    rw[Ou];have evf:=yv;refine aA ?_;refine aP aX N2.ay rfl ai ai ?_ rfl (v:=.map (some mT)) (gG h2.own.1 c0) fun _=>?_
    ·exact cj (aH h2.own.1)
    refine aA ?_;refine aP aX N2.ay rfl ai ai ?_ rfl (v:=.int .i64 th.length) (fun wl aE=>?_) fun _=>?_
    ·intro y hy;simp[Op.operands,Call.operands] at hy;subst hy;simp[Act.eval];exact ml h2.own.2.1
    ·obtain⟨es,cl,q1,q2⟩:=UF (h2.tm.of_block (aE.heap _ h2.own.2.1));have:=run_len_map (P:=ar) wl 161 3 mT es cl af q1;simp[go_sem,this,q2,UG,goInt]
    walk_nrm;by_cases oa:12<=th.length
    ·have af5:(12:Int)<=(th.length:Int):=aa;refine aA ?_;exact⟨.inr trivial,trivial,_,resultsC_tmp (t:=6) ai _,W2,.inr (.inr (.inl ⟨aC,hn,ht,trivial,oa,h2⟩))⟩
    have af5:¬(12:Int)<=(th.length:Int):=aa;refine aA ?_;refine aP aX N2.ay rfl ai ai ?_ rfl (v:=.map (some mT)) (gG h2.own.1 c0) fun _=>?_
    ·exact cj (aH h2.own.1)
    refine aA ?_;refine bD aX N2.ay rfl ai ai ?_ rfl (R:=fun wl aI=>cN mT wl aI/\mj aI mT (qF Fv (gU th x t))) (fun wl aE=>?_) fun wl aI w3 aE hR ba=>?_
    ·intro y hy;simp[Op.operands] at hy;rcases hy with rfl|rfl|rfl
     ·simp[Act.eval];exact ml h2.own.2.1
     ·simp[Act.eval];exact bf
     ·simp[Act.eval];exact cJ (vs:=[_,_]) (fun x hx=>by
       simp at hx;rcases hx with rfl|rfl
       ·exact kn
       ·exact bf)
    ·obtain⟨X,e1,e2⟩:=nI (P:=ar) (x:=x) underlying161 underlying9 (h2.tm.of_block (aE.heap _ h2.own.2.1)) (Fv t);rw[tT] at e2;unfold Fv at e1;exact⟨_,by simp[go_sem,e1],lP _ _ _,e2⟩
    obtain⟨Iu,vz,e3⟩:=ba.only aE h2.own.2.1 hR.1;have tm3:=hR.2.of_block vz;have qu:=ba.ay;rw[e3] at qu |-;clear hR ba aE vz wl aI e3;have Cp:=(cell_of (a:=⟨fb,1,none⟩) (Iu.2 fb h2.apart.1)).trans c1;refine aA ?_;refine aP aX qu rfl ai ai ?_ rfl (v:=.map (some mS)) (gG h2.own.1 Cp) fun _=>?_
    ·exact cj (aH h2.own.1)
    refine aA ?_;have Wf:=h2.sm.of_block (Iu.2 mS (fun e=>h2.apart.2.2 e.symm));refine aP aX qu rfl ai ai ?_ rfl (v:=.int .i64 (dC st x)) (fun wl aE=>by simp[go_sem,tU wl x (Wf.of_block (aE.heap _ h2.own.2.2))]) fun _=>?_
    ·exact dU (ml h2.own.2.2) bf
    refine aA ?_;refine bD aX qu rfl ai ai ?_ rfl (R:=fun wl aI=>cN mS wl aI/\mj aI mS (qF B1 (gU st x (IntKind.i64.wrap (dC st x+1))))) (fun wl aE=>?_) fun wl aI w4 aE hR ba=>?_
    ·intro y hy;simp[Op.operands] at hy;rcases hy with rfl|rfl|rfl
     ·simp[Act.eval];exact ml h2.own.2.2
     ·simp[Act.eval];exact bf
     ·simp[Act.eval];exact bN
    ·obtain⟨X,e1,e2⟩:=nI (P:=ar) (x:=x) underlying162 underlying9 (Wf.of_block (aE.heap _ h2.own.2.2)) (B1 (IntKind.i64.wrap (dC st x+1)));rw[tT] at e2;unfold B1 at e1;exact⟨_,by simp[go_sem,e1],lP _ _ _,e2⟩
    obtain⟨FV,si,e4⟩:=ba.only aE h2.own.2.2 hR.1;have sm4:=hR.2.of_block si;have D9:=ba.ay;rw[e4] at D9 |-;clear hR ba aE si wl aI e4;refine aA ?_;have W4:=(W2.trans (bu.db qu Iu (.inl rfl))).trans (bu.db D9 FV (.inr rfl));refine⟨.inr trivial,trivial,_,resultsC_tmp (t:=6) ai _,W4,.inr (.inr (.inr ⟨aC,hn,ht,fun q=>oa q.2,?_⟩))⟩;exact⟨(FV.2 fb h2.apart.2.1).trans ((Iu.2 fb h2.apart.1).trans h2.blk),tm3.of_block (FV.2 mT h2.apart.2.2),sm4,h2.own,h2.apart⟩
  ·have htI:¬(t.size:Int)<=12:=aa;rw[ee htI];refine aA ?_;exact⟨.inr trivial,trivial,_,resultsC_tmp (t:=6) ai _,W2,.inr (.inl ⟨aC,hn,aa,h2⟩)⟩
theorem Ov(hF:bE ar L0 o w)(h:gI o w fb mT mS th st)(x:ah)(hx:x.size<=1000000)(hth:th.length<=100000):
  bp ar (XB ar Fin 0) 62 #[.pointer (some ⟨fb,0,none⟩),.string x] o w fun v o' w'=>bu (fun b=>b=mT\/b=mS) o w o' w'/\((v=.int .i64 2/\¬isName x/\gI o' w' fb mT mS th st)\/(v=.int .i64 7/\isName x/\eO th x=none/\gI o' w' fb mT mS th st) \/
   (v=.int .i64 0/\isName x/\eO th x≠none/\gI o' w' fb mT mS (lI th x) (gU st x (IntKind.i64.wrap (dC st x+1))))):=by
 have W:=bJ (P:=ar) (Fin:=Fin) (d:=0);refine bA W func62 ai ?_;walk_nrmf Tryz.f62;refine aA ?_;refine aF W rfl ai rfl func68 af rfl aC rfl ((Rq hF x hx).mono ?_);rintro v1 o1 w1 ⟨b1,rfl,Ag,N1⟩;have W1:bu (fun b=>b=mT\/b=mS) o w o1 w1:=bu.dL N1;have lt3:∀b,b=fb\/b=mT\/b=mS->b<w.heap.size:=fun b hb=>by
  rcases hb with rfl|rfl|rfl
  ·exact hF.lt h.own.1
  ·exact hF.lt h.own.2.1
  ·exact hF.lt h.own.2.2
 have h1:=h.keep W1.more fun b hb=>N1.old b (lt3 b hb);cases b1 with
 |false =>
  have hn:¬isName x:=fun q=>by have:=Ag.2 q;cases this
  refine aA ?_;exact⟨.inr trivial,trivial,_,resultsC_tmp (t:=4) ai _,W1,.inl ⟨aC,hn,h1⟩⟩
 |true =>
  have hn:isName x:=Ag.1 rfl;refine aA ?_;obtain⟨c0,c1,-⟩:=bT h1.blk;refine aP aX N1.ay rfl ai ai ?_ rfl (v:=.map (some mT)) (gG h1.own.1 c0) fun _=>?_
  ·exact cj (aH h1.own.1)
  refine aA ?_;refine aP aX N1.ay rfl ai ai ?_ rfl (v:=.agg #[.bool (jE th x).1,.string (jE th x).2]) (fun wl aE=>by simp[go_sem,yu wl x (h1.tm.of_block (aE.heap _ h1.own.2.1))]) fun _=>?_
  ·exact dU (ml h1.own.2.1) bf
  walk_nrm;have evf:=yv;cases hg:eO th x with
  |none =>
    have Ou:jE th x=(false,aN):=by simp[jE,hg,V0]
    rw[Ou];refine aA ?_;exact⟨.inr trivial,trivial,_,resultsC_tmp (t:=4) ai _,W1,.inr (.inl ⟨aC,hn,an,h1⟩)⟩
  |some t0 =>
    have Ou:jE th x=(true,t0):=by simp[jE,hg]
    rw[Ou];refine aA ?_;refine aP aX N1.ay rfl ai ai ?_ rfl (v:=.map (some mT)) (gG h1.own.1 c0) fun _=>?_
    ·exact cj (aH h1.own.1)
    refine aA ?_;refine cq aX N1.ay rfl ai ai ?_ rfl (R:=fun wl v aI=>v=.tuple #[]/\cN mT wl aI/\mj aI mT (qF Fv (lI th x))) (fun wl aE=>?_) fun wl v3 aI w3 aE hR ba=>?_
    ·intro y hy;simp[Op.operands,Call.operands] at hy;rcases hy with rfl|rfl
     ·simp[Act.eval];exact ml h1.own.2.1
     ·simp[Act.eval];exact bf
    ·obtain⟨X,e1,e2⟩:=Iq (P:=ar) (x:=x) underlying161 underlying9 (h1.tm.of_block (aE.heap _ h1.own.2.1)) 0;rw[Mf] at e2;exact⟨_,_,by simp[go_sem,e1],rfl,lP _ _ _,e2⟩
    obtain⟨rfl,hR⟩:=hR;obtain⟨Iu,vz,e3⟩:=ba.only aE h1.own.2.1 hR.1;have tm3:=hR.2.of_block vz;have qu:=ba.ay;rw[e3] at qu |-;clear hR ba aE vz wl aI e3;have Cp:=(cell_of (a:=⟨fb,1,none⟩) (Iu.2 fb h1.apart.1)).trans c1;refine aA ?_;refine aP aX qu rfl ai ai ?_ rfl (v:=.map (some mS)) (gG h1.own.1 Cp) fun _=>?_
    ·exact cj (aH h1.own.1)
    refine aA ?_;have Wf:=h1.sm.of_block (Iu.2 mS (fun e=>h1.apart.2.2 e.symm));refine aP aX qu rfl ai ai ?_ rfl (v:=.int .i64 (dC st x)) (fun wl aE=>by simp[go_sem,tU wl x (Wf.of_block (aE.heap _ h1.own.2.2))]) fun _=>?_
    ·exact dU (ml h1.own.2.2) bf
    refine aA ?_;refine bD aX qu rfl ai ai ?_ rfl (R:=fun wl aI=>cN mS wl aI/\mj aI mS (qF B1 (gU st x (IntKind.i64.wrap (dC st x+1))))) (fun wl aE=>?_) fun wl aI w4 aE hR ba=>?_
    ·intro y hy;simp[Op.operands] at hy;rcases hy with rfl|rfl|rfl
     ·simp[Act.eval];exact ml h1.own.2.2
     ·simp[Act.eval];exact bf
     ·simp[Act.eval];exact bN
    ·obtain⟨X,e1,e2⟩:=nI (P:=ar) (x:=x) underlying162 underlying9 (Wf.of_block (aE.heap _ h1.own.2.2)) (B1 (IntKind.i64.wrap (dC st x+1)));rw[tT] at e2;unfold B1 at e1;exact⟨_,by simp[go_sem,e1],lP _ _ _,e2⟩
    obtain⟨FV,si,e4⟩:=ba.only aE h1.own.2.2 hR.1;have sm4:=hR.2.of_block si;have D9:=ba.ay;rw[e4] at D9 |-;clear hR ba aE si wl aI e4;refine aA ?_;have W4:=(W1.trans (bu.db qu Iu (.inl rfl))).trans (bu.db D9 FV (.inr rfl));refine⟨.inr trivial,trivial,_,resultsC_tmp (t:=4) ai _,W4,.inr (.inr ⟨aC,hn,an,?_⟩)⟩;exact⟨(FV.2 fb h1.apart.2.1).trans ((Iu.2 fb h1.apart.1).trans h1.blk),tm3.of_block (FV.2 mT h1.apart.2.2),sm4,h1.own,h1.apart⟩
end
structure sj where
 B:zf
 kb:Nat
 fb:Nat
 mT:Nat
 mS:Nat
structure kT where
 fd:Option (Nat×dm)
 old:Nat->Option (Nat×List V)
 th:List (ah×ah)
 st:List (ah×Int)
 qv:Value
 qn:List ah
 lost:Bool
 time:Nat
 phase:Nat
 since:Nat
 sv:Value
 src:List ah
 rv:Value
 rd:List (V×Int)
 ck:Nat
 pb:Nat
 num:Int
 kW:Value
 res:List (ah×V)
 mz:Value
 ku:List ah
def qG(K:sj)(s:kT)(lk:Int):Nat->Value
 |0=>.int .i32 lk
 |1=>.int .u32 0
 |2=>.pointer (some ⟨K.B.bb,0,none⟩)
 |3=>.pointer (some ⟨K.fb,0,none⟩)
 |4=>s.qv
 |5=>.bool s.lost
 |6=>.int .i64 s.time
 |7=>.int .i64 s.phase
 |8=>.int .i64 s.since
 |9=>s.sv
 |10=>s.rv
 |11=>.int .i64 s.ck
 |_=>.pointer (some ⟨s.pb,0,none⟩)
theorem mm{j:Nat}(h:j<13):j=0\/j=1\/j=2\/j=3\/j=4\/j=5\/j=6\/j=7\/j=8\/j=9\/j=10\/j=11\/j=12:=aa
structure Mh(o:aM)(w:ae)(v:Value)(ts:List ah):Prop where
 row:∃p b c,v=.slice p ts.length c/\(p=none->ts=[])/\(ts≠[]->p=some ⟨b,0,none⟩/\o b)/\dP w b 0 ts
 cl:Cl ar L0 o v
 gT:ts.length<=1000
def ef(ss:List (V×Int)):List Value:=(ss.map fun s=>[Value.bool s.1.1,.string s.1.2,.int .i64 s.2]).flatten
structure Jk(o:aM)(w:ae)(v:Value)(ss:List (V×Int)):Prop where
 row:∃lo,lo<=w.heap.size/\w.ownsRow lo 194 3 v ss.length (ef ss)
 cl:Cl ar L0 o v
 gT:ss.length<=1000
def zi(w:ae)(b:Nat)(rs:List (ah×V)):Prop:=∀i (h:i<rs.length),w.cell? ⟨b,i*3,none⟩=some (.string rs[i].1)/\w.cell? ⟨b,i*3+1,none⟩=some (.string rs[i].2.2)/\w.cell? ⟨b,i*3+2,none⟩=some (.bool (!rs[i].2.1))
structure B4(o:aM)(w:ae)(s:kT):Prop where
 blk:w.heap[s.pb]?=some (.cells #[.int .i64 s.num,s.kW,s.mz] 59)
 own:o s.pb
 res:∃p b c,s.kW=.slice p s.res.length c/\(p=none->s.res=[])/\(s.res≠[]->p=some ⟨b,0,none⟩/\o b)/\zi w b s.res
 cl:Cl ar L0 o s.kW
 gT:s.res.length<=1000
 ku:Mh o w s.mz s.ku
section
variable {Fin:bH} {o o':aM} {w w':ae}
theorem Mh.keep{v:Value}{ts:List ah}(h:Mh o w v ts)(mW:∀b,o b->o' b)(e:∀g,v.ownBlock=some g->w'.heap[g]?=w.heap[g]?):Mh o' w' v ts:=by
 obtain⟨p,b,c,h1,h2,h3,h4⟩:=h.row;refine⟨⟨p,b,c,h1,h2,fun hn=>⟨(h3 hn).1,mW _ (h3 hn).2⟩,fun k hk=>?_⟩,h.cl.up mW,h.gT⟩;have hn:ts≠[]:=fun q=>by rw[q] at hk;simp at hk
 exact cI h4 (e b (by rw[h1,(h3 hn).1];rfl)) k hk
theorem Jk.keep{v:Value}{ss:List (V×Int)}(h:Jk o w v ss)(mW:∀b,o b->o' b)(hz:w.heap.size<=w'.heap.size)(e:∀g,v.ownBlock=some g->w'.heap[g]?=w.heap[g]?):Jk o' w' v ss:=by
 obtain⟨lo,uL,b6⟩:=h.row;exact⟨⟨lo,aa,cQ b6 fun g hg _=>e g hg.symm⟩,h.cl.up mW,h.gT⟩
def xk(s:kT)(b:Nat):Prop:=b=s.pb\/s.kW.ownBlock=some b\/s.mz.ownBlock=some b
theorem B4.keep{s:kT}(h:B4 o w s)(mW:∀b,o b->o' b)(e:∀b,xk s b->w'.heap[b]?=w.heap[b]?):B4 o' w' s:=by
 obtain⟨p,b,c,h1,h2,h3,h4⟩:=h.res;refine⟨(e _ (.inl rfl)).trans h.blk,mW _ h.own,⟨p,b,c,h1,h2,fun hn=>⟨(h3 hn).1,mW _ (h3 hn).2⟩,fun k hk=>?_⟩,h.cl.up mW,h.gT,h.ku.keep mW fun g hg=>e g (.inr (.inr hg))⟩;have hn:s.res≠[]:=fun q=>by rw[q] at hk;simp at hk
 have eb:=e b (.inr (.inl (by rw[h1,(h3 hn).1];rfl)));exact⟨(cell_of eb).trans (h4 k hk).1,(cell_of eb).trans (h4 k hk).2.1,(cell_of eb).trans (h4 k hk).2.2⟩
def KY(b:Nat):Nat:=if b=1 then 8 else 1
structure bg(o:aM)(w:ae)(K:sj)(s:kT)(lk:Int)(lab:Nat->Nat):Prop where
 ay:bE ar L0 o w
 row:w.rowIs K.kb 120 13 (qG K s lk)
 own:o K.kb
 build:fq o w K.B s.fd s.old
 files:gI o w K.fb K.mT K.mS s.th s.st
 queue:Ot o w s.qv s.qn
 ju:Mh o w s.sv s.src
 reads:Jk o w s.rv s.rd
 set:B4 o w s
 l0:lab K.kb=0
 l1:∀b,mB K.B s.fd s.old b->lab b=KY b
 l2:∀b,b=K.fb\/b=K.mT\/b=K.mS->lab b=2
 l3:∀b,s.qv.ownBlock=some b->lab b=3
 l4:∀b,s.sv.ownBlock=some b->lab b=4
 l5:∀b,s.rv.ownBlock=some b->lab b=5
 l6:∀b,xk s b->lab b=6
 gT:s.qn.length<=4/\s.th.length<=12/\s.time<=100000/\s.since<=s.time/\s.ck<=s.src.length/\s.rd.length<=s.src.length
theorem fO{v:Value}(hF:bE ar L0 o w)(h:Cl ar L0 o v):∀b,v.ownBlock=some b->o b:=fun b hb=>aO fun hg=>by
 cases v<;>first|(cases hb;done)|skip
 rename_i p l c;cases p with
 |none=>cases hb
 |some a =>
  have e:a.block=b:=aK hb;subst e;obtain⟨f,hf,cV⟩:=Ir hF hg;have:=h f hf;simp only[val,Option.map_some,addr,Value.slice.injEq,Option.some.injEq] at this;exact cV (congrArg Addr.block this.1)
theorem bg.all{K:sj}{s:kT}{lk:Int}{lab:Nat->Nat}(h:bg o w K s lk lab):(∀b,s.qv.ownBlock=some b->o b)/\(∀b,s.sv.ownBlock=some b->o b)/\(∀b,s.rv.ownBlock=some b->o b)/\∀b,xk s b->o b:=by
 refine⟨fO h.ay h.queue.cl,fO h.ay h.ju.cl,fO h.ay h.reads.cl,fun b hb=>?_⟩;rcases hb with rfl|hb|hb
 ·exact h.set.own
 ·exact fO h.ay h.set.cl b hb
 ·exact fO h.ay h.set.ku.cl b hb
structure Yp(o:aM)(w:ae)(K:sj)(s:kT):Prop where
 build:fq o w K.B s.fd s.old
 files:gI o w K.fb K.mT K.mS s.th s.st
 queue:Ot o w s.qv s.qn
 ju:Mh o w s.sv s.src
 reads:Jk o w s.rv s.rd
 set:B4 o w s
theorem bg.other{K:sj}{s:kT}{lk:Int}{lab:Nat->Nat}(h:bg o w K s lk lab){ex:Nat->Prop}(hW:bu ex o w o' w')(hx:∀b,ex b->lab b=0):Yp o' w' K s:=by
 have ne:∀b n,lab b=n->n≠0->¬ex b:=fun b n hb hn he=>hn (by rw[<- hb];exact hx b he);obtain⟨a1,a2,a3,a4⟩:=h.all;have sm:∀b n,o b->lab b=n->n≠0->w'.heap[b]?=w.heap[b]?:=fun b n hb hl hn=>hW.same b (h.ay.lt hb) (ne b n hl hn);refine⟨h.build.keep hW.more hW.size fun b hb=>sm b (KY b) (h.build.own b hb) (h.l1 b hb) (by unfold KY;split<;>omega),h.files.keep hW.more fun b hb=>sm b 2 ?_ (h.l2 b hb) aa,h.queue.keep hW.more hW.size fun g hg=>sm g 3 (a1 g hg) (h.l3 g hg) aa,h.ju.keep hW.more fun g hg=>sm g 4 (a2 g hg) (h.l4 g hg) aa,h.reads.keep hW.more hW.size fun g hg=>sm g 5 (a3 g hg) (h.l5 g hg) aa,h.set.keep hW.more fun b hb=>sm b 6 (a4 b hb) (h.l6 b hb) aa⟩;rcases hb with rfl|rfl|rfl
 ·exact h.files.own.1
 ·exact h.files.own.2.1
 ·exact h.files.own.2.2
theorem bg.put{K:sj}{s s':kT}{lk lk':Int}{lab:Nat->Nat}(h:bg o w K s lk lab)(hF:bE ar L0 o w')(hO:cN K.kb w w')(hr:w'.rowIs K.kb 120 13 (qG K s' lk'))(he:(s'.fd,s'.old,s'.th,s'.st,s'.qv,s'.qn)=(s.fd,s.old,s.th,s.st,s.qv,s.qn))(he2:(s'.sv,s'.src,s'.rv,s'.rd,s'.pb,s'.num,s'.kW,s'.res,s'.mz,s'.ku)=(s.sv,s.src,s.rv,s.rd,s.pb,s.num,s.kW,s.res,s.mz,s.ku))(E6:s'.time<=100000/\s'.since<=s'.time/\s'.ck<=s.src.length):bg o w' K s' lk' lab:=by
 have hW:bu (·=K.kb) o w o w':=bu.db hF hO rfl;obtain⟨q1,q2,q3,q4,q5,q6⟩:=h.other hW (fun b hb=>by rw[hb];exact h.l0);simp only[Prod.mk.injEq] at he he2;obtain⟨e1,e2,e3,e4,e5,e6⟩:=he;obtain⟨f1,f2,f3,f4,f5,f6,f7,f8,f9,f10⟩:=he2;refine⟨hF,hr,h.own,by rw[e1,e2];exact q1,by rw[e3,e4];exact q2,by rw[e5,e6];exact q3,by rw[f1,f2];exact q4,by rw[f3,f4];exact q5,⟨by rw[f5,f6,f7,f9];exact q6.blk,by rw[f5];exact q6.own,by rw[f7,f8];exact q6.res,by rw[f7];exact q6.cl,by rw[f8];exact q6.gT,by rw[f9,f10];exact q6.ku⟩,h.l0,by rw[e1,e2];exact h.l1,h.l2,by rw[e5];exact h.l3,by rw[f1];exact h.l4,by rw[f3];exact h.l5,fun b hb=>h.l6 b (by unfold xk at hb |-;rw[f5,f7,f9] at hb;exact hb),by rw[e6,e3,f2,f4];exact⟨h.gT.1,h.gT.2.1,E6.1,E6.2.1,E6.2.2,h.gT.2.2.2.2.2⟩⟩
theorem bg.lock{K:sj}{s:kT}{lk lk':Int}{lab:Nat->Nat}(h:bg o w K s lk lab):bg o (w.setCell ⟨K.kb,0,none⟩ (.int .i32 lk')) K s lk' lab:=by
 refine h.put (Go.Conc.bE.setCell h.ay bN) (fW _ _ _ _) ((h.row.set 0 _).congr fun j hj=>?_) rfl rfl ⟨h.gT.2.2.1,h.gT.2.2.2.1,h.gT.2.2.2.2.1⟩;rcases mm hj with rfl|rfl|rfl|rfl|rfl|rfl|rfl|rfl|rfl|rfl|rfl|rfl|rfl<;>rfl
end
section
variable {Fin:bH} {o:aM} {w:ae} {K:sj} {s:kT} {lab:Nat->Nat}
theorem bg.unlock{f:FuncId}{Post:Value->aM->ae->Prop}(h:bg o w K s 1 lab)(tm:Array Value)(hl:∀w',bg o w' K s 0 lab->w'.heap.size=w.heap.size->(∀b,b≠K.kb->w'.heap[b]?=w.heap[b]?)->jf (XB ar Fin 0) f Post ⟨tm,[]⟩ o w'):
  jf (XB ar Fin 0) f Post ⟨tm,[{target:=.fn (.func 46) #[],args:=#[.pointer (some ⟨K.kb,0,none⟩)]}]⟩ o w :=
 uU K.kb 0 h.own (by rw[h.row.cell aa];rfl) (h.row.frozen 0) _ _ (hl _ h.lock (fW w K.kb 0 (.int .i32 0)).1 (fW w K.kb 0 (.int .i32 0)).2)
def p9(time:Nat)(n:Int):Prop:=1<=n/\n<=100/\(time:Int)+n<=100000
theorem Rt(h:bg o w K s 0 lab)(n:Int):
  bp ar (XB ar Fin 0) 37 #[.pointer (some ⟨K.kb,0,none⟩),.int .i64 n] o w fun v o' w'=>o'=o/\w'.heap.size=w.heap.size/\(∀b,b≠K.kb->w'.heap[b]?=w.heap[b]?)/\((v=.int .i64 8/\¬p9 s.time n/\bg o' w' K s 0 lab)\/(v=.int .i64 0/\p9 s.time n/\bg o' w' K {s with time:=s.time+n.toNat} 0 lab)):=by
 have W:=bJ (P:=ar) (Fin:=Fin) (d:=0);refine lO W func37 ai ?_;walk_nrmf Tryz.f37;refine aA ?_;refine aF W rfl ai rfl func45 af rfl aC rfl ((yf K.kb 0 h.own (by rw[h.row.cell aa];rfl) (h.row.frozen 0)).mono ?_);rintro v0 o0 w0 ⟨rfl,rfl,rfl⟩;have h1:=h.lock (lk':=1);have on1:=fW w K.kb 0 (.int .i32 1);generalize w.setCell ⟨K.kb,0,none⟩ (.int .i32 1)=w1 at h1 on1 |-;refine aA ?_;refine kH W (d:={target:=.fn (.func 46) #[],args:=#[.pointer (some ⟨K.kb,0,none⟩)]}) rfl ai (fun w1=>fa) (fun w1=>fa) rfl ?_;walk_nrm;have aiH:=h.gT.2.2.1;have c6:w1.cell? ⟨K.kb,6,none⟩=some (.int .i64 s.time):=by rw[h1.row.cell aa];rfl
 have bad:¬p9 s.time n->∀tm,tm.getD 4 undef=.int .i64 8->jf (XB ar Fin 0) 37 (fun v o' w'=>o'=o0/\w'.heap.size=w.heap.size/\(∀b,b≠K.kb->w'.heap[b]?=w.heap[b]?)/\((v=.int .i64 8/\¬p9 s.time n/\bg o' w' K s 0 lab)\/(v=.int .i64 0/\p9 s.time n/\bg o' w' K {s with time:=s.time+n.toNat} 0 lab))) ⟨tm,[{target:=.fn (.func 46) #[],args:=#[.pointer (some ⟨K.kb,0,none⟩)]}]⟩ o0 w1:=fun hb tm ht =>
  h1.unlock tm fun w' hk hz hs=>lF W func37 rfl (resultsC_tmp (t:=4) ai _) ⟨rfl,hz.trans on1.1,fun b hb=>(hs b hb).trans (on1.2 b hb),.inl ⟨ht,hb,hk⟩⟩
 by_cases n1:n<1
 ·refine aA ?_;exact⟨.inr trivial,bad (fun q=>by have:=q.1;omega) _ rfl⟩
 by_cases n2:100<n
 ·refine aA ?_;exact⟨.inr trivial,bad (fun q=>by have:=q.2.1;omega) _ rfl⟩
 refine aA ?_;refine aP aX h1.ay rfl ai ai ?_ rfl (v:=.int .i64 s.time) (gG h.own c6) fun _=>?_
 ·exact cj (aH h.own)
 walk_nrm;have CP:IntKind.i64.wrap ((s.time:Int)+n)=(s.time:Int)+n:=by rw[IntKind.wrap_i64]<;>omega
 by_cases n3:100000<(s.time:Int)+n
 ·refine aA ?_;exact⟨.inr trivial,bad (fun q=>by have:=q.2.2;omega) _ rfl⟩
 refine aA ?_;refine aP aX h1.ay rfl ai ai ?_ rfl (v:=.int .i64 s.time) (gG h.own c6) fun _=>?_
 ·exact cj (aH h.own)
 refine aA ?_;refine bD aX h1.ay rfl ai ai ?_ rfl (R:=fun wl aI=>aI=wl.setCell ⟨K.kb,6,none⟩ (.int .i64 ((s.time:Int)+n))) (fun wl aE=>⟨_,?_,rfl⟩) fun wl aI w9 aE hR ba=>?_
 ·exact dU (aH h.own) bN
 ·have rl:=World.rowIs.of_block h1.row (aE.heap _ h.own);have e1:=(aE.cell h.own).trans c6;have f:=rl.frozen;simp[go_sem,e1,f,CP]
 have hO:cN K.kb wl aI:=by rw[hR];exact fW _ _ _ _
 obtain⟨kK,kr,e9⟩:=ba.only aE h.own hO;have gw:=ba.ay;rw[e9] at gw |-;rw[hR] at kr;have hn:(s.time:Int)+n=((s.time+n.toNat:Nat):Int):=aa;have h9:bg o0 w9 K {s with time:=s.time+n.toNat} 1 lab:=by
  refine h1.put gw kK (World.rowIs.of_block (((World.rowIs.of_block h1.row (aE.heap _ h.own)).set 6 _).congr fun j hj=>?_) kr) rfl rfl ⟨eR,by have:=h.gT.2.2.2.1;simp;omega,h.gT.2.2.2.2.1⟩;rcases mm hj with rfl|rfl|rfl|rfl|rfl|rfl|rfl|rfl|rfl|rfl|rfl|rfl|rfl<;>simp[qG,hn]
 clear hR ba aE hO kr wl aI e9;refine aA ?_;refine⟨.inr trivial,h9.unlock _ fun w' hk hz hs=>lF W func37 rfl (resultsC_tmp (t:=4) ai _) ⟨rfl,hz.trans (kK.1.trans on1.1),fun b hb=>(hs b hb).trans ((kK.2 b hb).trans (on1.2 b hb)),.inr ⟨aC,⟨aa,aa,aa⟩,hk⟩⟩⟩
end
section
variable {Fin:bH} {o o':aM} {w w':ae} {K:sj} {s:kT} {lk:Int} {lab:Nat->Nat}
structure cK(o:aM)(w:ae)(lab:Nat->Nat)(o':aM)(w':ae)(lab':Nat->Nat):Prop where
 aU:bu (fun b=>lab b<=6) o w o' w'
 lab:∀b,b<w.heap.size->lab' b=lab b
theorem cK.trans{o2:aM}{w2:ae}{lab' gP:Nat->Nat}(h:cK o w lab o' w' lab')(k:cK o' w' lab' o2 w2 gP):cK o w lab o2 w2 gP:=by
 have hz:=h.aU.size;refine⟨⟨k.aU.ay,fun b hb=>k.aU.more b (h.aU.more b hb),fun b hb=>(k.aU.new b hb).elim (fun q=>h.aU.new b q) fun q=>.inr aa,by have:=k.aU.size;omega,fun b hb hx=>?_⟩,fun b hb=>(k.lab b aa).trans (h.lab b hb)⟩;rw[k.aU.same b aa (by rw[h.lab b hb];exact hx),h.aU.same b hb hx]
theorem cK.of{ex:Nat->Prop}(h:bu ex o w o' w')(hx:∀b,ex b->lab b<=6):cK o w lab o' w' lab:=⟨h.mono hx,fun _ _=>rfl⟩
structure Yq(o':aM)(w':ae)(K:sj)(s:kT)(lk:Int)(l m:Nat):Prop where
 row:l≠0->m≠0->w'.rowIs K.kb 120 13 (qG K s lk)
 build:l≠1->m≠1->fq o' w' K.B s.fd s.old
 files:l≠2->m≠2->gI o' w' K.fb K.mT K.mS s.th s.st
 queue:l≠3->m≠3->Ot o' w' s.qv s.qn
 ju:l≠4->m≠4->Mh o' w' s.sv s.src
 reads:l≠5->m≠5->Jk o' w' s.rv s.rd
 set:l≠6->m≠6->B4 o' w' s
theorem bg.parts(h:bg o w K s lk lab){ex:Nat->Prop}(hW:bu ex o w o' w')(l m:Nat)(hx:∀b,ex b->lab b=l\/lab b=m)(od:l<=7:=by omega)(hm7:m<=7:=by omega):Yq o' w' K s lk l m:=by
 obtain⟨a1,a2,a3,a4⟩:=h.all;have sm:∀b n,o b->lab b=n->l≠n->m≠n->w'.heap[b]?=w.heap[b]?:=fun b n hb hl h1 h2=>hW.same b (h.ay.lt hb) fun he=>(hx b he).elim (fun e=>h1 (by rw[<- e,hl])) fun e=>h2 (by rw[<- e,hl]);refine⟨fun h1 h2=>World.rowIs.of_block h.row (sm _ 0 h.own h.l0 h1 h2),fun h1 h2=>h.build.keep hW.more hW.size fun b hb=>sm b (KY b) (h.build.own b hb) (h.l1 b hb) (by unfold KY;split<;>omega) (by unfold KY;split<;>omega),fun h1 h2=>h.files.keep hW.more fun b hb=>sm b 2 ?_ (h.l2 b hb) h1 h2,fun h1 h2=>h.queue.keep hW.more hW.size fun g hg=>sm g 3 (a1 g hg) (h.l3 g hg) h1 h2,fun h1 h2=>h.ju.keep hW.more fun g hg=>sm g 4 (a2 g hg) (h.l4 g hg) h1 h2,fun h1 h2=>h.reads.keep hW.more hW.size fun g hg=>sm g 5 (a3 g hg) (h.l5 g hg) h1 h2,fun h1 h2=>h.set.keep hW.more fun b hb=>sm b 6 (a4 b hb) (h.l6 b hb) h1 h2⟩;rcases hb with rfl|rfl|rfl
 ·exact h.files.own.1
 ·exact h.files.own.2.1
 ·exact h.files.own.2.2
theorem Mi{α:Type}(x:ah)(v:α):∀l:List (ah×α),(gU l x v).length=if eO l x=none then l.length+1 else l.length
 | []=>by simp[gU,eO]
 | (k,u)::l=>by
  have:=Mi x v l;by_cases h:x=k
  ·simp[gU,eO,h]
  ·simp only[gU,eO,if_neg h,List.length_cons,this];split<;>rfl
theorem Mj{α:Type}(x:ah):∀l:List (ah×α),(lI l x).length<=l.length
 | []=>by simp[lI]
 | (k,u)::l=>by
  have:=Mj x l;by_cases h:x=k
  ·simp[lI,h]
  ·simp only[lI,if_neg h,List.length_cons];omega
theorem bg.Mk(h:bg o w K s lk lab)(hW:bu (fun b=>b=K.mT\/b=K.mS) o w o' w'){th:List (ah×ah)}{st:List (ah×Int)}(hf:gI o' w' K.fb K.mT K.mS th st)(hl:th.length<=12):bg o' w' K {s with th:=th,st:=st} lk lab/\cK o w lab o' w' lab:=by
 have hx:∀b,b=K.mT\/b=K.mS->lab b=2:=fun b hb=>h.l2 b (.inr hb);have P:=h.parts hW 2 2 fun b hb=>.inl (hx b hb);obtain⟨f1,f2,f3⟩:=h.gT;exact⟨⟨hW.ay,P.row aa aa,hW.more _ h.own,P.build aa aa,hf,P.queue aa aa,P.ju aa aa,P.reads aa aa,⟨(P.set aa aa).blk,(P.set aa aa).own,(P.set aa aa).res,(P.set aa aa).cl,(P.set aa aa).gT,(P.set aa aa).ku⟩,h.l0,h.l1,h.l2,h.l3,h.l4,h.l5,h.l6,f1,hl,f3⟩,.of hW fun b hb=>by rw[hx b hb];omega⟩
theorem Rv(ts:List ah)(lost:Bool)(x:ah)(h:ts.length<=4):(iX ts lost x).1.length<=4:=by
 unfold iX;split
 ·exact h
 ·split
  ·exact h
  ·simp;omega
theorem bg.Rw(h:bg o w K s lk lab)(x:ah){rE:Value}(hW:bu (fun b=>b=K.kb\/s.qv.ownBlock=some b) o w o' w')(hq:Ot o' w' rE (iX s.qn s.lost x).1)(hb:∀b,rE.ownBlock=some b->b≠K.kb/\(s.qv.ownBlock=some b\/w.heap.size<=b))(hr:w'.rowIs K.kb 120 13 (fun j=>if j=4+1 then .bool (iX s.qn s.lost x).2 else if j=4 then rE else qG K s lk j)):
  ∃lab',bg o' w' K {s with qv:=rE,qn:=(iX s.qn s.lost x).1,lost:=(iX s.qn s.lost x).2} lk lab'/\cK o w lab o' w' lab':=by
 have hx:∀b,b=K.kb\/s.qv.ownBlock=some b->lab b=0\/lab b=3:=fun b hb=>hb.imp (fun e=>by rw[e];exact h.l0) fun e=>h.l3 b e;have P:=h.parts hW 0 3 hx;obtain⟨a1,a2,a3,a4⟩:=h.all;have lt:∀b,o b->b<w.heap.size:=fun b hb=>h.ay.lt hb;have lb:∀b,o b->(if w.heap.size<=b then 3 else lab b)=lab b:=fun b hb=>if_neg (by have:=lt b hb;omega);obtain⟨f1,f2,f3⟩:=h.gT;refine⟨fun b=>if w.heap.size<=b then 3 else lab b,⟨hW.ay,hr.congr fun j hj=>?_,hW.more _ h.own,P.build aa aa,P.files aa aa,hq,P.ju aa aa,P.reads aa aa,⟨(P.set aa aa).blk,(P.set aa aa).own,(P.set aa aa).res,(P.set aa aa).cl,(P.set aa aa).gT,(P.set aa aa).ku⟩,(lb _ h.own).trans h.l0,fun b hb=>(lb b (h.build.own b hb)).trans (h.l1 b hb),fun b hb=>(lb b ?_).trans (h.l2 b hb),fun b hq=>?_,fun b hb=>(lb b (a2 b hb)).trans (h.l4 b hb),fun b hb=>(lb b (a3 b hb)).trans (h.l5 b hb),fun b hb=>(lb b (a4 b hb)).trans (h.l6 b hb),Rv _ _ _ f1,f2,f3⟩,⟨hW.mono fun b hb=>by rcases hx b hb with e|e<;>omega,fun b hb=>if_neg aa⟩⟩
 ·rcases mm hj with rfl|rfl|rfl|rfl|rfl|rfl|rfl|rfl|rfl|rfl|rfl|rfl|rfl<;>rfl
 ·rcases hb with rfl|rfl|rfl
  ·exact h.files.own.1
  ·exact h.files.own.2.1
  ·exact h.files.own.2.2
 ·rcases(hb b hq).2 with e|e
  ·exact(lb b (a1 b e)).trans (h.l3 b e)
  ·exact if_pos e
theorem bg.qne(h:bg o w K s lk lab):s.qv.ownBlock≠some K.kb:=fun e=>by
 have:=h.l3 _ e;rw[h.l0] at this;omega
theorem cK.lock(h:bg o w K s lk lab){lk':Int}:cK o w lab o (w.setCell ⟨K.kb,0,none⟩ (.int .i32 lk')) lab:=.of (bu.db (ex:=(·=K.kb)) (h.lock (lk':=lk')).ay (fW _ _ _ _) rfl) fun b hb=>by rw[hb,h.l0];omega
theorem Rx(h:bg o w K s 0 lab)(x t:ah)(hx:x.size<=1000000):
  bp ar (XB ar Fin 0) 21 #[.pointer (some ⟨K.kb,0,none⟩),.string x,.string t] o w fun v o' w'=>∃lab',cK o w lab o' w' lab'/\((∃e,v=.int .i64 e/\e≠0/\¬(isName x/\t.size<=12/\¬(eO s.th x=none/\12<=s.th.length))/\bg o' w' K s 0 lab') \/
   (v=.int .i64 0/\(isName x/\t.size<=12/\¬(eO s.th x=none/\12<=s.th.length))/\∃rE,bg o' w' K {s with th:=gU s.th x t,st:=gU s.st x (IntKind.i64.wrap (dC s.st x+1)),qv:=rE,qn:=(iX s.qn s.lost x).1,lost:=(iX s.qn s.lost x).2} 0 lab')):=by
 have W:=bJ (P:=ar) (Fin:=Fin) (d:=0);refine lO W func21 ai ?_;walk_nrmf Tryz.f21;refine aA ?_;refine aF W rfl ai rfl func45 af rfl aC rfl ((yf K.kb 0 h.own (by rw[h.row.cell aa];rfl) (h.row.frozen 0)).mono ?_);rintro v0 o0 w0 ⟨rfl,rfl,rfl⟩;have h1:=h.lock (lk':=1);have S1:=cK.lock h (lk':=1);generalize w.setCell ⟨K.kb,0,none⟩ (.int .i32 1)=w1 at h1 S1 |-;refine aA ?_;refine kH W (d:={target:=.fn (.func 46) #[],args:=#[.pointer (some ⟨K.kb,0,none⟩)]}) rfl ai (fun w1=>fa) (fun w1=>fa) rfl ?_;refine aA ?_;have c3:w1.cell? ⟨K.kb,3,none⟩=some (.pointer (some ⟨K.fb,0,none⟩)):=by rw[h1.row.cell aa];rfl
 refine aP aX h1.ay rfl ai ai ?_ rfl (v:=.pointer (some ⟨K.fb,0,none⟩)) (gG h.own c3) fun _=>?_
 ·exact cj (aH h.own)
 refine aA ?_;refine aF W rfl ai rfl func47 af rfl aC rfl ((UJ h1.ay h1.files x t hx (by have:=h.gT.2.1;omega)).mono ?_);rintro v2 o2 w2 ⟨W2,hq⟩;have fail:∀e:Int,e≠0->gI o2 w2 K.fb K.mT K.mS s.th s.st->¬(isName x/\t.size<=12/\¬(eO s.th x=none/\12<=s.th.length))->∀tm,tm.getD 6 undef=.int .i64 e->jf (XB ar Fin 0) 21 (fun v o' w'=>∃lab',cK o0 w lab o' w' lab'/\((∃e,v=.int .i64 e/\e≠0/\¬(isName x/\t.size<=12/\¬(eO s.th x=none/\12<=s.th.length))/\bg o' w' K s 0 lab') \/
   (v=.int .i64 0/\(isName x/\t.size<=12/\¬(eO s.th x=none/\12<=s.th.length))/\∃rE,bg o' w' K {s with th:=gU s.th x t,st:=gU s.st x (IntKind.i64.wrap (dC s.st x+1)),qv:=rE,qn:=(iX s.qn s.lost x).1,lost:=(iX s.qn s.lost x).2} 0 lab'))) ⟨tm,[{target:=.fn (.func 46) #[],args:=#[.pointer (some ⟨K.kb,0,none⟩)]}]⟩ o2 w2:=fun e he hf Yr tm ht=>by
  obtain⟨k2,S2⟩:=h1.Mk W2 hf h.gT.2.1;refine k2.unlock tm fun w' hk hz hs=>lF W func21 rfl (resultsC_tmp (t:=6) ai _) ⟨lab,(S1.trans S2).trans (.of (bu.db (ex:=(·=K.kb)) hk.ay ⟨hz,hs⟩ rfl) fun b hb=>by rw[hb,h.l0];omega),.inl ⟨e,ht,he,Yr,hk⟩⟩
 rcases hq with⟨rfl,q1,hf⟩|⟨rfl,q1,q2,hf⟩|⟨rfl,q1,q2,q3,q4,hf⟩|⟨rfl,q1,q2,q3,hf⟩
 ·walk_nrm;refine aA ?_;exact⟨.inr trivial,fail 2 aa hf (fun q=>q1 q.1) _ rfl⟩
 ·walk_nrm;refine aA ?_;exact⟨.inr trivial,fail 6 aa hf (fun q=>by have:=q.2.1;omega) _ rfl⟩
 ·walk_nrm;refine aA ?_;exact⟨.inr trivial,fail 1 aa hf (fun q=>q.2.2 ⟨q3,q4⟩) _ rfl⟩
 ·obtain⟨k2,S2⟩:=h1.Mk W2 hf (by
   rw[Mi];have:=h.gT.2.1;split
   ·rename_i hn;have:¬12<=s.th.length:=fun q=>q3 ⟨hn,q⟩;omega
   ·omega)
  refine aA ?_;refine aF W rfl ai rfl func48 af rfl aC rfl ((Wa k2.ay K.kb 4 120 13 _ s.qv s.qn s.lost x k2.own k2.queue h.qne k2.row aa rfl rfl (by have:=h.gT.1;omega)).mono ?_);rintro v3 o3 w3 ⟨rfl,W3,rE,EN,mo,SJ⟩;obtain⟨lab',k3,S3⟩:=k2.Rw x W3 EN mo SJ;refine aA ?_;refine⟨.inr trivial,k3.unlock _ fun w' hk hz hs=>lF W func21 rfl (resultsC_tmp (t:=6) ai _) ⟨lab',((S1.trans S2).trans S3).trans (.of (bu.db (ex:=(·=K.kb)) hk.ay ⟨hz,hs⟩ rfl) fun b hb=>by rw[hb,k3.l0];omega),.inr ⟨aC,⟨q1,q2,q3⟩,rE,hk⟩⟩⟩
theorem Iv(h:bg o w K s 0 lab)(x:ah)(hx:x.size<=1000000):
  bp ar (XB ar Fin 0) 36 #[.pointer (some ⟨K.kb,0,none⟩),.string x] o w fun v o' w'=>∃lab',cK o w lab o' w' lab'/\((∃e,v=.int .i64 e/\e≠0/\(¬(isName x/\eO s.th x≠none)/\(isName x->e=7))/\bg o' w' K s 0 lab') \/
   (v=.int .i64 0/\(isName x/\eO s.th x≠none)/\∃rE,bg o' w' K {s with th:=lI s.th x,st:=gU s.st x (IntKind.i64.wrap (dC s.st x+1)),qv:=rE,qn:=(iX s.qn s.lost x).1,lost:=(iX s.qn s.lost x).2} 0 lab')):=by
 have W:=bJ (P:=ar) (Fin:=Fin) (d:=0);refine lO W func36 ai ?_;walk_nrmf Tryz.f36;refine aA ?_;refine aF W rfl ai rfl func45 af rfl aC rfl ((yf K.kb 0 h.own (by rw[h.row.cell aa];rfl) (h.row.frozen 0)).mono ?_);rintro v0 o0 w0 ⟨rfl,rfl,rfl⟩;have h1:=h.lock (lk':=1);have S1:=cK.lock h (lk':=1);generalize w.setCell ⟨K.kb,0,none⟩ (.int .i32 1)=w1 at h1 S1 |-;refine aA ?_;refine kH W (d:={target:=.fn (.func 46) #[],args:=#[.pointer (some ⟨K.kb,0,none⟩)]}) rfl ai (fun w1=>fa) (fun w1=>fa) rfl ?_;refine aA ?_;have c3:w1.cell? ⟨K.kb,3,none⟩=some (.pointer (some ⟨K.fb,0,none⟩)):=by rw[h1.row.cell aa];rfl
 refine aP aX h1.ay rfl ai ai ?_ rfl (v:=.pointer (some ⟨K.fb,0,none⟩)) (gG h.own c3) fun _=>?_
 ·exact cj (aH h.own)
 refine aA ?_;refine aF W rfl ai rfl func62 af rfl aC rfl ((Ov h1.ay h1.files x hx (by have:=h.gT.2.1;omega)).mono ?_);rintro v2 o2 w2 ⟨W2,hq⟩;have fail:∀e:Int,e≠0->gI o2 w2 K.fb K.mT K.mS s.th s.st->(¬(isName x/\eO s.th x≠none)/\(isName x->e=7))->∀tm,tm.getD 4 undef=.int .i64 e->jf (XB ar Fin 0) 36 (fun v o' w'=>∃lab',cK o0 w lab o' w' lab'/\((∃e,v=.int .i64 e/\e≠0/\(¬(isName x/\eO s.th x≠none)/\(isName x->e=7))/\bg o' w' K s 0 lab') \/
   (v=.int .i64 0/\(isName x/\eO s.th x≠none)/\∃rE,bg o' w' K {s with th:=lI s.th x,st:=gU s.st x (IntKind.i64.wrap (dC s.st x+1)),qv:=rE,qn:=(iX s.qn s.lost x).1,lost:=(iX s.qn s.lost x).2} 0 lab'))) ⟨tm,[{target:=.fn (.func 46) #[],args:=#[.pointer (some ⟨K.kb,0,none⟩)]}]⟩ o2 w2:=fun e he hf Yr tm ht=>by
  obtain⟨k2,S2⟩:=h1.Mk W2 hf h.gT.2.1;refine k2.unlock tm fun w' hk hz hs=>lF W func36 rfl (resultsC_tmp (t:=4) ai _) ⟨lab,(S1.trans S2).trans (.of (bu.db (ex:=(·=K.kb)) hk.ay ⟨hz,hs⟩ rfl) fun b hb=>by rw[hb,h.l0];omega),.inl ⟨e,ht,he,Yr,hk⟩⟩
 rcases hq with⟨rfl,q1,hf⟩|⟨rfl,q1,q2,hf⟩|⟨rfl,q1,q2,hf⟩
 ·walk_nrm;refine aA ?_;exact⟨.inr trivial,fail 2 aa hf ⟨fun q=>q1 q.1,fun q=>absurd q q1⟩ _ rfl⟩
 ·walk_nrm;refine aA ?_;exact⟨.inr trivial,fail 7 aa hf ⟨fun q=>q.2 q2,fun _=>rfl⟩ _ rfl⟩
 ·obtain⟨k2,S2⟩:=h1.Mk W2 hf (by have:=Mj x s.th;have:=h.gT.2.1;omega);refine aA ?_;refine aF W rfl ai rfl func48 af rfl aC rfl ((Wa k2.ay K.kb 4 120 13 _ s.qv s.qn s.lost x k2.own k2.queue h.qne k2.row aa rfl rfl (by have:=h.gT.1;omega)).mono ?_);rintro v3 o3 w3 ⟨rfl,W3,rE,EN,mo,SJ⟩;obtain⟨lab',k3,S3⟩:=k2.Rw x W3 EN mo SJ;refine aA ?_;refine⟨.inr trivial,k3.unlock _ fun w' hk hz hs=>lF W func36 rfl (resultsC_tmp (t:=4) ai _) ⟨lab',((S1.trans S2).trans S3).trans (.of (bu.db (ex:=(·=K.kb)) hk.ay ⟨hz,hs⟩ rfl) fun b hb=>by rw[hb,k3.l0];omega),.inr ⟨aC,⟨q1,q2⟩,rE,hk⟩⟩⟩
theorem UK:Mh o w (.slice none 0 0) []:=⟨⟨none,0,0,rfl,fun _=>rfl,fun h=>absurd rfl h,fun k hk=>by simp at hk⟩,gS,an⟩
theorem Ml:Jk o w (.slice none 0 0) []:=⟨⟨0,aQ _,by simp[ef],.inl ⟨rfl,rfl⟩⟩,gS,an⟩
def kT.stand(s:kT)(phase since:Nat):kT:={s with phase:=phase,since:=since,sv:=.slice none 0 0,src:=[],rv:=.slice none 0 0,rd:=[],ck:=0}
theorem bg.Iw(h:bg o w K s lk lab){phase since:Nat}(hF:bE ar L0 o w')(hO:cN K.kb w w')(hr:w'.rowIs K.kb 120 13 (qG K (s.stand phase since) lk))(hs:since<=s.time):bg o w' K (s.stand phase since) lk lab:=by
 have hW:bu (·=K.kb) o w o w':=bu.db hF hO rfl;have P:=h.parts hW 0 0 fun b hb=>.inl (by rw[hb];exact h.l0);have q6:=P.set aa aa;obtain⟨f1,f2,f3,-⟩:=h.gT;exact⟨hF,hr,h.own,P.build aa aa,P.files aa aa,P.queue aa aa,UK,Ml,⟨q6.blk,q6.own,q6.res,q6.cl,q6.gT,q6.ku⟩,h.l0,h.l1,h.l2,h.l3,(fun b hb=>by cases hb),(fun b hb=>by cases hb),h.l6,f1,f2,f3,hs,aQ _,aQ _⟩
theorem Ei(h:w.rowIs K.kb 120 13 (qG K s lk))(phase since:Nat):(((((w.setCell ⟨K.kb,7,none⟩ (.int .i64 phase)).setCell ⟨K.kb,8,none⟩ (.int .i64 since)).setCell ⟨K.kb,9,none⟩ (.slice none 0 0)).setCell ⟨K.kb,10,none⟩ (.slice none 0 0)).setCell ⟨K.kb,11,none⟩ (.int .i64 0)).rowIs K.kb 120 13 (qG K (s.stand phase since) lk):=by
 refine(((((h.set 7 _).set 8 _).set 9 _).set 10 _).set 11 _).congr fun j hj=>?_;rcases mm hj with rfl|rfl|rfl|rfl|rfl|rfl|rfl|rfl|rfl|rfl|rfl|rfl|rfl<;>rfl
theorem Ry(w:ae)(b i1 i2 i3 i4 i5:Nat)(x1 x2 x3 x4 x5:Value):cN b w (((((w.setCell ⟨b,i1,none⟩ x1).setCell ⟨b,i2,none⟩ x2).setCell ⟨b,i3,none⟩ x3).setCell ⟨b,i4,none⟩ x4).setCell ⟨b,i5,none⟩ x5):=((uR w b i1 i2 i3 x1 x2 x3).at i4 x4).at i5 x5
theorem sCl{phase since:Nat}:Cl ar L0 o (.agg #[.int .i64 phase,.int .i64 since,.slice none 0 0,.slice none 0 0,.int .i64 0]):=cJ (vs:=[_,_,_,_,_]) (fun x hx=>by
 simp at hx;rcases hx with rfl|rfl|rfl|rfl
 ·exact bN
 ·exact bN
 ·exact gS
 ·exact bN)
theorem Rz(h:bg o w K s lk lab):
  bp ar (XB ar Fin 0) 102 #[.pointer (some ⟨K.kb,0,none⟩)] o w fun v o' w'=>v=.tuple #[]/\cK o w lab o' w' lab/\bg o' w' K (s.stand 1 s.time) lk lab:=by
 have W:=bJ (P:=ar) (Fin:=Fin) (d:=0);refine bA W func102 ai ?_;walk_nrmf Tryz.f102;have c6:w.cell? ⟨K.kb,6,none⟩=some (.int .i64 s.time):=by rw[h.row.cell aa];rfl
 refine aA ?_;refine aP aX h.ay rfl ai ai ?_ rfl (v:=.int .i64 s.time) (gG h.own c6) fun _=>?_
 ·exact cj (aH h.own)
 refine aA ?_;refine bD aX h.ay rfl ai ai ?_ rfl (R:=fun wl aI=>aI=((((wl.setCell ⟨K.kb,7,none⟩ (.int .i64 (1:Nat))).setCell ⟨K.kb,8,none⟩ (.int .i64 s.time)).setCell ⟨K.kb,9,none⟩ (.slice none 0 0)).setCell ⟨K.kb,10,none⟩ (.slice none 0 0)).setCell ⟨K.kb,11,none⟩ (.int .i64 0)) (fun wl aE=>⟨_,?_,rfl⟩) fun wl aI w9 aE hR ba=>?_
 ·refine dU ?_ ?_
  ·exact aH h.own
  ·exact sCl (phase:=1)
 ·have rl:=World.rowIs.of_block h.row (aE.heap _ h.own);have e7:=rl.cell (i:=7) aa;have e8:=rl.cell (i:=8) aa;have e9:=rl.cell (i:=9) aa;have Vu:=rl.cell (i:=10) aa;have Pr:=rl.cell (i:=11) aa;have f:=rl.frozen;simp[go_sem,e7,e8,e9,Vu,Pr,f]
 have hO:cN K.kb wl aI:=by rw[hR];exact Ry _ _ _ _ _ _ _ _ _ _ _ _
 obtain⟨kK,kr,e9⟩:=ba.only aE h.own hO;have gw:=ba.ay;rw[e9] at gw |-;rw[hR] at kr;have h9:=h.Iw gw kK (World.rowIs.of_block (Ei (World.rowIs.of_block h.row (aE.heap _ h.own)) 1 s.time) kr) (ag _);clear hR ba aE hO kr wl aI e9;refine aA ?_;exact⟨.inl trivial,trivial,.tuple #[],fun w1=>results_none af _ _,an,.of (bu.db (ex:=(·=K.kb)) gw kK rfl) fun b hb=>by rw[hb,h.l0];omega,h9⟩
end
open Go.ConcR (Payload)
section
variable {Fin:bH} {o o':aM} {w w':ae} {K:sj} {s:kT} {lk:Int} {lab:Nat->Nat}
theorem bg.xl(h:bg o w K s lk lab)(hW:bu (fun _=>False) o w o' w'):bg o' w' K s lk lab/\cK o w lab o' w' lab:=by
 have P:=h.parts hW 7 7 fun b hb=>hb.elim;exact⟨⟨hW.ay,P.row aa aa,hW.more _ h.own,P.build aa aa,P.files aa aa,P.queue aa aa,P.ju aa aa,P.reads aa aa,P.set aa aa,h.l0,h.l1,h.l2,h.l3,h.l4,h.l5,h.l6,h.gT⟩,.of hW fun b hb=>hb.elim⟩
theorem bg.aside(h:bg o w K s lk lab){ex:Nat->Prop}(hW:bu ex o w o' w')(hx:∀b,ex b->lab b=7):bg o' w' K s lk lab:=by
 have P:=h.parts hW 7 7 fun b hb=>.inl (hx b hb);exact⟨hW.ay,P.row aa aa,hW.more _ h.own,P.build aa aa,P.files aa aa,P.queue aa aa,P.ju aa aa,P.reads aa aa,P.set aa aa,h.l0,h.l1,h.l2,h.l3,h.l4,h.l5,h.l6,h.gT⟩
theorem bg.Ix(h:bg o w K s lk lab){lab':Nat->Nat}(hl:∀b,o b->lab' b=lab b):bg o w K s lk lab':=by
 obtain⟨a1,a2,a3,a4⟩:=h.all;refine⟨h.ay,h.row,h.own,h.build,h.files,h.queue,h.ju,h.reads,h.set,(hl _ h.own).trans h.l0,fun b hb=>(hl b (h.build.own b hb)).trans (h.l1 b hb),fun b hb=>(hl b ?_).trans (h.l2 b hb),fun b hb=>(hl b (a1 b hb)).trans (h.l3 b hb),fun b hb=>(hl b (a2 b hb)).trans (h.l4 b hb),fun b hb=>(hl b (a3 b hb)).trans (h.l5 b hb),fun b hb=>(hl b (a4 b hb)).trans (h.l6 b hb),h.gT⟩;rcases hb with rfl|rfl|rfl
 ·exact h.files.own.1
 ·exact h.files.own.2.1
 ·exact h.files.own.2.2
theorem bg.built(h:bg o w K s lk lab)(hW:bu (·=K.B.Rb) o w o' w'){ir:Nat->Option (Nat×List V)}(hB:fq o' w' K.B s.fd ir){mid:Nat}(hm:∀b,mB K.B s.fd ir b->b<mid)(ho:∀i,i<K.B.rs.length->∃b vs,ir i=some (b,vs)/\((∃vs',s.old i=some (b,vs'))\/w.heap.size<=b)):
  ∃lab',bg o' w' K {s with old:=ir} lk lab'/\cK o w lab o' w' lab'/\∀b,w.heap.size<=b->mid<=b->lab' b=6:=by
 have hx:∀b,b=K.B.Rb->lab b=1:=fun b hb=>(h.l1 b (.inr (.inr (.inl hb)))).trans (if_neg (by have:=h.build.apart.2.2.2.1;omega));have P:=h.parts hW 1 1 fun b hb=>.inl (hx b hb);obtain⟨a1,a2,a3,a4⟩:=h.all;have lb:∀b,o b->(if w.heap.size<=b then(if mid<=b then 6 else 1) else lab b)=lab b:=fun b hb=>if_neg (by have:=h.ay.lt hb;omega);have q6:=P.set aa aa;refine⟨fun b=>if w.heap.size<=b then(if mid<=b then 6 else 1) else lab b,⟨hW.ay,P.row aa aa,hW.more _ h.own,hB,P.files aa aa,P.queue aa aa,P.ju aa aa,P.reads aa aa,⟨q6.blk,q6.own,q6.res,q6.cl,q6.gT,q6.ku⟩,(lb _ h.own).trans h.l0,fun b hb=>?_,fun b hb=>(lb b ?_).trans (h.l2 b hb),fun b hb=>(lb b (a1 b hb)).trans (h.l3 b hb),fun b hb=>(lb b (a2 b hb)).trans (h.l4 b hb),fun b hb=>(lb b (a3 b hb)).trans (h.l5 b hb),fun b hb=>(lb b (a4 b hb)).trans (h.l6 b hb),h.gT⟩,⟨hW.mono fun b hb=>by rw[hx b hb];omega,fun b hb=>if_neg aa⟩,fun b h1 h2=>by simp[h1,h2]⟩
 ·by_cases hz:w.heap.size<=b
  ·have:=hm b hb;have h4:=h.build.apart.2.2.2.1;have bZ:=h.ay.lt (h.build.own K.B.Rb (.inr (.inr (.inl rfl))));simp only[hz,if_true];exact(if_neg aa).trans (if_neg aa).symm
  ·simp only[hz,if_false];rcases hb with q|q|q|q|q|q|⟨i,vs,hi,q⟩
   ·exact h.l1 b (.inl q)
   ·exact h.l1 b (.inr (.inl q))
   ·exact h.l1 b (.inr (.inr (.inl q)))
   ·exact h.l1 b (.inr (.inr (.inr (.inl q))))
   ·exact h.l1 b (.inr (.inr (.inr (.inr (.inl q)))))
   ·exact h.l1 b (.inr (.inr (.inr (.inr (.inr (.inl q))))))
   ·obtain⟨b',vs',e1,e2⟩:=ho i hi;have q':ir i=some (b,vs):=q;rw[e1] at q';cases q';rcases e2 with⟨vs2,e2⟩|e2
    ·exact h.l1 b (.inr (.inr (.inr (.inr (.inr (.inr ⟨i,vs2,hi,e2⟩))))))
    ·exact absurd e2 hz
 ·rcases hb with rfl|rfl|rfl
  ·exact h.files.own.1
  ·exact h.files.own.2.1
  ·exact h.files.own.2.2
theorem bg.Ow(h:bg o w K s lk lab){s':kT}(hF:bE ar L0 o w')(hO:cN K.kb w w')(hr:w'.rowIs K.kb 120 13 (qG K s' lk))(af6:B4 o w s')(he:s'={s with pb:=s'.pb,num:=s'.num,kW:=s'.kW,res:=s'.res,mz:=s'.mz,ku:=s'.ku})(h6:∀b,xk s' b->lab b=6):bg o w' K s' lk lab:=by
 have hW:bu (·=K.kb) o w o w':=bu.db hF hO rfl;have P:=h.parts hW 0 0 fun b hb=>.inl (by rw[hb];exact h.l0);have q6:=af6.keep (o':=o) (w':=w') (fun _ q=>q) fun b hb=>hO.2 b fun e=>by have:=h6 b hb;rw[e,h.l0] at this;omega
 rw[he] at hr q6 h6 |-;exact⟨hF,hr,h.own,P.build aa aa,P.files aa aa,P.queue aa aa,P.ju aa aa,P.reads aa aa,q6,h.l0,h.l1,h.l2,h.l3,h.l4,h.l5,h6,h.gT⟩
theorem Iy:∀(ss:List (V×Int)) (i:Nat) (h:i<ss.length),(ef ss)[i*3]?=some (.bool ss[i].1.1)/\(ef ss)[i*3+1]?=some (.string ss[i].1.2)/\(ef ss)[i*3+2]?=some (.int .i64 ss[i].2)
 | [],i,h=>by simp at h
 |a::ss,0,h=>by simp[ef]
 |a::ss,i+1,h=>by
  have:=Iy ss i (by simpa using h);have e:ef (a::ss)=.bool a.1.1 :: .string a.1.2 :: .int .i64 a.2::ef ss:=by simp[ef]
  rw[e];have e1:(i+1)*3=i*3+1+1+1:=aa;have e2:(i+1)*3+1=i*3+1+1+1+1:=aa;have e3:(i+1)*3+2=i*3+2+1+1+1:=aa;rw[e3,e2,e1];simpa using this
theorem Jk.view{v:Value}{ss:List (V×Int)}(h:Jk o w v ss)(hF:bE ar L0 o w):∃p b c,v=.slice p ss.length c/\(ss≠[]->p=some ⟨b,0,none⟩/\o b)/\nH w b ss:=by
 obtain⟨lo,uL,b6⟩:=h.row;have hr:=b6;obtain⟨hl,hc⟩:=hr;rcases hc with⟨rfl,hn⟩|⟨g,cap,cur,rfl,h1,h2,h3,h4,h5,h6⟩
 ·have e:ss=[]:=List.length_eq_zero_iff.1 hn;subst e;exact⟨none,0,0,rfl,fun q=>absurd rfl q,fun i hi=>by simp at hi⟩
 ·refine⟨_,g,cap,rfl,fun _=>⟨rfl,Fu hF h.cl⟩,fun i hi=>?_⟩;obtain⟨q1,q2,q3⟩:=Iy ss i hi;have ca:=fun j hj=>World.ownsRow.cellAt b6 j hj;exact⟨(ca (i*3) aa).trans q1,(ca (i*3+1) aa).trans q2,(ca (i*3+2) aa).trans q3⟩
def zL(B:zf)(F:dm)(file:ah->V):List (ah×V):=(List.range B.rs.length).map fun i=>(qC F.b5 i,kW B F file i)
theorem UL{B:zf}{F:dm}{file:ah->V}{R:Nat}(h:w.rowIs R 65 (B.rs.length*3) (gq (qC F.b5) (kW B F file) B.rs.length)):zi w R (zL B F file):=fun i hi=>by
 have lQ:i<B.rs.length:=by simpa[zL] using hi
 have h0:(i*3)%3=0:=aa;have h1:(i*3+1)%3=1:=aa;have h2:(i*3+2)%3=2:=aa;have d0:(i*3)/3=i:=aa;have d1:(i*3+1)/3=i:=aa;have d2:(i*3+2)/3=i:=aa;refine⟨?_,?_,?_⟩
 ·rw[h.cell aa];simp[gq,h0,d0,zL,show i*3<B.rs.length*3 by omega]
 ·rw[h.cell aa];simp[gq,h1,d1,zL,show i*3+1<B.rs.length*3 by omega]
 ·rw[h.cell aa];simp[gq,h2,d2,zL,show i*3+2<B.rs.length*3 by omega]
theorem tx{lo:Nat}{ts:List ah}{v:Value}(h:ga lo ts v w):∃p l c,v=.slice p l c:=by
 rcases h.own with⟨e,-⟩|⟨g,cap,e,-⟩
 ·exact⟨_,_,_,e⟩
 ·exact⟨_,_,_,e⟩
theorem Ox[Payload](h:bg o w K s lk lab)(lo:Nat)(F:dm)(KZ:s.fd=some (lo,F))(file:ah->V)(pU:∀x,(file x).2.size<=100)(UE:s.rd.map (·.1)=(iq K.B.NM K.B.rs).map file):
  bp ar (XB ar Fin 0) 101 #[.pointer (some ⟨K.kb,0,none⟩)] o w fun v o' w'=>v=.agg #[.int .i64 6,.string aN]/\∃lab' ir Wh zk zm,cK o w lab o' w' lab'/\(∀i,i<K.B.rs.length->∃b,ir i=some (b,mi K.B F file i))/\bg o' w' K {s.stand 0 0 with old:=ir,pb:=Wh,num:=IntKind.i64.wrap (s.num+1),kW:=zk,res:=zL K.B F file,mz:=zm,ku:=qA (qC F.b5) (mz s.old (mi K.B F file)) K.B.rs.length} lk lab':=by
 have W:=bJ (P:=ar) (Fin:=Fin) (d:=0);refine dJ W func101 ai ?_;walk_nrmf Tryz.f101;refine aA ?_;refine cq aX h.ay rfl ai ai kp rfl (R:=fun wl v aI=>v=.pointer (some ⟨wl.heap.size,0,none⟩)/\aI=wl.alloc (Obj.cells #[.int .i64 0,.string aN] 32)) (fun wl aE=>⟨_,_,by simp[go_sem];rfl,rfl,rfl⟩) fun wl v1 aI w1 aE hR ba=>?_;obtain⟨rfl,hR⟩:=hR;obtain⟨z1,k1,qK⟩:=ba.alloc h.ay aE hR;have mw:=ba.ay;rw[aE.size];clear hR ba aE wl aI;have qX:bu (fun _=>False) o w (grow o w w1) w1:=⟨mw,iK,fun b hb=>hb.imp id fun q=>q.1,aa,fun b hb _=>k1 b hb⟩;obtain⟨eN,RA⟩:∃l:Nat->Nat,l=fun b=>if b=w.heap.size then 7 else lab b:=⟨_,rfl⟩
 have uW:∀b,b<w.heap.size->eN b=lab b:=fun b hb=>by rw[RA];exact if_neg aa
 have od:eN w.heap.size=7:=by rw[RA];exact if_pos rfl
 obtain⟨h1,S1⟩:=(h.Ix fun b hb=>uW b (h.ay.lt hb)).xl qX;clear RA;have pH:grow o w w1 w.heap.size:=.inr ⟨ag _,aa⟩;generalize grow o w w1=o1 at *;obtain⟨p,rb,rc,Jl,Wi,xU⟩:=h1.reads.view h1.ay;have VW:s.rd.length=(iq K.B.NM K.B.rs).length:=by simpa using congrArg List.length UE
 have c2:w1.cell? ⟨K.kb,2,none⟩=some (.pointer (some ⟨K.B.bb,0,none⟩)):=by rw[h1.row.cell aa];rfl
 have Ys:w1.cell? ⟨K.kb,10,none⟩=some (.slice p s.rd.length rc):=by rw[h1.row.cell aa];exact congrArg some Jl
 have RD:=h1.ay.lt h1.own;refine aA ?_;have Nt:=h1.build;rw[KZ] at Nt;have Te:=h1.reads.cl;rw[Jl] at Te;refine dq mixed af [some none,some none,some none,some (some (.pointer (some ⟨K.B.bb,0,none⟩))),some none,some none,some none,some none,some (some (.slice p s.rd.length rc)),none,none,some none,some none,some none,some none,some none]
  (S:=fun σ o' w'=>(σ 10=none/\bu (fun _=>False) o1 w1 o' w'/\∀y,σ 9=some y->∃Vb,y=.slice (some ⟨Vb,0,none⟩) s.rd.length s.rd.length/\w1.heap.size<=Vb/\o' Vb/\eM w' Vb (s.rd.map (·.1))) \/
   (∃y,σ 10=some y/\∃o2 w2 R rv ir,bu (fun _=>False) o1 w1 o2 w2/\y=.tuple #[.slice (some ⟨R,0,none⟩) K.B.rs.length K.B.rs.length,rv]/\bu (·=K.B.Rb) o2 w2 o' w'/\fq o' w' K.B (some (lo,F)) ir/\(∀i,i<K.B.rs.length->∃b,ir i=some (b,mi K.B F file i)/\((∃vs,s.old i=some (b,vs))\/w2.heap.size<=b)) /\
    (w2.heap.size<=R/\o' R/\w'.rowIs R 65 (K.B.rs.length*3) (gq (qC F.b5) (kW K.B F file) K.B.rs.length))/\ga w2.heap.size (qA (qC F.b5) (mz s.old (mi K.B F file)) K.B.rs.length) rv w'/\Cl ar L0 o' rv/\(∀g l c,rv=.slice (some ⟨g,0,none⟩) l c->o' g)/\∃mid,w2.heap.size<=mid/\mid<=R/\(∀b,mB K.B (some (lo,F)) ir b->b<mid)/\∀g,rv.ownBlock=some g->mid<=g)) ?_ fun v=>?_
 ·exact .inl ⟨rfl,bu.refl h1.ay,fun y hy=>by cases hy⟩
 refine dp ?_;refine bO ?_;refine bK aX rfl rfl rfl ai ai (fun σ o' w' H hS=>?_) ?_
 ·rcases hS with⟨oq,hW,-⟩|⟨y,oq,-⟩
  ·have kB:=hW.more _ h1.own;exact⟨hW.ay,cj (aH kB),gG kB ((cell_of (hW.same _ RD id)).trans c2)⟩
  ·rw[H.kF [] 10 af] at oq;cases oq
 refine bO ?_;refine bK aX rfl rfl rfl ai ai (fun σ o' w' H hS=>?_) ?_
 ·rcases hS with⟨oq,hW,-⟩|⟨y,oq,-⟩
  ·have kB:=hW.more _ h1.own;exact⟨hW.ay,cj (aH kB),gG kB ((cell_of (hW.same _ RD id)).trans Ys)⟩
  ·rw[H.kF [9] 10 af] at oq;cases oq
 walk_nrm;refine rj rfl rfl ai rfl func141 af rfl (av:=#[.slice p s.rd.length rc]) aC (fun σ o' w' H h9 hS=>?_) ?_
 ·rcases hS with⟨oq,hW,-⟩|⟨y,oq,-⟩
  ·refine(Fq hW.ay rb rc p s.rd (by have:=h1.reads.gT;omega) (fun q=>⟨(Wi q).1,hW.more _ (Wi q).2⟩) (fun i hi=>?_) (Te.up hW.more)).mono ?_
   ·have cV:s.rd≠[]:=fun q=>by rw[q] at hi;simp at hi
    exact xd xU (hW.same _ (h1.ay.lt (Wi cV).2) id) i hi
   ·rintro y o2 w2 ⟨N,rfl,z,hv⟩;refine .inl ⟨by simpa[dB] using oq,hW.trans (bu.dL N),fun y hy=>?_⟩;simp only[dB,if_true,Option.some.injEq] at hy;exact⟨w'.heap.size,hy.symm,hW.size,by rw[N.own];exact .inr ⟨ag _,z⟩,hv⟩
  ·rw[H.sg 10 af] at oq;cases oq
 walk_nrm;refine rj rfl rfl ai rfl func42 af rfl (av:=#[.pointer (some ⟨K.B.bb,0,none⟩),v 9]) aC (fun σ o' w' H oq hS=>?_) ?_
 ·rcases hS with⟨-,hW,h9⟩|⟨y,q,-⟩
  ·obtain⟨Vb,hy,hVz,hVo,Zw⟩:=h9 _ (H.done 9 af rfl);have Jg:=h1.ay.lt (Nt.own K.B.Rb (.inr (.inr (.inl rfl))));rw[UE] at Zw;rw[hy];refine(UD hW.ay K.B lo F s.old (Nt.keep hW.more hW.size fun b hb=>hW.same _ (h1.ay.lt (Nt.own b hb)) id) file pU Vb s.rd.length hVo aa Zw (by simp[VW])).mono ?_;rintro y o2 w2 ⟨R,rv,ir,q⟩;exact .inr ⟨y,by simp[dB],o',w',R,rv,ir,hW,q⟩
  ·rw[oq] at q;cases q
 refine bO ?_;obtain⟨ra,rb',qg⟩:∃a b,(∃a' b',v 10=.tuple #[a',b'])->v 10=.tuple #[a,b]:=by
  by_cases q:∃a' b',v 10=.tuple #[a',b']
  ·obtain⟨a,b,e⟩:=q;exact⟨a,b,fun _=>e⟩
  ·exact⟨.tuple #[],.tuple #[],fun q'=>absurd q' q⟩
 refine wM (v 10=.tuple #[ra,rb']) ra rfl rfl rfl ai (fun σ o' w' H hS=>?_) (fun hv w1=>?_) (fun hv w1=>?_) fun y18 af8=>?_
 ·have d:=H.sV [11] 10 af rfl;rcases hS with⟨oq,-⟩|⟨y,oq,o2,w2,R,rv,ir,-,e,-⟩
  ·rw[d] at oq;cases oq
  ·rw[d] at oq;cases oq;exact qg ⟨_,_,e⟩
 ·simp[go_sem,Act.eval,hv]
 ·simp[go_sem,Act.eval,hv]
 walk_nrm;refine wM (v 10=.tuple #[ra,rb']) rb' rfl rfl rfl ai (fun σ o' w' H hS=>?_) (fun hv w1=>?_) (fun hv w1=>?_) fun y19 af9=>?_
 ·have d:=H.sV [11] 10 af rfl;rcases hS with⟨oq,-⟩|⟨y,oq,o2,w2,R,rv,ir,-,e,-⟩
  ·rw[d] at oq;cases oq
  ·rw[d] at oq;cases oq;exact qg ⟨_,_,e⟩
 ·simp[go_sem,Act.eval,hv]
 ·simp[go_sem,Act.eval,hv]
 refine bO ?_;refine bO ?_;refine cd fun σ o3 w3 kP hS=>?_;rcases hS with⟨oq,-⟩|⟨y,oq,o2,w2,R,rv,ir,FT,e,Tw,hB,hold,⟨hRz,hRo,abX⟩,Jl,abY,agb,mid,hm1,Y3,hm3,hm4⟩
 ·rw[kP 10 dh rfl] at oq;cases oq
 rw[kP 10 dh rfl] at oq;cases oq;have UM:=qg ⟨_,_,e⟩;obtain rfl:=af8 UM;obtain rfl:=af9 UM;rw[e] at UM;cases UM;simp only[gN,cZ,if_true,if_false,reduceIte,Nat.reduceEqDiff];obtain⟨h2,S2⟩:=h1.xl FT;obtain⟨oI,h3,S3,L3⟩:=h2.built Tw (by rw[KZ];exact hB) (mid:=mid) (by rw[KZ];exact hm3) fun i hi=>by
  obtain⟨b,e,q⟩:=hold i hi;exact⟨b,_,e,q⟩
 have c12:w3.cell? ⟨K.kb,12,none⟩=some (.pointer (some ⟨s.pb,0,none⟩)):=by rw[h3.row.cell aa];rfl
 have VC:=h3.set.blk;have JY:=h3.set.own;have cn:w3.cell? ⟨s.pb,0,none⟩=some (.int .i64 s.num):=(eE VC).1;have hk3:=h3.own;obtain⟨rp,rl,eD,rfl⟩:=tx Jl;refine aA ?_;refine aF W rfl ai rfl func49 af rfl aC rfl ((Eb K.kb 12 s.pb _ _ _ c12 VC).mono ?_);rintro v0 o0 w0 ⟨rfl,rfl,rfl⟩;refine aA ?_;refine aP aX h3.ay rfl ai ai ?_ rfl (v:=.int .i64 s.num) (gG JY cn) fun _=>?_
 ·exact cj (aH JY)
 refine aA ?_;refine cq aX h3.ay rfl ai ai ?_ rfl (R:=fun wl v aI=>v=.pointer (some ⟨wl.heap.size,0,none⟩)/\aI=wl.alloc (Obj.cells #[.int .i64 (IntKind.i64.wrap (s.num+1)),.slice (some ⟨R,0,none⟩) K.B.rs.length K.B.rs.length,.slice rp rl eD] 59)) (fun wl aE=>⟨_,_,fa,rfl,rfl⟩) fun wl v1 aI w4 aE hR ba=>?_
 ·refine cj ?_;exact cJ (vs:=[_,_,_]) (fun x hx=>by
   simp at hx;rcases hx with rfl|rfl|rfl
   ·exact bN
   ·exact di hRo
   ·exact abY)
 obtain⟨rfl,hR⟩:=hR;obtain⟨z4,k4,si⟩:=ba.alloc h3.ay aE hR;have D9:=ba.ay;rw[aE.size];clear hR ba aE wl aI;have FW:bu (fun _=>False) o0 w0 (grow o0 w0 w4) w4:=⟨D9,iK,fun b hb=>hb.imp id fun q=>q.1,aa,fun b hb _=>k4 b hb⟩;obtain⟨h4,S4⟩:=h3.xl FW;have mq:grow o0 w0 w4 w0.heap.size:=.inr ⟨ag _,aa⟩;have hRl:=h3.ay.lt hRo;have K0:=FW.more _ hRo;generalize grow o0 w0 w4=o4 at *;walk_nrm;refine aF W rfl ai rfl func61 af rfl aC rfl ((BS K.kb 12 w0.heap.size _ _ _ (.pointer (some ⟨s.pb,0,none⟩)) (by rw[h4.row.cell aa];rfl) (h4.row.frozen 12) si).mono ?_);rintro v0 o5 w5 ⟨rfl,rfl,rfl⟩;have h5:=h4.Ow (s':={s with old:=ir,pb:=w0.heap.size,num:=IntKind.i64.wrap (s.num+1),kW:=.slice (some ⟨R,0,none⟩) K.B.rs.length K.B.rs.length,res:=zL K.B F file,mz:=.slice rp rl eD,ku:=qA (qC F.b5) (mz s.old (mi K.B F file)) K.B.rs.length}) (Go.Conc.bE.setCell h4.ay (aH (off:=0) mq)) (fW _ _ _ _) ((h4.row.set 12 _).congr fun j hj=>?_) ?_ rfl ?_;rotate_left
 ·rcases mm hj with rfl|rfl|rfl|rfl|rfl|rfl|rfl|rfl|rfl|rfl|rfl|rfl|rfl<;>rfl
 ·refine⟨si,mq,⟨some ⟨R,0,none⟩,R,K.B.rs.length,by simp[zL],(fun q=>by cases q),fun _=>⟨rfl,K0⟩,UL (World.rowIs.of_block abX (k4 R hRl))⟩,di K0,?_,⟨?_,abY.up FW.more,?_⟩⟩
  ·have:=h.build.rules.gT;simp only[zL,List.length_map,List.length_range];omega
  ·rcases Jl.own with⟨e,e2⟩|⟨g,cap,e,g1,g2,g3⟩
   ·exact⟨none,0,0,by rw[e2];exact e,fun _=>e2,fun q=>absurd e2 q,fun i hi=>by rw[e2] at hi;simp at hi⟩
   ·exact⟨_,g,cap,e,(fun q=>by cases q),fun _=>⟨rfl,FW.more _ (agb g _ _ e)⟩,cI g3 (k4 g g2)⟩
  ·have:=h.build.rules.gT;exact aR (BN _ _ _) aa
 ·rintro b (rfl|q|q)
  ·exact L3 w0.heap.size (by have:=S3.aU.size;omega) aa
  ·cases q;exact L3 _ hRz Y3
  ·have:=hm4 b q;exact L3 _ aa this
 have S5:cK o5 w4 oI o5 (w4.setCell ⟨K.kb,12,none⟩ (.pointer (some ⟨w0.heap.size,0,none⟩))) oI:=.of (bu.db (ex:=(·=K.kb)) h5.ay (fW _ _ _ _) rfl) fun b hb=>by rw[hb,h4.l0];omega
 generalize w4.setCell ⟨K.kb,12,none⟩ (.pointer (some ⟨w0.heap.size,0,none⟩))=w5 at h5 S5 |-;have S15:=(((S1.trans S2).trans S3).trans S4).trans S5;have qi:o5 w.heap.size:=FW.more _ (Tw.more _ (FT.more _ pH));have Cy:oI w.heap.size=7:=((S2.trans S3).lab _ aa).trans od;have Jj:w5.heap[w.heap.size]?=some (.cells #[.int .i64 0,.string aN] 32):=by
  rw[((((S2.trans S3).trans S4).trans S5).aU).same _ aa (by rw[od];omega)];exact qK
 clear S2 S3 S4 S5 h2 h3 h4 FT Tw FW L3 hm3 hm4;refine aA ?_;refine bD aX h5.ay rfl ai ai ?_ rfl (R:=fun wl aI=>aI=((((wl.setCell ⟨K.kb,7,none⟩ (.int .i64 (0:Nat))).setCell ⟨K.kb,8,none⟩ (.int .i64 (0:Nat))).setCell ⟨K.kb,9,none⟩ (.slice none 0 0)).setCell ⟨K.kb,10,none⟩ (.slice none 0 0)).setCell ⟨K.kb,11,none⟩ (.int .i64 0)) (fun wl aE=>⟨_,?_,rfl⟩) fun wl aI w9 aE hR ba=>?_
 ·refine dU ?_ ?_
  ·exact aH h5.own
  ·exact sCl (phase:=0) (since:=0)
 ·have rl:=World.rowIs.of_block h5.row (aE.heap _ h5.own);have e7:=rl.cell (i:=7) aa;have e8:=rl.cell (i:=8) aa;have e9:=rl.cell (i:=9) aa;have Vu:=rl.cell (i:=10) aa;have Pr:=rl.cell (i:=11) aa;have f:=rl.frozen;simp[go_sem,e7,e8,e9,Vu,Pr,f]
 have hO:cN K.kb wl aI:=by rw[hR];exact Ry _ _ _ _ _ _ _ _ _ _ _ _
 obtain⟨kK,kr,e9⟩:=ba.only aE h5.own hO;have gw:=ba.ay;rw[e9] at gw |-;rw[hR] at kr;have h9:=h5.Iw gw kK (World.rowIs.of_block (Ei (World.rowIs.of_block h5.row (aE.heap _ h5.own)) 0 0) kr) (aQ _);have S9:=S15.trans (.of (bu.db (ex:=(·=K.kb)) gw kK rfl) fun b hb=>by rw[hb,h5.l0];omega);have cV:w.heap.size≠K.kb:=fun e=>by have:=h5.l0;rw[<- e,Cy] at this;omega
 have Wj:w9.heap[w.heap.size]?=some (.cells #[.int .i64 0,.string aN] 32):=(kK.2 _ cV).trans Jj;clear hR ba aE hO kr wl aI e9 h5 S15 Jj kK;refine aA ?_;refine bD aX h9.ay rfl ai ai ?_ rfl (R:=fun wl aI=>aI=(wl.setCell ⟨w.heap.size,0,none⟩ (.int .i64 6)).setCell ⟨w.heap.size,1,none⟩ (.string aN)) (fun wl aE=>⟨_,?_,rfl⟩) fun wl aI wA aE hR ba=>?_
 ·refine dU ?_ ?_
  ·exact aH qi
  ·exact cJ (vs:=[_,_]) (fun x hx=>by
    simp at hx;rcases hx with rfl|rfl
    ·exact bN
    ·exact bf)
 ·obtain⟨e0,e1,f0,f1⟩:=bT ((aE.heap _ qi).trans Wj);simp[go_sem,e0,e1,f0,f1];rfl
 have hO:cN w.heap.size wl aI:=by rw[hR];exact iB _ _ _ _ _ _
 obtain⟨yx,nL,eA⟩:=ba.only aE qi hO;have rF:=ba.ay;rw[eA] at rF |-;rw[hR,nG ((aE.heap _ qi).trans Wj)] at nL;have hWA:bu (·=w.heap.size) o5 w9 o5 wA:=bu.db rF yx rfl;have hA:=h9.aside hWA fun b hb=>by rw[hb];exact Cy
 clear hR ba aE hO wl aI eA;refine aA ?_;have c9:∀n,(wA.at n).cell? ⟨w.heap.size,0,none⟩=some (.int .i64 6)/\(wA.at n).cell? ⟨w.heap.size,1,none⟩=some (.string aN):=fun n=>⟨(bT nL).1,(bT nL).2.1⟩;refine⟨.inr trivial,trivial,.agg #[.int .i64 6,.string aN],p7 (fun n=>?_) (fun n e he=>?_),rfl,oI,ir,w0.heap.size,_,_,?_,fun i hi=>?_,hA⟩
 ·obtain⟨c0,c1⟩:=c9 n;simp[results,results101,go_sem,c0,c1]
 ·obtain⟨c0,c1⟩:=c9 n;simp[results,results101,go_sem,c0,c1] at he;rcases he with rfl|rfl;all_goals exact⟨_,_,_,rfl,qi⟩
 ·refine⟨⟨rF,S9.aU.more,S9.aU.new,by rw[yx.1];exact S9.aU.size,fun b hb hx=>?_⟩,fun b hb=>(S9.lab b hb).trans (uW b hb)⟩;rw[yx.2 b aa];exact S9.aU.same b hb (by rw[uW b hb];exact hx)
 ·obtain⟨b,e,-⟩:=hold i hi;exact⟨b,e⟩
end
section
variable {Fin:bH} {o o' o1:aM} {w w' w1:ae} {K:sj} {s:kT} {lk:Int} {lab eN:Nat->Nat}
theorem bg.opened(h:bg o w K s lk lab)(mw:bE ar L0 (grow o w w1) w1)(z1:w1.heap.size=w.heap.size+1)(k1:∀b,b<w.heap.size->w1.heap[b]?=w.heap[b]?):∃eN,bg (grow o w w1) w1 K s lk eN/\(∀b,b<w.heap.size->eN b=lab b)/\eN w.heap.size=7/\grow o w w1 w.heap.size/\bu (fun _=>False) o w (grow o w w1) w1:=by
 have qX:bu (fun _=>False) o w (grow o w w1) w1:=⟨mw,iK,fun b hb=>hb.imp id fun q=>q.1,aa,fun b hb _=>k1 b hb⟩;have uW:∀b,b<w.heap.size->(if b=w.heap.size then 7 else lab b)=lab b:=fun b hb=>if_neg aa;exact⟨fun b=>if b=w.heap.size then 7 else lab b,((h.Ix fun b hb=>uW b (h.ay.lt hb)).xl qX).1,uW,if_pos rfl,.inr ⟨ag _,aa⟩,qX⟩
theorem bg.did{o9:aM}{w9 wA:ae}{K1:Nat->Nat}{s':kT}(h:bg o9 w9 K s' lk K1)(qX:bu (fun _=>False) o w o1 w1)(uW:∀b,b<w.heap.size->eN b=lab b)(S:cK o1 w1 eN o9 w9 K1)(hl:K1 w.heap.size=7)(hF:bE ar L0 o9 wA)(on:cN w.heap.size w9 wA):bg o9 wA K s' lk K1/\cK o w lab o9 wA K1:=by
 refine⟨h.aside (ex:=(·=w.heap.size)) (bu.db hF on rfl) fun b hb=>by rw[hb];exact hl,⟨hF,fun b hb=>S.aU.more b (qX.more b hb),fun b hb=>(S.aU.new b hb).elim (fun q=>qX.new b q) fun q=>.inr (by have:=qX.size;omega),by rw[on.1];exact aR qX.size S.aU.size,fun b hb hx=>?_⟩,fun b hb=>(S.lab b (by have:=qX.size;omega)).trans (uW b hb)⟩;rw[on.2 b aa,S.aU.same b (by have:=qX.size;omega) (by rw[uW b hb];exact hx),qX.same b hb id]
def Wk(K:sj)(s s':kT)(F:dm)(file:ah->V):Prop:=∃ir Wh zk zm,(∀i,i<K.B.rs.length->∃b,ir i=some (b,mi K.B F file i))/\s'={s.stand 0 0 with old:=ir,pb:=Wh,num:=IntKind.i64.wrap (s.num+1),kW:=zk,res:=zL K.B F file,mz:=zm,ku:=qA (qC F.b5) (mz s.old (mi K.B F file)) K.B.rs.length}
def did(n:Int)(x:ah):Value:=.agg #[.int .i64 n,.string x]
def Checked(K:sj)(s s':kT)(F:dm)(file:ah->V)(v:Value):Prop :=
 (s.ck=s.src.length/\v=did 6 aN/\Wk K s s' F file) \/
 ∃(h:s.ck<s.src.length) (h':s.ck<s.rd.length),(dC s.st s.src[s.ck]≠s.rd[s.ck].2/\v=did 5 s.src[s.ck]/\s'=s.stand 1 s.time)\/(dC s.st s.src[s.ck]=s.rd[s.ck].2/\v=did 4 s.src[s.ck]/\s'={s with ck:=s.ck+1})
theorem zn[Payload](h:bg o w K s lk lab)(hlen:s.rd.length=s.src.length)(lo:Nat)(F:dm)(KZ:s.fd=some (lo,F))(file:ah->V)(pU:∀x,(file x).2.size<=100)(UE:s.rd.map (·.1)=(iq K.B.NM K.B.rs).map file):
  bp ar (XB ar Fin 0) 64 #[.pointer (some ⟨K.kb,0,none⟩)] o w fun v o' w'=>∃s' lab',Checked K s s' F file v/\bg o' w' K s' lk lab'/\cK o w lab o' w' lab':=by
 have W:=bJ (P:=ar) (Fin:=Fin) (d:=0);refine dJ W func64 ai ?_;walk_nrmf Tryz.f64;refine aA ?_;refine cq aX h.ay rfl ai ai kp rfl (R:=fun wl v aI=>v=.pointer (some ⟨wl.heap.size,0,none⟩)/\aI=wl.alloc (Obj.cells #[.int .i64 0,.string aN] 32)) (fun wl aE=>⟨_,_,by simp[go_sem];rfl,rfl,rfl⟩) fun wl v1 aI w1 aE hR ba=>?_;obtain⟨rfl,hR⟩:=hR;obtain⟨z1,k1,qK⟩:=ba.alloc h.ay aE hR;have mw:=ba.ay;rw[aE.size];clear hR ba aE wl aI;obtain⟨eN,h1,uW,od,pH,qX⟩:=h.opened mw z1 k1;generalize grow o w w1=o1 at *;obtain⟨sp,sb,sc,Ou,V2,xB,dW⟩:=h1.ju.row;have c9:w1.cell? ⟨K.kb,9,none⟩=some (.slice sp s.src.length sc):=by rw[h1.row.cell aa];exact congrArg some Ou
 have c11:w1.cell? ⟨K.kb,11,none⟩=some (.int .i64 s.ck):=by rw[h1.row.cell aa];rfl
 have RD:=h1.ay.lt h1.own;have hsf:=h1.ju.gT;have SI:=h1.gT.2.2.2.2.1;have hW0:bu (fun _=>False) o1 w1 o1 w1:=bu.refl h1.ay;refine aA ?_;refine dq mixed af [some none,some none,some none,some (some (.int .i64 s.ck)),some none,some none,some none,some (some (.slice sp s.src.length sc)),some none,some none]
  (S:=fun σ o' w'=>o1=o'/\w1=w') ⟨rfl,rfl⟩ fun v=>?_
 refine dp ?_;refine bO ?_;refine bK aX rfl rfl rfl ai ai (fun σ o' w' H hS=>?_) ?_
 ·obtain⟨rfl,rfl⟩:=hS;exact⟨h1.ay,cj (aH h1.own),gG h1.own c11⟩
 refine bO ?_;refine bK aX rfl rfl rfl ai ai (fun σ o' w' H hS=>?_) ?_
 ·obtain⟨rfl,rfl⟩:=hS;exact⟨h1.ay,cj (aH h1.own),gG h1.own c9⟩
 refine bO ?_;refine cd fun σ o3 w3 kP hS=>?_;obtain⟨rfl,rfl⟩:=hS;simp only[gN,cZ,if_true,if_false,reduceIte,Nat.reduceEqDiff];refine hZ W (t:=decide (s.ck=s.src.length)) (by simp[Act.eval];rw[dD];simp;omega) ?_;by_cases hc:s.ck=s.src.length
 ·rw[if_pos (dv hc)];refine aA ?_;refine aF W rfl ai rfl func101 af rfl aC rfl ((Ox h1 lo F KZ file pU UE).mono ?_);rintro v0 o4 w4 ⟨rfl,uu,ir,Wh,zk,zm,S4,hold,h4⟩;have FX:uu w.heap.size=7:=(S4.lab _ aa).trans od;have si:=(S4.aU.same w.heap.size aa (by rw[od];omega)).trans qK;have mq:=S4.aU.more _ pH;walk_nrm;refine bD aX h4.ay rfl ai ai ?_ rfl (R:=fun wl aI=>aI=(wl.setCell ⟨w.heap.size,0,none⟩ (.int .i64 6)).setCell ⟨w.heap.size,1,none⟩ (.string aN)) (fun wl aE=>⟨_,?_,rfl⟩) fun wl aI wA aE hR ba=>?_
  ·refine dU ?_ ?_
   ·exact aH mq
   ·exact cJ (vs:=[_,_]) (fun x hx=>by
     simp at hx;rcases hx with rfl|rfl
     ·exact bN
     ·exact bf)
  ·obtain⟨e0,e1,f0,f1⟩:=bT ((aE.heap _ mq).trans si)
   first
   | (simp[go_sem,e0,e1,f0,f1];done)
   | (simp[go_sem,e0,e1,f0,f1];rfl)
  have hO:cN w.heap.size wl aI:=by rw[hR];exact iB _ _ _ _ _ _
  obtain⟨yx,nL,eA⟩:=ba.only aE mq hO;have rF:=ba.ay;rw[eA] at rF |-;rw[hR,nG ((aE.heap _ mq).trans si)] at nL;obtain⟨hA,SA⟩:=h4.did qX uW S4 FX rF yx;clear hR ba aE hO wl aI eA;refine aA ?_;have c9:∀n,(wA.at n).cell? ⟨w.heap.size,0,none⟩=some (.int .i64 6)/\(wA.at n).cell? ⟨w.heap.size,1,none⟩=some (.string aN):=fun n=>⟨(bT nL).1,(bT nL).2.1⟩;refine⟨.inr trivial,trivial,.agg #[.int .i64 6,.string aN],p7 (fun n=>?_) (fun n e he=>?_),_,uu,.inl ⟨hc,rfl,ir,Wh,zk,zm,hold,rfl⟩,hA,SA⟩
  ·obtain⟨c0,c1⟩:=c9 n;simp[results,results64,go_sem,c0,c1]
  ·obtain⟨c0,c1⟩:=c9 n;simp[results,results64,go_sem,c0,c1] at he;rcases he with rfl|rfl;all_goals exact⟨_,_,_,rfl,mq⟩
 rw[if_neg (by simpa using hc)];have bZ:s.ck<s.src.length:=aa;have lE:s.ck<s.rd.length:=aa;obtain⟨rfl,JY⟩:=xB fun q=>by rw[q] at bZ;simp at bZ
 have hT:=dW s.ck bZ;rw[bh] at hT;have xD:(s.ck:Int)<s.src.length:=aa;generalize hx:s.src[s.ck]=x at hT;refine aA ?_;refine dq mixed af [some none,some none,some none,some (some (.slice (some ⟨sb,0,none⟩) s.src.length sc)),some none,some none,some none,some (some (.int .i64 s.ck)),some none,some (some (.string x)),some none]
  (S:=fun σ o' w'=>o1=o'/\w1=w') ⟨rfl,rfl⟩ fun v=>?_
 refine dp ?_;refine bO ?_;refine bK aX rfl rfl rfl ai ai (fun σ o' w' H hS=>?_) ?_
 ·obtain⟨rfl,rfl⟩:=hS;exact⟨h1.ay,cj (aH h1.own),gG h1.own c9⟩
 refine bO ?_;refine bK aX rfl rfl rfl ai ai (fun σ o' w' H hS=>?_) ?_
 ·obtain⟨rfl,rfl⟩:=hS;exact⟨h1.ay,cj (aH h1.own),gG h1.own c11⟩
 refine bO ?_;refine bK aX rfl rfl rfl ai ai (fun σ o' w' H hS=>?_) ?_
 ·obtain⟨rfl,rfl⟩:=hS;exact⟨h1.ay,cj (aH JY),gG JY hT⟩
 refine bO ?_;refine cd fun σ o3 w3 kP hS=>?_;obtain⟨rfl,rfl⟩:=hS;simp only[gN,cZ,if_true,if_false,reduceIte,Nat.reduceEqDiff];obtain⟨rp,rb,rc,Jl,Wi,xU⟩:=h1.reads.view h1.ay;obtain⟨rfl,uG⟩:=Wi fun q=>by rw[q] at lE;simp at lE
 have Ys:w1.cell? ⟨K.kb,10,none⟩=some (.slice (some ⟨rb,0,none⟩) s.rd.length rc):=by rw[h1.row.cell aa];exact congrArg some Jl
 have c3:w1.cell? ⟨K.kb,3,none⟩=some (.pointer (some ⟨K.fb,0,none⟩)):=by rw[h1.row.cell aa];rfl
 have hR:=(xU s.ck lE).2.2;have hrw:=h1.ay.lt uG;have amK:(s.ck:Int)<s.rd.length:=aa;generalize hy:s.rd[s.ck].2=ry at hR;generalize hz:dC s.st x=rz;generalize I8:(jE s.th x).1=s1;generalize A4:(jE s.th x).2=s2;refine aA ?_;refine dq mixed af [some none,some none,some none,some (some (.pointer (some ⟨K.fb,0,none⟩))),some none,some (some (.agg #[.bool s1,.string s2,.int .i64 rz])),some none,some none,some none,some none,some (some (.slice (some ⟨rb,0,none⟩) s.rd.length rc)),some none,some none,some none,some (some (.int .i64 s.ck)),some none,some none,some (some (.int .i64 ry)),some none]
  (S:=fun σ o' w'=>bu (fun _=>False) o1 w1 o' w') hW0 fun v=>?_
 refine dp ?_;refine bO ?_;refine bK aX rfl rfl rfl ai ai (fun σ o' w' H hS=>?_) ?_
 ·have kB:=hS.more _ h1.own;exact⟨hS.ay,cj (aH kB),gG kB ((cell_of (hS.same _ RD id)).trans c3)⟩
 refine bO ?_;refine iL rfl rfl ai rfl func100 af rfl (av:=#[.pointer (some ⟨K.fb,0,none⟩),.string x]) aC (fun σ o' w' H hS=>?_) ?_
 ·refine(We hS.ay ((h1.xl hS).1).files x).mono ?_;rintro y o2 w2 ⟨rfl,N⟩;exact⟨by rw[I8,A4,hz],hS.trans (bu.dL N)⟩
 walk_nrm;have evf:∀w,(Instr.field 194 (.agg #[.bool s1,.string s2,.int .i64 rz]) 1).events ar w #[]=#[]:=fun w=>af;refine bO ?_;refine bK aX rfl rfl rfl ai ai (fun σ o' w' H hS=>?_) ?_
 ·have kB:=hS.more _ h1.own;exact⟨hS.ay,cj (aH kB),gG kB ((cell_of (hS.same _ RD id)).trans Ys)⟩
 refine bO ?_;refine bK aX rfl rfl rfl ai ai (fun σ o' w' H hS=>?_) ?_
 ·have kB:=hS.more _ h1.own;exact⟨hS.ay,cj (aH kB),gG kB ((cell_of (hS.same _ RD id)).trans c11)⟩
 refine bO ?_;refine bK aX rfl rfl rfl ai ai (fun σ o' w' H hS=>?_) ?_
 ·have kB:=hS.more _ uG;exact⟨hS.ay,cj (aH kB),gG kB ((cell_of (hS.same _ hrw id)).trans hR)⟩
 refine bO ?_;refine cd fun σ o5 w5 kP hS=>?_;simp only[gN,cZ,if_true,if_false,reduceIte,Nat.reduceEqDiff];clear evf kP;obtain⟨h5,S5⟩:=h1.xl hS;have qi:=hS.more _ pH;have Jj:=(hS.same w.heap.size aa id).trans qK;refine hZ W (t:=decide (rz≠ry)) (by simp[Act.eval];rw[dD];simp) ?_;by_cases hd:rz≠ry
 ·rw[if_pos (dv hd)];refine aA ?_;refine aF W rfl ai rfl func102 af rfl aC rfl ((Rz h5).mono ?_);rintro v0 o4 w4 ⟨rfl,S4,h4⟩;have FX:eN w.heap.size=7:=od;have si:=(S4.aU.same w.heap.size (by have:=hS.size;omega) (by rw[od];omega)).trans Jj;have mq:=S4.aU.more _ qi;have S45:=S5.trans S4;refine aA ?_;refine bD aX h4.ay rfl ai ai ?_ rfl (R:=fun wl aI=>aI=(wl.setCell ⟨w.heap.size,0,none⟩ (.int .i64 5)).setCell ⟨w.heap.size,1,none⟩ (.string x)) (fun wl aE=>⟨_,?_,rfl⟩) fun wl aI wA aE hR ba=>?_
  ·refine dU ?_ ?_
   ·exact aH mq
   ·exact cJ (vs:=[_,_]) (fun x hx=>by
     simp at hx;rcases hx with rfl|rfl
     ·exact bN
     ·exact bf)
  ·obtain⟨e0,e1,f0,f1⟩:=bT ((aE.heap _ mq).trans si)
   first
   | (simp[go_sem,e0,e1,f0,f1];done)
   | (simp[go_sem,e0,e1,f0,f1];rfl)
  have hO:cN w.heap.size wl aI:=by rw[hR];exact iB _ _ _ _ _ _
  obtain⟨yx,nL,eA⟩:=ba.only aE mq hO;have rF:=ba.ay;rw[eA] at rF |-;rw[hR,nG ((aE.heap _ mq).trans si)] at nL;obtain⟨hA,SA⟩:=h4.did qX uW S45 od rF yx;clear hR ba aE hO wl aI eA;refine aA ?_;have c9:∀n,(wA.at n).cell? ⟨w.heap.size,0,none⟩=some (.int .i64 5)/\(wA.at n).cell? ⟨w.heap.size,1,none⟩=some (.string x):=fun n=>⟨(bT nL).1,(bT nL).2.1⟩;refine⟨.inr trivial,trivial,.agg #[.int .i64 5,.string x],p7 (fun n=>?_) (fun n e he=>?_),_,eN,.inr ⟨bZ,lE,.inl ⟨by rw[hx,hy,hz];exact hd,by rw[hx];rfl,rfl⟩⟩,hA,SA⟩
  ·obtain⟨c0,c1⟩:=c9 n;simp[results,results64,go_sem,c0,c1]
  ·obtain⟨c0,c1⟩:=c9 n;simp[results,results64,go_sem,c0,c1] at he;rcases he with rfl|rfl;all_goals exact⟨_,_,_,rfl,mq⟩
 rw[if_neg (by simpa using hd)];have d11:w5.cell? ⟨K.kb,11,none⟩=some (.int .i64 s.ck):=by rw[h5.row.cell aa];rfl
 refine aA ?_;refine aP aX h5.ay rfl ai ai ?_ rfl (v:=.int .i64 s.ck) (gG h5.own d11) fun _=>?_
 ·exact cj (aH h5.own)
 walk_nrm;have CP:IntKind.i64.wrap ((s.ck:Int)+1)=((s.ck+1:Nat):Int):=by rw[IntKind.wrap_i64]<;>omega
 refine aA ?_;refine bD aX h5.ay rfl ai ai ?_ rfl (R:=fun wl aI=>aI=wl.setCell ⟨K.kb,11,none⟩ (.int .i64 ((s.ck+1:Nat):Int))) (fun wl aE=>⟨_,?_,rfl⟩) fun wl aI w9 aE hR ba=>?_
 ·exact dU (aH h5.own) bN
 ·have rl:=World.rowIs.of_block h5.row (aE.heap _ h5.own);have e1:=(aE.cell h5.own).trans d11;have f:=rl.frozen;simp[go_sem,e1,f,CP]
 have hO:cN K.kb wl aI:=by rw[hR];exact fW _ _ _ _
 obtain⟨kK,kr,e9⟩:=ba.only aE h5.own hO;have gw:=ba.ay;rw[e9] at gw |-;rw[hR] at kr;have h9:=h5.put (s':={s with ck:=s.ck+1}) (lk':=lk) gw kK ((World.rowIs.of_block ((World.rowIs.of_block h5.row (aE.heap _ h5.own)).set 11 _) kr).congr fun j hj=>by
  rcases mm hj with rfl|rfl|rfl|rfl|rfl|rfl|rfl|rfl|rfl|rfl|rfl|rfl|rfl<;>rfl) rfl rfl ⟨h5.gT.2.2.1,h5.gT.2.2.2.1,bZ⟩
 have S9:=S5.trans (.of (bu.db (ex:=(·=K.kb)) gw kK rfl) fun b hb=>by rw[hb,h5.l0];omega);have cV:w.heap.size≠K.kb:=fun e=>by have:=h5.l0;rw[<- e,od] at this;omega
 have Wj:=(kK.2 _ cV).trans Jj;clear hR ba aE hO kr wl aI e9;refine aA ?_;refine bD aX h9.ay rfl ai ai ?_ rfl (R:=fun wl aI=>aI=(wl.setCell ⟨w.heap.size,0,none⟩ (.int .i64 4)).setCell ⟨w.heap.size,1,none⟩ (.string x)) (fun wl aE=>⟨_,?_,rfl⟩) fun wl aI wA aE hR ba=>?_
 ·refine dU ?_ ?_
  ·exact aH qi
  ·exact cJ (vs:=[_,_]) (fun x hx=>by
    simp at hx;rcases hx with rfl|rfl
    ·exact bN
    ·exact bf)
 ·obtain⟨e0,e1,f0,f1⟩:=bT ((aE.heap _ qi).trans Wj)
  first
  | (simp[go_sem,e0,e1,f0,f1];done)
  | (simp[go_sem,e0,e1,f0,f1];rfl)
 have hO:cN w.heap.size wl aI:=by rw[hR];exact iB _ _ _ _ _ _
 obtain⟨yx,nL,eA⟩:=ba.only aE qi hO;have rF:=ba.ay;rw[eA] at rF |-;rw[hR,nG ((aE.heap _ qi).trans Wj)] at nL;obtain⟨hA,SA⟩:=h9.did qX uW S9 od rF yx;clear hR ba aE hO wl aI eA;refine aA ?_;have c9:∀n,(wA.at n).cell? ⟨w.heap.size,0,none⟩=some (.int .i64 4)/\(wA.at n).cell? ⟨w.heap.size,1,none⟩=some (.string x):=fun n=>⟨(bT nL).1,(bT nL).2.1⟩;refine⟨.inr trivial,trivial,.agg #[.int .i64 4,.string x],p7 (fun n=>?_) (fun n e he=>?_),_,eN,.inr ⟨bZ,lE,.inr ⟨by rw[hx,hy,hz];simpa using hd,by rw[hx];rfl,rfl⟩⟩,hA,SA⟩
 ·obtain⟨c0,c1⟩:=c9 n;simp[results,results64,go_sem,c0,c1]
 ·obtain⟨c0,c1⟩:=c9 n;simp[results,results64,go_sem,c0,c1] at he;rcases he with rfl|rfl;all_goals exact⟨_,_,_,rfl,qi⟩
end
end Go.Proofs.Kz
