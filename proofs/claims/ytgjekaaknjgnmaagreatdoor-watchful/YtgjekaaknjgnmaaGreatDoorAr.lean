import Derived.Test.YtgjekaaknjgnmaaGreatDoorAq
set_option linter.all false
set_option maxHeartbeats 40000000
set_option maxRecDepth 200000
namespace Go.Proofs.Kz
open Go.Proofs.Tryz
open Go.Proofs.Tryz renaming prog → ar
open _root_.ByteArray renaming empty → aN
open Go.Ren Go.Conc Go.Proofs Go.ConcN
open Go.ConcR (Payload)
section
variable {Fin:bH} {o o':aM} {w w':ae}
theorem lJ.texts{lo:Nat}{p:Option Addr}{c:Nat}{ts:List ah}(h:lJ o w lo 9 1 (.slice p ts.length c) ts.length (ts.map .string))(hF:bE ar L0 o w):∃b,(ts≠[]->p=some ⟨b,0,none⟩/\o b)/\dP w b 0 ts:=by
 have b6:=h.row;obtain⟨h0,hc⟩:=h.row;rcases hc with⟨e1,e2⟩|⟨g,cap,cur,e1,k1,k2,k3,k4,k5,k6⟩
 ·have hn:=List.length_eq_zero_iff.1 e2;exact⟨0,fun q=>absurd hn q,fun k hk=>by rw[hn] at hk;simp at hk⟩
 ·have kZ:=b6.cells (g:=g) (by rw[e1];rfl);have og:=fO hF h.cl g (by rw[e1];rfl);injection e1 with e1;refine⟨g,fun _=>⟨e1,og⟩,fun i hi=>?_⟩;have:=kZ i (.string ts[i]) (by simp[hi]);have ha:(⟨g,0,none⟩:Addr).add i=⟨g,i,none⟩:=by simp[Addr.add];omega
  rw[ha] at this;rw[bh];exact this
theorem Lp{P:Program}(w1:ae)(es:Array Event)(t e:TypeId)(b k n ec:Nat)(ht:P.underlying t=some (.slice e))(hkc:k<=ec):(Instr.sliceAt t (.slice (some ⟨b,0,none⟩) n ec) none (some (.int .i64 k)) none).events P w1 es=es:=by
 have h:(k:Int)<=ec:=aa;have b1:∀w es c,(Instr.sliceBound (.int .i64 k) ec c).events P w es=es:=fun w es c=>by
  simp[Instr.sliceBound,asIntOf,h]
 unfold Instr.sliceAt;simp[Instr.slice,Instr.sliceBounds,Instr.sureAddr,Sem.events_bind,run_underlying ht,run_sliceBound,b1,h,go_sem]
theorem OS{x:ah}{l:List ah}(h:x∉l):Jn l x=false:=by
 cases e:Jn l x
 ·rfl
 ·exact absurd ((oJ x l).1 e) h
theorem Lq[Payload](hF:bE ar L0 o w)(pow:jB w)(p:Option Addr)(b off c:Nat)(rw:List FF)(hR:uZ Fin w p b off rw)(q:Option Addr)(qb Dl d:Nat)(xs:List (Int×Int×Int))(hX:IZ Fin w q qb Dl xs):
  Et ar (XB ar Fin 0) 10 Tryz.f10 #[.slice p rw.length c,.slice q xs.length d] o w fun v o' w'=>v=.bool true/\bu (fun _=>False) o w o' w':=by
 have W:=bJ (P:=ar) (Fin:=Fin) (d:=0);have Bt:=hX.Eu;refine⟨_,ai,?_⟩;walk_nrmf Tryz.f10;refine aA ?_;refine aF W rfl ai rfl func13 af rfl aC rfl ((Sa hF pow p b off c rw hR).mono ?_);rintro v1 o1 w1 eu;obtain⟨S,K,pb,eN,rp,rb,rc,rs,NM,NB,rfl,kS1,oS1,lS1,h1,W1,uW,-,-,-,SL,-⟩:=eu.ex;clear eu;refine aA ?_;refine aP aX h1.ay rfl ai ai ?_ rfl (v:=.bool false) (fun wl aE=>by simp[go_sem,agP]) fun _=>?_
 ·exact dU (aH oS1) Aa
 refine aA ?_;refine aF W rfl ai rfl func18 af rfl aC rfl ((FD h1.ay).mono ?_);rintro v2 o2 w2 ⟨N2,rfl,z2,kn2⟩;have W2:bu (fun _=>False) o1 w1 o2 w2:=bu.dL N2;obtain⟨gP,h2,T2,Ge,O1⟩:=h1.grown (cK.refl h1.ay) W2;have sl1:=h1.ay.lt oS1;have zw1:=W1.size;have hWS:WS o w S w1.heap.size K (.slice rp rs.length rc) (s0 pb) gP (.slice none 0 0) [] 0 (.slice none 0 0) [] o2 w2:=by
  refine⟨⟨h2,RQ K pb,(N2.old S sl1).trans kS1,W2.more _ oS1,(Ge S sl1).trans lS1,⟨⟨none,0,0,rfl,fun q=>absurd rfl q,fun i hi=>by simp at hi⟩,gS⟩,(fun g hg=>by cases hg),⟨fun x=>rfl,by simp[s0],an⟩⟩,W1.trans W2,fun b hb=>by rw[Ge b aa];exact(uW b hb).1,SL,⟨kn2,by rw[N2.own];exact .inr ⟨ag _,aa⟩,O1 _ (ag _),aa,(fun e=>by cases e)⟩,lJ.nil _ _ _ _ _ aa,(fun g hg=>by cases hg)⟩
 have hI0:yF (s0 pb) []:=⟨an,by simp[s0]⟩;clear z2 kn2 N2 W2 h2 T2 Ge O1 h1 uW kS1 oS1 lS1 W1 sl1 zw1 SL;generalize w1.heap.size=Nb at *;generalize s0 pb=s at *;refine aA ?_;refine nu W (fun m a o' w'=>∃i,m+i=xs.length/\a.tmps.size=135/\a.defers=[]/\a.eval (.tmp 1)=.slice q xs.length d/\a.eval (.tmp 5)=.pointer (some ⟨S,0,none⟩)/\a.eval (.tmp 7)=.slice (some ⟨Nb,0,none⟩) 6 6/\a.eval (.tmp 8)=.int .i64 i/\∃sv since s lab fv fs ed,a.eval (.tmp 6)=sv/\ed<=i/\since.length<=i/\yF s since/\WS o w S Nb K (.slice rp rs.length rc) s lab fv fs ed sv since o' w') (N:=xs.length) ⟨0,an,rfl,rfl,aC,aC,aC,aC,_,_,_,_,_,_,_,aC,ag _,an,hI0,hWS⟩ ?_;clear hWS hI0;rintro m a o1 w1 ⟨i,Ni,ft,pF,i1,i5,i7,i8,sv,since,s,lab,fv,fs,ed,i6,hed,SO,hI,hW⟩;obtain⟨tm,df⟩:=a;simp only at ft pF;subst pF;obtain⟨gs,rfl⟩:=fA ft;clear ft;simp only[List.range,List.range.loop,List.map_cons,List.map_nil] at i1 i5 i6 i7 i8 |-;simp[Act.eval] at i1 i5 i6 i7 i8;simp only[i1,i5,i6,i7,i8];clear i1 i5 i6 i7 i8;by_cases hi:i<xs.length;rotate_left
 ·have hiI:¬(i:Int)<(xs.length:Int):=aa;refine aA ?_;exact⟨.inr trivial,trivial,_,resultsC_tmp (t:=4) ai _,aC,hW.old⟩
 have hiI:(i:Int)<(xs.length:Int):=aa;obtain⟨eq,oqb,qbl⟩:=hX.ptr (fun e=>by rw[e] at hi;simp at hi);subst eq;obtain⟨c0,c1,c2⟩:=hX.at_ i hi;obtain⟨⟨ZH,ZI⟩,rg3,rg4⟩:=hX.Wp xs[i] (aD hi);rcases hxi:xs[i] with⟨kd,ea,eb⟩;rw[hxi] at c0 c1 c2 ZH ZI rg3 rg4;simp only at c0 c1 c2 ZH ZI rg3 rg4;clear hxi;have ZG:=hW.old.same qb qbl id;have c0':=(cell_of ZG).trans c0;have Cp:=(cell_of ZG).trans c1;have c2':=(cell_of ZG).trans c2;refine aA ?_;refine aP aX hW.dQ.fC.ay rfl ai ai ?_ rfl (v:=.int .i64 ed) (gG hW.dQ.own (Cm hW.dQ.blk).2.2.2) fun _=>?_
 ·exact cj (aH hW.dQ.own)
 refine aA ?_;refine oQ oqb rfl ai rfl (v:=.agg #[.int .i64 kd,.int .i64 ea,.int .i64 eb]) (fun wl aE=>by simp[go_sem,aE.cell.trans c0',aE.cell.trans Cp,aE.cell.trans c2']) (fun wl aE x hx=>?_) ?_
 ·simp[go_sem,aE.cell.trans c0',aE.cell.trans Cp,aE.cell.trans c2'] at hx;rcases hx with rfl|rfl|rfl;all_goals exact⟨_,_,_,rfl,rfl⟩
 refine aA ?_;refine aF W rfl ai rfl func14 af rfl aC rfl ((YR hW.dQ kd ea eb ZH ZI rg3 rg4 aa).mono ?_);rintro v2 o2 w2 ⟨n,y,s2,gP,YT,YU,My,rfl,sh2,st2,U2,ac0⟩;have FT:=hW.go sh2 U2 ac0;have ZY:=hI.step hW.dQ.sound st2;have ahw:My<=i+1:=by rcases ZY with⟨e,-⟩|⟨e,-⟩<;>omega
 clear sh2 st2 hI;refine aA ?_;refine cq aX FT.dQ.fC.ay rfl ai ai kp rfl (R:=fun wl v aI=>v=.pointer (some ⟨wl.heap.size,0,none⟩)/\aI=wl.alloc (Obj.cells #[.int .i64 0,.string aN] 32)) (fun wl aE=>⟨_,_,by first|(simp[go_sem];done)|(simp[go_sem];rfl),rfl,rfl⟩) fun wl v1 aI w3 aE oR ba=>?_;obtain⟨rfl,oR⟩:=oR;obtain⟨z3,k3,vz⟩:=ba.alloc FT.dQ.fC.ay aE oR;obtain⟨W3,oD⟩:=bu.mn ba.ay z3 k3;rw[aE.size];clear oR ba aE wl aI;obtain⟨oI,h3,T3,Cy,SY⟩:=FT.dQ.fC.grown (cK.refl FT.dQ.fC.ay) W3;have hlD:=SY _ (ag _);have svD:∀g,sv.ownBlock=some g->g<w2.heap.size:=fun g hg=>(FT.row.lt g hg).2;generalize Go.Ren.grow o2 w2 w3=o3 at *;clear z3;walk_nrm;refine bD aX h3.ay rfl ai ai ?_ rfl (R:=fun wl aI=>aI=(wl.setCell ⟨w2.heap.size,0,none⟩ (.int .i64 n)).setCell ⟨w2.heap.size,1,none⟩ (.string y)) (fun wl aE=>⟨_,?_,rfl⟩) fun wl aI w4 aE K0 ba=>?_
 ·refine dU ?_ ?_
  ·exact aH oD
  ·refine cJ (vs:=[_,_]) (fun x hx=>?_);simp at hx;rcases hx with rfl|rfl
   ·exact bN
   ·exact bf
 ·obtain⟨e0,e1,f0,f1⟩:=bT ((aE.heap _ oD).trans vz)
  first
  | (simp[go_sem,e0,e1,f0,f1];done)
  | (simp[go_sem,e0,e1,f0,f1];rfl)
 have hO:cN w2.heap.size wl aI:=by rw[K0];exact iB _ _ _ _ _ _
 obtain⟨FV,kD4,ey⟩:=ba.only aE oD hO;have D9:=ba.ay;rw[ey] at D9 |-;rw[K0,nG ((aE.heap _ oD).trans vz)] at kD4;obtain⟨h4,T4⟩:=h3.wrote T3 hlD (ag _) D9 FV;have FW:=FT.k T4 h4;clear K0 ba aE hO wl aI ey T3 h3 Cy SY hlD FV vz D9 W3 k3 T4 h4 FT U2 ac0;generalize w2.heap.size=D at *;refine Kj ?_;refine qY W ?_;refine qY W ?_;refine Kj ?_;refine FM W (fun a o' w'=>a.tmps.size=135/\a.defers=[]/\a.eval (.tmp 1)=.slice (some ⟨qb,Dl,none⟩) xs.length d/\a.eval (.tmp 5)=.pointer (some ⟨S,0,none⟩)/\a.eval (.tmp 7)=.slice (some ⟨Nb,0,none⟩) 6 6/\a.eval (.tmp 8)=.int .i64 i/\a.eval (.tmp 10)=.pointer (some ⟨D,0,none⟩)/\∃sv since lab,a.eval (.tmp 6)=sv/\since.length<=i+1/\(n=1->yF s2 [])/\(n≠1->yF s2 since)/\WS o w S Nb K (.slice rp rs.length rc) s2 lab YT YU My sv since o' w'/\o' D/\w'.heap[D]?=some (.cells #[.int .i64 n,.string y] 32)) ?_ ?_
 ·refine aA ?_;refine aP aX FW.dQ.fC.ay rfl ai ai ?_ rfl (v:=.int .i64 My) (gG FW.dQ.own (Cm FW.dQ.blk).2.2.2) fun _=>?_
  ·exact cj (aH FW.dQ.own)
  walk_nrm;rcases ZY with⟨e1,e2,e3⟩|⟨e1,e2,e3⟩
  ·have hgt:(ed:Int)<(My:Int):=aa;have O0:n≠1:=aa;clear e1 e2;have c14:=(cell_of (FW.old.same qb qbl id)).trans c1;refine aA ?_;refine oQ oqb rfl ai rfl (v:=.int .i64 ea) (fun wl aE=>by simp[go_sem,aE.cell.trans c14]) (fun wl aE x hx=>?_) ?_
   ·simp[go_sem,aE.cell.trans c14] at hx;rcases hx with rfl;all_goals exact⟨_,_,_,rfl,rfl⟩
   refine aA ?_;refine aF W rfl ai rfl func19 af rfl aC rfl ((vC FW.dQ.fC.ay ea 6 ZH ZI aa aa).mono ?_);rintro v5 o5 w5 ⟨rfl,N5⟩;have W5:bu (fun _=>False) o3 w4 o5 w5:=bu.dL N5;have lD4:=FW.dQ.fC.ay.lt oD;obtain⟨nJ,YX,-,-⟩:=FW.grow W5;have kD5:=(N5.old D lD4).trans kD4;have oD5:=W5.more _ oD;have lD5:=YX.dQ.fC.ay.lt oD5;have hp:=lv ea (n:=6) aa;have hpI:((cW ea 6:Nat):Int)<6:=aa;have sd:w5.cell? ⟨Nb,cW ea 6,none⟩=some (.string (iv ea)):=by
    have YG:iG[cW ea 6]?=some (.string (iv ea)):=by
     rw[iG,fE,fB,cp hp];rfl
    simp[World.cell?,YX.nb.1,YG]
   have ac2:=YX.nb.2.1;clear N5 W5 FW kD4 c14;refine aA ?_;refine aP aX YX.dQ.fC.ay rfl ai ai ?_ rfl (v:=.string (iv ea)) (gG ac2 sd) fun _=>?_
   ·exact cj (aH ac2)
   refine aA ?_;refine cq aX YX.dQ.fC.ay rfl ai ai ?_ rfl (R:=fun wl v aI=>v=.slice (some ⟨wl.heap.size,0,none⟩) 1 1/\aI=wl.alloc (.cells #[.string (iv ea)] 9)) (fun wl aE=>⟨_,_,by simp[go_sem,Act.eval],rfl,rfl⟩) fun wl v1 aI w6 aE Zy ba=>?_
   ·exact cj bf
   obtain⟨rfl,Zy⟩:=Zy;obtain⟨z6,k6,Us⟩:=ba.alloc YX.dQ.fC.ay aE Zy;obtain⟨W6,oN6⟩:=bu.mn ba.ay z6 k6;rw[aE.size];clear Zy ba aE wl aI;obtain⟨Si,FY,-,-⟩:=YX.grow W6;have kD6:=(k6 D lD5).trans kD5;have Mx:=W6.more _ oD5;generalize Go.Ren.grow o5 w5 w6=o6 at *;clear z6;refine aA ?_;refine cq aX FY.dQ.fC.ay rfl ai ai ?_ rfl (R:=fun wl y aI=>aI.ownsRow w.heap.size 9 1 y (since++[iv ea]).length ((since++[iv ea]).map .string)/\wl.grownBy aI sv.ownBlock/\(y.ownBlock=sv.ownBlock\/y.ownBlock=some wl.heap.size)) (fun wl aE=>?_) fun wl y7 aI w7 aE Of ba=>?_
   ·intro y hy;simp[Op.operands,Call.operands] at hy;rcases hy with rfl|rfl
    ·simp[Act.eval];exact FY.row.cl
    ·simp[Act.eval];exact di oN6
   ·obtain⟨v',W',e1,e2,e3,e4⟩:=xp wl w.heap.size sv since (iv ea) w5.heap.size (cQ FY.row.row fun g hg _=>aE.heap g (fO FY.dQ.fC.ay FY.row.cl g hg.symm)) aa (by rw[aE.size];exact FY.row.low) ((aE.heap _ oN6).trans Us);exact⟨v',W',gm (.tmp 50) (.tmp 62) 40 rfl aC aC e1,e2,e3,e4⟩
   obtain⟨r1,r2,r3⟩:=Of;obtain⟨q1,q2,q3⟩:=lJ.add FY.dQ.fC.ay FY.row aE ba r1 r2 r3;obtain⟨B7,hW7,-⟩:=FY.app q1 q2 q3;have kD7:=(q2.same D (FY.dQ.fC.ay.lt Mx) (fun e=>by have:=svD D e;omega)).trans kD6;have oD7:=q2.more _ Mx;clear r1 r2 r3 q1 q2 q3 ba aE wl aI;refine aA ?_;exact⟨eX,eX,aC,aC,aC,aC,aC,y7,since++[iv ea],B7,aC,eR,fun q=>absurd q O0,fun _=>e3,hW7,oD7,kD7⟩
  ·subst e1;have hgt:¬(My:Int)<(My:Int):=aa;refine aA ?_;exact⟨eX,eX,aC,aC,aC,aC,aC,sv,since,oI,aC,aa,e2,e3,FW,oD,kD4⟩
 clear FW kD4 oD svD ZY hW SO hed c0' Cp c2';rintro a o5 w5 ⟨ft,pF,i1,i5,i7,i8,i10,sv,since,lab,i6,SO,e2,e3,hW,oD,kD⟩;obtain⟨tm,df⟩:=a;simp only at ft pF;subst pF;obtain⟨gs,rfl⟩:=fA ft;clear ft;simp only[List.range,List.range.loop,List.map_cons,List.map_nil] at i1 i5 i6 i7 i8 i10 |-;simp[Act.eval] at i1 i5 i6 i7 i8 i10;simp only[i1,i5,i6,i7,i8,i10];clear i1 i5 i6 i7 i8 i10;refine FM W (fun a o' w'=>a.tmps.size=135/\a.defers=[]/\a.eval (.tmp 1)=.slice (some ⟨qb,Dl,none⟩) xs.length d/\a.eval (.tmp 5)=.pointer (some ⟨S,0,none⟩)/\a.eval (.tmp 7)=.slice (some ⟨Nb,0,none⟩) 6 6/\a.eval (.tmp 8)=.int .i64 i/\∃sv since lab,a.eval (.tmp 6)=sv/\since.length<=i+1/\yF s2 since/\WS o w S Nb K (.slice rp rs.length rc) s2 lab YT YU My sv since o' w') ?_ ?_
 ·refine aA ?_;refine aP aX hW.dQ.fC.ay rfl ai ai ?_ rfl (v:=.int .i64 n) (gG oD (bT kD).1) fun _=>?_
  ·exact cj (aH oD)
  walk_nrm;by_cases O0:n=1
  ·subst O0;refine aA ?_;exact⟨eX,eX,aC,aC,aC,aC,.slice none 0 0,[],lab,aC,an,e2 rfl,hW.nil⟩
  ·refine aA ?_;refine hZ W (t:=false) (by simp[Act.eval,O0]) ?_;simp only[if_false,reduceIte,Bool.false_eq_true];refine aA ?_;exact⟨eX,eX,aC,aC,aC,aC,sv,since,lab,aC,SO,e3 O0,hW⟩
 clear hW kD oD e2 e3 SO;rintro a o5 w5 ⟨ft,pF,i1,i5,i7,i8,sv,since,lab,i6,SO,hI,hW⟩;obtain⟨sp,sll,sc,rfl⟩:=jV hW.row.row;have ahy:=Ak hW.row.row rfl;subst ahy;obtain⟨tm,df⟩:=a;simp only at ft pF;subst pF;obtain⟨gs,rfl⟩:=fA ft;clear ft;simp only[List.range,List.range.loop,List.map_cons,List.map_nil] at i1 i5 i6 i7 i8 |-;simp[Act.eval] at i1 i5 i6 i7 i8;simp only[i1,i5,i6,i7,i8];clear i1 i5 i6 i7 i8;have d0:=(Cm hW.dQ.blk).1;refine aA ?_;refine aP aX hW.dQ.fC.ay rfl ai ai ?_ rfl (v:=.pointer (some ⟨K.kb,0,none⟩)) (gG hW.dQ.own d0) fun _=>?_
 ·exact cj (aH hW.dQ.own)
 refine aA ?_;refine aF W rfl ai rfl func28 af rfl aC rfl ((Yz hW.dQ.fC).mono ?_);rintro v6 o6 w6 ⟨ey,Si,rfl,Jm,Wl,⟨ep,ec,rfl,E1⟩,h6,T6⟩;have FY:=hW.k T6 h6;have gT:=h6.gT.1;have once:=hW.dQ.sound.once;have Wv:=hW.dQ.sound.lost;obtain⟨CB,hep,hte⟩:∃b,(s2.qn≠[]->ep=some ⟨b,0,none⟩/\o6 b)/\dP w6 b 0 s2.qn:=by
  obtain⟨p',b',c',e1,-,e3,e4⟩:=Jm.row;injection e1 with e1;subst e1;exact⟨b',e3,e4⟩
 have YY:=Jm.cl;obtain⟨ts,Pe⟩:∃ts,s2.qn=ts:=⟨_,rfl⟩;have hIw:∀x∈since,x∈ts\/s2.lost=true:=Pe▸hI.waits;have hIf:∀x∈ts,x∈since:=Pe▸hI.fresh;simp only[Pe] at hep hte YY gT once Wv E1 |-;clear hW T6 Wl Jm d0 h6;refine aA ?_;refine cq aX FY.dQ.fC.ay rfl ai ai kp rfl (R:=fun wl v aI=>v=.pointer (some ⟨wl.heap.size,0,none⟩)/\aI=wl.alloc (Obj.cells #[.int .i64 0,.int .i64 0,.int .i64 0,.slice none 0 0,.bool false] 70)) (fun wl aE=>⟨_,_,by first|(simp[go_sem];done)|(simp[go_sem];rfl),rfl,rfl⟩) fun wl v1 aI w7 aE Of ba=>?_;obtain⟨rfl,Of⟩:=Of;obtain⟨z7,k7,kb7⟩:=ba.alloc FY.dQ.fC.ay aE Of;obtain⟨W7,oL⟩:=bu.mn ba.ay z7 k7;rw[aE.size];clear Of ba aE wl aI;obtain⟨B7,h7,T7,od,UQ⟩:=FY.dQ.fC.grown (cK.refl FY.dQ.fC.ay) W7;have hlL:=UQ _ (ag _);have Su:=YY.up W7.more;generalize Go.Ren.grow o6 w6 w7=o7 at *;clear z7;walk_nrm;refine bD aX h7.ay rfl ai ai ?_ rfl (R:=fun wl aI=>aI=((((wl.setCell ⟨w6.heap.size,0,none⟩ (.int .i64 s2.phase)).setCell ⟨w6.heap.size,1,none⟩ (.int .i64 s2.time)).setCell ⟨w6.heap.size,2,none⟩ (.int .i64 s2.since)).setCell ⟨w6.heap.size,3,none⟩ (.slice ep ts.length ec)).setCell ⟨w6.heap.size,4,none⟩ (.bool s2.lost)) (fun wl aE=>⟨_,?_,rfl⟩) fun wl aI w8 aE hR8 ba=>?_
 ·refine dU ?_ ?_
  ·exact aH oL
  ·refine cJ (vs:=[_,_,_,_,_]) (fun x hx=>?_);simp at hx;rcases hx with rfl|rfl|rfl|rfl|rfl
   ·exact bN
   ·exact bN
   ·exact bN
   ·exact Su
   ·exact kn
 ·have e:=(aE.heap _ oL).trans kb7;have g0:wl.cell? ⟨w6.heap.size,0,none⟩=some (.int .i64 0):=by simp[World.cell?,e]
  have g1:wl.cell? ⟨w6.heap.size,1,none⟩=some (.int .i64 0):=by simp[World.cell?,e]
  have g2:wl.cell? ⟨w6.heap.size,2,none⟩=some (.int .i64 0):=by simp[World.cell?,e]
  have g3:wl.cell? ⟨w6.heap.size,3,none⟩=some (.slice none 0 0):=by simp[World.cell?,e]
  have g4:wl.cell? ⟨w6.heap.size,4,none⟩=some (.bool false):=by simp[World.cell?,e]
  have f:∀j,wl.frozen? ⟨w6.heap.size,j,none⟩=false:=fun j=>by simp[World.frozen?,e]
  simp[go_sem,g0,g1,g2,g3,g4,f]
 have hO:cN w6.heap.size wl aI:=by rw[hR8];exact(((iB _ _ _ _ _ _).at 2 _).at 3 _).at 4 _
 obtain⟨Aj,kL8,ey8⟩:=ba.only aE oL hO;have C8:=ba.ay;rw[ey8] at C8 |-;have kL:w8.heap[w6.heap.size]?=some (.cells #[.int .i64 s2.phase,.int .i64 s2.time,.int .i64 s2.since,.slice ep ts.length ec,.bool s2.lost] 70):=by
  rw[kL8,hR8];have e:=(aE.heap _ oL).trans kb7;simp[World.setCell,Array.getElem?_modify,e]
 obtain⟨h8,T8⟩:=h7.wrote T7 hlL (ag _) C8 Aj;have Mz:=FY.k T8 h8;have Sw:ts≠[]->ep=some ⟨CB,0,none⟩/\o7 CB:=fun q=>⟨(hep q).1,W7.more _ (hep q).2⟩;have ac4:dP w8 CB 0 ts:=fun k hk=>by
  have hb:=FY.dQ.fC.ay.lt (hep (fun q=>by rw[q] at hk;simp at hk)).2;exact(cell_of ((Aj.2 CB aa).trans (k7 CB hb))).trans (hte k hk)
 clear hR8 ba aE hO wl aI ey8 T7 h7 od UQ hlL Aj kb7 C8 W7 k7 T8 h8 FY kL8 hep hte YY;generalize w6.heap.size=L at *;obtain⟨-,-,-,cL3,cL4,-⟩:=ym kL;obtain⟨sb,xB,ac6⟩:=Mz.row.texts Mz.dQ.fC.ay;refine Kj ?_;have aoe:¬(4:Int)<(ts.length:Int):=aa;refine FM W (fun a o' w'=>a.tmps.size=135/\a.defers=[]/\a.eval (.tmp 1)=.slice (some ⟨qb,Dl,none⟩) xs.length d/\a.eval (.tmp 5)=.pointer (some ⟨S,0,none⟩)/\a.eval (.tmp 7)=.slice (some ⟨Nb,0,none⟩) 6 6/\a.eval (.tmp 8)=.int .i64 i/\a.eval (.tmp 6)=.slice sp since.length sc/\a.eval (.tmp 12)=.pointer (some ⟨L,0,none⟩)/\o7=o'/\w8=w') ?_ ?_
 ·refine aA ?_;refine aP aX Mz.dQ.fC.ay rfl ai ai ?_ rfl (v:=.slice ep ts.length ec) (gG oL cL3) fun _=>?_
  ·exact cj (aH oL)
  refine aA ?_;cases uL:s2.lost
  ·rw[uL] at cL4;refine aP aX Mz.dQ.fC.ay rfl ai ai ?_ rfl (v:=.bool false) (gG oL cL4) fun _=>?_
   ·exact cj (aH oL)
   refine aA ?_;exact⟨eX,eX,aC,aC,aC,aC,aC,aC,eX,eX⟩
  ·rw[uL] at cL4;have aof:¬(ts.length:Int)<4:=by have:=Wv uL;omega
   refine aP aX Mz.dQ.fC.ay rfl ai ai ?_ rfl (v:=.bool true) (gG oL cL4) fun _=>?_
   ·exact cj (aH oL)
   refine aA ?_;refine aP aX Mz.dQ.fC.ay rfl ai ai ?_ rfl (v:=.slice ep ts.length ec) (gG oL cL3) fun _=>?_
   ·exact cj (aH oL)
   refine aA ?_;exact⟨eX,eX,aC,aC,aC,aC,aC,aC,eX,eX⟩
 rintro a o' w' ⟨ft,pF,i1,i5,i7,i8,i6,i12,rfl,rfl⟩;obtain⟨tm,df⟩:=a;simp only at ft pF;subst pF;obtain⟨gs,rfl⟩:=fA ft;clear ft;simp only[List.range,List.range.loop,List.map_cons,List.map_nil] at i1 i5 i6 i7 i8 i12 |-;simp[Act.eval] at i1 i5 i6 i7 i8 i12;simp only[i1,i5,i6,i7,i8,i12];clear i1 i5 i6 i7 i8 i12;refine aA ?_;refine nu W (fun m a o' w'=>∃k,m+k=ts.length/\a.tmps.size=135/\a.defers=[]/\a.eval (.tmp 1)=.slice (some ⟨qb,Dl,none⟩) xs.length d/\a.eval (.tmp 5)=.pointer (some ⟨S,0,none⟩)/\a.eval (.tmp 7)=.slice (some ⟨Nb,0,none⟩) 6 6/\a.eval (.tmp 8)=.int .i64 i/\a.eval (.tmp 6)=.slice sp since.length sc/\a.eval (.tmp 12)=.pointer (some ⟨L,0,none⟩)/\a.eval (.tmp 13)=.int .i64 k/\gi o7 w8 o' w') (N:=ts.length) ⟨0,an,rfl,rfl,aC,aC,aC,aC,aC,aC,aC,gi.refl Mz.dQ.fC.ay⟩ ?_;rintro m1 a o9 w9 ⟨k,LV,ft,pF,i1,i5,i7,i8,i6,i12,i13,G⟩;obtain⟨tm,df⟩:=a;simp only at ft pF;subst pF;obtain⟨gs,rfl⟩:=fA ft;clear ft;simp only[List.range,List.range.loop,List.map_cons,List.map_nil] at i1 i5 i6 i7 i8 i12 i13 |-;simp[Act.eval] at i1 i5 i6 i7 i8 i12 i13;simp only[i1,i5,i6,i7,i8,i12,i13];clear i1 i5 i6 i7 i8 i12 i13;have lL:=Mz.dQ.fC.ay.lt oL;have MA:=G.aU.more _ oL;have eL9:=G.aU.same L lL id;have Lr:=(cell_of eL9).trans cL3;have gw:=G.aU.ay;have Sy:=Su.up G.aU.more;have Ww:=Mz.row.cl.up G.aU.more;have ac7:dP w9 sb 0 since:=fun j hj=>(cell_of (G.aU.same sb (Mz.dQ.fC.ay.lt (xB (fun q=>by rw[q] at hj;simp at hj)).2) id)).trans (ac6 j hj);have Vn:since≠[]->sp=some ⟨sb,0,none⟩/\o9 sb:=fun q=>⟨(xB q).1,G.aU.more _ (xB q).2⟩;have Sz:dP w9 CB 0 ts:=fun j hj=>(cell_of (G.aU.same CB (Mz.dQ.fC.ay.lt (Sw (fun q=>by rw[q] at hj;simp at hj)).2) id)).trans (ac4 j hj);refine aA ?_;refine aP aX gw rfl ai ai ?_ rfl (v:=.slice ep ts.length ec) (gG MA Lr) fun _=>?_
 ·exact cj (aH MA)
 walk_nrm;by_cases hk:k<ts.length
 ·have Yf:(k:Int)<(ts.length:Int):=aa;obtain⟨e1,oe⟩:=Sw (fun q=>by rw[q] at hk;simp at hk);subst e1;have YZ:=G.aU.more _ oe;have ctk:=Sz k hk;rw[bh] at ctk;have hkc:k<=ec:=aa;have agx:(k:Int)<=(ec:Int):=aa;have hcut:=fun w1 es=>Lp (P:=ar) w1 es 40 9 CB k ts.length ec underlying40 hkc;have MY:(ts.take k).length=k:=eR;have KJ:Jn (ts.take k) ts[k]=false:=OS fun q=>by
   obtain⟨j,hj,e⟩:=a8 q;have rY:j<k:=aa;rw[List.getElem_take] at e;exact List.pairwise_iff_getElem.1 once j k aa hk rY e
  have Vl:Jn since ts[k]=true:=(oJ _ _).2 (hIf _ (aD hk));generalize ts[k]=x at *;refine aA ?_;refine dq mixed af [some none,some (some (.slice (some ⟨CB,0,none⟩) ts.length ec)),some none,some none,some none,some (some (.slice (some ⟨CB,0,none⟩) ts.length ec)),some none,some none,some (some (.string x)),some (some (.bool false)),some none]
   (S:=fun σ o' w'=>gi o9 w9 o' w') (gi.refl gw) fun v9=>?_
  refine dp ?_;refine bO ?_;refine bK aX rfl rfl rfl ai ai (fun σ o' w' H hS=>?_) ?_
  ·have hx:=hS.aU.more _ MA;exact⟨hS.aU.ay,cj (aH hx),gG hx ((cell_of (hS.aU.same _ (gw.lt MA) id)).trans Lr)⟩
  refine bO ?_;refine bK aX rfl rfl rfl ai ai (fun σ o' w' H hS=>?_) ?_
  ·have hx:=hS.aU.more _ MA;exact⟨hS.aU.ay,cj (aH hx),gG hx ((cell_of (hS.aU.same _ (gw.lt MA) id)).trans Lr)⟩
  refine bO ?_;refine bK aX rfl rfl rfl ai ai (fun σ o' w' H hS=>?_) ?_
  ·have hx:=hS.aU.more _ YZ;exact⟨hS.aU.ay,cj (aH hx),gG hx ((cell_of (hS.aU.same _ (gw.lt YZ) id)).trans ctk)⟩
  refine bO ?_;refine iL rfl rfl ai rfl func27 af rfl (av:=#[.slice (some ⟨CB,0,none⟩) k ec,.string x]) aC (fun σ o' w' H hS=>?_) ?_
  ·have hle:=gw.lt YZ;have ac8:=FE (Fin:=Fin) hS.aU.ay CB 0 ec (some ⟨CB,0,none⟩) (ts.take k) x aa (fun _=>⟨rfl,hS.aU.more _ YZ⟩) (fun j hj=>by
    have rY:j<ts.length:=aa;have:=(cell_of (hS.aU.same CB hle id)).trans (Sz j rY);simpa using this) (di (hS.aU.more _ YZ))
   rw[MY] at ac8;refine ac8.mono ?_;rintro y o10 Ws ⟨rfl,N10⟩;exact⟨by rw[KJ],hS.trans (gi.dL N10)⟩
  refine bO ?_;refine cd fun σ o10 Ws kP hS=>?_;clear kP;have SB:=hS.aU.more _ MA;have ac9:=hS.aU.more _ YZ;have ada:=(cell_of (hS.aU.same L (gw.lt MA) id)).trans Lr;have adb:=(cell_of (hS.aU.same CB (gw.lt YZ) id)).trans ctk;simp only[gN,cZ,if_true,if_false,reduceIte,Nat.reduceEqDiff];refine aA ?_;refine aP aX hS.aU.ay rfl ai ai ?_ rfl (v:=.slice (some ⟨CB,0,none⟩) ts.length ec) (gG SB ada) fun _=>?_
  ·exact cj (aH SB)
  refine aA ?_;refine aP aX hS.aU.ay rfl ai ai ?_ rfl (v:=.string x) (gG ac9 adb) fun _=>?_
  ·exact cj (aH ac9)
  refine aA ?_;refine aF W rfl ai rfl func27 af rfl aC rfl ((FE hS.aU.ay sb 0 sc sp since x aa (fun q=>⟨(Vn q).1,hS.aU.more _ (Vn q).2⟩) (fun j hj=>(cell_of (hS.aU.same sb (gw.lt (Vn (fun q=>by rw[q] at hj;simp at hj)).2) id)).trans (ac7 j hj)) (Ww.up hS.aU.more)).mono ?_);rintro v11 o11 w11 ⟨rfl,N11⟩;rw[Vl];have Ja:IntKind.i64.wrap ((k:Int)+1)=((k+1:Nat):Int):=by rw[IntKind.wrap_i64]<;>omega
  refine aA ?_;exact⟨m1-1,aa,k+1,aa,eX,eX,aC,aC,aC,aC,aC,aC,by simp[Act.eval,Ja],(G.trans hS).trans (gi.dL N11)⟩
 have Yf:¬(k:Int)<(ts.length:Int):=aa;refine aA ?_;refine nu W (fun m a o' w'=>∃k,m+k=since.length/\a.tmps.size=135/\a.defers=[]/\a.eval (.tmp 1)=.slice (some ⟨qb,Dl,none⟩) xs.length d/\a.eval (.tmp 5)=.pointer (some ⟨S,0,none⟩)/\a.eval (.tmp 7)=.slice (some ⟨Nb,0,none⟩) 6 6/\a.eval (.tmp 8)=.int .i64 i/\a.eval (.tmp 6)=.slice sp since.length sc/\a.eval (.tmp 12)=.pointer (some ⟨L,0,none⟩)/\a.eval (.tmp 16)=.int .i64 k/\gi o7 w8 o' w') (N:=since.length) ⟨0,an,rfl,rfl,aC,aC,aC,aC,aC,aC,aC,G⟩ ?_;clear G MA eL9 Lr gw Sy Ww ac7 Vn Sz hk Yf LV;rintro m1 a o9 w9 ⟨k,LV,ft,pF,i1,i5,i7,i8,i6,i12,i16,G⟩;obtain⟨tm,df⟩:=a;simp only at ft pF;subst pF;obtain⟨gs,rfl⟩:=fA ft;clear ft;simp only[List.range,List.range.loop,List.map_cons,List.map_nil] at i1 i5 i6 i7 i8 i12 i16 |-;simp[Act.eval] at i1 i5 i6 i7 i8 i12 i16;simp only[i1,i5,i6,i7,i8,i12,i16];clear i1 i5 i6 i7 i8 i12 i16;have MA:=G.aU.more _ oL;have Lr:=(cell_of (G.aU.same L lL id)).trans cL3;have ahE:=(cell_of (G.aU.same L lL id)).trans cL4;have gw:=G.aU.ay;have Sy:=Su.up G.aU.more;have Sz:dP w9 CB 0 ts:=fun j hj=>(cell_of (G.aU.same CB (Mz.dQ.fC.ay.lt (Sw (fun q=>by rw[q] at hj;simp at hj)).2) id)).trans (ac4 j hj);have Y0:ts≠[]->ep=some ⟨CB,0,none⟩/\o9 CB:=fun q=>⟨(Sw q).1,G.aU.more _ (Sw q).2⟩;by_cases hk:k<since.length;rotate_left
 ·have Yf:¬(k:Int)<(since.length:Int):=aa;obtain⟨K1,hW9,-,-⟩:=Mz.grow G.aU;have hwi:IntKind.i64.wrap ((i:Int)+1)=((i+1:Nat):Int):=by rw[IntKind.wrap_i64]<;>omega
  refine aA ?_;exact⟨m-1,aa,i+1,aa,eX,eX,aC,aC,aC,by simp[Act.eval,hwi],_,since,s2,K1,YT,YU,My,aC,ahw,SO,hI,hW9⟩
 have Yf:(k:Int)<(since.length:Int):=aa;obtain⟨e1,os⟩:=xB (fun q=>by rw[q] at hk;simp at hk);subst e1;have os9:=G.aU.more _ os;have csk:=(cell_of (G.aU.same sb (Mz.dQ.fC.ay.lt os) id)).trans (ac6 k hk);rw[bh] at csk;have hor:=hIw since[k] (aD hk);generalize since[k]=x at *;have Ja:IntKind.i64.wrap ((k:Int)+1)=((k+1:Nat):Int):=by rw[IntKind.wrap_i64]<;>omega
 refine aA ?_;refine dq mixed af [some none,some (some (.slice ep ts.length ec)),some none,some none,some none,some (some (.string x)),some (some (.bool (Jn ts x))),some none]
  (S:=fun σ o' w'=>gi o9 w9 o' w') (gi.refl gw) fun v9=>?_
 refine dp ?_;refine bO ?_;refine bK aX rfl rfl rfl ai ai (fun σ o' w' H hS=>?_) ?_
 ·have hx:=hS.aU.more _ MA;exact⟨hS.aU.ay,cj (aH hx),gG hx ((cell_of (hS.aU.same _ (gw.lt MA) id)).trans Lr)⟩
 refine bO ?_;refine bK aX rfl rfl rfl ai ai (fun σ o' w' H hS=>?_) ?_
 ·have hx:=hS.aU.more _ os9;exact⟨hS.aU.ay,cj (aH hx),gG hx ((cell_of (hS.aU.same _ (gw.lt os9) id)).trans csk)⟩
 refine bO ?_;refine iL rfl rfl ai rfl func27 af rfl (av:=#[.slice ep ts.length ec,.string x]) aC (fun σ o' w' H hS=>?_) ?_
 ·refine(FE hS.aU.ay CB 0 ec ep ts x aa (fun q=>⟨(Y0 q).1,hS.aU.more _ (Y0 q).2⟩) (fun j hj=>(cell_of (hS.aU.same CB (gw.lt (Y0 (fun q=>by rw[q] at hj;simp at hj)).2) id)).trans (Sz j hj)) (Sy.up hS.aU.more)).mono ?_;rintro y o10 Ws ⟨rfl,N10⟩;exact⟨rfl,hS.trans (gi.dL N10)⟩
 refine bO ?_;refine cd fun σ o10 Ws kP hS=>?_;clear kP;have SB:=hS.aU.more _ MA;have Wy:=(cell_of (hS.aU.same L (gw.lt MA) id)).trans ahE;cases pd:Jn ts x
 ·have uL:s2.lost=true:=hor.resolve_left fun q=>by rw[(oJ _ _).2 q] at pd;cases pd
  rw[uL] at Wy;simp only[gN,cZ,if_true,if_false,reduceIte,Nat.reduceEqDiff];refine aA ?_;refine aP aX hS.aU.ay rfl ai ai ?_ rfl (v:=.bool true) (gG SB Wy) fun _=>?_
  ·exact cj (aH SB)
  refine aA ?_;exact⟨m1-1,aa,k+1,aa,eX,eX,aC,aC,aC,aC,aC,aC,by simp[Act.eval,Ja],G.trans hS⟩
 ·simp only[gN,cZ,if_true,if_false,reduceIte,Nat.reduceEqDiff];refine aA ?_;exact⟨m1-1,aa,k+1,aa,eX,eX,aC,aC,aC,aC,aC,aC,by simp[Act.eval,Ja],G.trans hS⟩
end
open Go
section
open YtgjekaaknjgnmaaGreatDoor
theorem Dn:xy 10 Tryz.f10:=fun Fin o w hF pow p b off c rw hR q qb Dl d xs hX=>by
 letI:Go.ConcR.Payload:=⟨0⟩
 exact Lq hF pow p b off c rw hR q qb Dl d xs hX
theorem watchful_done:Rows.WatchfulCardSaid:=Dm Dn
end
end Go.Proofs.Kz
namespace Go.Proofs.YtgjekaaknjgnmaaGreatDoor
theorem watchful_claim:Rows.WatchfulCardSaid:=Go.Proofs.Kz.watchful_done
end Go.Proofs.YtgjekaaknjgnmaaGreatDoor
