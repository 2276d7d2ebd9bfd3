import Derived.Test.YtgjekaaknjgnmaaGreatDoorAi
set_option linter.all false
set_option maxHeartbeats 40000000
set_option maxRecDepth 200000
namespace Go.Proofs.Kz
open Go.Proofs.Tryz
open Go.Proofs.Tryz renaming prog → au
open _root_.ByteArray renaming empty → aO
open Go.Proofs
section
open Go.RowKit
theorem Kx(b c:Nat)(p:Option Addr)(fs:List (af×af))(x:af)(w:ae)(hn:fs.length<=1000)(hp:fs≠[]->p=some ⟨b,0,none⟩/\b<w.heap.size)(hf:lM w b fs)(hx:∀f∈fs,f.1≠x):
  Calls au 69 #[.slice p fs.length c,.string x] w fun e w'=>e=.returned (.bool false)/\Below w.heap.size w w'/\w.heap.size<=w'.heap.size:=by
 go_enter func69,ntmps69;go_wp2;go_loopw [9] (fun i w'=>∃k:Nat,k<=fs.length/\i=.int .i64 k/\Below w.heap.size w w'/\w.heap.size<=w'.heap.size) (fun i _=>fs.length-(intOf i).toNat)
 case atStart=>exact⟨0,aU _,rfl,Below.refl _ _,ag _⟩
 case round =>
  obtain⟨k,hk,rfl,gw,hz⟩:=hrel;by_cases cy:k<fs.length
  ·obtain⟨rfl,hb⟩:=hp (fun e=>by rw[e] at cy;simp at cy);obtain⟨c0,c1⟩:=hf.below hb gw k cy;have dH:=vp (hx fs[k] (aG cy));generalize fs[k]=f at *;obtain⟨f1,f2⟩:=f;simp only at c0 c1 dH;clear hf hx;go_wp2;exact⟨⟨k+1,aa,by go_num,gw.alloc aa _,dV⟩,by simp[intOf];omega⟩
  ·go_wp2;go_ret;exact⟨rfl,gw,hz⟩
end
section
open Go.RowKit
open Go.Ren (cell_of)
theorem aeT{w:ae}{B t n k:Nat}{vs:List V}{v:V}(hk:k<vs.length)(cj:w.rowIs B t (n*2) (dX vs)):
  ((w.setCell ⟨B,k*2,none⟩ (.bool v.1)).setCell ⟨B,k*2+1,none⟩ (.string v.2)).rowIs B t (n*2) (dX (vs.set k v)):=by
 refine((cj.set (k*2) _).set (k*2+1) _).congr fun j hj=>?_;by_cases e1:j=k*2+1
 ·subst e1;rw[if_pos rfl];have h1:(k*2+1)%2=1:=aa;have h2:(k*2+1)/2=k:=aa;simp[dX,h1,h2,hk]
 ·by_cases e2:j=k*2
  ·subst e2;rw[if_neg e1,if_pos rfl];have h1:(k*2)%2=0:=aa;have h2:(k*2)/2=k:=aa;simp[dX,h1,h2,hk]
  ·rw[if_neg e1,if_neg e2];have h3:k≠j/2:=aa;simp[dX,h3]
def kM(cX:List af)(fs:List (af×af)):List V:=fs.foldl (fun vs f=>if pO cX f.1 then vs.set (mZ cX f.1) (true,f.2) else vs) (List.replicate cX.length V0)
theorem AH(cX:List af)(fs:List (af×af))(k:Nat)(h:k<fs.length):kM cX (fs.take (k+1))=if pO cX fs[k].1 then(kM cX (fs.take k)).set (mZ cX fs[k].1) (true,fs[k].2) else kM cX (fs.take k):=by
 unfold kM;rw[take_succ fs k h,List.foldl_append];rfl
theorem Dy(cX:List af)(fs:List (af×af)):(kM cX fs).length=cX.length:=by
 unfold kM
 suffices ∀(l:List (af×af)) (vs:List V),(l.foldl (fun vs f=>if pO cX f.1 then vs.set (mZ cX f.1) (true,f.2) else vs) vs).length=vs.length by
  rw[this,List.length_replicate]
 intro l
 induction l with
 |nil=>exact fun _=>rfl
 |cons f l ih =>
  intro vs;rw[List.foldl_cons,ih];split
  ·rw[List.length_set]
  ·rfl
theorem Hl(sb sc b c:Nat)(sp p:Option Addr)(cX:List af)(fs:List (af×af))(w:ae)(h1:cX.length<=1000)(h2:fs.length<=1000)(vx:cX≠[]->sp=some ⟨sb,0,none⟩/\sb<w.heap.size)(hp:fs≠[]->p=some ⟨b,0,none⟩/\b<w.heap.size)(hs:fy w sb 0 cX)(hf:lM w b fs):
  Calls au 43 #[.slice sp cX.length sc,.slice p fs.length c] w fun e w'=>e=.returned (.slice (some ⟨w.heap.size,0,none⟩) cX.length cX.length)/\Below w.heap.size w w'/\w.heap.size<w'.heap.size /\
   w'.rowIs w.heap.size 159 (cX.length*2) (dX (kM cX fs)):=by
 have Je:=fun w=>rF w cX.length aa;go_enter func43,ntmps43;go_wp2;go_loopw [15] (fun i w'=>∃k:Nat,k<=fs.length/\i=.int .i64 k/\Below w.heap.size w w'/\w.heap.size<w'.heap.size/\w'.rowIs w.heap.size 159 (cX.length*2) (dX (kM cX (fs.take k)))) (fun i _=>fs.length-(intOf i).toNat)
 case atStart =>
  refine⟨0,aU _,rfl,(Below.refl _ _).alloc (ag _) _,aj,_,jR _ _,by simp[size_madeCells],fun j hj=>?_⟩;simp only[madeCells,aK,Array.getElem?_range,hj,if_true,aJ];have h5:(kM cX (fs.take 0)).getD (j/2) V0=V0:=by
   show(List.replicate cX.length V0).getD (j/2) V0=V0;rw[jo,ki];split<;>rfl
  unfold dX;rw[h5];rcases fg j with e|e<;>simp[e]
 case round =>
  obtain⟨k,hk,rfl,gw,hz,cj⟩:=hrel;by_cases cy:k<fs.length
  ·obtain⟨rfl,hb⟩:=hp (fun e=>by rw[e] at cy;simp at cy);obtain⟨c0,c1⟩:=hf.below hb gw k cy;have Ra:=AH cX fs k cy;have hlen:=Dy cX (fs.take k);have nt:pO cX fs[k].1=true->mZ cX fs[k].1<cX.length:=fun h=>(fo h).1;have VU:=fun x=>uB sb sc sp cX fs[k].1 (wr.alloc x) aa (fun h=>(vx h).1) (fun j hj=>hs.below (vx (fun e=>by rw[e] at hj;simp at hj)).2 (gw.alloc aa _) j hj);have d0:∀j,j<cX.length->wr.cell? ⟨w.heap.size,j*2,none⟩=some (dX (kM cX (fs.take k)) (j*2)):=fun j hj=>cj.cell aa;have d1:∀j,j<cX.length->wr.cell? ⟨w.heap.size,j*2+1,none⟩=some (dX (kM cX (fs.take k)) (j*2+1)):=fun j hj=>cj.cell aa;have f0:∀j,wr.frozen? ⟨w.heap.size,j,none⟩=false:=fun j=>cj.frozen j;generalize fs[k]=f at *;obtain⟨f1,f2⟩:=f;simp only at c0 c1 VU nt Ra;clear hs hf vx hp;generalize kM cX (fs.take k)=vs at *;generalize pO cX f1=ht at *;generalize mZ cX f1=po at *;cases ht
   ·go_wp2_with (go_at_call 77;refine(VU _).mono ?_;rintro e w2 ⟨rfl,uS,pA⟩);refine⟨⟨k+1,aa,by go_num,pA _ _ (gw.alloc aa _),?_,?_⟩,by simp[intOf];omega⟩
    ·rw[uS];simp;omega
    ·rw[Ra];exact cj.of_block (by rw[uS];exact Below.heap_alloc _ _ _ hz)
   ·have hpo:=nt rfl;have hpI:(po:Int)<(cX.length:Int):=aa;obtain⟨a0,e0⟩:∃v,wr.cell? ⟨w.heap.size,po*2,none⟩=some v:=⟨_,d0 po hpo⟩;obtain⟨a1,e1⟩:∃v,wr.cell? ⟨w.heap.size,po*2+1,none⟩=some v:=⟨_,d1 po hpo⟩;have hA:∀x:Obj,(wr.alloc x).heap[w.heap.size]?=wr.heap[w.heap.size]?:=fun x=>Below.heap_alloc _ _ _ hz;have r0:=fun x=>(cell_of (hA x)).trans e0;have r1:=fun x=>(cell_of (hA x)).trans e1;have r2:∀x j,(wr.alloc x).frozen? ⟨w.heap.size,j,none⟩=false:=fun x j=>by
     have:=f0 j;unfold World.frozen? at this |-;rw[hA x];exact this
    clear d0 d1 f0 e0 e1 Je;go_wp2_with (go_at_call 77;refine(VU _).mono ?_;rintro e w2 ⟨rfl,uS,pA⟩;have g0:=(mC uS _).trans (r0 _);have g1:=(mC uS _).trans (r1 _);have g2:=fun j=>(uC uS _).trans (r2 _ j);have g3:=(mC uS _).trans (sN _ _ _ 1));refine⟨⟨k+1,aa,by go_num,((pA _ _ (gw.alloc aa _)).setCell (ag _) _).setCell (ag _) _,?_,?_⟩,by simp[intOf];omega⟩
    ·simp[World.setCell,uS];omega
    ·rw[Ra,if_pos trivial];exact aeT (v:=(true,f2)) aa (cj.of_block (by rw[uS];exact hA _))
  ·have e:k=fs.length:=aa;subst e;rw[cS] at cj;go_wp2;go_ret;exact⟨rfl,gw,hz,cj⟩
end
theorem M0{l:List (af×af)}{x t:af}(hx:x∉l.map (·.1))(y:af):dU (l++[(x,t)]) y=if y=x then(true,t) else dU l y:=by
 unfold dU;rw[zV];by_cases e:y=x
 ·subst e;rw[vu hx];simp
 ·cases eT l y<;>simp[e]
theorem M1{xs:List af}(h:lK xs){i j:Nat}(hi:i<xs.length)(hj:j<xs.length)(e:xs[i]=xs[j]):i=j:=by
 rcases fW i j with q|q|q
 ·have:=h i j hi hj q;rw[e,pX] at this;exact absurd this eu
 ·exact q
 ·have:=h j i hj hi q;rw[e,pX] at this;exact absurd this eu
theorem AI{cX:List af}{fs:List (af×af)}(hs:lK cX)(hn:(fs.map (·.1)).Nodup):∀k,k<=fs.length->kM cX (fs.take k)=cX.map (dU (fs.take k))
 |0,_=>by
  apply fV;intro i;simp only[kM,List.take_zero,List.foldl_nil,List.getElem?_replicate,List.getElem?_map];by_cases h:i<cX.length
  ·simp[h,dU,eT]
  ·simp[h]
 |k+1,h=>by
  have hk:k<fs.length:=h;have hx:fs[k].1∉(fs.take k).map (·.1):=fun q=>by
   obtain⟨f,hf,e⟩:=List.mem_map.1 q;obtain⟨i,hi,rfl⟩:=bc hf;have ma:i<k:=by simp at hi;omega
   rw[fY] at e;have:=List.pairwise_iff_getElem.1 hn i k dV dV ma;simp at this;exact this e
  rw[AH cX fs k hk,AI hs hn k aa,take_succ fs k hk];have Xm:=fun y=>M0 (t:=fs[k].2) hx y;generalize fs[k]=f at *;obtain⟨x,t⟩:=f;simp only at Xm |-;apply fV;intro i;by_cases hh:pO cX x=true
  ·rw[if_pos hh];obtain⟨h1,h2⟩:=fo hh;rw[jo,bo h1,bq] at h2;by_cases e:mZ cX x=i
   ·subst e;simp[h1,h2,Xm]
   ·rw[List.getElem?_set_ne e,eE,eE];by_cases hi:i<cX.length
    ·have:cX[i]≠x:=fun q=>e (M1 hs h1 hi (h2.trans q.symm));simp[hi,Xm,this]
    ·simp[hi]
  ·rw[if_neg hh,eE,eE];by_cases hi:i<cX.length
   ·have:cX[i]≠x:=fun q=>hh ((yv cX hs x).2 (q▸aG hi));simp[hi,Xm,this]
   ·simp[hi]
theorem M3{cX:List af}{fs:List (af×af)}(hs:lK cX)(hn:(fs.map (·.1)).Nodup):kM cX fs=cX.map (dU fs):=by
 have:=AI hs hn fs.length (ag _);rwa[cS] at this
open Go.Ren Go.Conc Go.ConcN
section
variable {Fin:bK} {o o':aM} {w w':ae}
theorem QM(hF:bM au L0 o w)(b c:Nat)(p:Option Addr)(fs:List (af×af))(x:af)(hn:fs.length<=1000)(hp:fs≠[]->p=some ⟨b,0,none⟩/\o b)(hf:lM w b fs)(hc:Cl au L0 o (.slice p fs.length c))(hx:∀f∈fs,f.1≠x):
  bz au (XB au Fin 0) 69 #[.slice p fs.length c,.string x] o w fun v o' w'=>v=.bool false/\fT o w v o' w':=by
 refine bz.mono (eD ah hF (fun y hy=>by simp at hy;rcases hy with rfl|rfl;exact hc;exact bS) (Q:=fun wl v w'=>v=.bool false) (fun wl A1 v w1 w2 e1 e2 h=>h) (fun wl hz aT=>?_)) (fun v o' w' hq=>?_)
 ·refine(Kx b c p fs x wl hn (fun q=>⟨(hp q).1,by rw[hz];exact hF.lt (hp q).2⟩) (fun k hk=>lG hf (aT b (hp (fun e=>by rw[e] at hk;simp at hk)).2) k hk) hx).mono fun e w' hq=>?_;obtain⟨rfl,hB,Ti⟩:=hq;exact⟨_,rfl,Ti,fun b hb=>hB.block b hb,rfl⟩
 ·obtain⟨hN,wl,aV,-,-,-,h1⟩:=hq;exact⟨h1,hN⟩
structure vw(fs:List (af×af)):Prop where
 gT:fs.length<=12
 name:∀f∈fs,isName f.1
 once:(fs.map (·.1)).Nodup
 text:∀f∈fs,f.2.size<=12
theorem QN(hF:bM au L0 o w)(b c:Nat)(p:Option Addr)(fs:List (af×af))(hp:fs≠[]->p=some ⟨b,0,none⟩/\o b)(hf:lM w b fs)(hc:Cl au L0 o (.slice p fs.length c))(AX:fs.length<=c)(ok:vw fs):
  bz au (XB au Fin 0) 40 #[.slice p fs.length c] o w fun v o' w'=>v=.int .i64 0/\fZ o w o' w':=by
 have W:=bV (P:=au) (Fin:=Fin) (d:=0);have xc:=ok.gT;have ad2:¬(12:Int)<(fs.length:Int):=aa;have at_:∀{o1:aM} {w1:ae} (G:fZ o w o1 w1) (k:Nat) (hk:k<fs.length),o1 b/\w1.cell? ⟨b,k*2,none⟩=some (.string fs[k].1)/\w1.cell? ⟨b,k*2+1,none⟩=some (.string fs[k].2):=fun G k hk=>by
  have q:=(hp (fun e=>by rw[e] at hk;simp at hk)).2;have e:=G.br.same b (hF.lt q) id;exact⟨G.br.more _ q,(cell_of e).trans (hf k hk).1,(cell_of e).trans (hf k hk).2⟩
 refine bC W func40 ar ?_;walk_nrmf Tryz.f40;refine pH W ?_;refine CE ?_;refine pH W ?_;refine pH W ?_;refine CE ?_;refine yP W (fun a o' w'=>a.tmps.size=48/\a.defers=[]/\a.eval (.tmp 0)=.slice p fs.length c/\fZ o w o' w') ?_ ?_
 ·refine ax ?_;refine iL W (fun m a o' w'=>∃k,m+k=fs.length/\a.tmps.size=48/\a.defers=[]/\a.eval (.tmp 0)=.slice p fs.length c/\a.eval (.tmp 12)=.slice p fs.length c/\a.eval (.tmp 13)=.int .i64 fs.length/\a.eval (.tmp 14)=.int .i64 k/\fZ o w o' w') (N:=fs.length) ⟨0,aj,rfl,rfl,aH,aH,aH,aH,fZ.refl hF⟩ ?_;rintro m a o1 w1 ⟨k,Je,fE,kT,i0,i1,i2,i3,G⟩;obtain⟨gs,rfl⟩:=iE fE kT;clear fE kT;simp only[List.range,List.range.loop,aA,aP] at i0 i1 i2 i3 |-;simp[Act.eval] at i0 i1 i2 i3;simp only[i0,i1,i2,i3];clear i0 i1 i2 i3;by_cases hk:k<fs.length;rotate_left
  ·have UT:¬(k:Int)<(fs.length:Int):=aa;refine ax ?_;exact⟨dj,dj,aH,G⟩
  have UT:(k:Int)<(fs.length:Int):=aa;have Hu:IntKind.i64.wrap ((k:Int)+1)=((k+1:Nat):Int):=by rw[IntKind.wrap_i64]<;>omega
  obtain⟨ob,c0,c1⟩:=at_ G k hk;have hm:=aG hk;have EU:=ok.name _ hm;have Q6:=ok.text _ hm;have Hm:∀f∈fs.take k,f.1≠fs[k].1:=fun f UB e=>by
   obtain⟨j,hj,rfl⟩:=bc UB;rw[fY] at e;have r8:j<k:=by simp at hj;omega
   have:=List.pairwise_iff_getElem.1 ok.once j k dV dV r8;simp at this;exact this e
  obtain⟨e1,-⟩:=hp (fun e=>by rw[e] at hk;simp at hk);subst e1;have lv:=G.br.aF;rcases Rz:fs[k] with⟨x,t⟩;rw[Rz] at c0 c1 EU Q6 Hm;simp only at c0 c1 EU Q6 Hm;clear Rz hm;refine ax ?_;refine dB bQ lv rfl ar ar ?_ rfl (v:=.agg #[.string x,.string t]) (fun wl aT=>by simp[go_sem,(aT.cell ob).trans c0,(aT.cell ob).trans c1]) fun _=>?_
  ·exact mU (bU ob)
  refine ax ?_;refine dt bQ lv rfl ar ar mW rfl (R:=fun wl v aV=>v=.pointer (some ⟨wl.heap.size,0,none⟩)/\aV=wl.alloc (Obj.cells #[.string aO,.string aO] 44)) (fun wl aT=>⟨_,_,by first|(simp[go_sem];done)|(simp[go_sem];rfl),rfl,rfl⟩) fun wl v1 aV w3 aT nD bN=>?_;obtain⟨rfl,nD⟩:=nD;obtain⟨z3,k3,sB⟩:=bN.alloc lv aT nD;have G3:=fZ.sW bN.aF aa k3;obtain⟨-,oA⟩:=bA.qx bN.aF z3 k3;have px:=bN.aF;rw[aT.size];clear nD bN aT wl aV;generalize Go.Ren.grow o1 w1 w3=o3 at *;refine ax ?_;refine du bQ px rfl ar ar ?_ rfl (R:=fun wl aV=>aV=(wl.setCell ⟨w1.heap.size,0,none⟩ (.string x)).setCell ⟨w1.heap.size,1,none⟩ (.string t)) (fun wl aT=>⟨_,?_,rfl⟩) fun wl aV w4 aT Bq bN=>?_
  ·refine iV ?_ ?_
   ·exact bU oA
   ·refine fS (vs:=[_,_]) (fun x hx=>?_);simp at hx;rcases hx with rfl|rfl
    ·exact bS
    ·exact bS
  ·obtain⟨e0,e1,f0,f1⟩:=dO ((aT.heap _ oA).trans sB)
   first
   | (simp[go_sem,e0,e1,f0,f1];done)
   | (simp[go_sem,e0,e1,f0,f1];rfl)
  have hO:eI w1.heap.size wl aV:=by rw[Bq];exact Aw _ _ _ _ _ _
  obtain⟨vo,kA,ey⟩:=bN.only aT oA hO;have tj:=bN.aF;rw[ey] at tj |-;rw[Bq,Tt ((aT.heap _ oA).trans sB)] at kA;have G4:=G3.wrote (ag _) tj vo;clear Bq bN aT hO wl aV ey vo sB z3 k3 px G3;generalize w1.heap.size=A at *;refine ax ?_;refine lh tj oA (dO kA).1 fun _=>?_;refine ax ?_;refine cd func68 (MD tj x (by have:=EU.2.1;omega)) ?_;rintro v5 o5 w5 ⟨y5,rfl,hy5,N5⟩;obtain rfl:=hy5.2 EU;have G5:=G4.trans (fZ.eJ N5);refine ax ?_;exact⟨m-1,aa,k+1,aa,dj,dj,aH,aH,aH,by simp[Act.eval,Hu],G.trans G5⟩
 rintro a o9 w9 ⟨fE,kT,i0,G9⟩;obtain⟨gs,rfl⟩:=iE fE kT;clear fE kT;simp only[List.range,List.range.loop,aA,aP] at i0 |-;simp[Act.eval] at i0;simp only[i0];clear i0;refine yP W (fun a o' w'=>a.tmps.size=48/\a.defers=[]/\a.eval (.tmp 0)=.slice p fs.length c/\fZ o w o' w') ?_ ?_
 ·refine ax ?_;refine iL W (fun m a o' w'=>∃k,m+k=fs.length/\a.tmps.size=48/\a.defers=[]/\a.eval (.tmp 0)=.slice p fs.length c/\a.eval (.tmp 23)=.slice p fs.length c/\a.eval (.tmp 24)=.int .i64 fs.length/\a.eval (.tmp 25)=.int .i64 k/\fZ o w o' w') (N:=fs.length) ⟨0,aj,rfl,rfl,aH,aH,aH,aH,G9⟩ ?_;rintro m a o1 w1 ⟨k,Je,fE,kT,i0,i1,i2,i3,G⟩;obtain⟨gs,rfl⟩:=iE fE kT;clear fE kT;simp only[List.range,List.range.loop,aA,aP] at i0 i1 i2 i3 |-;simp[Act.eval] at i0 i1 i2 i3;simp only[i0,i1,i2,i3];clear i0 i1 i2 i3;by_cases hk:k<fs.length;rotate_left
  ·have UT:¬(k:Int)<(fs.length:Int):=aa;refine ax ?_;exact⟨dj,dj,aH,G⟩
  have UT:(k:Int)<(fs.length:Int):=aa;have Hu:IntKind.i64.wrap ((k:Int)+1)=((k+1:Nat):Int):=by rw[IntKind.wrap_i64]<;>omega
  obtain⟨ob,c0,c1⟩:=at_ G k hk;have hm:=aG hk;have EU:=ok.name _ hm;have Q6:=ok.text _ hm;have Hm:∀f∈fs.take k,f.1≠fs[k].1:=fun f UB e=>by
   obtain⟨j,hj,rfl⟩:=bc UB;rw[fY] at e;have r8:j<k:=by simp at hj;omega
   have:=List.pairwise_iff_getElem.1 ok.once j k dV dV r8;simp at this;exact this e
  obtain⟨e1,-⟩:=hp (fun e=>by rw[e] at hk;simp at hk);subst e1;have lv:=G.br.aF;rcases Rz:fs[k] with⟨x,t⟩;rw[Rz] at c0 c1 EU Q6 Hm;simp only at c0 c1 EU Q6 Hm;clear Rz hm;refine ax ?_;refine dB bQ lv rfl ar ar ?_ rfl (v:=.agg #[.string x,.string t]) (fun wl aT=>by simp[go_sem,(aT.cell ob).trans c0,(aT.cell ob).trans c1]) fun _=>?_
  ·exact mU (bU ob)
  refine ax ?_;refine dt bQ lv rfl ar ar mW rfl (R:=fun wl v aV=>v=.pointer (some ⟨wl.heap.size,0,none⟩)/\aV=wl.alloc (Obj.cells #[.string aO,.string aO] 44)) (fun wl aT=>⟨_,_,by first|(simp[go_sem];done)|(simp[go_sem];rfl),rfl,rfl⟩) fun wl v1 aV w3 aT nD bN=>?_;obtain⟨rfl,nD⟩:=nD;obtain⟨z3,k3,sB⟩:=bN.alloc lv aT nD;have G3:=fZ.sW bN.aF aa k3;obtain⟨-,oA⟩:=bA.qx bN.aF z3 k3;have px:=bN.aF;rw[aT.size];clear nD bN aT wl aV;generalize Go.Ren.grow o1 w1 w3=o3 at *;refine ax ?_;refine du bQ px rfl ar ar ?_ rfl (R:=fun wl aV=>aV=(wl.setCell ⟨w1.heap.size,0,none⟩ (.string x)).setCell ⟨w1.heap.size,1,none⟩ (.string t)) (fun wl aT=>⟨_,?_,rfl⟩) fun wl aV w4 aT Bq bN=>?_
  ·refine iV ?_ ?_
   ·exact bU oA
   ·refine fS (vs:=[_,_]) (fun x hx=>?_);simp at hx;rcases hx with rfl|rfl
    ·exact bS
    ·exact bS
  ·obtain⟨e0,e1,f0,f1⟩:=dO ((aT.heap _ oA).trans sB)
   first
   | (simp[go_sem,e0,e1,f0,f1];done)
   | (simp[go_sem,e0,e1,f0,f1];rfl)
  have hO:eI w1.heap.size wl aV:=by rw[Bq];exact Aw _ _ _ _ _ _
  obtain⟨vo,kA,ey⟩:=bN.only aT oA hO;have tj:=bN.aF;rw[ey] at tj |-;rw[Bq,Tt ((aT.heap _ oA).trans sB)] at kA;have G4:=G3.wrote (ag _) tj vo;clear Bq bN aT hO wl aV ey vo sB z3 k3 px G3;generalize w1.heap.size=A at *;refine ax ?_;have O0:(fs.take k).length=k:=dV;have hkc:k<=c:=aa;have aiC:(k:Int)<=(c:Int):=aa;have hcut:=fun w1 es=>MZ (P:=au) w1 es 37 44 b k fs.length c underlying37 hkc;refine dQ mixed ah [some none,some none,some none,some none,some (some (.string x)),some (some (.bool false))]
   (S:=fun σ o' w'=>fZ o3 w4 o' w') (fZ.refl tj) fun v9=>?_
  refine dP ?_;refine cC ?_;refine cm bQ rfl rfl rfl ar ar (fun σ o' w' H hS=>?_) ?_
  ·exact tE hS.br.aF (hS.br.more _ oA) ((cell_of (hS.br.same _ (tj.lt oA) id)).trans (dO kA).1)
  refine cC ?_;refine jP rfl rfl ar rfl func69 ah rfl (av:=#[.slice (some ⟨b,0,none⟩) k c,.string x]) aH (fun σ o' w' H hS=>?_) ?_
  ·have hGG:=G.trans (G4.trans hS);have hh:=QM (Fin:=Fin) hS.br.aF b c (some ⟨b,0,none⟩) (fs.take k) x aa (fun _=>⟨rfl,(at_ hGG k hk).1⟩) (fun j hj=>by
    have r8:j<fs.length:=aa;have:=(at_ hGG j r8).2;simpa using this) (dY (at_ hGG k hk).1) Hm
   rw[O0] at hh;refine hh.mono ?_;rintro y o10 YB ⟨rfl,N10⟩;exact⟨rfl,hS.trans (fZ.eJ N10)⟩
  refine cC ?_;refine cB fun σ o10 YB mn hS=>?_;clear mn;have G5:=G4.trans hS;simp only[iH,dI,if_true,if_false,reduceIte,Nat.reduceEqDiff];refine ax ?_;exact⟨m-1,aa,k+1,aa,dj,dj,aH,aH,aH,by simp[Act.eval,Hu],G.trans G5⟩
 rintro a o9 w9 ⟨fE,kT,i0,G9⟩;obtain⟨gs,rfl⟩:=iE fE kT;clear fE kT;simp only[List.range,List.range.loop,aA,aP] at i0 |-;simp[Act.eval] at i0;simp only[i0];clear i0;refine yP W (fun a o' w'=>a.tmps.size=48/\a.defers=[]/\a.eval (.tmp 0)=.slice p fs.length c/\fZ o w o' w') ?_ ?_
 ·refine ax ?_;refine iL W (fun m a o' w'=>∃k,m+k=fs.length/\a.tmps.size=48/\a.defers=[]/\a.eval (.tmp 0)=.slice p fs.length c/\a.eval (.tmp 37)=.slice p fs.length c/\a.eval (.tmp 38)=.int .i64 fs.length/\a.eval (.tmp 39)=.int .i64 k/\fZ o w o' w') (N:=fs.length) ⟨0,aj,rfl,rfl,aH,aH,aH,aH,G9⟩ ?_;rintro m a o1 w1 ⟨k,Je,fE,kT,i0,i1,i2,i3,G⟩;obtain⟨gs,rfl⟩:=iE fE kT;clear fE kT;simp only[List.range,List.range.loop,aA,aP] at i0 i1 i2 i3 |-;simp[Act.eval] at i0 i1 i2 i3;simp only[i0,i1,i2,i3];clear i0 i1 i2 i3;by_cases hk:k<fs.length;rotate_left
  ·have UT:¬(k:Int)<(fs.length:Int):=aa;refine ax ?_;exact⟨dj,dj,aH,G⟩
  have UT:(k:Int)<(fs.length:Int):=aa;have Hu:IntKind.i64.wrap ((k:Int)+1)=((k+1:Nat):Int):=by rw[IntKind.wrap_i64]<;>omega
  obtain⟨ob,c0,c1⟩:=at_ G k hk;have hm:=aG hk;have EU:=ok.name _ hm;have Q6:=ok.text _ hm;have Hm:∀f∈fs.take k,f.1≠fs[k].1:=fun f UB e=>by
   obtain⟨j,hj,rfl⟩:=bc UB;rw[fY] at e;have r8:j<k:=by simp at hj;omega
   have:=List.pairwise_iff_getElem.1 ok.once j k dV dV r8;simp at this;exact this e
  obtain⟨e1,-⟩:=hp (fun e=>by rw[e] at hk;simp at hk);subst e1;have lv:=G.br.aF;rcases Rz:fs[k] with⟨x,t⟩;rw[Rz] at c0 c1 EU Q6 Hm;simp only at c0 c1 EU Q6 Hm;clear Rz hm;refine ax ?_;refine dB bQ lv rfl ar ar ?_ rfl (v:=.agg #[.string x,.string t]) (fun wl aT=>by simp[go_sem,(aT.cell ob).trans c0,(aT.cell ob).trans c1]) fun _=>?_
  ·exact mU (bU ob)
  refine ax ?_;refine dt bQ lv rfl ar ar mW rfl (R:=fun wl v aV=>v=.pointer (some ⟨wl.heap.size,0,none⟩)/\aV=wl.alloc (Obj.cells #[.string aO,.string aO] 44)) (fun wl aT=>⟨_,_,by first|(simp[go_sem];done)|(simp[go_sem];rfl),rfl,rfl⟩) fun wl v1 aV w3 aT nD bN=>?_;obtain⟨rfl,nD⟩:=nD;obtain⟨z3,k3,sB⟩:=bN.alloc lv aT nD;have G3:=fZ.sW bN.aF aa k3;obtain⟨-,oA⟩:=bA.qx bN.aF z3 k3;have px:=bN.aF;rw[aT.size];clear nD bN aT wl aV;generalize Go.Ren.grow o1 w1 w3=o3 at *;refine ax ?_;refine du bQ px rfl ar ar ?_ rfl (R:=fun wl aV=>aV=(wl.setCell ⟨w1.heap.size,0,none⟩ (.string x)).setCell ⟨w1.heap.size,1,none⟩ (.string t)) (fun wl aT=>⟨_,?_,rfl⟩) fun wl aV w4 aT Bq bN=>?_
  ·refine iV ?_ ?_
   ·exact bU oA
   ·refine fS (vs:=[_,_]) (fun x hx=>?_);simp at hx;rcases hx with rfl|rfl
    ·exact bS
    ·exact bS
  ·obtain⟨e0,e1,f0,f1⟩:=dO ((aT.heap _ oA).trans sB)
   first
   | (simp[go_sem,e0,e1,f0,f1];done)
   | (simp[go_sem,e0,e1,f0,f1];rfl)
  have hO:eI w1.heap.size wl aV:=by rw[Bq];exact Aw _ _ _ _ _ _
  obtain⟨vo,kA,ey⟩:=bN.only aT oA hO;have tj:=bN.aF;rw[ey] at tj |-;rw[Bq,Tt ((aT.heap _ oA).trans sB)] at kA;have G4:=G3.wrote (ag _) tj vo;clear Bq bN aT hO wl aV ey vo sB z3 k3 px G3;generalize w1.heap.size=A at *;refine ax ?_;refine lh tj oA (dO kA).2.1 fun _=>?_;refine ax ?_;refine cd func70 (TE tj t) ?_;rintro v5 o5 w5 ⟨rfl,N5⟩;have htI:((t.size:Int)<=12):=aa;rw[cU htI];have G5:=G4.trans (fZ.eJ N5);refine ax ?_;exact⟨m-1,aa,k+1,aa,dj,dj,aH,aH,aH,by simp[Act.eval,Hu],G.trans G5⟩
 rintro a o9 w9 ⟨fE,kT,i0,G9⟩;obtain⟨gs,rfl⟩:=iE fE kT;clear fE kT;simp only[List.range,List.range.loop,aA,aP] at i0 |-;simp[Act.eval] at i0;simp only[i0];clear i0;refine ax ?_;exact⟨.inr trivial,trivial,_,resultsC_tmp (t:=2) ar _,aH,G9⟩
end
open Go.ConcR (Payload)
section
variable {Fin:bK} {o o' o1 o2:aM} {w w' w1 w2:ae}
theorem M4(hF:bM au L0 o w)(sb sc b c:Nat)(sp p:Option Addr)(cX:List af)(fs:List (af×af))(h1:cX.length<=1000)(h2:fs.length<=1000)(vx:cX≠[]->sp=some ⟨sb,0,none⟩/\o sb)(hs:fy w sb 0 cX)(OX:Cl au L0 o (.slice sp cX.length sc))(hp:fs≠[]->p=some ⟨b,0,none⟩/\o b)(hf:lM w b fs)(hc:Cl au L0 o (.slice p fs.length c)):
  bz au (XB au Fin 0) 43 #[.slice sp cX.length sc,.slice p fs.length c] o w fun v o' w'=>v=.slice (some ⟨w.heap.size,0,none⟩) cX.length cX.length/\fT o w v o' w'/\w.heap.size<w'.heap.size/\w'.rowIs w.heap.size 159 (cX.length*2) (dX (kM cX fs)):=by
 refine bz.mono (eD ah hF (fun y hy=>by simp at hy;rcases hy with rfl|rfl;exact OX;exact hc) (Q:=fun wl v w'=>v=.slice (some ⟨wl.heap.size,0,none⟩) cX.length cX.length/\wl.heap.size<w'.heap.size/\w'.rowIs wl.heap.size 159 (cX.length*2) (dX (kM cX fs))) (fun wl A1 v w1 w2 e1 e2 h=>?_) (fun wl hz aT=>?_)) (fun v o' w' hq=>?_)
 ·rw[e1,e2];exact⟨h.1,h.2.1,h.2.2.of_block (by rw[e2])⟩
 ·refine(Hl sb sc b c sp p cX fs wl h1 h2 (fun q=>⟨(vx q).1,by rw[hz];exact hF.lt (vx q).2⟩) (fun q=>⟨(hp q).1,by rw[hz];exact hF.lt (hp q).2⟩) (fun k hk=>dc hs (aT sb (vx (fun e=>by rw[e] at hk;simp at hk)).2) k hk) (fun k hk=>lG hf (aT b (hp (fun e=>by rw[e] at hk;simp at hk)).2) k hk)).mono fun e w' hq=>?_;obtain⟨rfl,hB,Ti,hr⟩:=hq;exact⟨_,rfl,aa,fun b hb=>hB.block b hb,rfl,Ti,hr⟩
 ·obtain⟨hN,wl,aV,z1,z2,sH,h1,h2,h3⟩:=hq;rw[z1] at h1 h2 h3;exact⟨h1,hN,aa,h3.of_block (sH _ (ag _) aa)⟩
theorem bA.low{x:Nat}(h:bA (fun _=>False) o w o1 w1)(k:bA (·=x) o1 w1 o2 w2)(hx:w.heap.size<=x):bA (fun _=>False) o w o2 w2:=by
 have z1:=h.size;have z2:=k.size;exact⟨k.aF,fun b hb=>k.more b (h.more b hb),fun b hb=>(k.new b hb).elim (fun q=>h.new b q) fun q=>.inr aa,aa,fun b hb hq=>(k.same b aa aa).trans (h.same b hb hq)⟩
structure Xn(rs:List aI)(NM:aI->List af)(RK:af->Nat)(fs:List (af×af))(o:aM)(w:ae)(v:Value)(o':aM)(w':ae):Prop where
 br:bA (fun _=>False) o w o' w'
 ex:∃R B F,v=.tuple #[.slice (some ⟨R,0,none⟩) rs.length rs.length,.int .i64 0]/\gx rs NM RK B/\mq B.rs B.NM B.RK/\F.cp.Perm B.rs/\(∀i j (hi:i<F.cp.length) (hj:j<F.cp.length),i<j->¬qG F.cp[j] F.cp[i]<0)/\w.heap.size<=R/\o' R/\nC w' R (nS B F (dU fs))
theorem Xo[Payload](hF:bM au L0 o w)(pow:iW w){p:Option Addr}{b c:Nat}{rs:List aI}{NM:aI->List af}{NB:aI->Nat}{RK:af->Nat}(hH:Hand o w p b c rs NM NB RK)(fb fc:Nat)(fp:Option Addr)(fs:List (af×af))(hp:fs≠[]->fp=some ⟨fb,0,none⟩/\o fb)(hf:lM w fb fs)(hc:Cl au L0 o (.slice fp fs.length fc))(AX:fs.length<=fc)(ok:vw fs):
  bz au (XB au Fin 0) 16 #[.slice p rs.length c,.slice fp fs.length fc] o w fun v o' w'=>Xn rs NM RK fs o w v o' w':=by
 have W:=bV (P:=au) (Fin:=Fin) (d:=0);have g4:au.globals.size=4:=ah;have hz4:4<=w.heap.size:=by have:=hF.size;rw[g4] at this;omega
 have l1:=hF.lt (Uh hF);have fat:∀{o1:aM} {w1:ae},bA (fun _=>False) o w o1 w1->(fs≠[]->fp=some ⟨fb,0,none⟩/\o1 fb)/\lM w1 fb fs/\Cl au L0 o1 (.slice fp fs.length fc):=fun G =>
  ⟨fun q=>⟨(hp q).1,G.more _ (hp q).2⟩,fun k hk=>lG hf (G.same fb (hF.lt (hp (fun e=>by rw[e] at hk;simp at hk)).2) id) k hk,hc.up G.more⟩
 have hfo:∀g,nj rs NM NB b g->g<w.heap.size:=fun g hg=>by
  rcases hg with⟨q,rfl⟩|⟨r,hr,q,rfl⟩
  ·exact hF.lt (hH.ptr q).2
  ·exact hF.lt ((hH.nm r hr).2.1 q).2
 have py:∀x,(dU fs x).2.size<=100:=fun x=>by
  have:=AD ok.text x;omega
 refine bC W func16 ar ?_;walk_nrmf Tryz.f16;refine ax ?_;refine cd func39 (Oj hF hH) ?_;rintro v1 o1 w1 ⟨rfl,N1⟩;have W1:bA (fun _=>False) o w o1 w1:=bA.eJ N1;have z1:=W1.size;obtain⟨hp1,hf1,Vx⟩:=fat W1;refine ax ?_;refine cd func40 (QN N1.aF fb fc fp fs hp1 hf1 Vx AX ok) ?_;rintro v2 o2 w2 ⟨rfl,G2⟩;have W2:bA (fun _=>False) o w o2 w2:=W1.trans G2.br;have z2:=W2.size;have hH2:=hH.keep W2.more fun g hg=>W2.same g (hfo g hg) id;clear G2 hp1 hf1 Vx W1 N1 z1;refine ax ?_;refine cd func41 (TV W2.aF hH2) ?_;rintro v3 o3 w3 ⟨N3,B3⟩;have W3:bA (fun _=>False) o2 w2 o3 w3:=bA.eJ N3;have sx:=W2.trans W3;have ajB:iW w3:=fun q hq=>(cell_of (sx.same 1 l1 id)).trans (pow q hq);obtain⟨B,rfl,hB,Kp,uN,UN,hbz⟩:=AE (RK:=RK) N3.aF (show 4<=w2.heap.size by omega) (fun b q1 q2=>by rw[N3.own];exact .inr ⟨q1,q2⟩) hH.gT hH.yes hH.low (fun r hr=>(hH.nm r hr).2.2.2) ajB B3;have Jz:w2.heap.size<=B.Rb:=by
  rcases uN B.Rb (.inr (.inr (.inl rfl))) with q|q
  ·have:=hB.apart.2.2.2.1;omega
  ·exact q.1
 have aqt:B.Rb<w3.heap.size:=hB.own _ (.inr (.inr (.inl rfl)))|>N3.aF.lt
 clear B3 N3 W3 W2 hH2 uN;refine ax ?_;refine cd func44 (Fx sx.aF B none _ hB) ?_;rintro v4 o4 w4 ⟨W4,⟨lo,F,mid,hB4,vF,ajC,hfm,hsm⟩,aeV,hT4,YF⟩;have J5:=sx.low W4 aa;have z4:=W4.size;have ajD:=J7 hB4;obtain⟨sp,sb,sc,rfl,vx,eG⟩:∃sp sb sc,v4=.slice sp (fh B.NM B.rs).length sc/\(fh B.NM B.rs≠[]->sp=some ⟨sb,0,none⟩/\o4 sb)/\fy w4 sb 0 (fh B.NM B.rs):=by
  rcases hT4 with⟨e1,e2⟩|⟨g,cap,e1,-,-,-,e5⟩
  ·exact⟨none,0,0,by rw[e1,e2];rfl,fun q=>absurd e2 q,by rw[e2];exact fun k hk=>by simp at hk⟩
  ·exact⟨_,g,cap,e1,fun _=>⟨rfl,YF _ _ _ e1⟩,e5⟩
 obtain⟨hp4,Xf,hc4⟩:=fat J5;clear hT4 YF hsm hfm ajC vF hB sx;refine ax ?_;refine cd func43 (M4 J5.aF sb sc fb fc sp fp (fh B.NM B.rs) fs ajD (by have:=ok.gT;omega) vx eG aeV hp4 Xf hc4) ?_;rintro v5 o5 w5 ⟨rfl,N5,hz5,PM⟩;have aeW:kM (fh B.NM B.rs) fs=(fh B.NM B.rs).map (dU fs):=M3 (oO _).1 ok.once;have hV:eY w5 w4.heap.size ((fh B.NM B.rs).map (dU fs)):=by
  unfold eY;rw[<- aeW,Dy];exact PM
 have W5:bA (fun _=>False) o4 w4 o5 w5:=bA.eJ N5;have A7:=J5.trans W5;have WI:=hB4.keep W5.more W5.size fun g hg=>N5.old g (J5.aF.lt (hB4.own g hg));have oV:o5 w4.heap.size:=by rw[N5.own];exact .inr ⟨ag _,hz5⟩
 clear hB4 hp4 Xf hc4 PM aeW eG vx aeV N5;refine ax ?_;refine cd func42 (NY A7.aF B lo F (fun _=>none) WI (dU fs) py w4.heap.size (fh B.NM B.rs).length oV aa hV aj) ?_;rintro v6 o6 w6 ⟨R,rv,ij,rfl,W6,hB6,-,⟨hRz,oR,cj⟩,-⟩;have M5:=A7.low W6 aa;have z5:=W5.size;obtain⟨y0,y1,y2,-,Na⟩:=hB6.blk;have hP:=Na lo F rfl;have hlen:=Kp.len;refine ax ?_;exact⟨.inr trivial,trivial,_,resultsC_tmp2 (t:=4) (u:=5) ar _,M5,R,B,F,by simp[Act.eval,hlen],Kp,hB6.right,hP.perm,hP.sorted,aa,oR,Of cj⟩
end
structure aaN(rs:List aI)(NM:aI->List af)(M6:List aI)(Xp:aI->List af):Prop where
 len:M6.length=rs.length
 at_:∀i (h:i<rs.length) (h':i<M6.length),M6[i].out=rs[i].out/\M6[i].eR=rs[i].eR/\Xp M6[i]=NM rs[i]
theorem FL(q:af->Bool):∀(us bs:List aI) (hl:bs.length=us.length) (h:∀i (h:i<us.length) (h':i<bs.length),bs[i].out=us[i].out),(us.find? (fun r=>q r.out)=none/\bs.find? (fun r=>q r.out)=none)\/∃i,∃(h:i<us.length) (h':i<bs.length),us.find? (fun r=>q r.out)=some us[i]/\bs.find? (fun r=>q r.out)=some bs[i]
 | [],[],_,_=>.inl ⟨rfl,rfl⟩
 | [],_::_,hl,_=>by simp at hl
 |_::_,[],hl,_=>by simp at hl
 |a::us,b::bs,hl,h=>by
  have e0:b.out=a.out:=h 0 aj aj;by_cases hq:q a.out=true
  ·exact .inr ⟨0,aj,aj,by simp[List.find?,hq],by simp[List.find?,e0,hq]⟩
  ·have Bc:q a.out=false:=by simpa using hq
   rcases FL q us bs (by simpa using hl) (fun i h1 h2=>h (i+1) (by simpa using h1) (by simpa using h2)) with⟨h1,h2⟩|⟨i,h1,h2,h3,h4⟩
   ·exact .inl ⟨by simp[List.find?,Bc];simpa using h1,by simp[List.find?,e0,Bc];simpa using h2⟩
   ·exact .inr ⟨i+1,by simpa using h1,by simpa using h2,by simp[List.find?,Bc,h3],by simp[List.find?,e0,Bc,h4]⟩
theorem FM{rs M6:List aI}{NM Xp:aI->List af}(h:aaN rs NM M6 Xp)(file:af->V):∀f x,qu M6 Xp file f x=qu rs NM file f x
 |0,_=>rfl
 |f+1,x=>by
  unfold qu;rcases FL (fun y=>decide (y=x)) rs M6 h.len (fun i h1 h2=>(h.at_ i h1 h2).1) with⟨h1,h2⟩|⟨i,h1,h2,h3,h4⟩
  ·rw[h1,h2]
  ·rw[h3,h4];obtain⟨-,e2,e3⟩:=h.at_ i h1 h2;show iX M6[i].eR ((Xp M6[i]).map (qu M6 Xp file f))=iX rs[i].eR ((NM rs[i]).map (qu rs NM file f));rw[e2,e3]
   congr 1
   exact b9 fun y _=>FM h file f y
theorem Dz{rs M6:List aI}{NM Xp:aI->List af}(h:aaN rs NM M6 Xp)(file:af->V)(x:af):valOf M6 Xp file x=valOf rs NM file x:=by
 unfold valOf;rw[h.len];exact FM h file _ x
theorem gx.DU{rs:List aI}{NM:aI->List af}{RK:af->Nat}{B:vk}(h:gx rs NM RK B):aaN rs NM B.rs B.NM:=⟨h.len,h.at_⟩
structure zY(B:vk)(F:cY):Prop where
 right:mq B.rs B.NM B.RK
 perm:F.cp.Perm B.rs
 sorted:∀i j (hi:i<F.cp.length) (hj:j<F.cp.length),i<j->¬qG F.cp[j] F.cp[i]<0
theorem zY.strict{B:vk}{F:cY}(h:zY B F):lK (F.cp.map (·.out)):=uI (((h.perm.map (·.out)).nodup_iff).2 h.right.nodup) h.sorted
theorem zY.mem{B:vk}{F:cY}(h:zY B F)(x:af):x∈F.cp.map (·.out)↔x∈B.rs.map (·.out):=(h.perm.map (·.out)).mem_iff
theorem Bs{B:vk}{F:cY}(h:zY B F)(file:af->V):nS B F file=(F.cp.map (·.out)).map fun x=>(x,valOf B.rs B.NM file x):=by
 have hl:=h.perm.length_eq;unfold nS lu;rw[<- hl];apply fV;intro i;by_cases hi:i<F.cp.length
 ·simp[hi,qH]
 ·simp[hi]
theorem FN{rs:List aI}{NM:aI->List af}{file DC:af->V}(h:∀x∈fh NM rs,file x=DC x):∀f x,(x∈rs.map (·.out)\/x∈fh NM rs)->qu rs NM file f x=qu rs NM DC f x
 |0,_,_=>rfl
 |f+1,x,hx=>by
  unfold qu;cases hq:rs.find? (fun r=>decide (r.out=x)) with
  |none =>
   have Mp:x∉rs.map (·.out):=fun q=>by
    obtain⟨r,hr,e⟩:=List.mem_map.1 q;have:=List.find?_eq_none.1 hq r hr;simp[e] at this
   exact h x (hx.resolve_left Mp)
  |some r =>
   have hr:=jI hq;show iX r.eR ((NM r).map (qu rs NM file f))=iX r.eR ((NM r).map (qu rs NM DC f))
   congr 1
   refine b9 fun y hy=>FN h f y ?_;by_cases q:y∈rs.map (·.out)
   ·exact .inl q
   ·exact .inr (sf.2 ⟨r,hr,hy,q⟩)
theorem FO{B:vk}{F:cY}(h:zY B F){file DC:af->V}(e:∀x∈fh B.NM B.rs,file x=DC x):nS B F file=nS B F DC:=by
 rw[Bs h,Bs h];refine b9 fun x hx=>?_;rw[show valOf B.rs B.NM file x=valOf B.rs B.NM DC x from FN e _ x (.inl ((h.mem x).1 hx))]
theorem FP(b d:af):b.toList=d.toList↔b=d:=by
 rw[ByteArray.toList_eq,ByteArray.toList_eq];constructor
 ·intro h;obtain⟨⟨x⟩⟩:=b;obtain⟨⟨y⟩⟩:=d;have h:x=y:=h;rw[h]
 ·rintro rfl;rfl
section
theorem Xs(e:Nat)(w:ae)(es:Array Event)(a b d f:af)(c g:Bool):(Op.equalIn (e+2) 65 (.agg #[.string a,.string b,.bool c]) (.agg #[.string d,.string f,.bool g])).events au w es=es:=by
 rw[Op.equalIn];simp[go_sem,Sem.events_bind,Jj,wX]
theorem AJ(w:ae)(a b d f:af)(c g:Bool):(binOp .neq 65 (.agg #[.string a,.string b,.bool c]) (.agg #[.string d,.string f,.bool g])).run au w=.ok (.bool (!decide ((a,b,c)=(d,f,g)))) w:=by
 simp[go_sem,FP];by_cases h1:a=d<;>by_cases h2:b=f<;>by_cases h3:c=g<;>simp[h1,h2,h3]
theorem AK(w:ae)(es:Array Event)(a b d f:af)(c g:Bool):(binOp .neq 65 (.agg #[.string a,.string b,.bool c]) (.agg #[.string d,.string f,.bool g])).events au w es=es:=by
 simp only[binOp];simp[Op.equal,Op.maxDepth,Sem.events_bind,Xs 9998]
theorem wu(op:BinOp)(x y:Operand)(xs ys:Array Value)(w:ae)(es:Array Event):(eqGuard op 65 x y (.agg xs) (.agg ys)).events au w es=es:=by
 cases op<;>simp[eqGuard,run_program,Sem.events_bind,show au.eqGuardType au.depth 65=false by kernel_rfl]
end
section
variable {Fin:bK} {o o':aM} {w w':ae}
theorem Ux(hF:bM au L0 o w)(ba bb ca cb:Nat)(pa pb:Option Addr)(ra rb:List (af×V))(na:ra.length<=1000)(nb:rb.length<=1000)(yR:ra≠[]->pa=some ⟨ba,0,none⟩/\o ba)(hpb:rb≠[]->pb=some ⟨bb,0,none⟩/\o bb)(ha:nC w ba ra)(hb:nC w bb rb):
  bz au (XB au Fin 0) 17 #[.slice pa ra.length ca,.slice pb rb.length cb] o w fun v o' w'=>v=.bool (decide (ra=rb))/\fZ o w o' w':=by
 have W:=bV (P:=au) (Fin:=Fin) (d:=0);refine bC W func17 ar ?_;walk_nrmf Tryz.f17;by_cases hl:ra.length=rb.length;rotate_left
 ·have dH:decide (ra=rb)=false:=dv fun e=>hl (by rw[e]);have hlI:¬ra.length=rb.length:=hl;clear hl;generalize ra.length=nra at *;generalize rb.length=nrb at *;refine ax ?_;refine gX W (t:=true) (by simp[Act.eval];omega) ?_;simp only[if_true];refine ax ?_;exact⟨.inr trivial,trivial,_,resultsC_tmp (t:=4) ar _,by simp[Act.eval,dH],fZ.refl hF⟩
 rw[<- hl];have QX:=hl.symm;clear hl;refine ax ?_;refine iL W (fun m a o' w'=>∃k,m+k=ra.length/\a.tmps.size=26/\a.defers=[]/\a.eval (.tmp 0)=.slice pa ra.length ca/\a.eval (.tmp 1)=.slice pb ra.length cb/\a.eval (.tmp 5)=.int .i64 k/\ra.take k=rb.take k/\fZ o w o' w') (N:=ra.length) ⟨0,aj,rfl,rfl,aH,aH,aH,aj,fZ.refl hF⟩ ?_;rintro m a o1 w1 ⟨k,Je,fE,kT,i0,i1,i5,hek,G⟩;obtain⟨gs,rfl⟩:=iE fE kT;clear fE kT;simp only[List.range,List.range.loop,aA,aP] at i0 i1 i5 |-;simp[Act.eval] at i0 i1 i5;simp only[i0,i1,i5];clear i0 i1 i5;by_cases hk:k<ra.length;rotate_left
 ·have UT:¬(k:Int)<(ra.length:Int):=aa;have heq:decide (ra=rb)=true:=cU (by rw[cH aa,cH aa] at hek;exact hek);clear hek;refine ax ?_;exact⟨.inr trivial,trivial,_,resultsC_tmp (t:=4) ar _,by simp[Act.eval,heq],G⟩
 have UT:(k:Int)<(ra.length:Int):=aa;have Zs:k<rb.length:=aa;have Hu:IntKind.i64.wrap ((k:Int)+1)=((k+1:Nat):Int):=by rw[IntKind.wrap_i64]<;>omega
 obtain⟨e1,oa⟩:=yR (fun e=>by rw[e] at hk;simp at hk);obtain⟨e2,ob⟩:=hpb (fun e=>by rw[e] at Zs;simp at Zs);subst e1 e2;have oa1:=G.br.more _ oa;have ob1:=G.br.more _ ob;have ea:=G.br.same ba (hF.lt oa) id;have eb:=G.br.same bb (hF.lt ob) id;obtain⟨a0,a1,a2⟩:=ha k hk;obtain⟨b0,b1,b2⟩:=hb k Zs;have a0':=(cell_of ea).trans a0;have a1':=(cell_of ea).trans a1;have a2':=(cell_of ea).trans a2;have b0':=(cell_of eb).trans b0;have b1':=(cell_of eb).trans b1;have b2':=(cell_of eb).trans b2;have lv:=G.br.aF;have XR:=take_succ ra k hk;have htb:=take_succ rb k Zs;have aaO:ra[k]≠rb[k]->decide (ra=rb)=false:=fun q=>dv fun e=>q (by subst e;rfl);rcases Q9:ra[k] with⟨x1,xb,xt⟩;rcases hrb:rb[k] with⟨y1,yb,yt⟩;rw[Q9] at a0' a1' a2' XR aaO;rw[hrb] at b0' b1' b2' htb aaO;simp only at a0' a1' a2' b0' b1' b2';clear a0 a1 a2 b0 b1 b2 Q9 hrb ha hb yR hpb;refine ax ?_;refine dQ mixed ah [some none,some none,some none,some (some (.agg #[.string x1,.string xt,.bool (!xb)])),some none,some none,some none,some (some (.agg #[.string y1,.string yt,.bool (!yb)])),some none]
  (S:=fun σ o' w'=>o1=o'/\w1=w') ⟨rfl,rfl⟩ fun v9=>?_
 refine dP ?_;refine cC ?_;refine cm bQ rfl rfl rfl ar ar (fun σ o' w' H hS=>?_) ?_
 ·obtain⟨rfl,rfl⟩:=hS;exact⟨lv,mU (bU oa1),fun wl aT=>by simp[go_sem,(aT.cell oa1).trans a0',(aT.cell oa1).trans a1',(aT.cell oa1).trans a2']⟩
 refine cC ?_;refine cm bQ rfl rfl rfl ar ar (fun σ o' w' H hS=>?_) ?_
 ·obtain⟨rfl,rfl⟩:=hS;exact⟨lv,mU (bU ob1),fun wl aT=>by simp[go_sem,(aT.cell ob1).trans b0',(aT.cell ob1).trans b1',(aT.cell ob1).trans b2']⟩
 walk_nrm;by_cases heq:((x1,xb,xt):af×V)=(y1,yb,yt)
 ·have h1:x1=y1:=congrArg (·.1) heq;have h2:xb=yb:=congrArg (·.2.1) heq;have h3:xt=yt:=congrArg (·.2.2) heq;subst h1 h2 h3;refine re (y:=.bool false) rfl rfl rfl ar (fun w1=>by simp[go_sem,Act.eval,AJ]) (fun w1=>by simp[go_sem,Act.eval,AK,wu]) ?_;walk_nrm;refine cB fun σ o10 YB mn hS=>?_;obtain⟨rfl,rfl⟩:=hS;clear mn;simp only[iH,dI,if_true,if_false,reduceIte,Nat.reduceEqDiff];refine ax ?_;exact⟨m-1,aa,k+1,aa,dj,dj,aH,aH,by simp[Act.eval,Hu],by rw[XR,htb,hek],G⟩
 ·have hn:=aaO heq;have hq:¬((x1,xt,!xb)=(y1,yt,!yb)):=fun q=>heq (by
   have q1:x1=y1:=congrArg (·.1) q;have q2:xt=yt:=congrArg (·.2.1) q;have q3:(!xb)=(!yb):=congrArg (·.2.2) q;have q4:xb=yb:=by cases xb<;>cases yb<;>simp at q3<;>rfl
   rw[q1,q2,q4])
  refine re (y:=.bool true) rfl rfl rfl ar (fun w1=>?_) (fun w1=>by simp[go_sem,Act.eval,AK,wu]) ?_
  ·have:=AJ w1 x1 xt y1 yt (!xb) (!yb);rw[dv hq] at this;simpa[go_sem,Act.eval] using this
  walk_nrm;refine cB fun σ o10 YB mn hS=>?_;obtain⟨rfl,rfl⟩:=hS;clear mn;simp only[iH,dI,if_true,if_false,reduceIte,Nat.reduceEqDiff];refine ax ?_;exact⟨.inr trivial,trivial,_,resultsC_tmp (t:=4) ar _,by simp[Act.eval,hn],G⟩
structure lN(rs:List aI)(NM:aI->List af)(RK:af->Nat)(fs:List (af×af))(l:List (af×V)):Prop where
 ex:∃B F,zY B F/\gx rs NM RK B/\l=nS B F (dU fs)
theorem lN.len{rs:List aI}{NM:aI->List af}{RK:af->Nat}{fs:List (af×af)}{l:List (af×V)}(h:lN rs NM RK fs l):l.length=rs.length:=by
 obtain⟨B,F,h1,h2,rfl⟩:=h.ex;simp[nS,h2.len]
end
section
variable {s:gQ}
def gQ.told(s:gQ):Bool:=decide (0<s.qn.length)||s.lost
theorem sw:s.told=true↔(0<s.qn.length\/s.lost=true):=by simp[gQ.told]
end
section
variable {K:pz} {s s2:gQ} {fs EB:List (af×af)} {ed yV cnt:Nat} {kd a b n:Int} {y:af} {rs:List aI} {NM:aI->List af} {RK:af->Nat}
theorem zZ(g:af->V):∀(ks:List af) (x:af),x∈ks->fileOf ks (ks.map g) x=g x
 | [],_,h=>by cases h
 |k::ks,x,h=>by
  unfold fileOf;by_cases e:x=k
  ·subst e;simp
  ·simp only[aA];rw[if_neg e];exact zZ g ks x ((List.mem_cons.1 h).resolve_left e)
structure Told(K:pz)(rs:List aI)(NM:aI->List af)(RK:af->Nat)(s:gQ)(ed cnt:Nat):Prop where
 none:ed=0->s.phase=0/\¬s.told=true/\s.num=0/\s.res=[]
 read:s.phase=2\/s.phase=3->¬s.told=true->s.rd.map (·.1)=(s.src.take s.rd.length).map (dU s.th)
 pub:0<ed->s.phase=0->¬s.told=true->lN rs NM RK s.th s.res/\0<s.num
 num:0<=s.num/\s.num<=cnt
theorem KC(s:gQ)(x:af)(th:List (af×af))(st:List (af×Int))(qv:Value)(hs:Sound K s):gQ.told {s with th:=th,st:=st,qv:=qv,qn:=(jC s.qn s.lost x).1,lost:=(jC s.qn s.lost x).2}=true:=by
 obtain⟨-,-,-,-,q5,-⟩:=Dn (x:=x) hs.once hs.lost;refine sw.2 ?_;rcases q5 with q|q
 ·exact .inl (iw q)
 ·exact .inr q
theorem Told.work{F:cY}{v:Value}(h:Told K rs NM RK s ed cnt)(hs:Sound K s)(Q3:gx rs NM RK K.B)(Na:s.phase=2\/s.phase=3->zY K.B F)(hc:cnt<4611686018427387904)(hw:jU K s s2 F (fileOf s.src (s.rd.map (·.1))) v):Told K rs NM RK s2 ed (cnt+1):=by
 have EE:0<=s.num/\s.num<=((cnt+1:Nat):Int):=⟨h.num.1,by have:=h.num.2;omega⟩;have Us:s.phase≠0\/s.told=true->0<ed:=fun q=>by
  rcases bg ed with e|e
  ·obtain⟨h1,h2,-⟩:=h.none e;rcases q with q|q
   ·exact absurd h1 q
   ·exact absurd q h2
  ·exact e
 have Kl:∀s1:gQ,s1.phase=3->(s.phase=2\/s.phase=3)->s1.told=s.told->s1.rd=s.rd->s1.src=s.src->s1.th=s.th->s1.num=s.num->s.rd.length=s.src.length->Checked K s1 s2 F (fileOf s.src (s.rd.map (·.1))) v->Told K rs NM RK s2 ed (cnt+1):=by
  intro s1 e1 e2 e3 e4 e5 e6 e7 e8 Hv;have aaP:=Us (.inl aa);rcases Hv with⟨c1,-,ij,Qx,sn,sr,-,rfl⟩|⟨c1,c2,⟨-,-,rfl⟩|⟨-,-,rfl⟩⟩
  ·have uW:IntKind.i64.wrap (s1.num+1)=s1.num+1:=by
    have:=h.num;rw[IntKind.wrap_i64]<;>omega
   refine⟨fun q=>aa,fun q=>by simp[gQ.stand] at q,fun _ _ ht=>⟨⟨K.B,F,Na e2,Q3,?_⟩,?_⟩,?_⟩
   ·show nS K.B F _=nS K.B F (dU s1.th);have ht':¬s.told=true:=by
     rw[<- e3];exact ht
    have hr:=h.read e2 ht';rw[e8,cS] at hr;refine FO (Na e2) fun x hx=>?_;rw[hr,e6];refine zZ _ _ _ ?_;rw[hs.src e2];exact hx
   ·show 0<IntKind.i64.wrap (s1.num+1);rw[uW,e7];have:=h.num.1;omega
   ·show 0<=IntKind.i64.wrap (s1.num+1)/\IntKind.i64.wrap (s1.num+1)<=_;rw[uW,e7];have:=h.num;omega
  ·exact⟨fun q=>aa,fun q=>by simp[gQ.stand] at q,fun _ q=>by simp[gQ.stand] at q,by show 0<=s1.num/\s1.num<=_;rw[e7];exact EE⟩
  ·refine⟨fun q=>aa,fun _ ht=>?_,fun _ q=>by have:s1.phase=0:=q;omega,by show 0<=s1.num/\s1.num<=_;rw[e7];exact EE⟩;have ht':¬s.told=true:=by
    rw[<- e3];exact ht
   show s1.rd.map (·.1)=(s1.src.take s1.rd.length).map (dU s1.th);rw[e4,e5,e6];exact h.read e2 ht'
 rcases hw with⟨p2,⟨c1,c2⟩|⟨c1,-,MG,rfl⟩⟩|⟨p3,c2⟩|⟨n2,n3,hr⟩
 ·exact Kl {s with phase:=3} rfl (.inl p2) rfl rfl rfl rfl rfl c1 c2
 ·have aaP:=Us (.inl aa);refine⟨fun q=>aa,fun _ ht=>?_,fun _ q=>by have:s.phase=0:=q;omega,EE⟩;have hr:=h.read (.inl p2) ht;show(s.rd++[(dU s.th s.src[s.rd.length],cg s.st s.src[s.rd.length])]).map (·.1)=(s.src.take (s.rd++[(dU s.th s.src[s.rd.length],cg s.st s.src[s.rd.length])]).length).map (dU s.th);rw[gI,hr,List.length_append,List.length_singleton,take_succ s.src s.rd.length c1,gI];rfl
 ·exact Kl s p3 (.inr p3) rfl rfl rfl rfl rfl (hs.full p3) c2
 ·rcases hr with⟨ht,-,rfl⟩|⟨ht,hq,-,lo,F',MI,rfl⟩|⟨-,-,-,rfl⟩
  ·have aaP:=Us (.inr (sw.2 ht));exact⟨fun q=>aa,fun q=>by simp[gQ.stand] at q,fun _ q=>by simp[gQ.stand] at q,EE⟩
  ·have aaP:=Us (.inl aa);exact⟨fun q=>aa,fun _ _=>by simp[gQ.stand],fun _ q=>by simp[gQ.stand] at q,EE⟩
  ·exact⟨h.none,h.read,h.pub,EE⟩
theorem Told.more(h:Told K rs NM RK s ed cnt):Told K rs NM RK s ed (cnt+1):=⟨h.none,h.read,h.pub,h.num.1,by have:=h.num.2;omega⟩
theorem Told.tick(h:Told K rs NM RK s ed cnt)(t:Nat):Told K rs NM RK {s with time:=t} ed cnt:=⟨h.none,h.read,h.pub,h.num⟩
theorem Told.step(h:Told K rs NM RK s ed cnt)(hs:Sound K s)(Q3:gx rs NM RK K.B)(Na:∀lo F,s.fd=some (lo,F)->zY K.B F)(hc:cnt<4611686018427387904)(st:Du K kd a b s s2 fs EB ed yV n y):Told K rs NM RK s2 yV (cnt+1):=by
 have EE:0<=s.num/\s.num<=((cnt+1:Nat):Int):=⟨h.num.1,by have:=h.num.2;omega⟩;rcases st with⟨-,-,-,e,-,qJ,rfl⟩|⟨-,-,-,-,⟨-,e,qJ,rfl⟩|⟨-,e,rfl⟩⟩|⟨-,-,-,-,e,q⟩|⟨-,-,-,-,e,F,DO,hw⟩
 ·have ht:=KC s (jd a) (gN s.th (jd a) (rq b)) (gN s.st (jd a) (IntKind.i64.wrap (cg s.st (jd a)+1))) qJ hs;exact⟨fun q=>aa,fun _ q=>absurd ht q,fun _ _ q=>absurd ht q,EE⟩
 ·have ht:=KC s (jd a) (lT s.th (jd a)) (gN s.st (jd a) (IntKind.i64.wrap (cg s.st (jd a)+1))) qJ hs;exact⟨fun q=>aa,fun _ q=>absurd ht q,fun _ _ q=>absurd ht q,EE⟩
 ·rw[e];exact h.more
 ·rw[e];rcases q with⟨-,rfl⟩|⟨-,rfl⟩
  ·exact h.more
  ·exact h.more.tick _
 ·rw[e];exact h.work hs Q3 (fun q=>by obtain⟨lo,hl⟩:=DO q;exact Na lo F hl) hc hw
end
section
variable {Fin:bK} {o o' o1:aM} {w w' w1:ae} {S:Nat} {K:pz} {s s':gQ} {lab lab' dp:Nat->Nat} {rv fv:Value} {fs:List (af×af)} {ed cnt Hn:Nat} {rs:List aI} {NM:aI->List af} {RK:af->Nat} {lk:Int}
theorem bm.Xt(h:bm o w K s lk lab):∀lo F,s.fd=some (lo,F)->zY K.B F:=fun lo F e=>by
 obtain⟨y0,y1,y2,-,hp⟩:=h.build.blk;exact⟨h.build.right,(hp lo F e).perm,(hp lo F e).sorted⟩
theorem Told.up(h:Told K rs NM RK s ed cnt)(hc:cnt<=Hn):Told K rs NM RK s ed Hn:=⟨h.none,h.read,h.pub,h.num.1,by have:=h.num.2;omega⟩
theorem vJ.work(h:vJ o w S K s lab rv fv fs ed)(hk:bm o' w' K s' 0 lab')(hs:Sound K s')(T:cN o w lab o' w' lab')(UU:s'.th=s.th):vJ o' w' S K s' lab' rv fv fs ed:=by
 have sl:=h.dF.aF.lt h.own;obtain⟨hf,hl⟩:=h.files.step h.QI ((gD.refl (S:=S) h.dF.aF).k T) h.dF.aF;exact⟨hk,hs,(T.br.same S sl (by rw[h.Xe];omega)).trans h.blk,T.br.more _ h.own,(T.lab S sl).trans h.Xe,hf,hl,⟨fun x=>by rw[UU];exact h.A4.get x,by rw[UU];exact h.A4.tk,h.A4.fk⟩⟩
end
theorem Oy{α:Type}:∀{l:List (af×α)} {f:af×α},(l.map (·.1)).Nodup->f∈l->eT l f.1=some f.2
 | [],_,_,h=>by cases h
 | (k,u)::l,f,hn,h=>by
  rw[aA,da] at hn;unfold eT;rcases List.mem_cons.1 h with rfl|h
  ·rw[if_pos rfl]
  ·rw[if_neg (fun e=>hn.1 (List.mem_map.2 ⟨f,h,e⟩))];exact Oy hn.2 h
section
variable {Fin:bK} {o o' o1 o2:aM} {w w' w1 w2:ae} {S:Nat} {K:pz} {s s' s2:gQ} {lab lab' dp fR:Nat->Nat} {rv fv MY:Value} {fs EB:List (af×af)} {ed yV cnt Hn:Nat} {rp:Option Addr} {rb rc:Nat} {rs:List aI} {NM:aI->List af} {NB:aI->Nat} {RK:af->Nat}
theorem vJ.ok(h:vJ o w S K s lab rv fv fs ed):vw fs:=by
 refine⟨by have:=h.A4.gT;omega,fun f hf=>sY (h.A4.fk.2 _ (gF hf)),h.A4.fk.1,fun f hf=>?_⟩;have:=h.A4.get f.1;rw[Oy h.A4.fk.1 hf] at this;exact h.sound.th _ (Dm this)
theorem vJ.grown(h:vJ o w S K s lab rv fv fs ed)(W:bA (fun _=>False) o w o' w'):∃lab',vJ o' w' S K s lab' rv fv fs ed:=by
 obtain⟨fR,h2,T2,-,-⟩:=h.dF.grown (cN.refl h.dF.aF) W;exact⟨fR,h.work h2 h.sound T2 rfl⟩
theorem Hand.lt{g:Nat}(hH:Hand o w rp rb rc rs NM NB RK)(hF:bM au L0 o w)(hg:nj rs NM NB rb g):g<w.heap.size:=by
 rcases hg with⟨q,rfl⟩|⟨r,hr,q,rfl⟩
 ·exact hF.lt (hH.ptr q).2
 ·exact hF.lt ((hH.nm r hr).2.1 q).2
structure SS(o:aM)(w:ae)(S:Nat)(K:pz)(rp:Option Addr)(rb rc:Nat)(rs:List aI)(NM:aI->List af)(NB:aI->Nat)(s:gQ)(lab:Nat->Nat)(fv:Value)(fs:List (af×af))(ed cnt:Nat)(o':aM)(w':ae):Prop where
 cz:vJ o' w' S K s lab (.slice rp rs.length rc) fv fs ed
 old:bA (fun _=>False) o w o' w'
 aaQ:∀b,b<w.heap.size->7<=lab b
 sge:w.heap.size<=S
 hand:Hand o' w' rp rb rc rs NM NB AF
 lF:∀g,nj rs NM NB rb g->lab g=7/\g≠S
 told:Told K rs NM AF s ed cnt
theorem SS.go(h:SS o w S K rp rb rc rs NM NB s dp fv fs ed cnt o1 w1)(sh:vJ o2 w2 S K s2 fR (.slice rp rs.length rc) MY EB yV)(U:gD S o1 w1 dp o2 w2 fR)(ht:Told K rs NM AF s2 yV Hn):SS o w S K rp rb rc rs NM NB s2 fR MY EB yV Hn o2 w2:=by
 have z1:=h.old.size;have z2:=U.br.size;refine⟨sh,⟨U.br.aF,fun b hb=>U.br.more b (h.old.more b hb),fun b hb=>(U.br.new b hb).elim (fun q=>h.old.new b q) fun q=>.inr aa,aa,fun b hb hx=>(U.br.same b aa ?_).trans (h.old.same b hb hx)⟩,fun b hb=>by rw[U.lab b aa];exact h.aaQ b hb,h.sge,h.hand.keep U.br.more fun g hg=>U.br.same g (h.hand.lt h.cz.dF.aF hg) ?_,fun g hg=>⟨(U.lab g (h.hand.lt h.cz.dF.aF hg)).trans (h.lF g hg).1,(h.lF g hg).2⟩,ht⟩
 ·have:=h.aaQ b hb;have:=h.sge;omega
 ·have:=h.lF g hg;omega
theorem SS.k(h:SS o w S K rp rb rc rs NM NB s dp fv fs ed cnt o1 w1)(T:cN o1 w1 dp o2 w2 fR)(hk:bm o2 w2 K s 0 fR):SS o w S K rp rb rc rs NM NB s fR fv fs ed cnt o2 w2 :=
 h.go (h.cz.work hk h.cz.sound T rfl) ((gD.refl (S:=S) h.cz.dF.aF).k T) h.told
theorem Du.edl{kd a b n:Int}{y:af}(st:Du K kd a b s s2 fs EB ed yV n y):yV<=ed+1:=by
 rcases st with⟨-,-,-,e,-⟩|⟨-,-,-,-,⟨-,e,-⟩|⟨-,e,-⟩⟩|⟨-,-,-,-,e,-⟩|⟨-,-,-,-,e,-⟩<;>omega
theorem aeY(K:pz)(pb:Nat):Told K rs NM RK (s0 pb) 0 0:=⟨fun _=>by simp[s0,gQ.told],fun q=>by simp[s0] at q,fun q=>absurd q aa,by simp[s0]⟩
theorem aav{v:Value}(eP:Un o w v o' w'):∃S K pb lab rp rb rc rs NM NB,v=.pointer (some ⟨S,0,none⟩)/\SS o w S K rp rb rc rs NM NB (s0 pb) lab (.slice none 0 0) [] 0 0 o' w'/\bm o' w' K (s0 pb) 0 lab/\gx rs NM AF K.B/\FF rs NM:=by
 obtain⟨S,K,pb,dp,rp,rb,rc,rs,NM,NB,rfl,kS1,oS1,lS1,h1,W1,yJ,hH,Kp,hfo,VC,Io⟩:=eP.ex;refine⟨S,K,pb,dp,rp,rb,rc,rs,NM,NB,rfl,⟨⟨h1,TW K pb,kS1,oS1,lS1,⟨⟨none,0,0,rfl,fun q=>absurd rfl q,fun i hi=>by simp at hi⟩,iP,(fun p l c e=>by cases e;exact ag _)⟩,(fun g hg=>by cases hg),⟨fun x=>rfl,by simp[s0],aj⟩⟩,W1,fun b hb=>(yJ b hb).1,VC,hH,fun g hg=>⟨(hfo g hg).1,?_⟩,aeY K pb⟩,h1,Kp,Io⟩;rintro rfl;have e0:=(nU kS1).1;rcases hg with⟨q,rfl⟩|⟨r,hr,q,rfl⟩
 ·have:=(hH.at_ 0 (List.length_pos_iff.2 q)).1;rw[Nat.zero_mul,e0] at this;cases this
 ·have:=(hH.nm r hr).2.2.1 0 (List.length_pos_iff.2 q);rw[bB,e0] at this;cases this
end
section
variable {rs:List aI} {NM:aI->List af} {NB:aI->Nat} {RK:af->Nat} {o:aM} {w:ae}
theorem Hand.right{p:Option Addr}{b c:Nat}(h:Hand o w p b c rs NM NB RK):mq rs NM RK:=⟨h.yes.nodup,h.low,h.yes.Ep,h.yes.eR,fun r hr=>(h.nm r hr).2.2.2⟩
theorem Dj.mm(h:Dj rs NM RK):Dj rs.reverse NM RK :=
 ⟨fun r hr=>h.outs r (List.mem_reverse.1 hr),fun r hr=>h.ins r (List.mem_reverse.1 hr),fun r hr=>h.eR r (List.mem_reverse.1 hr),((en rs).map _).nodup_iff.2 h.nodup,fun r hr x hx ho=>h.Ep r (List.mem_reverse.1 hr) x hx (by rw[er] at ho;exact List.mem_reverse.1 ho)⟩
theorem Wb{B B2:vk}{F F2:cY}(hR:mq rs NM RK)(h:zY B F)(h2:zY B2 F2)(k:gx rs NM RK B)(k2:gx rs.reverse NM RK B2){file DC:af->V}(e:∀x∈fh NM rs,file x=DC x):nS B F file=nS B2 F2 DC:=by
 rw[Bs h,Bs h2];have eo:F.cp.map (·.out)=F2.cp.map (·.out):=wo h.strict h2.strict fun x=>by
  rw[h.mem,h2.mem,k.outs,k2.outs,er,List.mem_reverse]
 rw[<- eo];refine b9 fun x hx=>?_;have mf:x∈rs.map (·.out):=by rw[<- k.outs];exact(h.mem x).1 hx
 rw[Dz k.DU,Dz k2.DU,C9 hR (en rs),show valOf rs NM file x=valOf rs NM DC x from FN e _ x (.inl mf)]
theorem lN.mm{fs EB:List (af×af)}{l l2:List (af×V)}(hR:mq rs NM RK)(h:lN rs NM RK fs l)(k:lN rs.reverse NM RK EB l2)(e:∀x∈fh NM rs,dU fs x=dU EB x):l=l2:=by
 obtain⟨B,F,h1,h2,rfl⟩:=h.ex;obtain⟨B2,F2,k1,k2,rfl⟩:=k.ex;exact Wb hR h1 k1 h2 k2 e
end
theorem aaw{α:Type}{l l2:List (af×α)}(p:l.Perm l2)(hn:(l.map (·.1)).Nodup)(x:af):eT l x=eT l2 x:=by
 have NG:(l2.map (·.1)).Nodup:=((p.map (·.1)).nodup_iff).1 hn;by_cases hx:x∈l.map (·.1)
 ·obtain⟨f,hf,rfl⟩:=List.mem_map.1 hx;rw[Oy hn hf,Oy NG (p.mem_iff.1 hf)]
 ·rw[vu hx,vu fun q=>hx ((p.map (·.1)).mem_iff.2 q)]
theorem wy{α:Type}:∀{l l2:List (af×α)} {x:af},x∉l2.map (·.1)->eT (l++l2) x=eT l x
 | [],l2,x,h=>vu h
 | (k,u)::l,l2,x,h=>by
  rw[List.cons_append];unfold eT;rw[wy h]
def zzB:af:=⟨#[122,122]⟩
def gb(fs:List (af×af))(t:af):List (af×af):=fs.reverse++[(zzB,t),(iR 0,t)]
theorem aad:zzB∉kR:=by
 intro q;simp only[kR,bJ,dh,or_false] at q;rcases q with q|q|q|q|q|q<;>(have:=congrArg (fun x:af=>x.data.size) q;simp[zzB] at this)
theorem aan{s:gQ}{fs:List (af×af)}{t:af}(h:gd s fs){x:af}(hx:x∈kR):dU fs x=dU (gb fs t) x:=by
 unfold dU gb;rw[wy,<- aaw (en fs).symm h.fk.1];simp only[aA,aP,bJ,dh,or_false,not_or];exact⟨fun e=>aad (e▸hx),fun e=>FB 0 aa (e▸hx)⟩
theorem abj:zzB≠iR 0:=fun e=>by
 have:=congrArg (·.data) e;simp only[vq 0 aa] at this;exact absurd this eu
theorem aaI{s:gQ}{fs:List (af×af)}{t:af}(h:gd s fs)(ok:vw fs)(ht:t.size<=12):vw (gb fs t):=by
 have rN:∀f∈gb fs t,f∈fs\/f=(zzB,t)\/f=(iR 0,t):=fun f hf=>by
  rcases List.mem_append.1 hf with q|q
  ·exact .inl (List.mem_reverse.1 q)
  ·exact .inr (by simpa using q)
 refine⟨by have:=h.gT;simp[gb];omega,fun f hf=>?_,?_,fun f hf=>?_⟩
 ·rcases rN f hf with q|rfl|rfl
  ·exact ok.name f q
  ·exact vt (x:=zzB) eu eu (fun u hu=>by simp[zzB] at hu;subst hu;decide)
  ·exact AG aa
 ·unfold gb;rw[gI,er];refine List.nodup_append.2 ⟨(en _).nodup_iff.2 ok.once,by simp[abj],fun x hx y hy=>?_⟩;have mf:=h.fk.2 x (List.mem_reverse.1 hx);simp at hy;rintro rfl;rcases hy with rfl|rfl
  ·exact aad mf
  ·exact FB 0 aa mf
 ·rcases rN f hf with q|rfl|rfl
  ·exact ok.text f q
  ·exact ht
  ·exact ht
theorem aaA{rs:List aI}{NM:aI->List af}(h:FF rs NM):∀x∈fh NM rs,x∈kR:=fun x hx=>by
 obtain⟨r,hr,h1,h2⟩:=sf.1 hx;exact(h.ins r hr x h1).resolve_right h2
theorem oW(fs ys:List (af×af)):fN (fs++ys)=fN fs++fN ys:=by simp[fN]
theorem HP(W:ae)(lo:Nat)(v:Value)(fs ys:List (af×af))(c A:Nat)(h:W.ownsRow lo 44 2 v fs.length (fN fs))(hn:fs.length+ys.length<=1000)(vF:lo<=W.heap.size)(ha:W.heap[A]?=some (.cells (fN ys).toArray 44)):
  ∃v' W',(Builtin.append_ #[37,37] 37 #[v,.slice (some ⟨A,0,none⟩) ys.length c]).run au W=.ok v' W'/\W'.ownsRow lo 44 2 v' (fs++ys).length (fN (fs++ys))/\W.grownBy W' v.ownBlock/\(v'.ownBlock=v.ownBlock\/v'.ownBlock=some W.heap.size):=by
 obtain⟨i,hi,od⟩:=Option.map_eq_some_iff.1 TQ;simp only[bt] at od;obtain⟨v',W',e1,e2,e3,_,e4⟩:=run_append_own_at (P:=au) W lo 37 37 44 i _ 2 32 underlying37 hi od.1 od.2.1 od.2.2 rfl aa v fs.length (fN fs) h ⟨A,0,none⟩ ys.length c (fN ys) (mo ys) (fun j u hj=>by
  have e:(⟨A,0,none⟩:Addr).add j=⟨A,j,none⟩:=by simp[Addr.add];omega
  rw[e];simp[World.cell?,ha,hj]) (fun u hu=>by
   simp only[fN,List.mem_flatten,List.mem_map] at hu;obtain⟨l,⟨f,-,rfl⟩,hu⟩:=hu;simp at hu;rcases hu with rfl|rfl<;>rfl) (by simp[maxLen];omega) aa vF
 exact⟨v',W',e1,by rw[oW];simpa using e2,e3,e4⟩
theorem aae(w:ae)(es:Array Event)(x:af):(Builtin.len_ #[9] 3 #[.string x]).events au w es=es:=by
 unfold Builtin.len_;simp[go_sem,Sem.events_bind,events_underlying]
theorem aaK(x:af)(h:12<x.size)(w:ae):(Instr.slice 9 (.string x) none (some (.int .i64 12)) none).run au w=.ok (.string (x.extract 0 12)) w:=by
 have h1:(12:Int)<=(x.size:Int):=aa;have h2:12<=x.size:=aa;simp[Instr.slice,Instr.sliceBounds,go_sem,h1,h2]
theorem aaM(x:af)(h:12<x.size)(w:ae)(es:Array Event):(Instr.sliceAt 9 (.string x) none (some (.int .i64 12)) none).events au w es=es:=by
 have h1:(12:Int)<=(x.size:Int):=aa;have b1:∀w es c,(Instr.sliceBound (.int .i64 12) x.size c).events au w es=es:=fun w es c=>by
  simp[Instr.sliceBound,asIntOf,h1]
 unfold Instr.sliceAt;simp[Instr.slice,Instr.sliceBounds,Instr.sureAddr,Sem.events_bind,run_sliceBound,b1,h1,go_sem,events_underlying]
section
variable {o o':aM} {w w':ae}
theorem ny.at_{lo e sz n:Nat}{v:Value}{xs:List Value}(h:ny o w lo e sz v n xs)(hF:bM au L0 o w):∃p b c,v=.slice p n c/\n<=c/\(0<n->p=some ⟨b,0,none⟩/\o b/\lo<=b)/\(p=none->n=0)/\∀k u,xs[k]?=some u->w.cell? ⟨b,k,none⟩=some u:=by
 have cj:=h.row;obtain⟨h0,hc⟩:=h.row;rcases hc with⟨e1,e2⟩|⟨g,cap,cur,e1,k1,k2,k3,k4,k5,k6⟩
 ·subst e2;have:xs=[]:=List.length_eq_zero_iff.1 (by rw[h0];simp);subst this;exact⟨none,0,0,e1,ag _,fun q=>absurd q aa,fun _=>rfl,fun k u hk=>by simp at hk⟩
 ·have lQ:=cj.cells (g:=g) (by rw[e1];rfl);have og:=gG hF h.cl g (by rw[e1];rfl);refine⟨_,g,cap,e1,?_,fun _=>⟨rfl,og,k1⟩,(fun q=>by cases q),fun k u hk=>?_⟩
  ·first|omega|exact k3|exact k4|exact k5|exact k6
  ·have:=lQ k u hk;have ha:(⟨g,0,none⟩:Addr).add k=⟨g,k,none⟩:=by simp[Addr.add];omega
   rw[ha] at this;exact this
theorem ny.abk{lo:Nat}{v:Value}{fs:List (af×af)}(h:ny o w lo 44 2 v fs.length (fN fs))(hF:bM au L0 o w):pr o w v fs:=by
 obtain⟨p,b,c,rfl,h1,h2,-,h3⟩:=h.at_ hF;refine⟨⟨p,b,c,rfl,fun q=>⟨(h2 (List.length_pos_iff.2 q)).1,(h2 (List.length_pos_iff.2 q)).2.1⟩,fun i hi=>?_⟩,h.cl,fun p' l' c' e=>by cases e;exact h1⟩;obtain⟨c0,c1⟩:=wq fs i hi;exact⟨h3 _ _ c0,h3 _ _ c1⟩
theorem kW:∀(rs:List aI) (i:Nat) (h:i<rs.length),(eM rs)[i*3]?=some (.string rs[i].out)/\(eM rs)[i*3+1]?=some (.int .i64 rs[i].eR)/\(eM rs)[i*3+2]?=some (.slice rs[i].sa rs[i].sl rs[i].sc)
 |r::rs,0,h=>by simp[qz]
 |r::rs,i+1,h=>by
  have ih:=kW rs i (by simpa using h);have e2:(i+1)*3=i*3+1+1+1:=aa;rw[qz,e2];simpa using ih
theorem Hand.mm{p:Option Addr}{b c lo:Nat}{v:Value}{rs:List aI}{NM:aI->List af}{NB:aI->Nat}{RK:af->Nat}(h:Hand o w p b c rs NM NB RK)(hF:bM au L0 o w)(r:ny o w lo 42 3 v rs.reverse.length (eM rs.reverse)):∃p2 b2 c2,v=.slice p2 rs.reverse.length c2/\Hand o w p2 b2 c2 rs.reverse NM NB RK:=by
 obtain⟨p2,b2,c2,rfl,h1,h2,h3,h4⟩:=r.at_ hF;refine⟨p2,b2,c2,rfl,by simp;exact h.gT,fun q=>⟨(h2 (List.length_pos_iff.2 q)).1,(h2 (List.length_pos_iff.2 q)).2.1⟩,fun q=>List.length_eq_zero_iff.1 (h3 q),fun i hi=>?_,r.cl,h1,fun x hx=>h.nm x (List.mem_reverse.1 hx),fun x hx=>h.nmn x (List.mem_reverse.1 hx),h.yes.mm,fun x hx=>by simpa using h.low x (List.mem_reverse.1 hx)⟩;obtain⟨c0,c1,c2⟩:=kW rs.reverse i hi;exact⟨h4 _ _ c0,h4 _ _ c1,h4 _ _ c2⟩
end
section
variable {Fin:bK} {o o':aM} {w w':ae}
theorem aaH[Payload](hF:bM au L0 o w)(pow:iW w)(p:Option Addr)(b off c:Nat)(rw:List Ex)(hR:uO Fin w p b off rw)(q:Option Addr)(qb A6 d:Nat)(xs:List (Int×Int×Int))(hX:FJ Fin w q qb A6 xs)(ex:af)(hex:ex.size<=9223372036854775807):
  Dw au (XB au Fin 0) 5 Tryz.f5 #[.slice p rw.length c,.slice q xs.length d,.string ex] o w fun v o' w'=>v=.bool true/\bA (fun _=>False) o w o' w':=by
 have W:=bV (P:=au) (Fin:=Fin) (d:=0);have AY:=hX.EI;refine⟨_,ar,?_⟩;walk_nrmf Tryz.f5;refine ax ?_;refine cd func13 (Kq hF pow p b off c rw hR) ?_;rintro v1 o1 w1 eP;obtain⟨S,K,pb,dp,rp,rb,rc,rs,NM,NB,rfl,hWS,h1,Kp,Io⟩:=aav eP;clear eP;refine ax ?_;refine dB bQ h1.aF rfl ar ar ?_ rfl (v:=.bool false) (fun wl aT=>by simp[go_sem,aew]) fun _=>?_
 ·exact iV (bU hWS.cz.own) yc
 clear h1;generalize s0 pb=s at *;refine ax ?_;refine iL W (fun m a o' w'=>∃i,m+i=xs.length/\a.tmps.size=138/\a.defers=[]/\a.eval (.tmp 1)=.slice q xs.length d/\a.eval (.tmp 2)=.string ex/\a.eval (.tmp 7)=.pointer (some ⟨S,0,none⟩)/\a.eval (.tmp 8)=.int .i64 i/\∃s lab fv fs ed,ed<=i/\SS o w S K rp rb rc rs NM NB s lab fv fs ed i o' w') (N:=xs.length) ⟨0,aj,rfl,rfl,aH,aH,aH,aH,_,_,_,_,_,ag _,hWS⟩ ?_;clear hWS;rintro m a o1 w1 ⟨i,KS,fE,kT,i1,i2,i7,i8,s,lab,fv,fs,ed,Us,hW⟩;obtain⟨gs,rfl⟩:=iE fE kT;clear fE kT;simp only[List.range,List.range.loop,aA,aP] at i1 i2 i7 i8 |-;simp[Act.eval] at i1 i2 i7 i8;simp only[i1,i2,i7,i8];clear i1 i2 i7 i8;by_cases hi:i<xs.length
 ·have hiI:(i:Int)<(xs.length:Int):=aa;have YI:IntKind.i64.wrap ((i:Int)+1)=((i+1:Nat):Int):=by rw[IntKind.wrap_i64]<;>omega
  obtain⟨eq,oqb,qbl⟩:=hX.ptr (fun e=>by rw[e] at hi;simp at hi);subst eq;obtain⟨c0,c1,c2⟩:=hX.at_ i hi;obtain⟨⟨WV,WW⟩,WX,rg4⟩:=hX.WS xs[i] (aG hi);rcases hxi:xs[i] with⟨kd,ea,eb⟩;rw[hxi] at c0 c1 c2 WV WW WX rg4;simp only at c0 c1 c2 WV WW WX rg4;clear hxi;have Ub:=hW.old.same qb qbl id;have Yy:=(cell_of Ub).trans c0;have AM:=(cell_of Ub).trans c1;have c2':=(cell_of Ub).trans c2;by_cases hk:1<kd
  ·refine ax ?_;refine p5 oqb rfl ar rfl (v:=.int .i64 kd) (fun wl aT=>by simp[go_sem,aT.cell.trans Yy]) (fun wl aT x hx=>?_) ?_
   ·simp[go_sem,aT.cell.trans Yy] at hx;subst hx;all_goals exact⟨_,_,_,rfl,rfl⟩
   refine ax ?_;exact⟨m-1,aa,i+1,aa,dj,dj,aH,aH,aH,by simp[Act.eval,YI],s,lab,fv,fs,ed,aa,hW.cz,hW.old,hW.aaQ,hW.sge,hW.hand,hW.lF,hW.told.up aa⟩
  refine ax ?_;refine p5 oqb rfl ar rfl (v:=.int .i64 kd) (fun wl aT=>by simp[go_sem,aT.cell.trans Yy]) (fun wl aT x hx=>?_) ?_
  ·simp[go_sem,aT.cell.trans Yy] at hx;subst hx;all_goals exact⟨_,_,_,rfl,rfl⟩
  refine ax ?_;refine p5 oqb rfl ar rfl (v:=.agg #[.int .i64 kd,.int .i64 ea,.int .i64 eb]) (fun wl aT=>by simp[go_sem,aT.cell.trans Yy,aT.cell.trans AM,aT.cell.trans c2']) (fun wl aT x hx=>?_) ?_
  ·simp[go_sem,aT.cell.trans Yy,aT.cell.trans AM,aT.cell.trans c2'] at hx;rcases hx with rfl|rfl|rfl;all_goals exact⟨_,_,_,rfl,rfl⟩
  refine ax ?_;refine cd func14 (Ur hW.cz kd ea eb WV WW WX rg4 aa) ?_;rintro v2 o2 w2 ⟨n,y,s2,fR,MY,EB,yV,rfl,sh2,st2,U2,ajR⟩;have Xv:yV<=i+1:=by have:=st2.edl;omega
  have uf:=hW.go sh2 U2 (hW.told.step hW.cz.sound Kp hW.cz.dF.Xt aa st2);clear sh2 st2 U2 ajR hW;refine ax ?_;refine sX n y uf.cz.dF fun D o3 w4 kL hD hV=>?_;have J5:=uf.k hV.step hV.dF;clear hV hD uf;refine ax ?_;exact⟨m-1,aa,i+1,aa,dj,dj,aH,aH,aH,by simp[Act.eval,YI],s2,_,MY,EB,yV,Xv,J5⟩
 have hiI:¬(i:Int)<(xs.length:Int):=aa;have tj:=hW.cz.dF.aF;have oS:=hW.cz.own;have lS:=tj.lt oS;have xc:=hW.hand.gT;have hwl:IntKind.i64.wrap ((rs.length:Int)-1)=(rs.length:Int)-1:=by rw[IntKind.wrap_i64]<;>omega
 have cS1:=(nU hW.cz.blk).2.1;obtain⟨fp,fb,fc,YJ,hfp,hfl⟩:=hW.cz.files.ex;have cS2:=(nU hW.cz.blk).2.2.1;rw[YJ] at cS2;have amF:=hW.cz.A4.gT.2;refine ax ?_;refine lh tj oS cS1 fun _=>?_;refine ax ?_;refine iL W (fun m a o' w'=>∃k,m+k=rs.length/\a.tmps.size=138/\a.defers=[]/\a.eval (.tmp 2)=.string ex/\a.eval (.tmp 7)=.pointer (some ⟨S,0,none⟩)/\a.eval (.tmp 12)=.int .i64 ((rs.length:Int)-1-(k:Nat))/\∃v,a.eval (.tmp 11)=v/\fZ o1 w1 o' w'/\ny o' w' w1.heap.size 42 3 v (rs.reverse.take k).length (eM (rs.reverse.take k))) (N:=rs.length) ⟨0,aj,rfl,rfl,aH,aH,by simp[Act.eval,hwl],.slice none 0 0,aH,fZ.refl tj,ny.nil _ _ _ _ _ (ag _)⟩ ?_;rintro m2 a o2 w2 ⟨k,Je,fE,kT,i2,i7,i12,v,i11,G,row⟩;obtain⟨gs,rfl⟩:=iE fE kT;clear fE kT;simp only[List.range,List.range.loop,aA,aP] at i2 i7 i11 i12 |-;simp[Act.eval] at i2 i7 i11 i12;simp only[i2,i7,i11,i12];clear i2 i7 i11 i12;have rO:=G.br.aF;have oS2:=G.br.more _ oS;by_cases hk:k<rs.length
 ·have hj:rs.length-1-k<rs.length:=aa;have hjI:(rs.length:Int)-1-(k:Int)=((rs.length-1-k:Nat):Int):=aa;have Hu:IntKind.i64.wrap (((rs.length-1-k:Nat):Int)-1)=(rs.length:Int)-1-((k+1:Nat):Int):=by rw[IntKind.wrap_i64]<;>omega
  have cy:((rs.length-1-k:Nat):Int)<(rs.length:Int):=aa;have abl:rs.reverse[k]'(by simpa using hk)=rs[rs.length-1-k]:=List.getElem_reverse ..;obtain⟨ep,orb⟩:=hW.hand.ptr (fun e=>by rw[e] at hk;simp at hk);obtain⟨d0,d1,d2⟩:=hW.hand.at_ (rs.length-1-k) hj;have e2:=G.br.same rb (tj.lt orb) id;have aaR:=G.br.more _ orb;have abm:=(cell_of (G.br.same S lS id)).trans cS1;rw[ep] at abm;have cj:(rs.reverse.take k).length<=1000:=dV;rw[hjI];generalize hjj:rs.length-1-k=j at *;generalize rs[j]=r at *;refine ax ?_;refine lh rO oS2 abm fun _=>?_;refine ax ?_;refine dB bQ rO rfl ar ar ?_ rfl (v:=.agg #[.string r.out,.int .i64 r.eR,.slice r.sa r.sl r.sc]) (fun wl aT=>by simp[go_sem,(aT.cell aaR).trans ((cell_of e2).trans d0),(aT.cell aaR).trans ((cell_of e2).trans d1),(aT.cell aaR).trans ((cell_of e2).trans d2)]) fun aj5=>?_
  ·exact mU (bU aaR)
  refine ax ?_;refine dt bQ rO rfl ar ar ?_ rfl (R:=fun wl v aV=>v=.slice (some ⟨wl.heap.size,0,none⟩) 1 1/\aV=wl.alloc (.cells #[.string r.out,.int .i64 r.eR,.slice r.sa r.sl r.sc] 42)) (fun wl aT=>⟨_,_,by simp[go_sem,Act.eval],rfl,rfl⟩) fun wl v1 aV wx aT hRx bN=>?_
  ·exact mU aj5
  obtain⟨rfl,hRx⟩:=hRx;obtain⟨zx,kx,kbx⟩:=bN.alloc rO aT hRx;rw[aT.size];have Gx:=fZ.sW bN.aF aa kx;have oN:Go.Ren.grow o2 w2 wx w2.heap.size:=Gx.all _ (ag _) aa;have G2:=G.trans Gx;have fl:=row.jj Gx;clear hRx bN aT wl aV zx kx;generalize hN:w2.heap.size=A at *;generalize Go.Ren.grow o2 w2 wx=ox at *;clear hN G row rO oS2 abm e2 aaR Gx;have rO:=G2.br.aF;refine ax ?_;refine dt bQ rO rfl ar ar ?_ rfl (R:=fun wl y aV=>aV.ownsRow w1.heap.size 42 3 y (rs.reverse.take k++[r]).length (eM (rs.reverse.take k++[r]))/\wl.grownBy aV v.ownBlock/\(y.ownBlock=v.ownBlock\/y.ownBlock=some wl.heap.size)) (fun wl aT=>?_) fun wl y3 aV w3 aT nD bN=>?_
  ·intro y hy;simp[Op.operands,Call.operands] at hy;rcases hy with rfl|rfl
   ·simp[Act.eval];exact fl.cl
   ·simp[Act.eval];exact dY oN
  ·obtain⟨v',W',e1,e2,e3,e4⟩:=TY wl w1.heap.size v (rs.reverse.take k) r A (dD fl.row fun g hg _=>aT.heap g (gG rO fl.cl g hg.symm)) cj (by rw[aT.size];exact fl.low) ((aT.heap _ oN).trans kbx);exact⟨v',W',jA (.tmp 57) (.tmp 65) 35 rfl aH aH e1,e2,e3,e4⟩
  obtain⟨r1,r2,r3⟩:=nD;obtain⟨q1,q2,q3⟩:=ny.add rO fl aT bN r1 r2 r3;have G3:=G2.row (fun b hb=>(fl.lt b hb).1) q2;generalize Go.Ren.grow ox wx w3=o3 at *;clear r1 r2 r3 q2 q3 bN aT wl aV;rw[<- abl,<- take_succ rs.reverse k (by simpa using hk)] at q1;refine ax ?_;exact⟨m2-1,aa,k+1,aa,dj,dj,aH,aH,by simp[Act.eval,Hu],y3,aH,G3,q1⟩
 have UT:¬(0:Int)<=(rs.length:Int)-1-(k:Int):=aa;have aqN:(rs.length:Int)-1-(k:Int)<0:=aa;rw[cH dV] at row;have aj0:IntKind.i64.wrap ((fs.length:Int)-1)=(fs.length:Int)-1:=by rw[IntKind.wrap_i64]<;>omega
 have aj1:=(cell_of (G.br.same S lS id)).trans cS2;refine ax ?_;refine gX W (t:=false) (by simp[Act.eval];omega) ?_;simp only[if_false,reduceIte,aL];refine ax ?_;refine lh rO oS2 aj1 fun _=>?_;refine ax ?_;have afk:=row;have G12:=G;clear row G;refine iL W (fun m a o' w'=>∃k,m+k=fs.length/\a.tmps.size=138/\a.defers=[]/\a.eval (.tmp 2)=.string ex/\a.eval (.tmp 7)=.pointer (some ⟨S,0,none⟩)/\a.eval (.tmp 11)=v/\a.eval (.tmp 14)=.int .i64 ((fs.length:Int)-1-(k:Nat))/\∃u,a.eval (.tmp 13)=u/\fZ o2 w2 o' w'/\ny o' w' w2.heap.size 44 2 u (fs.reverse.take k).length (fN (fs.reverse.take k))) (N:=fs.length) ⟨0,aj,rfl,rfl,aH,aH,aH,by simp[Act.eval,aj0],.slice none 0 0,aH,fZ.refl rO,ny.nil _ _ _ _ _ (ag _)⟩ ?_;rintro m3 a o4 w4 ⟨k3,aqP,fE,kT,i2,i7,i11,i14,v2,i13,G,row⟩;obtain⟨gs,rfl⟩:=iE fE kT;clear fE kT;simp only[List.range,List.range.loop,aA,aP] at i2 i7 i11 i13 i14 |-;simp[Act.eval] at i2 i7 i11 i13 i14;simp only[i2,i7,i11,i13,i14];clear i2 i7 i11 i13 i14;have G14:=G12.trans G;have hFd:=G.br.aF;have Hh:=G14.br.more _ oS;have aaT:=(cell_of (G14.br.same S lS id)).trans cS2;by_cases hk3:k3<fs.length
 ·have hj:fs.length-1-k3<fs.length:=aa;have hjI:(fs.length:Int)-1-(k3:Int)=((fs.length-1-k3:Nat):Int):=aa;have Hu:IntKind.i64.wrap (((fs.length-1-k3:Nat):Int)-1)=(fs.length:Int)-1-((k3+1:Nat):Int):=by rw[IntKind.wrap_i64]<;>omega
  have cy:((fs.length-1-k3:Nat):Int)<(fs.length:Int):=aa;have abl:fs.reverse[k3]'(by simpa using hk3)=fs[fs.length-1-k3]:=List.getElem_reverse ..;obtain⟨ep,ofb⟩:=hfp (fun e=>by rw[e] at hk3;simp at hk3);obtain⟨d0,d1⟩:=hfl (fs.length-1-k3) hj;have e2:=G14.br.same fb (tj.lt ofb) id;have aaU:=G14.br.more _ ofb;rw[ep] at aaT;have cj:(fs.reverse.take k3).length+[fs[fs.length-1-k3]].length<=1000:=dV;rw[hjI];generalize hjj:fs.length-1-k3=j at *;generalize fs[j]=f at *;refine ax ?_;refine lh hFd Hh aaT fun _=>?_;refine ax ?_;refine dB bQ hFd rfl ar ar ?_ rfl (v:=.agg #[.string f.1,.string f.2]) (fun wl aT=>by simp[go_sem,(aT.cell aaU).trans ((cell_of e2).trans d0),(aT.cell aaU).trans ((cell_of e2).trans d1)]) fun aj5=>?_
  ·exact mU (bU aaU)
  refine ax ?_;refine dt bQ hFd rfl ar ar ?_ rfl (R:=fun wl v aV=>v=.slice (some ⟨wl.heap.size,0,none⟩) 1 1/\aV=wl.alloc (.cells #[.string f.1,.string f.2] 44)) (fun wl aT=>⟨_,_,by simp[go_sem,Act.eval],rfl,rfl⟩) fun wl v1 aV wx aT hRx bN=>?_
  ·exact mU aj5
  obtain⟨rfl,hRx⟩:=hRx;obtain⟨zx,kx,kbx⟩:=bN.alloc hFd aT hRx;rw[aT.size];have Gx:=fZ.sW bN.aF aa kx;have oN:Go.Ren.grow o4 w4 wx w4.heap.size:=Gx.all _ (ag _) aa;have Gy:=G.trans Gx;have fl:=row.jj Gx;clear hRx bN aT wl aV zx kx;generalize w4.heap.size=A at *;generalize Go.Ren.grow o4 w4 wx=ox at *;clear G row hFd Hh aaT e2 aaU Gx G14;have hFx:=Gy.br.aF;refine ax ?_;refine dt bQ hFx rfl ar ar ?_ rfl (R:=fun wl y aV=>aV.ownsRow w2.heap.size 44 2 y (fs.reverse.take k3++[f]).length (fN (fs.reverse.take k3++[f]))/\wl.grownBy aV v2.ownBlock/\(y.ownBlock=v2.ownBlock\/y.ownBlock=some wl.heap.size)) (fun wl aT=>?_) fun wl y3 aV w3 aT nD bN=>?_
  ·intro y hy;simp[Op.operands,Call.operands] at hy;rcases hy with rfl|rfl
   ·simp[Act.eval];exact fl.cl
   ·simp[Act.eval];exact dY oN
  ·obtain⟨v',W',e1,e2,e3,e4⟩:=HP wl w2.heap.size v2 (fs.reverse.take k3) [f] 1 A (dD fl.row fun g hg _=>aT.heap g (gG hFx fl.cl g hg.symm)) cj (by rw[aT.size];exact fl.low) ((aT.heap _ oN).trans kbx);exact⟨v',W',jA (.tmp 77) (.tmp 85) 37 rfl aH aH e1,e2,e3,e4⟩
  obtain⟨r1,r2,r3⟩:=nD;obtain⟨q1,q2,q3⟩:=ny.add hFx fl aT bN r1 r2 r3;have G3:=Gy.row (fun b hb=>(fl.lt b hb).1) q2;generalize Go.Ren.grow ox wx w3=o3 at *;clear r1 r2 r3 q2 q3 bN aT wl aV;rw[<- abl,<- take_succ fs.reverse k3 (by simpa using hk3)] at q1;refine ax ?_;exact⟨m3-1,aa,k3+1,aa,dj,dj,aH,aH,aH,by simp[Act.eval,Hu],y3,aH,G3,q1⟩
 rw[cH dV] at row;refine ax ?_;refine gX W (t:=false) (by simp[Act.eval];omega) ?_;simp only[if_false,reduceIte,aL];refine CE ?_;refine yP W (fun a o' w'=>a.tmps.size=138/\a.defers=[]/\a.eval (.tmp 7)=.pointer (some ⟨S,0,none⟩)/\a.eval (.tmp 11)=v/\a.eval (.tmp 13)=v2/\(∃t:af,a.eval (.tmp 2)=.string t/\t.size<=12)/\o4=o'/\w4=w') ?_ ?_
 ·have hwx:IntKind.i64.wrap (ex.size:Int)=(ex.size:Int):=by rw[IntKind.wrap_i64]<;>omega
  by_cases hx:12<ex.size
  ·have hxI:(12:Int)<(ex.size:Int):=aa;refine ax ?_;refine zn W (v:=.int .i64 ex.size) rfl ar (fun w3=>fP) (fun w3=>by simp[go_sem,aae]) ?_;refine ax ?_;refine zn W (v:=.string (ex.extract 0 12)) rfl ar (fun w3=>by simp[go_sem,aaK ex hx]) (fun w3=>by simp[go_sem,aaM ex hx]) ?_;refine ax ?_;exact⟨dj,dj,aH,aH,aH,⟨ex.extract 0 12,aH,by simp[ByteArray.size_extract];omega⟩,dj,dj⟩
  ·have hxI:¬(12:Int)<(ex.size:Int):=aa;refine ax ?_;refine zn W (v:=.int .i64 ex.size) rfl ar (fun w3=>fP) (fun w3=>by simp[go_sem,aae]) ?_;refine ax ?_;exact⟨dj,dj,aH,aH,aH,⟨ex,aH,aa⟩,dj,dj⟩
 rintro a o' w' ⟨fE,kT,i7,i11,i13,⟨t,i2,ht⟩,rfl,rfl⟩;obtain⟨gs,rfl⟩:=iE fE kT;clear fE kT;simp only[List.range,List.range.loop,aA,aP] at i2 i7 i11 i13 |-;simp[Act.eval] at i2 i7 i11 i13;simp only[i2,i7,i11,i13];clear i2 i7 i11 i13;refine ax ?_;refine cd func15 (Yw hFd 0 aa) ?_;rintro v5 o5 w5 ⟨rfl,N5⟩;have G45:=fZ.eJ N5;have G25:=G.trans G45;have afl:=row.jj G45;have Fo:=G45.br.aF;clear N5 G row;refine ax ?_;refine dt bQ Fo rfl ar ar ?_ rfl (R:=fun wl v aV=>v=.slice (some ⟨wl.heap.size,0,none⟩) 2 2/\aV=wl.alloc (.cells #[.string zzB,.string t,.string (iR 0),.string t] 44)) (fun wl aT=>⟨_,_,by simp[go_sem,Act.eval,zzB],rfl,rfl⟩) fun wl v1 aV wx aT hRx bN=>?_
 ·refine iV ?_ ?_
  ·refine fS (vs:=[_,_]) (fun x hx=>?_);simp at hx;rcases hx with rfl|rfl<;>exact bS
  ·refine fS (vs:=[_,_]) (fun x hx=>?_);simp at hx;rcases hx with rfl|rfl<;>exact bS
 obtain⟨rfl,hRx⟩:=hRx;obtain⟨zx,kx,kbx⟩:=bN.alloc Fo aT hRx;rw[aT.size];have Gx:=fZ.sW bN.aF aa kx;have oN:Go.Ren.grow o5 w5 wx w5.heap.size:=Gx.all _ (ag _) aa;have Gy:=G25.trans Gx;have fl:=afl.jj Gx;clear hRx bN aT wl aV zx kx;generalize w5.heap.size=A at *;generalize Go.Ren.grow o5 w5 wx=ox at *;clear G25 afl Fo Gx G45;have hFx:=Gy.br.aF;refine ax ?_;refine dt bQ hFx rfl ar ar ?_ rfl (R:=fun wl y aV=>aV.ownsRow w2.heap.size 44 2 y (gb fs t).length (fN (gb fs t))/\wl.grownBy aV v2.ownBlock/\(y.ownBlock=v2.ownBlock\/y.ownBlock=some wl.heap.size)) (fun wl aT=>?_) fun wl y3 aV w3 aT nD bN=>?_
 ·intro y hy;simp[Op.operands,Call.operands] at hy;rcases hy with rfl|rfl
  ·simp[Act.eval];exact fl.cl
  ·simp[Act.eval];exact dY oN
 ·obtain⟨v',W',e1,e2,e3,e4⟩:=HP wl w2.heap.size v2 fs.reverse [(zzB,t),(iR 0,t)] 2 A (dD fl.row fun g hg _=>aT.heap g (gG hFx fl.cl g hg.symm)) dV (by rw[aT.size];exact fl.low) ((aT.heap _ oN).trans kbx);exact⟨v',W',jA (.tmp 92) (.tmp 98) 37 rfl aH aH e1,e2,e3,e4⟩
 obtain⟨r1,r2,r3⟩:=nD;obtain⟨q1,q2,q3⟩:=ny.add hFx fl aT bN r1 r2 r3;have G3:=Gy.row (fun b hb=>(fl.lt b hb).1) q2;generalize Go.Ren.grow ox wx w3=o3 at *;clear r1 r2 r3 q2 q3 bN aT wl aV;have G13:=G12.trans G3;have afm:=afk.jj G3;have px:=G13.br.aF;clear fl Gy hFx kbx oN G12 afk G14 hFd Hh aaT;obtain⟨A3,sh3⟩:=hW.cz.grown G13.br;have hH3:=hW.hand.keep G13.br.more fun g hg=>G13.br.same g (hW.hand.lt tj hg) id;obtain⟨p2,b2,c2,rfl,hH2⟩:=hH3.mm px afm;have hM2:=q1.abk px;have je:=hW.cz.ok;have aj8:=aaI (t:=t) hW.cz.A4 je ht;have aj9:=(cell_of (G13.br.same S lS id)).trans cS1;have aka:=(cell_of (G13.br.same S lS id)).trans cS2;have oS3:=G13.br.more _ oS;obtain⟨fp2,fb2,fc2,rfl,-,-⟩:=hM2.ex;have lS3:=px.lt oS3;refine ax ?_;refine dQ mixed ah [some none,some none,some none,some (some (.slice rp rs.length rc)),some none,some none,some none,some (some (.slice fp fs.length fc)),none,some none,some none,some none,some none,some none]
  (S:=fun σ o' w'=>(σ 8=none/\bA (fun _=>False) o3 w3 o' w')\/∃y,σ 8=some y/\∃oa wa,bA (fun _=>False) o3 w3 oa wa/\Xn rs NM AF fs oa wa y o' w') (.inl ⟨rfl,bA.refl px⟩) fun v9=>?_
 refine dP ?_;refine cC ?_;refine cm bQ rfl rfl rfl ar ar (fun σ o' w' H hS=>?_) ?_
 ·rcases hS with⟨-,hS⟩|⟨y,q,-⟩
  ·exact tE hS.aF (hS.more _ oS3) ((cell_of (hS.same _ lS3 id)).trans aj9)
  ·rw[H.xm 8 ah] at q;cases q
 refine cC ?_;refine cm bQ rfl rfl rfl ar ar (fun σ o' w' H hS=>?_) ?_
 ·rcases hS with⟨-,hS⟩|⟨y,q,-⟩
  ·exact tE hS.aF (hS.more _ oS3) ((cell_of (hS.same _ lS3 id)).trans aka)
  ·rw[H.xm 8 ah] at q;cases q
 walk_nrm;refine ve rfl rfl ar rfl func16 ah rfl (av:=#[.slice rp rs.length rc,.slice fp fs.length fc]) aH (fun σ o' w' H h8 hS=>?_) ?_
 ·rcases hS with⟨-,hS⟩|⟨y,q,-⟩
  ·obtain⟨lab',sh'⟩:=sh3.grown hS;have hH':=hH3.keep hS.more fun g hg=>hS.same g (hH3.lt px hg) id;have UB:=sh'.files;rw[YJ] at UB;obtain⟨p',b',c',e',k1,k2⟩:=UB.ex;cases e';refine(Xo sh'.dF.aF sh'.dF.build.pow hH' b' fc fp fs k1 k2 UB.cl (UB.cap _ _ _ rfl) je).mono ?_;rintro y o'' w'' hq;exact .inr ⟨y,by simp[fM],o',w',hS,hq⟩
  ·rw[h8] at q;cases q
 refine cC ?_;obtain⟨ra,rb',rM⟩:∃a b,(∃a' b',v9 8=.tuple #[a',b'])->v9 8=.tuple #[a,b]:=by
  by_cases q:∃a' b',v9 8=.tuple #[a',b']
  ·obtain⟨a,b,e⟩:=q;exact⟨a,b,fun _=>e⟩
  ·exact⟨.tuple #[],.tuple #[],fun q'=>absurd q' q⟩
 refine yh (v9 8=.tuple #[ra,rb']) ra rfl rfl rfl ar (fun σ o' w' H hS=>?_) (fun hv w1=>?_) (fun hv w1=>?_) fun y10 akc=>?_
 ·have d:=H.IY [9] 8 ah rfl;rcases hS with⟨q,-⟩|⟨y,q,oa,wa,-,hC⟩
  ·rw[d] at q;cases q
  ·rw[d] at q;cases q;obtain⟨R,B,F,e,-⟩:=hC.ex;exact rM ⟨_,_,e⟩
 ·simp[go_sem,Act.eval,hv]
 ·simp[go_sem,Act.eval,hv]
 walk_nrm;refine yh (v9 8=.tuple #[ra,rb']) rb' rfl rfl rfl ar (fun σ o' w' H hS=>?_) (fun hv w1=>?_) (fun hv w1=>?_) fun y11 akd=>?_
 ·have d:=H.IY [9] 8 ah rfl;rcases hS with⟨q,-⟩|⟨y,q,oa,wa,-,hC⟩
  ·rw[d] at q;cases q
  ·rw[d] at q;cases q;obtain⟨R,B,F,e,-⟩:=hC.ex;exact rM ⟨_,_,e⟩
 ·simp[go_sem,Act.eval,hv]
 ·simp[go_sem,Act.eval,hv]
 refine cC ?_;refine cB fun σ o6 w6 mn hS=>?_;rcases hS with⟨q,-⟩|⟨y,q,oa,wa,Wa,hC⟩
 ·rw[mn 8 eu rfl] at q;cases q
 rw[mn 8 eu rfl] at q;cases q;obtain⟨R,B,F,e,ake,hRR,E9,YG,hRz,oR,wM⟩:=hC.ex;have WC:=rM ⟨_,_,e⟩;obtain rfl:=akc WC;obtain rfl:=akd WC;rw[e] at WC;cases WC;clear mn;have W6:=Wa.trans hC.br;have hM:lN rs NM AF fs (nS B F (dU fs)):=⟨B,F,⟨hRR,E9,YG⟩,ake,rfl⟩;have hlen:=hM.len;generalize nS B F (dU fs)=l1 at *;obtain⟨aaJ,sh6⟩:=sh3.grown W6;have hH6:=hH2.keep W6.more fun g hg=>W6.same g (hH2.lt px hg) id;have hM6:=hM2.keep W6.more fun g hg=>W6.same g (px.lt (gG px hM2.cl g hg)) id;obtain⟨p6,b6,c6,e6,k1,k2⟩:=hM6.ex;cases e6;simp only[iH,dI,if_true,if_false,reduceIte,Nat.reduceEqDiff];refine ax ?_;refine cd func16 (Xo sh6.dF.aF sh6.dF.build.pow hH6 b6 fc2 fp2 (gb fs t) k1 k2 hM6.cl (hM6.cap _ _ _ rfl) aj8) ?_;rintro v7 o7 w7 hC2;obtain⟨R2,B2,F2,rfl,akh,aki,abo,abp,aqV,oR2,afn⟩:=hC2.ex;have W7:=hC2.br;have hMb:lN rs.reverse NM AF (gb fs t) (nS B2 F2 (dU (gb fs t))):=⟨B2,F2,⟨aki,abo,abp⟩,akh,rfl⟩;generalize nS B2 F2 (dU (gb fs t))=l2 at *;obtain rfl:l1=l2:=hM.mm hW.hand.right hMb fun x hx=>aan hW.cz.A4 (aaA Io x hx);have afo:nC w7 R l1:=kn wM (W7.same R (sh6.dF.aF.lt oR) id);have oR7:=W7.more _ oR;have hl8:l1.length<=1000:=aa;rw[show rs.reverse.length=l1.length by simp[hlen],<- hlen];clear hlen;refine ax ?_;refine cd func17 (Ux W7.aF R R2 l1.length l1.length (some ⟨R,0,none⟩) (some ⟨R2,0,none⟩) l1 l1 hl8 hl8 (fun _=>⟨rfl,oR7⟩) (fun _=>⟨rfl,oR2⟩) afo afn) ?_;rintro v8 o8 w8 ⟨rfl,G8⟩;rw[cU rfl];refine ax ?_;exact⟨.inr trivial,trivial,_,resultsC_tmp (t:=6) ar _,aH,(((hW.old.trans G13.br).trans W6).trans W7).trans G8.br⟩
end
open Go
section
open YtgjekaaknjgnmaaGreatDoor
theorem T9:gp 5 Tryz.f5:=fun Fin o w hF pow p b off c rw hR q qb A6 d xs hX ex hex=>by
 letI:Go.ConcR.Payload:=⟨0⟩
 exact aaH hF pow p b off c rw hR q qb A6 d xs hX ex hex
theorem ordered_done:Rows.OrderedCardSaid:=P2 T9
end
end Go.Proofs.Kz
namespace Go.Proofs.YtgjekaaknjgnmaaGreatDoor
theorem ordered_claim:Rows.OrderedCardSaid:=Go.Proofs.Kz.ordered_done
end Go.Proofs.YtgjekaaknjgnmaaGreatDoor
