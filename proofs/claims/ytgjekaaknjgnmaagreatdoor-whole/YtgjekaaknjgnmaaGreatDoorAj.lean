import Derived.Test.YtgjekaaknjgnmaaGreatDoorAh
set_option linter.all false
set_option maxHeartbeats 40000000
set_option maxRecDepth 200000
namespace Go.Proofs.Kz
open Go.Proofs.Tryz
open Go.Proofs.Tryz renaming prog → au
open _root_.ByteArray renaming empty → aP
open Go.Proofs
section
open Go.RowKit
theorem KL(b c:Nat)(p:Option Addr)(fs:List (af×af))(x:af)(w:ae)(hn:fs.length<=1000)(hp:fs≠[]->p=some ⟨b,0,none⟩/\b<w.heap.size)(hf:lT w b fs)(hx:∀f∈fs,f.1≠x):
  Calls au 69 #[.slice p fs.length c,.string x] w fun e w'=>e=.returned (.bool false)/\Below w.heap.size w w'/\w.heap.size<=w'.heap.size:=by
 go_enter func69,ntmps69;go_wp2;go_loopw [9] (fun i w'=>∃k:Nat,k<=fs.length/\i=.int .i64 k/\Below w.heap.size w w'/\w.heap.size<=w'.heap.size) (fun i _=>fs.length-(intOf i).toNat)
 case atStart=>exact⟨0,aV _,rfl,Below.refl _ _,ag _⟩
 case round =>
  obtain⟨k,hk,rfl,gB,hz⟩:=hrel;by_cases cB:k<fs.length
  ·obtain⟨rfl,hb⟩:=hp (fun e=>by rw[e] at cB;simp at cB);obtain⟨c0,c1⟩:=hf.below hb gB k cB;have dJ:=vy (hx fs[k] (aH cB));generalize fs[k]=f at *;obtain⟨f1,f2⟩:=f;simp only at c0 c1 dJ;clear hf hx;go_wp2;exact⟨⟨k+1,aa,by go_num,gB.alloc aa _,dX⟩,by simp[intOf];omega⟩
  ·go_wp2;go_ret;exact⟨rfl,gB,hz⟩
end
section
open Go.RowKit
open Go.Ren (cell_of)
theorem ae9{w:ae}{B t n k:Nat}{vs:List V}{v:V}(hk:k<vs.length)(cp:w.rowIs B t (n*2) (dZ vs)):
  ((w.setCell ⟨B,k*2,none⟩ (.bool v.1)).setCell ⟨B,k*2+1,none⟩ (.string v.2)).rowIs B t (n*2) (dZ (vs.set k v)):=by
 refine((cp.set (k*2) _).set (k*2+1) _).congr fun j hj=>?_;by_cases e1:j=k*2+1
 ·subst e1;rw[if_pos rfl];have h1:(k*2+1)%2=1:=aa;have h2:(k*2+1)/2=k:=aa;simp[dZ,h1,h2,hk]
 ·by_cases e2:j=k*2
  ·subst e2;rw[if_neg e1,if_pos rfl];have h1:(k*2)%2=0:=aa;have h2:(k*2)/2=k:=aa;simp[dZ,h1,h2,hk]
  ·rw[if_neg e1,if_neg e2];have h3:k≠j/2:=aa;simp[dZ,h3]
def kR(cZ:List af)(fs:List (af×af)):List V:=fs.foldl (fun vs f=>if pV cZ f.1 then vs.set (nn cZ f.1) (true,f.2) else vs) (List.replicate cZ.length V0)
theorem AQ(cZ:List af)(fs:List (af×af))(k:Nat)(h:k<fs.length):kR cZ (fs.take (k+1))=if pV cZ fs[k].1 then(kR cZ (fs.take k)).set (nn cZ fs[k].1) (true,fs[k].2) else kR cZ (fs.take k):=by
 unfold kR;rw[take_succ fs k h,List.foldl_append];rfl
theorem DL(cZ:List af)(fs:List (af×af)):(kR cZ fs).length=cZ.length:=by
 unfold kR
 suffices ∀(l:List (af×af)) (vs:List V),(l.foldl (fun vs f=>if pV cZ f.1 then vs.set (nn cZ f.1) (true,f.2) else vs) vs).length=vs.length by
  rw[this,List.length_replicate]
 intro l
 induction l with
 |nil=>exact fun _=>rfl
 |cons f l ih =>
  intro vs;rw[List.foldl_cons,ih];split
  ·rw[List.length_set]
  ·rfl
theorem Hw(sb sc b c:Nat)(sp p:Option Addr)(cZ:List af)(fs:List (af×af))(w:ae)(h1:cZ.length<=1000)(h2:fs.length<=1000)(vF:cZ≠[]->sp=some ⟨sb,0,none⟩/\sb<w.heap.size)(hp:fs≠[]->p=some ⟨b,0,none⟩/\b<w.heap.size)(hs:fE w sb 0 cZ)(hf:lT w b fs):
  Calls au 43 #[.slice sp cZ.length sc,.slice p fs.length c] w fun e w'=>e=.returned (.slice (some ⟨w.heap.size,0,none⟩) cZ.length cZ.length)/\Below w.heap.size w w'/\w.heap.size<w'.heap.size /\
   w'.rowIs w.heap.size 159 (cZ.length*2) (dZ (kR cZ fs)):=by
 have Jq:=fun w=>rM w cZ.length aa;go_enter func43,ntmps43;go_wp2;go_loopw [15] (fun i w'=>∃k:Nat,k<=fs.length/\i=.int .i64 k/\Below w.heap.size w w'/\w.heap.size<w'.heap.size/\w'.rowIs w.heap.size 159 (cZ.length*2) (dZ (kR cZ (fs.take k)))) (fun i _=>fs.length-(intOf i).toNat)
 case atStart =>
  refine⟨0,aV _,rfl,(Below.refl _ _).alloc (ag _) _,aj,_,jW _ _,by simp[size_madeCells],fun j hj=>?_⟩;simp only[madeCells,aL,Array.getElem?_range,hj,if_true,aK];have h5:(kR cZ (fs.take 0)).getD (j/2) V0=V0:=by
   show(List.replicate cZ.length V0).getD (j/2) V0=V0;rw[jv,ku];split<;>rfl
  unfold dZ;rw[h5];rcases fo j with e|e<;>simp[e]
 case round =>
  obtain⟨k,hk,rfl,gB,hz,cp⟩:=hrel;by_cases cB:k<fs.length
  ·obtain⟨rfl,hb⟩:=hp (fun e=>by rw[e] at cB;simp at cB);obtain⟨c0,c1⟩:=hf.below hb gB k cB;have Rs:=AQ cZ fs k cB;have hlen:=DL cZ (fs.take k);have nD:pV cZ fs[k].1=true->nn cZ fs[k].1<cZ.length:=fun h=>(fx h).1;have Wa:=fun x=>uJ sb sc sp cZ fs[k].1 (wr.alloc x) aa (fun h=>(vF h).1) (fun j hj=>hs.below (vF (fun e=>by rw[e] at hj;simp at hj)).2 (gB.alloc aa _) j hj);have d0:∀j,j<cZ.length->wr.cell? ⟨w.heap.size,j*2,none⟩=some (dZ (kR cZ (fs.take k)) (j*2)):=fun j hj=>cp.cell aa;have d1:∀j,j<cZ.length->wr.cell? ⟨w.heap.size,j*2+1,none⟩=some (dZ (kR cZ (fs.take k)) (j*2+1)):=fun j hj=>cp.cell aa;have f0:∀j,wr.frozen? ⟨w.heap.size,j,none⟩=false:=fun j=>cp.frozen j;generalize fs[k]=f at *;obtain⟨f1,f2⟩:=f;simp only at c0 c1 Wa nD Rs;clear hs hf vF hp;generalize kR cZ (fs.take k)=vs at *;generalize pV cZ f1=ht at *;generalize nn cZ f1=po at *;cases ht
   ·go_wp2_with (go_at_call 77;refine(Wa _).mono ?_;rintro e w2 ⟨rfl,va,pH⟩);refine⟨⟨k+1,aa,by go_num,pH _ _ (gB.alloc aa _),?_,?_⟩,by simp[intOf];omega⟩
    ·rw[va];simp;omega
    ·rw[Rs];exact cp.of_block (by rw[va];exact Below.heap_alloc _ _ _ hz)
   ·have hpo:=nD rfl;have hpI:(po:Int)<(cZ.length:Int):=aa;obtain⟨a0,e0⟩:∃v,wr.cell? ⟨w.heap.size,po*2,none⟩=some v:=⟨_,d0 po hpo⟩;obtain⟨a1,e1⟩:∃v,wr.cell? ⟨w.heap.size,po*2+1,none⟩=some v:=⟨_,d1 po hpo⟩;have hA:∀x:Obj,(wr.alloc x).heap[w.heap.size]?=wr.heap[w.heap.size]?:=fun x=>Below.heap_alloc _ _ _ hz;have r0:=fun x=>(cell_of (hA x)).trans e0;have r1:=fun x=>(cell_of (hA x)).trans e1;have r2:∀x j,(wr.alloc x).frozen? ⟨w.heap.size,j,none⟩=false:=fun x j=>by
     have:=f0 j;unfold World.frozen? at this |-;rw[hA x];exact this
    clear d0 d1 f0 e0 e1 Jq;go_wp2_with (go_at_call 77;refine(Wa _).mono ?_;rintro e w2 ⟨rfl,va,pH⟩;have g0:=(mJ va _).trans (r0 _);have g1:=(mJ va _).trans (r1 _);have g2:=fun j=>(uK va _).trans (r2 _ j);have g3:=(mJ va _).trans (sV _ _ _ 1));refine⟨⟨k+1,aa,by go_num,((pH _ _ (gB.alloc aa _)).setCell (ag _) _).setCell (ag _) _,?_,?_⟩,by simp[intOf];omega⟩
    ·simp[World.setCell,va];omega
    ·rw[Rs,if_pos trivial];exact ae9 (v:=(true,f2)) aa (cp.of_block (by rw[va];exact hA _))
  ·have e:k=fs.length:=aa;subst e;rw[cU] at cp;go_wp2;go_ret;exact⟨rfl,gB,hz,cp⟩
end
theorem Nh{l:List (af×af)}{x t:af}(hx:x∉l.map (·.1))(y:af):dW (l++[(x,t)]) y=if y=x then(true,t) else dW l y:=by
 unfold dW;rw[Ag];by_cases e:y=x
 ·subst e;rw[vC hx];simp
 ·cases eW l y<;>simp[e]
theorem Ni{xs:List af}(h:lS xs){i j:Nat}(hi:i<xs.length)(hj:j<xs.length)(e:xs[i]=xs[j]):i=j:=by
 rcases gd i j with q|q|q
 ·have:=h i j hi hj q;rw[e,p9] at this;exact absurd this eA
 ·exact q
 ·have:=h j i hj hi q;rw[e,p9] at this;exact absurd this eA
theorem AS{cZ:List af}{fs:List (af×af)}(hs:lS cZ)(hn:(fs.map (·.1)).Nodup):∀k,k<=fs.length->kR cZ (fs.take k)=cZ.map (dW (fs.take k))
 |0,_=>by
  apply ga;intro i;simp only[kR,List.take_zero,List.foldl_nil,List.getElem?_replicate,List.getElem?_map];by_cases h:i<cZ.length
  ·simp[h,dW,eW]
  ·simp[h]
 |k+1,h=>by
  have hk:k<fs.length:=h;have hx:fs[k].1∉(fs.take k).map (·.1):=fun q=>by
   obtain⟨f,hf,e⟩:=List.mem_map.1 q;obtain⟨i,hi,rfl⟩:=bf hf;have mn:i<k:=by simp at hi;omega
   rw[gh] at e;have:=List.pairwise_iff_getElem.1 hn i k dX dX mn;simp at this;exact this e
  rw[AQ cZ fs k hk,AS hs hn k aa,take_succ fs k hk];have XA:=fun y=>Nh (t:=fs[k].2) hx y;generalize fs[k]=f at *;obtain⟨x,t⟩:=f;simp only at XA |-;apply ga;intro i;by_cases hh:pV cZ x=true
  ·rw[if_pos hh];obtain⟨h1,h2⟩:=fx hh;rw[jv,bp h1,br] at h2;by_cases e:nn cZ x=i
   ·subst e;simp[h1,h2,XA]
   ·rw[List.getElem?_set_ne e,eG,eG];by_cases hi:i<cZ.length
    ·have:cZ[i]≠x:=fun q=>e (Ni hs h1 hi (h2.trans q.symm));simp[hi,XA,this]
    ·simp[hi]
  ·rw[if_neg hh,eG,eG];by_cases hi:i<cZ.length
   ·have:cZ[i]≠x:=fun q=>hh ((yF cZ hs x).2 (q▸aH hi));simp[hi,XA,this]
   ·simp[hi]
theorem Nj{cZ:List af}{fs:List (af×af)}(hs:lS cZ)(hn:(fs.map (·.1)).Nodup):kR cZ fs=cZ.map (dW fs):=by
 have:=AS hs hn fs.length (ag _);rwa[cU] at this
open Go.Ren Go.Conc Go.ConcN
section
variable {Fin:bL} {o o':aN} {w w':ae}
theorem Q0(hF:bN au L0 o w)(b c:Nat)(p:Option Addr)(fs:List (af×af))(x:af)(hn:fs.length<=1000)(hp:fs≠[]->p=some ⟨b,0,none⟩/\o b)(hf:lT w b fs)(hc:Cl au L0 o (.slice p fs.length c))(hx:∀f∈fs,f.1≠x):
  bA au (XB au Fin 0) 69 #[.slice p fs.length c,.string x] o w fun v o' w'=>v=.bool false/\fY o w v o' w':=by
 refine bA.mono (eF ah hF (fun y hy=>by simp at hy;rcases hy with rfl|rfl;exact hc;exact bU) (Q:=fun wl v w'=>v=.bool false) (fun wl Ba v w1 w2 e1 e2 h=>h) (fun wl hz aU=>?_)) (fun v o' w' hq=>?_)
 ·refine(KL b c p fs x wl hn (fun q=>⟨(hp q).1,by rw[hz];exact hF.lt (hp q).2⟩) (fun k hk=>lN hf (aU b (hp (fun e=>by rw[e] at hk;simp at hk)).2) k hk) hx).mono fun e w' hq=>?_;obtain⟨rfl,hB,Tx⟩:=hq;exact⟨_,rfl,Tx,fun b hb=>hB.block b hb,rfl⟩
 ·obtain⟨hN,wl,aW,-,-,-,h1⟩:=hq;exact⟨h1,hN⟩
structure vE(fs:List (af×af)):Prop where
 gY:fs.length<=12
 name:∀f∈fs,isName f.1
 once:(fs.map (·.1)).Nodup
 text:∀f∈fs,f.2.size<=12
theorem Q1(hF:bN au L0 o w)(b c:Nat)(p:Option Addr)(fs:List (af×af))(hp:fs≠[]->p=some ⟨b,0,none⟩/\o b)(hf:lT w b fs)(hc:Cl au L0 o (.slice p fs.length c))(A6:fs.length<=c)(ok:vE fs):
  bA au (XB au Fin 0) 40 #[.slice p fs.length c] o w fun v o' w'=>v=.int .i64 0/\gi o w o' w':=by
 have W:=bY (P:=au) (Fin:=Fin) (d:=0);have xl:=ok.gY;have aeh:¬(12:Int)<(fs.length:Int):=aa;have at_:∀{o1:aN} {w1:ae} (G:gi o w o1 w1) (k:Nat) (hk:k<fs.length),o1 b/\w1.cell? ⟨b,k*2,none⟩=some (.string fs[k].1)/\w1.cell? ⟨b,k*2+1,none⟩=some (.string fs[k].2):=fun G k hk=>by
  have q:=(hp (fun e=>by rw[e] at hk;simp at hk)).2;have e:=G.bt.same b (hF.lt q) id;exact⟨G.bt.more _ q,(cell_of e).trans (hf k hk).1,(cell_of e).trans (hf k hk).2⟩
 refine bD W func40 ar ?_;bP Tryz.f40;refine pO W ?_;refine CO ?_;refine pO W ?_;refine pO W ?_;refine CO ?_;refine yY W (fun a o' w'=>a.tmps.size=48/\a.defers=[]/\a.eval (.tmp 0)=.slice p fs.length c/\gi o w o' w') ?_ ?_
 ·refine ax ?_;refine iQ W (fun m a o' w'=>∃k,m+k=fs.length/\a.tmps.size=48/\a.defers=[]/\a.eval (.tmp 0)=.slice p fs.length c/\a.eval (.tmp 12)=.slice p fs.length c/\a.eval (.tmp 13)=.int .i64 fs.length/\a.eval (.tmp 14)=.int .i64 k/\gi o w o' w') (N:=fs.length) ⟨0,aj,rfl,rfl,aI,aI,aI,aI,gi.refl hF⟩ ?_;rintro m a o1 w1 ⟨k,Jq,fJ,kZ,i0,i1,i2,i3,G⟩;obtain⟨gs,rfl⟩:=iJ fJ kZ;clear fJ kZ;simp only[List.range,List.range.loop,aA,aQ] at i0 i1 i2 i3 |-;simp[Act.eval] at i0 i1 i2 i3;simp only[i0,i1,i2,i3];clear i0 i1 i2 i3;by_cases hk:k<fs.length;rotate_left
  ·have Vj:¬(k:Int)<(fs.length:Int):=aa;refine ax ?_;exact⟨dp,dp,aI,G⟩
  have Vj:(k:Int)<(fs.length:Int):=aa;have HH:IntKind.i64.wrap ((k:Int)+1)=((k+1:Nat):Int):=by rw[IntKind.wrap_i64]<;>omega
  obtain⟨ob,c0,c1⟩:=at_ G k hk;have hm:=aH hk;have E4:=ok.name _ hm;have Ro:=ok.text _ hm;have Hy:∀f∈fs.take k,f.1≠fs[k].1:=fun f UP e=>by
   obtain⟨j,hj,rfl⟩:=bf UP;rw[gh] at e;have sk:j<k:=by simp at hj;omega
   have:=List.pairwise_iff_getElem.1 ok.once j k dX dX sk;simp at this;exact this e
  obtain⟨e1,-⟩:=hp (fun e=>by rw[e] at hk;simp at hk);subst e1;have lD:=G.bt.aG;rcases RU:fs[k] with⟨x,t⟩;rw[RU] at c0 c1 E4 Ro Hy;simp only at c0 c1 E4 Ro Hy;clear RU hm;refine ax ?_;refine dD bS lD rfl ar ar ?_ rfl (v:=.agg #[.string x,.string t]) (fun wl aU=>by simp[go_sem,(aU.cell ob).trans c0,(aU.cell ob).trans c1]) fun _=>?_
  ·exact ng (bX ob)
  refine ax ?_;refine dv bS lD rfl ar ar ni rfl (R:=fun wl v aW=>v=.pointer (some ⟨wl.heap.size,0,none⟩)/\aW=wl.alloc (Obj.cells #[.string aP,.string aP] 44)) (fun wl aU=>⟨_,_,by first|(simp[go_sem];done)|(simp[go_sem];rfl),rfl,rfl⟩) fun wl v1 aW w3 aU nK bO=>?_;obtain⟨rfl,nK⟩:=nK;obtain⟨z3,k3,sJ⟩:=bO.alloc lD aU nK;have G3:=gi.tj bO.aG aa k3;obtain⟨-,oA⟩:=bB.qF bO.aG z3 k3;have pE:=bO.aG;rw[aU.size];clear nK bO aU wl aW;generalize Go.Ren.grow o1 w1 w3=o3 at *;refine ax ?_;refine dz bS pE rfl ar ar ?_ rfl (R:=fun wl aW=>aW=(wl.setCell ⟨w1.heap.size,0,none⟩ (.string x)).setCell ⟨w1.heap.size,1,none⟩ (.string t)) (fun wl aU=>⟨_,?_,rfl⟩) fun wl aW w4 aU BB bO=>?_
  ·refine ja ?_ ?_
   ·exact bX oA
   ·refine fX (vs:=[_,_]) (fun x hx=>?_);simp at hx;rcases hx with rfl|rfl
    ·exact bU
    ·exact bU
  ·obtain⟨e0,e1,f0,f1⟩:=dQ ((aU.heap _ oA).trans sJ)
   first
   | (simp[go_sem,e0,e1,f0,f1];done)
   | (simp[go_sem,e0,e1,f0,f1];rfl)
  have hO:eK w1.heap.size wl aW:=by rw[BB];exact AG _ _ _ _ _ _
  obtain⟨vx,kA,ey⟩:=bO.only aU oA hO;have tB:=bO.aG;rw[ey] at tB |-;rw[BB,TH ((aU.heap _ oA).trans sJ)] at kA;have G4:=G3.wrote (ag _) tB vx;clear BB bO aU hO wl aW ey vx sJ z3 k3 pE G3;generalize w1.heap.size=A at *;refine ax ?_;refine lz tB oA (dQ kA).1 fun _=>?_;refine ax ?_;refine cj func68 (MR tB x (by have:=E4.2.1;omega)) ?_;rintro v5 o5 w5 ⟨y5,rfl,hy5,N5⟩;obtain rfl:=hy5.2 E4;have G5:=G4.trans (gi.eL N5);refine ax ?_;exact⟨m-1,aa,k+1,aa,dp,dp,aI,aI,aI,by simp[Act.eval,HH],G.trans G5⟩
 rintro a o9 w9 ⟨fJ,kZ,i0,G9⟩;obtain⟨gs,rfl⟩:=iJ fJ kZ;clear fJ kZ;simp only[List.range,List.range.loop,aA,aQ] at i0 |-;simp[Act.eval] at i0;simp only[i0];clear i0;refine yY W (fun a o' w'=>a.tmps.size=48/\a.defers=[]/\a.eval (.tmp 0)=.slice p fs.length c/\gi o w o' w') ?_ ?_
 ·refine ax ?_;refine iQ W (fun m a o' w'=>∃k,m+k=fs.length/\a.tmps.size=48/\a.defers=[]/\a.eval (.tmp 0)=.slice p fs.length c/\a.eval (.tmp 23)=.slice p fs.length c/\a.eval (.tmp 24)=.int .i64 fs.length/\a.eval (.tmp 25)=.int .i64 k/\gi o w o' w') (N:=fs.length) ⟨0,aj,rfl,rfl,aI,aI,aI,aI,G9⟩ ?_;rintro m a o1 w1 ⟨k,Jq,fJ,kZ,i0,i1,i2,i3,G⟩;obtain⟨gs,rfl⟩:=iJ fJ kZ;clear fJ kZ;simp only[List.range,List.range.loop,aA,aQ] at i0 i1 i2 i3 |-;simp[Act.eval] at i0 i1 i2 i3;simp only[i0,i1,i2,i3];clear i0 i1 i2 i3;by_cases hk:k<fs.length;rotate_left
  ·have Vj:¬(k:Int)<(fs.length:Int):=aa;refine ax ?_;exact⟨dp,dp,aI,G⟩
  have Vj:(k:Int)<(fs.length:Int):=aa;have HH:IntKind.i64.wrap ((k:Int)+1)=((k+1:Nat):Int):=by rw[IntKind.wrap_i64]<;>omega
  obtain⟨ob,c0,c1⟩:=at_ G k hk;have hm:=aH hk;have E4:=ok.name _ hm;have Ro:=ok.text _ hm;have Hy:∀f∈fs.take k,f.1≠fs[k].1:=fun f UP e=>by
   obtain⟨j,hj,rfl⟩:=bf UP;rw[gh] at e;have sk:j<k:=by simp at hj;omega
   have:=List.pairwise_iff_getElem.1 ok.once j k dX dX sk;simp at this;exact this e
  obtain⟨e1,-⟩:=hp (fun e=>by rw[e] at hk;simp at hk);subst e1;have lD:=G.bt.aG;rcases RU:fs[k] with⟨x,t⟩;rw[RU] at c0 c1 E4 Ro Hy;simp only at c0 c1 E4 Ro Hy;clear RU hm;refine ax ?_;refine dD bS lD rfl ar ar ?_ rfl (v:=.agg #[.string x,.string t]) (fun wl aU=>by simp[go_sem,(aU.cell ob).trans c0,(aU.cell ob).trans c1]) fun _=>?_
  ·exact ng (bX ob)
  refine ax ?_;refine dv bS lD rfl ar ar ni rfl (R:=fun wl v aW=>v=.pointer (some ⟨wl.heap.size,0,none⟩)/\aW=wl.alloc (Obj.cells #[.string aP,.string aP] 44)) (fun wl aU=>⟨_,_,by first|(simp[go_sem];done)|(simp[go_sem];rfl),rfl,rfl⟩) fun wl v1 aW w3 aU nK bO=>?_;obtain⟨rfl,nK⟩:=nK;obtain⟨z3,k3,sJ⟩:=bO.alloc lD aU nK;have G3:=gi.tj bO.aG aa k3;obtain⟨-,oA⟩:=bB.qF bO.aG z3 k3;have pE:=bO.aG;rw[aU.size];clear nK bO aU wl aW;generalize Go.Ren.grow o1 w1 w3=o3 at *;refine ax ?_;refine dz bS pE rfl ar ar ?_ rfl (R:=fun wl aW=>aW=(wl.setCell ⟨w1.heap.size,0,none⟩ (.string x)).setCell ⟨w1.heap.size,1,none⟩ (.string t)) (fun wl aU=>⟨_,?_,rfl⟩) fun wl aW w4 aU BB bO=>?_
  ·refine ja ?_ ?_
   ·exact bX oA
   ·refine fX (vs:=[_,_]) (fun x hx=>?_);simp at hx;rcases hx with rfl|rfl
    ·exact bU
    ·exact bU
  ·obtain⟨e0,e1,f0,f1⟩:=dQ ((aU.heap _ oA).trans sJ)
   first
   | (simp[go_sem,e0,e1,f0,f1];done)
   | (simp[go_sem,e0,e1,f0,f1];rfl)
  have hO:eK w1.heap.size wl aW:=by rw[BB];exact AG _ _ _ _ _ _
  obtain⟨vx,kA,ey⟩:=bO.only aU oA hO;have tB:=bO.aG;rw[ey] at tB |-;rw[BB,TH ((aU.heap _ oA).trans sJ)] at kA;have G4:=G3.wrote (ag _) tB vx;clear BB bO aU hO wl aW ey vx sJ z3 k3 pE G3;generalize w1.heap.size=A at *;refine ax ?_;have Pg:(fs.take k).length=k:=dX;have hkc:k<=c:=aa;have aiV:(k:Int)<=(c:Int):=aa;have hcut:=fun w1 es=>Ng (P:=au) w1 es 37 44 b k fs.length c underlying37 hkc;refine dS mixed ah [some none,some none,some none,some none,some (some (.string x)),some (some (.bool false))]
   (S:=fun σ o' w'=>gi o3 w4 o' w') (gi.refl tB) fun v9=>?_
  refine dR ?_;refine cE ?_;refine cq bS rfl rfl rfl ar ar (fun σ o' w' H hS=>?_) ?_
  ·exact tM hS.bt.aG (hS.bt.more _ oA) ((cell_of (hS.bt.same _ (tB.lt oA) id)).trans (dQ kA).1)
  refine cE ?_;refine jU rfl rfl ar rfl func69 ah rfl (av:=#[.slice (some ⟨b,0,none⟩) k c,.string x]) aI (fun σ o' w' H hS=>?_) ?_
  ·have hGG:=G.trans (G4.trans hS);have hh:=Q0 (Fin:=Fin) hS.bt.aG b c (some ⟨b,0,none⟩) (fs.take k) x aa (fun _=>⟨rfl,(at_ hGG k hk).1⟩) (fun j hj=>by
    have sk:j<fs.length:=aa;have:=(at_ hGG j sk).2;simpa using this) (ee (at_ hGG k hk).1) Hy
   rw[Pg] at hh;refine hh.mono ?_;rintro y o10 YP ⟨rfl,N10⟩;exact⟨rfl,hS.trans (gi.eL N10)⟩
  refine cE ?_;refine cD fun σ o10 YP mC hS=>?_;clear mC;have G5:=G4.trans hS;simp only[iM,dK,if_true,if_false,reduceIte,Nat.reduceEqDiff];refine ax ?_;exact⟨m-1,aa,k+1,aa,dp,dp,aI,aI,aI,by simp[Act.eval,HH],G.trans G5⟩
 rintro a o9 w9 ⟨fJ,kZ,i0,G9⟩;obtain⟨gs,rfl⟩:=iJ fJ kZ;clear fJ kZ;simp only[List.range,List.range.loop,aA,aQ] at i0 |-;simp[Act.eval] at i0;simp only[i0];clear i0;refine yY W (fun a o' w'=>a.tmps.size=48/\a.defers=[]/\a.eval (.tmp 0)=.slice p fs.length c/\gi o w o' w') ?_ ?_
 ·refine ax ?_;refine iQ W (fun m a o' w'=>∃k,m+k=fs.length/\a.tmps.size=48/\a.defers=[]/\a.eval (.tmp 0)=.slice p fs.length c/\a.eval (.tmp 37)=.slice p fs.length c/\a.eval (.tmp 38)=.int .i64 fs.length/\a.eval (.tmp 39)=.int .i64 k/\gi o w o' w') (N:=fs.length) ⟨0,aj,rfl,rfl,aI,aI,aI,aI,G9⟩ ?_;rintro m a o1 w1 ⟨k,Jq,fJ,kZ,i0,i1,i2,i3,G⟩;obtain⟨gs,rfl⟩:=iJ fJ kZ;clear fJ kZ;simp only[List.range,List.range.loop,aA,aQ] at i0 i1 i2 i3 |-;simp[Act.eval] at i0 i1 i2 i3;simp only[i0,i1,i2,i3];clear i0 i1 i2 i3;by_cases hk:k<fs.length;rotate_left
  ·have Vj:¬(k:Int)<(fs.length:Int):=aa;refine ax ?_;exact⟨dp,dp,aI,G⟩
  have Vj:(k:Int)<(fs.length:Int):=aa;have HH:IntKind.i64.wrap ((k:Int)+1)=((k+1:Nat):Int):=by rw[IntKind.wrap_i64]<;>omega
  obtain⟨ob,c0,c1⟩:=at_ G k hk;have hm:=aH hk;have E4:=ok.name _ hm;have Ro:=ok.text _ hm;have Hy:∀f∈fs.take k,f.1≠fs[k].1:=fun f UP e=>by
   obtain⟨j,hj,rfl⟩:=bf UP;rw[gh] at e;have sk:j<k:=by simp at hj;omega
   have:=List.pairwise_iff_getElem.1 ok.once j k dX dX sk;simp at this;exact this e
  obtain⟨e1,-⟩:=hp (fun e=>by rw[e] at hk;simp at hk);subst e1;have lD:=G.bt.aG;rcases RU:fs[k] with⟨x,t⟩;rw[RU] at c0 c1 E4 Ro Hy;simp only at c0 c1 E4 Ro Hy;clear RU hm;refine ax ?_;refine dD bS lD rfl ar ar ?_ rfl (v:=.agg #[.string x,.string t]) (fun wl aU=>by simp[go_sem,(aU.cell ob).trans c0,(aU.cell ob).trans c1]) fun _=>?_
  ·exact ng (bX ob)
  refine ax ?_;refine dv bS lD rfl ar ar ni rfl (R:=fun wl v aW=>v=.pointer (some ⟨wl.heap.size,0,none⟩)/\aW=wl.alloc (Obj.cells #[.string aP,.string aP] 44)) (fun wl aU=>⟨_,_,by first|(simp[go_sem];done)|(simp[go_sem];rfl),rfl,rfl⟩) fun wl v1 aW w3 aU nK bO=>?_;obtain⟨rfl,nK⟩:=nK;obtain⟨z3,k3,sJ⟩:=bO.alloc lD aU nK;have G3:=gi.tj bO.aG aa k3;obtain⟨-,oA⟩:=bB.qF bO.aG z3 k3;have pE:=bO.aG;rw[aU.size];clear nK bO aU wl aW;generalize Go.Ren.grow o1 w1 w3=o3 at *;refine ax ?_;refine dz bS pE rfl ar ar ?_ rfl (R:=fun wl aW=>aW=(wl.setCell ⟨w1.heap.size,0,none⟩ (.string x)).setCell ⟨w1.heap.size,1,none⟩ (.string t)) (fun wl aU=>⟨_,?_,rfl⟩) fun wl aW w4 aU BB bO=>?_
  ·refine ja ?_ ?_
   ·exact bX oA
   ·refine fX (vs:=[_,_]) (fun x hx=>?_);simp at hx;rcases hx with rfl|rfl
    ·exact bU
    ·exact bU
  ·obtain⟨e0,e1,f0,f1⟩:=dQ ((aU.heap _ oA).trans sJ)
   first
   | (simp[go_sem,e0,e1,f0,f1];done)
   | (simp[go_sem,e0,e1,f0,f1];rfl)
  have hO:eK w1.heap.size wl aW:=by rw[BB];exact AG _ _ _ _ _ _
  obtain⟨vx,kA,ey⟩:=bO.only aU oA hO;have tB:=bO.aG;rw[ey] at tB |-;rw[BB,TH ((aU.heap _ oA).trans sJ)] at kA;have G4:=G3.wrote (ag _) tB vx;clear BB bO aU hO wl aW ey vx sJ z3 k3 pE G3;generalize w1.heap.size=A at *;refine ax ?_;refine lz tB oA (dQ kA).2.1 fun _=>?_;refine ax ?_;refine cj func70 (TT tB t) ?_;rintro v5 o5 w5 ⟨rfl,N5⟩;have htI:((t.size:Int)<=12):=aa;rw[cW htI];have G5:=G4.trans (gi.eL N5);refine ax ?_;exact⟨m-1,aa,k+1,aa,dp,dp,aI,aI,aI,by simp[Act.eval,HH],G.trans G5⟩
 rintro a o9 w9 ⟨fJ,kZ,i0,G9⟩;obtain⟨gs,rfl⟩:=iJ fJ kZ;clear fJ kZ;simp only[List.range,List.range.loop,aA,aQ] at i0 |-;simp[Act.eval] at i0;simp only[i0];clear i0;refine ax ?_;exact⟨.inr trivial,trivial,_,resultsC_tmp (t:=2) ar _,aI,G9⟩
end
open Go.ConcR (Payload)
section
variable {Fin:bL} {o o' o1 o2:aN} {w w' w1 w2:ae}
theorem Nk(hF:bN au L0 o w)(sb sc b c:Nat)(sp p:Option Addr)(cZ:List af)(fs:List (af×af))(h1:cZ.length<=1000)(h2:fs.length<=1000)(vF:cZ≠[]->sp=some ⟨sb,0,none⟩/\o sb)(hs:fE w sb 0 cZ)(Pd:Cl au L0 o (.slice sp cZ.length sc))(hp:fs≠[]->p=some ⟨b,0,none⟩/\o b)(hf:lT w b fs)(hc:Cl au L0 o (.slice p fs.length c)):
  bA au (XB au Fin 0) 43 #[.slice sp cZ.length sc,.slice p fs.length c] o w fun v o' w'=>v=.slice (some ⟨w.heap.size,0,none⟩) cZ.length cZ.length/\fY o w v o' w'/\w.heap.size<w'.heap.size/\w'.rowIs w.heap.size 159 (cZ.length*2) (dZ (kR cZ fs)):=by
 refine bA.mono (eF ah hF (fun y hy=>by simp at hy;rcases hy with rfl|rfl;exact Pd;exact hc) (Q:=fun wl v w'=>v=.slice (some ⟨wl.heap.size,0,none⟩) cZ.length cZ.length/\wl.heap.size<w'.heap.size/\w'.rowIs wl.heap.size 159 (cZ.length*2) (dZ (kR cZ fs))) (fun wl Ba v w1 w2 e1 e2 h=>?_) (fun wl hz aU=>?_)) (fun v o' w' hq=>?_)
 ·rw[e1,e2];exact⟨h.1,h.2.1,h.2.2.of_block (by rw[e2])⟩
 ·refine(Hw sb sc b c sp p cZ fs wl h1 h2 (fun q=>⟨(vF q).1,by rw[hz];exact hF.lt (vF q).2⟩) (fun q=>⟨(hp q).1,by rw[hz];exact hF.lt (hp q).2⟩) (fun k hk=>dh hs (aU sb (vF (fun e=>by rw[e] at hk;simp at hk)).2) k hk) (fun k hk=>lN hf (aU b (hp (fun e=>by rw[e] at hk;simp at hk)).2) k hk)).mono fun e w' hq=>?_;obtain⟨rfl,hB,Tx,hr⟩:=hq;exact⟨_,rfl,aa,fun b hb=>hB.block b hb,rfl,Tx,hr⟩
 ·obtain⟨hN,wl,aW,z1,z2,sP,h1,h2,h3⟩:=hq;rw[z1] at h1 h2 h3;exact⟨h1,hN,aa,h3.of_block (sP _ (ag _) aa)⟩
theorem bB.low{x:Nat}(h:bB (fun _=>False) o w o1 w1)(k:bB (·=x) o1 w1 o2 w2)(hx:w.heap.size<=x):bB (fun _=>False) o w o2 w2:=by
 have z1:=h.size;have z2:=k.size;exact⟨k.aG,fun b hb=>k.more b (h.more b hb),fun b hb=>(k.new b hb).elim (fun q=>h.new b q) fun q=>.inr aa,aa,fun b hb hq=>(k.same b aa aa).trans (h.same b hb hq)⟩
structure XC(rs:List aJ)(NM:aJ->List af)(RK:af->Nat)(fs:List (af×af))(o:aN)(w:ae)(v:Value)(o':aN)(w':ae):Prop where
 bt:bB (fun _=>False) o w o' w'
 ex:∃R B F,v=.tuple #[.slice (some ⟨R,0,none⟩) rs.length rs.length,.int .i64 0]/\gC rs NM RK B/\mD B.rs B.NM B.RK/\F.cu.Perm B.rs/\(∀i j (hi:i<F.cu.length) (hj:j<F.cu.length),i<j->¬qU F.cu[j] F.cu[i]<0)/\w.heap.size<=R/\o' R/\nJ w' R (nZ B F (dW fs))
theorem XD[Payload](hF:bN au L0 o w)(pow:jb w){p:Option Addr}{b c:Nat}{rs:List aJ}{NM:aJ->List af}{NB:aJ->Nat}{RK:af->Nat}(hH:Hand o w p b c rs NM NB RK)(fb fc:Nat)(fp:Option Addr)(fs:List (af×af))(hp:fs≠[]->fp=some ⟨fb,0,none⟩/\o fb)(hf:lT w fb fs)(hc:Cl au L0 o (.slice fp fs.length fc))(A6:fs.length<=fc)(ok:vE fs):
  bA au (XB au Fin 0) 16 #[.slice p rs.length c,.slice fp fs.length fc] o w fun v o' w'=>XC rs NM RK fs o w v o' w':=by
 have W:=bY (P:=au) (Fin:=Fin) (d:=0);have g4:au.globals.size=4:=ah;have hz4:4<=w.heap.size:=by have:=hF.size;rw[g4] at this;omega
 have l1:=hF.lt (Uv hF);have fat:∀{o1:aN} {w1:ae},bB (fun _=>False) o w o1 w1->(fs≠[]->fp=some ⟨fb,0,none⟩/\o1 fb)/\lT w1 fb fs/\Cl au L0 o1 (.slice fp fs.length fc):=fun G =>
  ⟨fun q=>⟨(hp q).1,G.more _ (hp q).2⟩,fun k hk=>lN hf (G.same fb (hF.lt (hp (fun e=>by rw[e] at hk;simp at hk)).2) id) k hk,hc.up G.more⟩
 have hfo:∀g,nA rs NM NB b g->g<w.heap.size:=fun g hg=>by
  rcases hg with⟨q,rfl⟩|⟨r,hr,q,rfl⟩
  ·exact hF.lt (hH.ptr q).2
  ·exact hF.lt ((hH.nm r hr).2.1 q).2
 have pF:∀x,(dW fs x).2.size<=100:=fun x=>by
  have:=AM ok.text x;omega
 refine bD W func16 ar ?_;bP Tryz.f16;refine ax ?_;refine cj func39 (OB hF hH) ?_;rintro v1 o1 w1 ⟨rfl,N1⟩;have W1:bB (fun _=>False) o w o1 w1:=bB.eL N1;have z1:=W1.size;obtain⟨hp1,hf1,VL⟩:=fat W1;refine ax ?_;refine cj func40 (Q1 N1.aG fb fc fp fs hp1 hf1 VL A6 ok) ?_;rintro v2 o2 w2 ⟨rfl,G2⟩;have W2:bB (fun _=>False) o w o2 w2:=W1.trans G2.bt;have z2:=W2.size;have hH2:=hH.keep W2.more fun g hg=>W2.same g (hfo g hg) id;clear G2 hp1 hf1 VL W1 N1 z1;refine ax ?_;refine cj func41 (Ui W2.aG hH2) ?_;rintro v3 o3 w3 ⟨N3,B3⟩;have W3:bB (fun _=>False) o2 w2 o3 w3:=bB.eL N3;have sH:=W2.trans W3;have ajU:jb w3:=fun q hq=>(cell_of (sH.same 1 l1 id)).trans (pow q hq);obtain⟨B,rfl,hB,KC,uV,Va,hbz⟩:=AN (RK:=RK) N3.aG (show 4<=w2.heap.size by omega) (fun b q1 q2=>by rw[N3.own];exact .inr ⟨q1,q2⟩) hH.gY hH.yes hH.low (fun r hr=>(hH.nm r hr).2.2.2) ajU B3;have JL:w2.heap.size<=B.Rb:=by
  rcases uV B.Rb (.inr (.inr (.inl rfl))) with q|q
  ·have:=hB.apart.2.2.2.1;omega
  ·exact q.1
 have aqN:B.Rb<w3.heap.size:=hB.own _ (.inr (.inr (.inl rfl)))|>N3.aG.lt
 clear B3 N3 W3 W2 hH2 uV;refine ax ?_;refine cj func44 (FI sH.aG B none _ hB) ?_;rintro v4 o4 w4 ⟨W4,⟨lo,F,mid,hB4,vO,ajV,hfm,hsm⟩,afb,hT4,YT⟩;have Ki:=sH.low W4 aa;have z4:=W4.size;have ajW:=Kk hB4;obtain⟨sp,sb,sc,rfl,vF,eI⟩:∃sp sb sc,v4=.slice sp (fq B.NM B.rs).length sc/\(fq B.NM B.rs≠[]->sp=some ⟨sb,0,none⟩/\o4 sb)/\fE w4 sb 0 (fq B.NM B.rs):=by
  rcases hT4 with⟨e1,e2⟩|⟨g,cap,e1,-,-,-,e5⟩
  ·exact⟨none,0,0,by rw[e1,e2];rfl,fun q=>absurd e2 q,by rw[e2];exact fun k hk=>by simp at hk⟩
  ·exact⟨_,g,cap,e1,fun _=>⟨rfl,YT _ _ _ e1⟩,e5⟩
 obtain⟨hp4,Xt,hc4⟩:=fat Ki;clear hT4 YT hsm hfm ajV vO hB sH;refine ax ?_;refine cj func43 (Nk Ki.aG sb sc fb fc sp fp (fq B.NM B.rs) fs ajW (by have:=ok.gY;omega) vF eI afb hp4 Xt hc4) ?_;rintro v5 o5 w5 ⟨rfl,N5,hz5,Qb⟩;have afc:kR (fq B.NM B.rs) fs=(fq B.NM B.rs).map (dW fs):=Nj (oZ _).1 ok.once;have hV:fe w5 w4.heap.size ((fq B.NM B.rs).map (dW fs)):=by
  unfold fe;rw[<- afc,DL];exact Qb
 have W5:bB (fun _=>False) o4 w4 o5 w5:=bB.eL N5;have Bh:=Ki.trans W5;have W8:=hB4.keep W5.more W5.size fun g hg=>N5.old g (Ki.aG.lt (hB4.own g hg));have oV:o5 w4.heap.size:=by rw[N5.own];exact .inr ⟨ag _,hz5⟩
 clear hB4 hp4 Xt hc4 Qb afc eI vF afb N5;refine ax ?_;refine cj func42 (Om Bh.aG B lo F (fun _=>none) W8 (dW fs) pF w4.heap.size (fq B.NM B.rs).length oV aa hV aj) ?_;rintro v6 o6 w6 ⟨R,rv,iu,rfl,W6,hB6,-,⟨hRz,oR,cp⟩,-⟩;have Nl:=Bh.low W6 aa;have z5:=W5.size;obtain⟨y0,y1,y2,-,Nr⟩:=hB6.blk;have hP:=Nr lo F rfl;have hlen:=KC.len;refine ax ?_;exact⟨.inr trivial,trivial,_,resultsC_tmp2 (t:=4) (u:=5) ar _,Nl,R,B,F,by simp[Act.eval,hlen],KC,hB6.right,hP.perm,hP.sorted,aa,oR,Ox cp⟩
end
structure aa1(rs:List aJ)(NM:aJ->List af)(Nn:List aJ)(XE:aJ->List af):Prop where
 len:Nn.length=rs.length
 at_:∀i (h:i<rs.length) (h':i<Nn.length),Nn[i].out=rs[i].out/\Nn[i].eU=rs[i].eU/\XE Nn[i]=NM rs[i]
theorem FX(q:af->Bool):∀(us bs:List aJ) (hl:bs.length=us.length) (h:∀i (h:i<us.length) (h':i<bs.length),bs[i].out=us[i].out),(us.find? (fun r=>q r.out)=none/\bs.find? (fun r=>q r.out)=none)\/∃i,∃(h:i<us.length) (h':i<bs.length),us.find? (fun r=>q r.out)=some us[i]/\bs.find? (fun r=>q r.out)=some bs[i]
 | [],[],_,_=>.inl ⟨rfl,rfl⟩
 | [],_::_,hl,_=>by simp at hl
 |_::_,[],hl,_=>by simp at hl
 |a::us,b::bs,hl,h=>by
  have e0:b.out=a.out:=h 0 aj aj;by_cases hq:q a.out=true
  ·exact .inr ⟨0,aj,aj,by simp[List.find?,hq],by simp[List.find?,e0,hq]⟩
  ·have Bm:q a.out=false:=by simpa using hq
   rcases FX q us bs (by simpa using hl) (fun i h1 h2=>h (i+1) (by simpa using h1) (by simpa using h2)) with⟨h1,h2⟩|⟨i,h1,h2,h3,h4⟩
   ·exact .inl ⟨by simp[List.find?,Bm];simpa using h1,by simp[List.find?,e0,Bm];simpa using h2⟩
   ·exact .inr ⟨i+1,by simpa using h1,by simpa using h2,by simp[List.find?,Bm,h3],by simp[List.find?,e0,Bm,h4]⟩
theorem FY{rs Nn:List aJ}{NM XE:aJ->List af}(h:aa1 rs NM Nn XE)(file:af->V):∀f x,qD Nn XE file f x=qD rs NM file f x
 |0,_=>rfl
 |f+1,x=>by
  unfold qD;rcases FX (fun y=>decide (y=x)) rs Nn h.len (fun i h1 h2=>(h.at_ i h1 h2).1) with⟨h1,h2⟩|⟨i,h1,h2,h3,h4⟩
  ·rw[h1,h2]
  ·rw[h3,h4];obtain⟨-,e2,e3⟩:=h.at_ i h1 h2;show jc Nn[i].eU ((XE Nn[i]).map (qD Nn XE file f))=jc rs[i].eU ((NM rs[i]).map (qD rs NM file f));rw[e2,e3]
   congr 1
   exact cg fun y _=>FY h file f y
theorem DN{rs Nn:List aJ}{NM XE:aJ->List af}(h:aa1 rs NM Nn XE)(file:af->V)(x:af):valOf Nn XE file x=valOf rs NM file x:=by
 unfold valOf;rw[h.len];exact FY h file _ x
theorem gC.D6{rs:List aJ}{NM:aJ->List af}{RK:af->Nat}{B:vt}(h:gC rs NM RK B):aa1 rs NM B.rs B.NM:=⟨h.len,h.at_⟩
structure Ai(B:vt)(F:da):Prop where
 right:mD B.rs B.NM B.RK
 perm:F.cu.Perm B.rs
 sorted:∀i j (hi:i<F.cu.length) (hj:j<F.cu.length),i<j->¬qU F.cu[j] F.cu[i]<0
theorem Ai.strict{B:vt}{F:da}(h:Ai B F):lS (F.cu.map (·.out)):=uQ (((h.perm.map (·.out)).nodup_iff).2 h.right.nodup) h.sorted
theorem Ai.mem{B:vt}{F:da}(h:Ai B F)(x:af):x∈F.cu.map (·.out)↔x∈B.rs.map (·.out):=(h.perm.map (·.out)).mem_iff
theorem BD{B:vt}{F:da}(h:Ai B F)(file:af->V):nZ B F file=(F.cu.map (·.out)).map fun x=>(x,valOf B.rs B.NM file x):=by
 have hl:=h.perm.length_eq;unfold nZ lC;rw[<- hl];apply ga;intro i;by_cases hi:i<F.cu.length
 ·simp[hi,qW]
 ·simp[hi]
theorem Q2{rs:List aJ}{NM:aJ->List af}{RK:af->Nat}{B B2:vt}{F F2:da}(h:Ai B F)(h2:Ai B2 F2)(k:gC rs NM RK B)(k2:gC rs NM RK B2)(file:af->V):nZ B F file=nZ B2 F2 file:=by
 rw[BD h,BD h2];have e:F.cu.map (·.out)=F2.cu.map (·.out):=wF h.strict h2.strict fun x=>by
  rw[h.mem,h2.mem,k.outs,k2.outs]
 rw[e];exact cg fun x _=>by rw[DN k.D6,DN k2.D6]
theorem FZ{rs:List aJ}{NM:aJ->List af}{file DO:af->V}(h:∀x∈fq NM rs,file x=DO x):∀f x,(x∈rs.map (·.out)\/x∈fq NM rs)->qD rs NM file f x=qD rs NM DO f x
 |0,_,_=>rfl
 |f+1,x,hx=>by
  unfold qD;cases hq:rs.find? (fun r=>decide (r.out=x)) with
  |none =>
   have MD:x∉rs.map (·.out):=fun q=>by
    obtain⟨r,hr,e⟩:=List.mem_map.1 q;have:=List.find?_eq_none.1 hq r hr;simp[e] at this
   exact h x (hx.resolve_left MD)
  |some r =>
   have hr:=jN hq;show jc r.eU ((NM r).map (qD rs NM file f))=jc r.eU ((NM r).map (qD rs NM DO f))
   congr 1
   refine cg fun y hy=>FZ h f y ?_;by_cases q:y∈rs.map (·.out)
   ·exact .inl q
   ·exact .inr (sw.2 ⟨r,hr,hy,q⟩)
theorem F6{B:vt}{F:da}(h:Ai B F){file DO:af->V}(e:∀x∈fq B.NM B.rs,file x=DO x):nZ B F file=nZ B F DO:=by
 rw[BD h,BD h];refine cg fun x hx=>?_;rw[show valOf B.rs B.NM file x=valOf B.rs B.NM DO x from FZ e _ x (.inl ((h.mem x).1 hx))]
theorem XF(d:Nat)(a b:Int)(w:ae)(es:Array Event):(Op.equalIn (d+1) 3 (.int .i64 a) (.int .i64 b)).events au w es=es:=by
 simp[Op.equalIn,go_sem,Sem.events_bind,events_underlying]
theorem XG(e:Nat)(w:ae)(es:Array Event)(a c:Int)(b d:af):(Op.equalIn (e+2) 32 (.agg #[.int .i64 a,.string b]) (.agg #[.int .i64 c,.string d])).events au w es=es:=by
 rw[Op.equalIn];simp[go_sem,Sem.events_bind,XF,xh]
theorem F7(b d:af):b.toList=d.toList↔b=d:=by
 rw[ByteArray.toList_eq,ByteArray.toList_eq];constructor
 ·intro h;obtain⟨⟨x⟩⟩:=b;obtain⟨⟨y⟩⟩:=d;have h:x=y:=h;rw[h]
 ·rintro rfl;rfl
theorem KM(w:ae)(a c:Int)(b d:af):(binOp .neq 32 (.agg #[.int .i64 a,.string b]) (.agg #[.int .i64 c,.string d])).run au w=.ok (.bool (!decide ((a,b)=(c,d)))) w:=by
 simp[go_sem,F7];by_cases h1:a=c<;>by_cases h2:b=d<;>simp[h1,h2]
theorem KN(w:ae)(es:Array Event)(a c:Int)(b d:af):(binOp .neq 32 (.agg #[.int .i64 a,.string b]) (.agg #[.int .i64 c,.string d])).events au w es=es:=by
 simp only[binOp];simp[Op.equal,Op.maxDepth,Sem.events_bind,XG 9998]
theorem EN(op:BinOp)(x y:Operand)(xs ys:Array Value)(w:ae)(es:Array Event):(eqGuard op 32 x y (.agg xs) (.agg ys)).events au w es=es:=by
 cases op<;>simp[eqGuard,run_program,Sem.events_bind,show au.eqGuardType au.depth 32=false by kernel_rfl]
section
theorem XH(e:Nat)(w:ae)(es:Array Event)(a b d f:af)(c g:Bool):(Op.equalIn (e+2) 65 (.agg #[.string a,.string b,.bool c]) (.agg #[.string d,.string f,.bool g])).events au w es=es:=by
 rw[Op.equalIn];simp[go_sem,Sem.events_bind,Jv,xh]
theorem AT(w:ae)(a b d f:af)(c g:Bool):(binOp .neq 65 (.agg #[.string a,.string b,.bool c]) (.agg #[.string d,.string f,.bool g])).run au w=.ok (.bool (!decide ((a,b,c)=(d,f,g)))) w:=by
 simp[go_sem,F7];by_cases h1:a=d<;>by_cases h2:b=f<;>by_cases h3:c=g<;>simp[h1,h2,h3]
theorem AU(w:ae)(es:Array Event)(a b d f:af)(c g:Bool):(binOp .neq 65 (.agg #[.string a,.string b,.bool c]) (.agg #[.string d,.string f,.bool g])).events au w es=es:=by
 simp only[binOp];simp[Op.equal,Op.maxDepth,Sem.events_bind,XH 9998]
theorem wJ(op:BinOp)(x y:Operand)(xs ys:Array Value)(w:ae)(es:Array Event):(eqGuard op 65 x y (.agg xs) (.agg ys)).events au w es=es:=by
 cases op<;>simp[eqGuard,run_program,Sem.events_bind,show au.eqGuardType au.depth 65=false by kernel_rfl]
end
section
variable {Fin:bL} {o o':aN} {w w':ae}
theorem UL(hF:bN au L0 o w)(ba bb ca cb:Nat)(pa pb:Option Addr)(ra rb:List (af×V))(na:ra.length<=1000)(nb:rb.length<=1000)(y6:ra≠[]->pa=some ⟨ba,0,none⟩/\o ba)(hpb:rb≠[]->pb=some ⟨bb,0,none⟩/\o bb)(ha:nJ w ba ra)(hb:nJ w bb rb):
  bA au (XB au Fin 0) 17 #[.slice pa ra.length ca,.slice pb rb.length cb] o w fun v o' w'=>v=.bool (decide (ra=rb))/\gi o w o' w':=by
 have W:=bY (P:=au) (Fin:=Fin) (d:=0);refine bD W func17 ar ?_;bP Tryz.f17;by_cases hl:ra.length=rb.length;rotate_left
 ·have dJ:decide (ra=rb)=false:=dA fun e=>hl (by rw[e]);have hlI:¬ra.length=rb.length:=hl;clear hl;generalize ra.length=nra at *;generalize rb.length=nrb at *;refine ax ?_;refine ig W (t:=true) (by simp[Act.eval];omega) ?_;simp only[if_true];refine ax ?_;exact⟨.inr trivial,trivial,_,resultsC_tmp (t:=4) ar _,by simp[Act.eval,dJ],gi.refl hF⟩
 rw[<- hl];have Rc:=hl.symm;clear hl;refine ax ?_;refine iQ W (fun m a o' w'=>∃k,m+k=ra.length/\a.tmps.size=26/\a.defers=[]/\a.eval (.tmp 0)=.slice pa ra.length ca/\a.eval (.tmp 1)=.slice pb ra.length cb/\a.eval (.tmp 5)=.int .i64 k/\ra.take k=rb.take k/\gi o w o' w') (N:=ra.length) ⟨0,aj,rfl,rfl,aI,aI,aI,aj,gi.refl hF⟩ ?_;rintro m a o1 w1 ⟨k,Jq,fJ,kZ,i0,i1,i5,hek,G⟩;obtain⟨gs,rfl⟩:=iJ fJ kZ;clear fJ kZ;simp only[List.range,List.range.loop,aA,aQ] at i0 i1 i5 |-;simp[Act.eval] at i0 i1 i5;simp only[i0,i1,i5];clear i0 i1 i5;by_cases hk:k<ra.length;rotate_left
 ·have Vj:¬(k:Int)<(ra.length:Int):=aa;have heq:decide (ra=rb)=true:=cW (by rw[cJ aa,cJ aa] at hek;exact hek);clear hek;refine ax ?_;exact⟨.inr trivial,trivial,_,resultsC_tmp (t:=4) ar _,by simp[Act.eval,heq],G⟩
 have Vj:(k:Int)<(ra.length:Int):=aa;have ZG:k<rb.length:=aa;have HH:IntKind.i64.wrap ((k:Int)+1)=((k+1:Nat):Int):=by rw[IntKind.wrap_i64]<;>omega
 obtain⟨e1,oa⟩:=y6 (fun e=>by rw[e] at hk;simp at hk);obtain⟨e2,ob⟩:=hpb (fun e=>by rw[e] at ZG;simp at ZG);subst e1 e2;have oa1:=G.bt.more _ oa;have ob1:=G.bt.more _ ob;have ea:=G.bt.same ba (hF.lt oa) id;have eb:=G.bt.same bb (hF.lt ob) id;obtain⟨a0,a1,a2⟩:=ha k hk;obtain⟨b0,b1,b2⟩:=hb k ZG;have a0':=(cell_of ea).trans a0;have a1':=(cell_of ea).trans a1;have a2':=(cell_of ea).trans a2;have b0':=(cell_of eb).trans b0;have b1':=(cell_of eb).trans b1;have b2':=(cell_of eb).trans b2;have lD:=G.bt.aG;have X6:=take_succ ra k hk;have htb:=take_succ rb k ZG;have aa2:ra[k]≠rb[k]->decide (ra=rb)=false:=fun q=>dA fun e=>q (by subst e;rfl);rcases Rr:ra[k] with⟨x1,xb,xt⟩;rcases hrb:rb[k] with⟨y1,yb,yt⟩;rw[Rr] at a0' a1' a2' X6 aa2;rw[hrb] at b0' b1' b2' htb aa2;simp only at a0' a1' a2' b0' b1' b2';clear a0 a1 a2 b0 b1 b2 Rr hrb ha hb y6 hpb;refine ax ?_;refine dS mixed ah [some none,some none,some none,some (some (.agg #[.string x1,.string xt,.bool (!xb)])),some none,some none,some none,some (some (.agg #[.string y1,.string yt,.bool (!yb)])),some none]
  (S:=fun σ o' w'=>o1=o'/\w1=w') ⟨rfl,rfl⟩ fun v9=>?_
 refine dR ?_;refine cE ?_;refine cq bS rfl rfl rfl ar ar (fun σ o' w' H hS=>?_) ?_
 ·obtain⟨rfl,rfl⟩:=hS;exact⟨lD,ng (bX oa1),fun wl aU=>by simp[go_sem,(aU.cell oa1).trans a0',(aU.cell oa1).trans a1',(aU.cell oa1).trans a2']⟩
 refine cE ?_;refine cq bS rfl rfl rfl ar ar (fun σ o' w' H hS=>?_) ?_
 ·obtain⟨rfl,rfl⟩:=hS;exact⟨lD,ng (bX ob1),fun wl aU=>by simp[go_sem,(aU.cell ob1).trans b0',(aU.cell ob1).trans b1',(aU.cell ob1).trans b2']⟩
 aE;by_cases heq:((x1,xb,xt):af×V)=(y1,yb,yt)
 ·have h1:x1=y1:=congrArg (·.1) heq;have h2:xb=yb:=congrArg (·.2.1) heq;have h3:xt=yt:=congrArg (·.2.2) heq;subst h1 h2 h3;refine rB (y:=.bool false) rfl rfl rfl ar (fun w1=>by simp[go_sem,Act.eval,AT]) (fun w1=>by simp[go_sem,Act.eval,AU,wJ]) ?_;aE;refine cD fun σ o10 YP mC hS=>?_;obtain⟨rfl,rfl⟩:=hS;clear mC;simp only[iM,dK,if_true,if_false,reduceIte,Nat.reduceEqDiff];refine ax ?_;exact⟨m-1,aa,k+1,aa,dp,dp,aI,aI,by simp[Act.eval,HH],by rw[X6,htb,hek],G⟩
 ·have hn:=aa2 heq;have hq:¬((x1,xt,!xb)=(y1,yt,!yb)):=fun q=>heq (by
   have q1:x1=y1:=congrArg (·.1) q;have q2:xt=yt:=congrArg (·.2.1) q;have q3:(!xb)=(!yb):=congrArg (·.2.2) q;have q4:xb=yb:=by cases xb<;>cases yb<;>simp at q3<;>rfl
   rw[q1,q2,q4])
  refine rB (y:=.bool true) rfl rfl rfl ar (fun w1=>?_) (fun w1=>by simp[go_sem,Act.eval,AU,wJ]) ?_
  ·have:=AT w1 x1 xt y1 yt (!xb) (!yb);rw[dA hq] at this;simpa[go_sem,Act.eval] using this
  aE;refine cD fun σ o10 YP mC hS=>?_;obtain⟨rfl,rfl⟩:=hS;clear mC;simp only[iM,dK,if_true,if_false,reduceIte,Nat.reduceEqDiff];refine ax ?_;exact⟨.inr trivial,trivial,_,resultsC_tmp (t:=4) ar _,by simp[Act.eval,hn],G⟩
structure lU(rs:List aJ)(NM:aJ->List af)(RK:af->Nat)(fs:List (af×af))(l:List (af×V)):Prop where
 ex:∃B F,Ai B F/\gC rs NM RK B/\l=nZ B F (dW fs)
theorem lU.one{rs:List aJ}{NM:aJ->List af}{RK:af->Nat}{fs:List (af×af)}{l l2:List (af×V)}(h:lU rs NM RK fs l)(k:lU rs NM RK fs l2):l=l2:=by
 obtain⟨B,F,h1,h2,rfl⟩:=h.ex;obtain⟨B2,F2,k1,k2,rfl⟩:=k.ex;exact Q2 h1 k1 h2 k2 _
theorem lU.len{rs:List aJ}{NM:aJ->List af}{RK:af->Nat}{fs:List (af×af)}{l:List (af×V)}(h:lU rs NM RK fs l):l.length=rs.length:=by
 obtain⟨B,F,h1,h2,rfl⟩:=h.ex;simp[nZ,h2.len]
theorem KO[Payload](hF:bN au L0 o w)(pow:jb w)(S:Nat)(kv fv:Value)(ed:Int){rp:Option Addr}{rb rc:Nat}{rs:List aJ}{NM:aJ->List af}{NB:aJ->Nat}{RK:af->Nat}(hS:w.heap[S]?=some (.cells #[kv,.slice rp rs.length rc,fv,.int .i64 ed] 39))(oS:o S)(hH:Hand o w rp rb rc rs NM NB RK)(fb fc:Nat)(fp:Option Addr)(fs:List (af×af))(hp:fs≠[]->fp=some ⟨fb,0,none⟩/\o fb)(hf:lT w fb fs)(hc:Cl au L0 o (.slice fp fs.length fc))(A6:fs.length<=fc)(ok:vE fs)(ba ca:Nat)(pa:Option Addr)(ra:List (af×V))(na:ra.length<=1000)(y6:ra≠[]->pa=some ⟨ba,0,none⟩/\o ba)(ha:nJ w ba ra):
  bA au (XB au Fin 0) 25 #[.pointer (some ⟨S,0,none⟩),.slice pa ra.length ca,.slice fp fs.length fc] o w fun v o' w'=>bB (fun _=>False) o w o' w'/\∃l,lU rs NM RK fs l/\v=.bool (decide (ra=l)):=by
 have W:=bY (P:=au) (Fin:=Fin) (d:=0);have xl:=hH.gY;refine bD W func25 ar ?_;bP Tryz.f25;refine ax ?_;refine lz hF oS (od hS).2.1 fun _=>?_;refine ax ?_;refine cj func16 (XD hF pow hH fb fc fp fs hp hf hc A6 ok) ?_;rintro v1 o1 w1 hq;have W1:=hq.bt;obtain⟨R,B,F,rfl,KC,hRR,Fl,YU,hRz,oR,wV⟩:=hq.ex;have hM:lU rs NM RK fs (nZ B F (dW fs)):=⟨B,F,⟨hRR,Fl,YU⟩,KC,rfl⟩;have hlen:=hM.len.symm;generalize nZ B F (dW fs)=l at *;clear hq KC hRR Fl YU;rw[hlen];refine ax ?_;refine cj func17 (UL W1.aG ba R ca l.length pa (some ⟨R,0,none⟩) ra l na aa (fun q=>⟨(y6 q).1,W1.more _ (y6 q).2⟩) (fun _=>⟨rfl,oR⟩) (fun i hi=>?_) wV) ?_
 ·have e:=W1.same ba (hF.lt (y6 (fun e=>by rw[e] at hi;simp at hi)).2) id;exact⟨(cell_of e).trans (ha i hi).1,(cell_of e).trans (ha i hi).2.1,(cell_of e).trans (ha i hi).2.2⟩
 rintro v2 o2 w2 ⟨rfl,G2⟩;refine ax ?_;exact⟨.inr trivial,trivial,_,resultsC_tmp (t:=6) ar _,W1.trans G2.bt,l,hM,aI⟩
end
section
variable {s:gV}
def gV.told(s:gV):Bool:=decide (0<s.qn.length)||s.lost
theorem sG:s.told=true↔(0<s.qn.length\/s.lost=true):=by simp[gV.told]
end
section
variable {K:pG} {s s2:gV} {fs EL:List (af×af)} {ed zd cnt:Nat} {kd a b n:Int} {y:af} {rs:List aJ} {NM:aJ->List af} {RK:af->Nat}
theorem Aj(g:af->V):∀(ks:List af) (x:af),x∈ks->fileOf ks (ks.map g) x=g x
 | [],_,h=>by cases h
 |k::ks,x,h=>by
  unfold fileOf;by_cases e:x=k
  ·subst e;simp
  ·simp only[aA];rw[if_neg e];exact Aj g ks x ((List.mem_cons.1 h).resolve_left e)
structure Told(K:pG)(rs:List aJ)(NM:aJ->List af)(RK:af->Nat)(s:gV)(ed cnt:Nat):Prop where
 none:ed=0->s.phase=0/\¬s.told=true/\s.num=0/\s.res=[]
 read:s.phase=2\/s.phase=3->¬s.told=true->s.rd.map (·.1)=(s.src.take s.rd.length).map (dW s.th)
 pub:0<ed->s.phase=0->¬s.told=true->lU rs NM RK s.th s.res/\0<s.num
 num:0<=s.num/\s.num<=cnt
theorem KP(s:gV)(x:af)(th:List (af×af))(st:List (af×Int))(qv:Value)(hs:Sound K s):gV.told {s with th:=th,st:=st,qv:=qv,qn:=(jH s.qn s.lost x).1,lost:=(jH s.qn s.lost x).2}=true:=by
 obtain⟨-,-,-,-,q5,-⟩:=Dy (x:=x) hs.once hs.lost;refine sG.2 ?_;rcases q5 with q|q
 ·exact .inl (iB q)
 ·exact .inr q
theorem Told.work{F:da}{v:Value}(h:Told K rs NM RK s ed cnt)(hs:Sound K s)(Rj:gC rs NM RK K.B)(Nr:s.phase=2\/s.phase=3->Ai K.B F)(hc:cnt<4611686018427387904)(hw:jZ K s s2 F (fileOf s.src (s.rd.map (·.1))) v):Told K rs NM RK s2 ed (cnt+1):=by
 have EO:0<=s.num/\s.num<=((cnt+1:Nat):Int):=⟨h.num.1,by have:=h.num.2;omega⟩;have UG:s.phase≠0\/s.told=true->0<ed:=fun q=>by
  rcases bh ed with e|e
  ·obtain⟨h1,h2,-⟩:=h.none e;rcases q with q|q
   ·exact absurd h1 q
   ·exact absurd q h2
  ·exact e
 have Kx:∀s1:gV,s1.phase=3->(s.phase=2\/s.phase=3)->s1.told=s.told->s1.rd=s.rd->s1.src=s.src->s1.th=s.th->s1.num=s.num->s.rd.length=s.src.length->Checked K s1 s2 F (fileOf s.src (s.rd.map (·.1))) v->Told K rs NM RK s2 ed (cnt+1):=by
  intro s1 e1 e2 e3 e4 e5 e6 e7 e8 HI;have aa3:=UG (.inl aa);rcases HI with⟨c1,-,iu,QL,sD,sE,-,rfl⟩|⟨c1,c2,⟨-,-,rfl⟩|⟨-,-,rfl⟩⟩
  ·have ve:IntKind.i64.wrap (s1.num+1)=s1.num+1:=by
    have:=h.num;rw[IntKind.wrap_i64]<;>omega
   refine⟨fun q=>aa,fun q=>by simp[gV.stand] at q,fun _ _ ht=>⟨⟨K.B,F,Nr e2,Rj,?_⟩,?_⟩,?_⟩
   ·show nZ K.B F _=nZ K.B F (dW s1.th);have ht':¬s.told=true:=by
     rw[<- e3];exact ht
    have hr:=h.read e2 ht';rw[e8,cU] at hr;refine F6 (Nr e2) fun x hx=>?_;rw[hr,e6];refine Aj _ _ _ ?_;rw[hs.src e2];exact hx
   ·show 0<IntKind.i64.wrap (s1.num+1);rw[ve,e7];have:=h.num.1;omega
   ·show 0<=IntKind.i64.wrap (s1.num+1)/\IntKind.i64.wrap (s1.num+1)<=_;rw[ve,e7];have:=h.num;omega
  ·exact⟨fun q=>aa,fun q=>by simp[gV.stand] at q,fun _ q=>by simp[gV.stand] at q,by show 0<=s1.num/\s1.num<=_;rw[e7];exact EO⟩
  ·refine⟨fun q=>aa,fun _ ht=>?_,fun _ q=>by have:s1.phase=0:=q;omega,by show 0<=s1.num/\s1.num<=_;rw[e7];exact EO⟩;have ht':¬s.told=true:=by
    rw[<- e3];exact ht
   show s1.rd.map (·.1)=(s1.src.take s1.rd.length).map (dW s1.th);rw[e4,e5,e6];exact h.read e2 ht'
 rcases hw with⟨p2,⟨c1,c2⟩|⟨c1,-,MU,rfl⟩⟩|⟨p3,c2⟩|⟨n2,n3,hr⟩
 ·exact Kx {s with phase:=3} rfl (.inl p2) rfl rfl rfl rfl rfl c1 c2
 ·have aa3:=UG (.inl aa);refine⟨fun q=>aa,fun _ ht=>?_,fun _ q=>by have:s.phase=0:=q;omega,EO⟩;have hr:=h.read (.inl p2) ht;show(s.rd++[(dW s.th s.src[s.rd.length],cm s.st s.src[s.rd.length])]).map (·.1)=(s.src.take (s.rd++[(dW s.th s.src[s.rd.length],cm s.st s.src[s.rd.length])]).length).map (dW s.th);rw[gN,hr,gX,iK,take_succ s.src s.rd.length c1,gN];rfl
 ·exact Kx s p3 (.inr p3) rfl rfl rfl rfl rfl (hs.full p3) c2
 ·rcases hr with⟨ht,-,rfl⟩|⟨ht,hq,-,lo,F',MW,rfl⟩|⟨-,-,-,rfl⟩
  ·have aa3:=UG (.inr (sG.2 ht));exact⟨fun q=>aa,fun q=>by simp[gV.stand] at q,fun _ q=>by simp[gV.stand] at q,EO⟩
  ·have aa3:=UG (.inl aa);exact⟨fun q=>aa,fun _ _=>by simp[gV.stand],fun _ q=>by simp[gV.stand] at q,EO⟩
  ·exact⟨h.none,h.read,h.pub,EO⟩
theorem Told.more(h:Told K rs NM RK s ed cnt):Told K rs NM RK s ed (cnt+1):=⟨h.none,h.read,h.pub,h.num.1,by have:=h.num.2;omega⟩
theorem Told.tick(h:Told K rs NM RK s ed cnt)(t:Nat):Told K rs NM RK {s with time:=t} ed cnt:=⟨h.none,h.read,h.pub,h.num⟩
theorem Told.step(h:Told K rs NM RK s ed cnt)(hs:Sound K s)(Rj:gC rs NM RK K.B)(Nr:∀lo F,s.fd=some (lo,F)->Ai K.B F)(hc:cnt<4611686018427387904)(st:DH K kd a b s s2 fs EL ed zd n y):Told K rs NM RK s2 zd (cnt+1):=by
 have EO:0<=s.num/\s.num<=((cnt+1:Nat):Int):=⟨h.num.1,by have:=h.num.2;omega⟩;rcases st with⟨-,-,-,e,-,qX,rfl⟩|⟨-,-,-,-,⟨-,e,qX,rfl⟩|⟨-,e,rfl⟩⟩|⟨-,-,-,-,e,q⟩|⟨-,-,-,-,e,F,D2,hw⟩
 ·have ht:=KP s (ji a) (gS s.th (ji a) (rG b)) (gS s.st (ji a) (IntKind.i64.wrap (cm s.st (ji a)+1))) qX hs;exact⟨fun q=>aa,fun _ q=>absurd ht q,fun _ _ q=>absurd ht q,EO⟩
 ·have ht:=KP s (ji a) (ma s.th (ji a)) (gS s.st (ji a) (IntKind.i64.wrap (cm s.st (ji a)+1))) qX hs;exact⟨fun q=>aa,fun _ q=>absurd ht q,fun _ _ q=>absurd ht q,EO⟩
 ·rw[e];exact h.more
 ·rw[e];rcases q with⟨-,rfl⟩|⟨-,rfl⟩
  ·exact h.more
  ·exact h.more.tick _
 ·rw[e];exact h.work hs Rj (fun q=>by obtain⟨lo,hl⟩:=D2 q;exact Nr lo F hl) hc hw
end
section
variable {Fin:bL} {o o' o1:aN} {w w' w1:ae} {S:Nat} {K:pG} {s s':gV} {lab lab' dt:Nat->Nat} {rv fv:Value} {fs:List (af×af)} {ed cnt Hz:Nat} {rs:List aJ} {NM:aJ->List af} {RK:af->Nat} {lk:Int}
theorem bo.XI(h:bo o w K s lk lab):∀lo F,s.fd=some (lo,F)->Ai K.B F:=fun lo F e=>by
 obtain⟨y0,y1,y2,-,hp⟩:=h.build.blk;exact⟨h.build.right,(hp lo F e).perm,(hp lo F e).sorted⟩
theorem Told.up(h:Told K rs NM RK s ed cnt)(hc:cnt<=Hz):Told K rs NM RK s ed Hz:=⟨h.none,h.read,h.pub,h.num.1,by have:=h.num.2;omega⟩
theorem vS.work(h:vS o w S K s lab rv fv fs ed)(hk:bo o' w' K s' 0 lab')(hs:Sound K s')(T:cP o w lab o' w' lab')(Vk:s'.th=s.th):vS o' w' S K s' lab' rv fv fs ed:=by
 have sl:=h.dH.aG.lt h.own;obtain⟨hf,hl⟩:=h.files.step h.QW ((gI.refl (S:=S) h.dH.aG).k T) h.dH.aG;exact⟨hk,hs,(T.bt.same S sl (by rw[h.Xs];omega)).trans h.blk,T.bt.more _ h.own,(T.lab S sl).trans h.Xs,hf,hl,⟨fun x=>by rw[Vk];exact h.Be.get x,by rw[Vk];exact h.Be.tk,h.Be.fk⟩⟩
end
theorem ON{α:Type}:∀{l:List (af×α)} {f:af×α},(l.map (·.1)).Nodup->f∈l->eW l f.1=some f.2
 | [],_,_,h=>by cases h
 | (k,u)::l,f,hn,h=>by
  rw[aA,dc] at hn;unfold eW;rcases List.mem_cons.1 h with rfl|h
  ·rw[if_pos rfl]
  ·rw[if_neg (fun e=>hn.1 (List.mem_map.2 ⟨f,h,e⟩))];exact ON hn.2 h
section
variable {Fin:bL} {o o' o1 o2:aN} {w w' w1 w2:ae} {S:Nat} {K:pG} {s s' s2:gV} {lab lab' dt fW:Nat->Nat} {rv fv Nf:Value} {fs EL:List (af×af)} {ed zd cnt Hz:Nat} {rp:Option Addr} {rb rc:Nat} {rs:List aJ} {NM:aJ->List af} {NB:aJ->Nat} {RK:af->Nat}
theorem vS.ok(h:vS o w S K s lab rv fv fs ed):vE fs:=by
 refine⟨by have:=h.Be.gY;omega,fun f hf=>tq (h.Be.fk.2 _ (gK hf)),h.Be.fk.1,fun f hf=>?_⟩;have:=h.Be.get f.1;rw[ON h.Be.fk.1 hf] at this;exact h.sound.th _ (Dx this)
theorem lU.Be{l:List (af×V)}(h:lU rs NM RK s.th l)(k:gl s fs):lU rs NM RK fs l:=by
 have e:dW s.th=dW fs:=funext fun x=>by unfold dW;rw[k.get x]
 obtain⟨B,F,h1,h2,h3⟩:=h.ex;exact⟨B,F,h1,h2,by rw[h3,e]⟩
theorem vS.grown(h:vS o w S K s lab rv fv fs ed)(W:bB (fun _=>False) o w o' w'):∃lab',vS o' w' S K s lab' rv fv fs ed:=by
 obtain⟨fW,h2,T2,-,-⟩:=h.dH.grown (cP.refl h.dH.aG) W;exact⟨fW,h.work h2 h.sound T2 rfl⟩
theorem Hand.lt{g:Nat}(hH:Hand o w rp rb rc rs NM NB RK)(hF:bN au L0 o w)(hg:nA rs NM NB rb g):g<w.heap.size:=by
 rcases hg with⟨q,rfl⟩|⟨r,hr,q,rfl⟩
 ·exact hF.lt (hH.ptr q).2
 ·exact hF.lt ((hH.nm r hr).2.1 q).2
theorem KQ[Payload](h:vS o w S K s lab (.slice rp rs.length rc) fv fs ed)(hH:Hand o w rp rb rc rs NM NB RK)(hf:pB o w Nf EL)(ok:vE EL)(ba ca:Nat)(pa:Option Addr)(ra:List (af×V))(na:ra.length<=1000)(y6:ra≠[]->pa=some ⟨ba,0,none⟩/\o ba)(ha:nJ w ba ra)(W:bB (fun _=>False) o w o1 w1):
  bA au (XB au Fin 0) 25 #[.pointer (some ⟨S,0,none⟩),.slice pa ra.length ca,Nf] o1 w1 fun v o' w'=>bB (fun _=>False) o w o' w'/\∃l,lU rs NM RK EL l/\v=.bool (decide (ra=l)):=by
 obtain⟨dt,h1⟩:=h.grown W;have UX:=hH.keep W.more fun g hg=>W.same g (hH.lt h.dH.aG hg) id;have hf1:=hf.keep W.more fun g hg=>W.same g (h.dH.aG.lt (gL h.dH.aG hf.cl g hg)) id;obtain⟨p,b,c,rfl,h2,h3⟩:=hf1.ex;refine(KO h1.dH.aG h1.dH.build.pow S _ _ _ h1.blk h1.own UX b c p EL h2 h3 hf1.cl (hf1.cap _ _ _ rfl) ok ba ca pa ra na (fun q=>⟨(y6 q).1,W.more _ (y6 q).2⟩) (fun i hi=>?_)).mono fun v o' w' q=>⟨W.trans q.1,q.2⟩;have e:=W.same ba (h.dH.aG.lt (y6 (fun e=>by rw[e] at hi;simp at hi)).2) id;exact⟨(cell_of e).trans (ha i hi).1,(cell_of e).trans (ha i hi).2.1,(cell_of e).trans (ha i hi).2.2⟩
structure SS(o:aN)(w:ae)(S:Nat)(K:pG)(rp:Option Addr)(rb rc:Nat)(rs:List aJ)(NM:aJ->List af)(NB:aJ->Nat)(s:gV)(lab:Nat->Nat)(fv:Value)(fs:List (af×af))(ed cnt:Nat)(o':aN)(w':ae):Prop where
 cC:vS o' w' S K s lab (.slice rp rs.length rc) fv fs ed
 old:bB (fun _=>False) o w o' w'
 aa4:∀b,b<w.heap.size->7<=lab b
 sge:w.heap.size<=S
 hand:Hand o' w' rp rb rc rs NM NB AO
 lM:∀g,nA rs NM NB rb g->lab g=7/\g≠S
 told:Told K rs NM AO s ed cnt
theorem SS.go(h:SS o w S K rp rb rc rs NM NB s dt fv fs ed cnt o1 w1)(sh:vS o2 w2 S K s2 fW (.slice rp rs.length rc) Nf EL zd)(U:gI S o1 w1 dt o2 w2 fW)(ht:Told K rs NM AO s2 zd Hz):SS o w S K rp rb rc rs NM NB s2 fW Nf EL zd Hz o2 w2:=by
 have z1:=h.old.size;have z2:=U.bt.size;refine⟨sh,⟨U.bt.aG,fun b hb=>U.bt.more b (h.old.more b hb),fun b hb=>(U.bt.new b hb).elim (fun q=>h.old.new b q) fun q=>.inr aa,aa,fun b hb hx=>(U.bt.same b aa ?_).trans (h.old.same b hb hx)⟩,fun b hb=>by rw[U.lab b aa];exact h.aa4 b hb,h.sge,h.hand.keep U.bt.more fun g hg=>U.bt.same g (h.hand.lt h.cC.dH.aG hg) ?_,fun g hg=>⟨(U.lab g (h.hand.lt h.cC.dH.aG hg)).trans (h.lM g hg).1,(h.lM g hg).2⟩,ht⟩
 ·have:=h.aa4 b hb;have:=h.sge;omega
 ·have:=h.lM g hg;omega
theorem SS.k(h:SS o w S K rp rb rc rs NM NB s dt fv fs ed cnt o1 w1)(T:cP o1 w1 dt o2 w2 fW)(hk:bo o2 w2 K s 0 fW):SS o w S K rp rb rc rs NM NB s fW fv fs ed cnt o2 w2 :=
 h.go (h.cC.work hk h.cC.sound T rfl) ((gI.refl (S:=S) h.cC.dH.aG).k T) h.told
theorem DH.edl{kd a b n:Int}{y:af}(st:DH K kd a b s s2 fs EL ed zd n y):zd<=ed+1:=by
 rcases st with⟨-,-,-,e,-⟩|⟨-,-,-,-,⟨-,e,-⟩|⟨-,e,-⟩⟩|⟨-,-,-,-,e,-⟩|⟨-,-,-,-,e,-⟩<;>omega
theorem afe(K:pG)(pb:Nat):Told K rs NM RK (s0 pb) 0 0:=⟨fun _=>by simp[s0,gV.told],fun q=>by simp[s0] at q,fun q=>absurd q aa,by simp[s0]⟩
theorem F9{v:Value}(eR:UB o w v o' w'):∃S K pb lab rp rb rc rs NM NB,v=.pointer (some ⟨S,0,none⟩)/\SS o w S K rp rb rc rs NM NB (s0 pb) lab (.slice none 0 0) [] 0 0 o' w'/\bo o' w' K (s0 pb) 0 lab/\gC rs NM AO K.B:=by
 obtain⟨S,K,pb,dt,rp,rb,rc,rs,NM,NB,rfl,kS1,oS1,lS1,h1,W1,yS,hH,KC,hfo,VQ,Iz⟩:=eR.ex;refine⟨S,K,pb,dt,rp,rb,rc,rs,NM,NB,rfl,⟨⟨h1,Uj K pb,kS1,oS1,lS1,⟨⟨none,0,0,rfl,fun q=>absurd rfl q,fun i hi=>by simp at hi⟩,iU,(fun p l c e=>by cases e;exact ag _)⟩,(fun g hg=>by cases hg),⟨fun x=>rfl,by simp[s0],aj⟩⟩,W1,fun b hb=>(yS b hb).1,VQ,hH,fun g hg=>⟨(hfo g hg).1,?_⟩,afe K pb⟩,h1,KC⟩;rintro rfl;have e0:=(od kS1).1;rcases hg with⟨q,rfl⟩|⟨r,hr,q,rfl⟩
 ·have:=(hH.at_ 0 (List.length_pos_iff.2 q)).1;rw[Nat.zero_mul,e0] at this;cases this
 ·have:=(hH.nm r hr).2.2.1 0 (List.length_pos_iff.2 q);rw[bC,e0] at this;cases this
end
end Go.Proofs.Kz
