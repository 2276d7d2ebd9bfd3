import Derived.Test.YtgjekaaknjgnmaaGreatDoorAm
import Derived.Maps.AppendAt
set_option linter.all false
set_option maxHeartbeats 40000000
set_option maxRecDepth 200000
namespace Go.Proofs.Kz
open Go.Proofs.Tryz
open Go.Proofs.Tryz renaming prog → ar
open _root_.ByteArray renaming empty → aN
open Go.Proofs
section
open Go.RowKit
theorem qa.info{rk:Nat->Nat}{cs:Array Value}(h:qa rk cs):(ar.info? 201).map (·.size)=some cs.size:=by rw[h.size];exact vB
theorem Cd(rk:Nat->Nat)(p:Option Addr)(b c:Nat)(rs:List aL)(NM:aL->List ah)(NB:aL->Nat)(w:ae)(hR:oK w p b rs NM NB)(Un:∀i (hi:i<rs.length),∀x∈NM rs[i],∀j (hj:j<rs.length),rs[j].out=x->rk j<rk i):
  Calls ar 67 #[.slice p rs.length c] w fun e w'=>e=.returned (.int .i64 (-1))/\Below w.heap.size w w'/\w.heap.size<=w'.heap.size:=by
 have E6:=hR.gT;go_enter func67,ntmps67;go_wp2_with (first
  | (go_at_call 109;refine(La rk p b c rs NM NB w hR Un).mono ?_;rintro e w1 ⟨rW,rfl,hN1,Ag,TT⟩)
  | (go_at_call 108;refine(IE rk rW hN1 w1).mono ?_;rintro e w2 ⟨Zu,rfl,hN2,pE,Ya⟩;have hi:=hN2.info)
  | (refine wpList_plain rfl fun _ hK=>wp_store_row 201 _ _ rfl w2.heap.size Zu rfl rfl 201 _ (jR _ _) hi hN2.size.symm hN2.one (hK _ _ ?_)))
 have agv:Below w.heap.size w w2:=Ag.trans (pE.mono TT);generalize hzc:(Obj.cells (#[Value.bool false,Value.bool false,Value.bool false,Value.bool false,Value.bool false,Value.bool false,Value.bool false,Value.bool false,Value.bool false,Value.bool false,Value.bool false,Value.bool false,Value.bool false,Value.bool false,Value.bool false,Value.bool false,Value.bool false,Value.bool false,Value.bool false,Value.bool false,Value.bool false,Value.bool false,Value.bool false,Value.bool false,Value.bool false,Value.bool false,Value.bool false,Value.bool false,Value.bool false,Value.bool false,Value.bool false,Value.bool false,Value.bool false,Value.bool false,Value.bool false,Value.bool false,Value.bool false,Value.bool false,Value.bool false,Value.bool false,Value.bool false,Value.bool false,Value.bool false,Value.bool false,Value.bool false,Value.bool false,Value.bool false,Value.bool false,Value.bool false,Value.bool false,Value.bool false,Value.bool false,Value.bool false,Value.bool false,Value.bool false,Value.bool false,Value.bool false,Value.bool false,Value.bool false,Value.bool false,Value.bool false,Value.bool false,Value.bool false,Value.bool false]) 201 (0,0))=zc;have vE:Below w.heap.size w ((w2.alloc zc).setRow w2.heap.size Zu)/\w.heap.size<=((w2.alloc zc).setRow w2.heap.size Zu).heap.size :=
  ⟨rI (agv.alloc aa _) aa _,by rw[setRow_size];simp;omega⟩
 have SY:lA ((w2.alloc zc).setRow w2.heap.size Zu) w2.heap.size rk:=by
  rw[<- hzc];exact hN2.at (setRow_heap _ _ _ _ _ _ (jR _ _))
 generalize (w2.alloc zc).setRow w2.heap.size Zu=w3 at *;obtain⟨g,b6,ja⟩:=SY.ex;go_loop [10] (fun i=>∃k:Nat,k<=rs.length/\i=.int .i64 k) (fun i=>rs.length-(intOf i).toNat)
 case atStart=>exact⟨0,aQ _,rfl⟩
 case round =>
  obtain⟨k,hk,rfl⟩:=hrel;by_cases bZ:k<rs.length
  ·have Yf:(k:Int)<8:=aa;have c1:=b6.cell (show k*8+k<64 by omega);have hg:g (k*8+k)=false:=by
    cases h:g (k*8+k)
    ·rfl
    ·have:=ja k k aa aa h;omega
   rw[hg] at c1;go_wp2
   go_round
   case rel=>exact⟨k+1,aa,by go_num⟩
   case measure=>simp[intOf];omega
  ·go_wp2;go_ret;exact⟨rfl,vE⟩
theorem IF(b c:Nat)(p:Option Addr)(rs:List aL)(x:ah)(w:ae)(hn:rs.length<=100000)(hp:rs≠[]->p=some ⟨b,0,none⟩)(hv:dX w b rs)(hx:∀q∈rs,q.out≠x):
  Calls ar 107 #[.slice p rs.length c,.string x] w fun e w'=>e=.returned (.int .i64 (-1))/\w'=w:=by
 have:=Cb b c p rs x w hn hp hv;rcases(IC rs x).ex with⟨e,-⟩|⟨i,hi,e,q⟩
 ·rw[e] at this;exact this
 ·exact absurd q (hx _ (aD hi))
theorem IG(p:Option Addr)(b c:Nat)(rs:List aL)(NM:aL->List ah)(NB:aL->Nat)(RK:ah->Nat)(w:ae)(hR:oK w p b rs NM NB)(hY:Cc rs NM RK)(k:Nat)(hk:k<rs.length)(hc:rs.length<=c):
  Calls ar 66 #[.slice p rs.length c,.int .i64 k] w fun e w'=>e=.returned (.int .i64 0)/\Below w.heap.size w w'/\w.heap.size<=w'.heap.size:=by
 have E6:=hR.gT;obtain⟨ep,hb⟩:=hR.ptr (fun e=>by rw[e] at hk;simp at hk);subst ep;obtain⟨c0,c1,c2⟩:=hR.at_ k hk;obtain⟨n1,n2,n3,n4⟩:=hR.nm rs[k] (aD hk);have y1:=hY.outs rs[k] (aD hk);have y2:=hY.ins rs[k] (aD hk);obtain⟨y3,y4⟩:=hY.eD rs[k] (aD hk);rw[n1] at c2;have OE:∀q∈rs.take k,q.out≠rs[k].out:=fun q hq e=>by
  obtain⟨j,hj,rfl⟩:=a8 hq;have rY:j<k:=by simp at hj;omega
  rw[List.getElem_take] at e;have:=List.pairwise_iff_getElem.1 hY.nodup j k eR eR rY;simp at this;exact this e
 have gv:∀x:Obj,Below w.heap.size w (w.alloc x):=fun x=>(Below.refl _ _).alloc (ag _) _;have nT:∀x:Obj,dX (w.alloc x) b (rs.take k):=fun x i hi=>by
  have lQ:i<rs.length:=by simp at hi;omega
  have:=(hR.at_.below hb (gv x)) i lQ;simpa using this
 have gY:=fun x=>FA (NB rs[k]) rs[k].sc rs[k].sa (NM rs[k]) (w.alloc x) aa (fun q=>(n2 q).1) (fun j hj=>n3.below (n2 (fun e=>by rw[e] at hj;simp at hj)).2 (gv x) j hj) y2;have xV:=fun x=>ID rs[k].out y1 (w.alloc x);have I4:=fun x=>OD rs[k].eD (w.alloc x) y3 y4;have uG:=fun x n=>IF b c (some ⟨b,0,none⟩) (rs.take k) rs[k].out ((w.alloc x).drewN n) eR (fun _=>rfl) (fun i hi=>nT x i hi) OE;have J5:(rs.take k).length=k:=eR;simp only[J5] at uG;have n4I:¬(4:Int)<((NM rs[k]).length:Int):=aa;have hkc:k<=c:=aa;have agx:(k:Int)<=(c:Int):=aa;clear nT gv n2 n3 OE;generalize rs[k].out=y at *;generalize rs[k].eD=rc at *;generalize rs[k].sa=sa at *;generalize rs[k].sc=sc at *;generalize (NM rs[k]).length=nl at *;go_enter func66,ntmps66;go_wp2_with (first
  | (go_at_call 68;refine(xV _).mono ?_;rintro e w' ⟨rfl,rfl⟩)
  | (go_at_call 105;refine(gY _).mono ?_;rintro e w' ⟨rfl,rfl⟩)
  | (go_at_call 106;refine(I4 _).mono ?_;rintro e w' ⟨rfl,rfl⟩))
 go_quiet (first|(go_at_call 107;refine Calls.quiet_of_same (uG _ _)))
 go_wp2;go_ret;have hB:=(Below.refl w.heap.size w).alloc (ag _) (.cells #[.string y,.int .i64 rc,.slice sa nl sc] 42);exact⟨rfl,⟨hB.os,hB.tape,hB.output,hB.size,hB.block⟩,hB.size⟩
theorem OF(p:Option Addr)(b c:Nat)(rs:List aL)(NM:aL->List ah)(NB:aL->Nat)(RK:ah->Nat)(w:ae)(hR:oK w p b rs NM NB)(hY:Cc rs NM RK)(hc:rs.length<=c):
  Calls ar 39 #[.slice p rs.length c] w fun e w'=>e=.returned (.tuple #[.int .i64 0,.int .i64 0])/\Below w.heap.size w w'/\w.heap.size<=w'.heap.size:=by
 have E6:=hR.gT;have h8:¬(8:Int)<(rs.length:Int):=aa;go_enter func39,ntmps39;go_wp2;go_loopw [12] (fun i w'=>∃k:Nat,k<=rs.length/\i=.int .i64 k/\Below w.heap.size w w'/\w.heap.size<=w'.heap.size) (fun i _=>rs.length-(intOf i).toNat)
 case atStart=>exact⟨0,aQ _,rfl,Below.refl _ _,ag _⟩
 case round =>
  obtain⟨k,hk,rfl,gv,hz⟩:=hrel;by_cases bZ:k<rs.length
  ·have agy:=IG p b c rs NM NB RK _ (hR.below gv) hY k bZ hc;go_wp2_with (go_at_call 66;refine agy.mono ?_;rintro e w2 ⟨rfl,pE,Ya⟩);exact⟨⟨k+1,aa,by go_num,gv.trans (pE.mono hz),aa⟩,by simp[intOf];omega⟩
  ·have Vt:=Cd (fun i=>((rs[i]?).map fun r=>RK r.out).getD 0) p b c rs NM NB _ (hR.below gv) (fun i hi x hx j hj e=>by
    simp only[List.getElem?_eq_getElem hi,List.getElem?_eq_getElem hj,Option.map_some,Option.getD_some];rw[e];exact hY.Ig _ (aD hi) x hx (by rw[<- e];exact List.mem_map.2 ⟨_,aD hj,rfl⟩))
   go_wp2_with (go_at_call 67;refine Vt.mono ?_;rintro e w2 ⟨rfl,pE,Ya⟩)
   go_ret2
   exact⟨rfl,gv.trans (pE.mono hz),aa⟩
end
section
open Go.RowKit
theorem RH:(ar.info? 44).map (fun i=>(i.zero,i.size,i.bytes))=some (some (.agg #[.string aN,.string aN]),2,32):=af
def fi(fs:List (ah×ah)):List Value:=(fs.map fun f=>[Value.string f.1,.string f.2]).flatten
theorem De(fs:List (ah×ah))(f:ah×ah):fi (fs++[f])=fi fs++[.string f.1,.string f.2]:=by simp[fi]
theorem uY:∀(fs:List (ah×ah)) (i:Nat) (h:i<fs.length),(fi fs)[i*2]?=some (.string fs[i].1)/\(fi fs)[i*2+1]?=some (.string fs[i].2)
 |f::fs,0,h=>by simp[fi]
 |f::fs,i+1,h=>by
  have ih:=uY fs i (by simpa using h);have e:fi (f::fs)=.string f.1 :: .string f.2::fi fs:=by simp[fi]
  have e2:(i+1)*2=i*2+1+1:=aa;rw[e,e2];simpa using ih
def tA(w:ae)(b:Nat)(fs:List (ah×ah)):Prop:=∀i (h:i<fs.length),w.cell? ⟨b,i*2,none⟩=some (.string fs[i].1)/\w.cell? ⟨b,i*2+1,none⟩=some (.string fs[i].2)
theorem tA.below{w w':ae}{b:Nat}{fs:List (ah×ah)}(h:tA w b fs)(hb:b<w.heap.size)(hw:Below w.heap.size w w'):tA w' b fs:=fun k hk=>by
 obtain⟨hc,-⟩:=uM hw;rw[hc _ _ hb,hc _ _ hb];exact h k hk
theorem rU(W:ae)(lo:Nat)(v:Value)(fs:List (ah×ah))(x t:ah)(A:Nat)(h:W.ownsRow lo 44 2 v fs.length (fi fs))(hn:fs.length<=100000)(uL:lo<=W.heap.size)(c0:W.cell? ⟨A,0,none⟩=some (.string x))(c1:W.cell? ⟨A,1,none⟩=some (.string t)):
  ∃v' W',(Builtin.append_ #[37,37] 37 #[v,.slice (some ⟨A,0,none⟩) 1 1]).run ar W=.ok v' W'/\W'.ownsRow lo 44 2 v' (fs++[(x,t)]).length (fi (fs++[(x,t)]))/\W.grownBy W' v.ownBlock:=by
 obtain⟨i,hi,oF⟩:=Option.map_eq_some_iff.1 RH;simp only[Prod.mk.injEq] at oF;obtain⟨v',W',e1,e2,e3,_⟩:=run_append_own (P:=ar) W lo 37 37 44 i _ 2 32 underlying37 hi oF.1 oF.2.1 oF.2.2 rfl aa v fs.length (fi fs) h ⟨A,0,none⟩ 1 1 [.string x,.string t] rfl (fun j u hj=>by
  match j,hj with
  |0,hj=>simp at hj;subst hj;simpa[Addr.add] using c0
  |1,hj=>simp at hj;subst hj;simpa[Addr.add] using c1) (by simp;exact⟨rfl,rfl⟩) (by simp[maxLen];omega) aa uL
 exact⟨v',W',e1,by rw[De];simpa using e2,e3⟩
theorem jV{w:ae}{lo e sz n:Nat}{v:Value}{xs:List Value}(h:w.ownsRow lo e sz v n xs):∃p l c,v=.slice p l c:=by
 obtain⟨_,hc⟩:=h;rcases hc with⟨rfl,_⟩|⟨g,cap,cur,rfl,h1,_⟩
 ·exact⟨_,_,_,rfl⟩
 ·exact⟨_,_,_,rfl⟩
def FB(fs:List (ah×ah))(x:ah):Bool:=Jn (fs.map (·.1)) x
def rJ(fs:List (ah×ah))(x:ah):List (ah×ah):=fs.filter fun f=>decide (f.1≠x)
def pC(fs:List (ah×ah))(x t:ah)(there:Bool):List (ah×ah):=rJ fs x++(if there then[(x,t)] else[])
theorem IH(fs:List (ah×ah))(x:ah):(rJ fs x).length<=fs.length:=eC _ _
theorem OG(fs:List (ah×ah))(x:ah)(k:Nat)(h:k<fs.length):rJ (fs.take (k+1)) x=rJ (fs.take k) x++(if fs[k].1=x then[] else[fs[k]]):=by
 rw[take_succ fs k h,rJ,List.filter_append];by_cases e:fs[k].1=x
 ·simp[rJ,e]
 ·simp[rJ,e]
theorem UU(S b c:Nat)(kv rv:Value)(ed:Int)(p:Option Addr)(fs:List (ah×ah))(x:ah)(w:ae)(hS:w.cell? ⟨S,2,none⟩=some (.slice p fs.length c))(hn:fs.length<=1000)(hp:fs≠[]->p=some ⟨b,0,none⟩)(hf:tA w b fs):
  Calls ar 35 #[.pointer (some ⟨S,0,none⟩),.string x] w fun e w'=>e=.returned (.bool (FB fs x))/\w'=w:=by
 go_enter func35,ntmps35;go_wp2;go_loop [5] (fun i=>∃k:Nat,k<=fs.length/\i=.int .i64 k/\x∉(fs.take k).map (·.1)) (fun i=>fs.length-(intOf i).toNat)
 case atStart=>exact⟨0,aQ _,rfl,an⟩
 case round =>
  obtain⟨k,hk,rfl,hs⟩:=hrel;by_cases bZ:k<fs.length
  ·have e:=hp (fun e=>by rw[e] at bZ;simp at bZ);subst e;obtain⟨h1,-⟩:=hf k bZ;have hm:fs[k].1∈fs.map (·.1):=List.mem_map.2 ⟨_,aD bZ,rfl⟩;have qJ:(fs.take (k+1)).map (·.1)=(fs.take k).map (·.1)++[fs[k].1]:=by rw[take_succ fs k bZ,jY];rfl
   generalize fs[k].1=y at *;by_cases hx:y=x
   ·have pd:FB fs x=true:=(oJ x _).2 (hx▸hm);clear qJ hm hs;subst hx;go_wp2;go_ret;exact⟨rfl,rfl⟩
   ·have Zv:=tV hx;go_wp2
    go_round
    case rel=>exact⟨k+1,aa,by go_num,by rw[qJ];simp only[List.mem_append,List.mem_singleton];exact fun q=>q.elim hs fun e=>hx e.symm⟩
    case measure=>simp[intOf];omega
  ·rw[cE aa] at hs;have pd:FB fs x=false:=by
    cases h:FB fs x
    ·rfl
    ·exact absurd ((oJ x _).1 h) hs
   go_wp2;go_ret;exact⟨rfl,rfl⟩
theorem UW(S b c:Nat)(p:Option Addr)(fs:List (ah×ah))(x t:ah)(there:Bool)(w:ae)(hS:w.cell? ⟨S,2,none⟩=some (.slice p fs.length c))(hSf:w.frozen? ⟨S,2,none⟩=false)(ZE:S<w.heap.size)(hn:fs.length<=1000)(hp:fs≠[]->p=some ⟨b,0,none⟩/\b<w.heap.size)(hf:tA w b fs):
  Calls ar 22 #[.pointer (some ⟨S,0,none⟩),.string x,.string t,.bool there] w fun e w'=>e=.returned (.tuple #[])/\∃v w2,Below w.heap.size w w2/\w.heap.size<=w2.heap.size/\w2.ownsRow w.heap.size 44 2 v (pC fs x t there).length (fi (pC fs x t there))/\w'=w2.setCell ⟨S,2,none⟩ v:=by
 go_enter func22,ntmps22;go_wp2;go_loopw [8,9] (fun v i w'=>∃k:Nat,k<=fs.length/\i=.int .i64 k/\Below w.heap.size w w'/\w.heap.size<=w'.heap.size/\w'.ownsRow w.heap.size 44 2 v (rJ (fs.take k) x).length (fi (rJ (fs.take k) x))) (fun v i _=>fs.length-(intOf i).toNat)
 case atStart=>exact⟨0,aQ _,rfl,Below.refl _ _,ag _,by simp[rJ,fi],.inl ⟨rfl,rfl⟩⟩
 case round =>
  obtain⟨k,hk,rfl,gv,hz,b6⟩:=hrel;have Vq:=(gv.cell (p:=⟨S,2,none⟩) ZE).trans hS;have am1:=(gv.frozen (p:=⟨S,2,none⟩) ZE).trans hSf;by_cases bZ:k<fs.length
  ·obtain⟨e,hb⟩:=hp (fun e=>by rw[e] at bZ;simp at bZ);subst e;obtain⟨h1,h2⟩:=hf.below hb gv k bZ;have C5:=OG fs x k bZ;have hl:=IH (fs.take k) x;have Ge:(fs.take k).length<=k:=eR;generalize rJ (fs.take k) x=raw at *;generalize fs[k]=f at *;obtain⟨y,ty⟩:=f;simp only at h1 h2 C5;by_cases hx:y=x
   ·rw[if_pos hx,List.append_nil] at C5;subst hx;go_wp2;exact⟨⟨k+1,aa,by go_num,gv,hz,by rw[C5];exact b6⟩,by simp[intOf];omega⟩
   ·rw[if_neg hx] at C5;have Zv:=tV hx;obtain⟨v',W',e1,e2,e3⟩:=rU (wr.alloc (.cells #[.string y,.string ty] 44)) w.heap.size _ _ y ty wr.heap.size (oP b6 _) aa eR (nK _ _ _ 0) (nK _ _ _ 1);have vE:=Below.grown (gv.alloc aa _) e3 eR (yh b6);go_wp2_with (at_builtin;refine fM rfl _ _ 37 rfl rfl rfl e1 ?_);exact⟨⟨k+1,aa,by go_num,vE,vE.size,by rw[C5];exact e2⟩,by simp[intOf];omega⟩
  ·rw[cE aa] at b6;have hl:=IH fs x;have zE:pC fs x t there=rJ fs x++(if there then[(x,t)] else[]):=rfl;generalize rJ fs x=raw at *;cases there
   ·have RJ:pC fs x t false=raw:=by rw[zE];simp
    clear zE;obtain⟨sp,sl,sc,rfl⟩:=jV b6;go_wp2
    go_end0
    exact⟨rfl,_,_,gv,hz,by rw[RJ];exact b6,rfl⟩
   ·have RJ:pC fs x t true=raw++[(x,t)]:=by rw[zE];simp
    clear zE;obtain⟨v',W',e1,e2,e3⟩:=rU (wr.alloc (.cells #[.string x,.string t] 44)) w.heap.size _ _ x t wr.heap.size (oP b6 _) aa eR (nK _ _ _ 0) (nK _ _ _ 1);have vE:=Below.grown (gv.alloc aa _) e3 eR (yh b6);obtain⟨sp,sl,sc,rfl⟩:=jV e2;have hc3:=(vE.cell (p:=⟨S,2,none⟩) ZE).trans hS;have am2:=(vE.frozen (p:=⟨S,2,none⟩) ZE).trans hSf;go_wp2_with (at_builtin;refine fM rfl _ _ 37 rfl rfl rfl e1 ?_)
    go_end0
    exact⟨rfl,_,_,vE,vE.size,by rw[RJ];exact e2,rfl⟩
end
section
open Go.RowKit
theorem Lc(b c:Nat)(p:Option Addr)(ts:List ah)(w:ae)(hn:ts.length<=100000)(hp:p=none->ts=[])(hq:ts≠[]->p=some ⟨b,0,none⟩)(ht:dP w b 0 ts):
  Calls ar 51 #[.slice p ts.length c] w fun e w'=>∃v,e=.returned v/\w'.ownsRow w.heap.size 9 1 v ts.length (ts.map .string)/\Below w.heap.size w w'/\w.heap.size<=w'.heap.size:=by
 cases p with
 |none =>
  obtain rfl:=hp rfl;refine(Tryz.slices_Clone_string_nil _ _ w).mono fun e w' hq=>?_;obtain⟨rfl,rfl⟩:=hq;exact⟨_,rfl,⟨an,.inl ⟨rfl,rfl⟩⟩,Below.refl _ _,ag _⟩
 |some a =>
  by_cases cV:ts=[]
  ·subst cV;refine(Tryz.slices_Clone_string_zero a _ w).mono fun e w' hq=>?_;obtain⟨v',rfl,h1,-,h2⟩:=hq;exact⟨_,rfl,h1,h2,h2.size⟩
  ·have e:=hq cV;cases e;refine(Tryz.slices_Clone_string b 0 ts.length c ts w (ag _) aa (fun j hj=>?_)).mono fun e w' hq=>?_
   ·rw[ht j hj];simp[hj]
   ·obtain⟨v',rfl,h1,h2⟩:=hq;rw[dz] at h1;exact⟨_,rfl,h1,h2.2,h2.2.size⟩
def dM(rs:List aL):List Value:=(rs.map aL.cells).flatten
theorem pD(r:aL)(rs:List aL):dM (r::rs)=.string r.out :: .int .i64 r.eD :: .slice r.sa r.sl r.sc::dM rs:=by simp[dM,aL.cells]
theorem qc(rs:List aL):(dM rs).length=rs.length*3:=by
 induction rs with
 |nil=>rfl
 |cons r rs ih =>
  rw[pD];simp[ih];omega
theorem na:∀(rs:List aL) (i:Nat) (h:i<rs.length),(dM rs)[i*3]?=some (.string rs[i].out)/\(dM rs)[i*3+1]?=some (.int .i64 rs[i].eD)/\(dM rs)[i*3+2]?=some (.slice rs[i].sa rs[i].sl rs[i].sc)
 |r::rs,0,h=>by simp[pD]
 |r::rs,i+1,h=>by
  have ih:=na rs i (by simpa using h);have e2:(i+1)*3=i*3+1+1+1:=aa;rw[pD,e2];simpa using ih
theorem Df(rs:List aL):∀u∈dM rs,u.oneCell'=true:=fun u hu=>by
 simp only[dM,List.mem_flatten,List.mem_map] at hu;obtain⟨l,⟨r,-,rfl⟩,hu⟩:=hu;simp[aL.cells] at hu;rcases hu with rfl|rfl|rfl<;>rfl
theorem Dg{w:ae}{b:Nat}{rs:List aL}(h:dX w b rs):∀j u,(dM rs)[j]?=some u->w.cell? ⟨b,j,none⟩=some u:=fun j u hu=>by
 have hj:j<rs.length*3:=by
  rw[<- qc];exact(List.getElem?_eq_some_iff.1 hu).1
 have hi:j/3<rs.length:=aa;obtain⟨c0,c1,c2⟩:=na rs (j/3) hi;obtain⟨d0,d1,d2⟩:=h (j/3) hi;have h3:j=j/3*3\/j=j/3*3+1\/j=j/3*3+2:=aa;generalize j/3=i at *;rcases h3 with rfl|rfl|rfl
 ·rw[c0] at hu;rw[d0];exact hu
 ·rw[c1] at hu;rw[d1];exact hu
 ·rw[c2] at hu;rw[d2];exact hu
theorem RL:(ar.info? 222).map (fun i=>(i.zero,i.size,i.bytes))=some (some (.agg #[.bool false,.slice none 0 0,.bool false,.string aN]),4,56):=af
theorem Dh(w:ae)(n:Nat)(hn:n<=100000):(Instr.makeSlice 148 (.int .i64 (n:Int)) (.int .i64 (n:Int))).run ar w=.ok (.slice (some ⟨w.heap.size,0,none⟩) n n) (w.alloc (.cells (madeCells #[.bool false,.slice none 0 0,.bool false,.string aN] (n*4)) 222)):=by
 obtain⟨i,hi,hz⟩:=Option.map_eq_some_iff.1 RL;simp only[Prod.mk.injEq] at hz;obtain⟨hz,hs,hb⟩:=hz;have:=run_make (P:=ar) w 148 222 i _ underlying148 hi hz .i64 .i64 n n aa (fh _) (by rw[hb];omega) aa;rw[this,hs];simp[Value.cells]
theorem Ak{w:ae}{lo e sz n:Nat}{v:Value}{xs:List Value}(h:w.ownsRow lo e sz v n xs){p:Option Addr}{l c:Nat}(hv:v=.slice p l c):l=n:=by
 obtain⟨h0,hc⟩:=h;rcases hc with⟨rfl,h2⟩|⟨g,cap,cur,rfl,h1,_⟩
 ·cases hv;exact h2.symm
 ·cases hv;rfl
def rK(j:Nat):Value:=match j%4 with
 |0=>.bool false
 |1=>.slice none 0 0
 |2=>.bool false
 |_=>.string aN
def tB(lo hi:Nat)(v:Value)(ts:List ah)(w':ae):Prop:=(v=.slice none 0 0/\ts=[])\/∃g cap,v=.slice (some ⟨g,0,none⟩) ts.length cap/\lo<g/\g<hi/\dP w' g 0 ts
theorem tB.keep{lo hi lQ:Nat}{v:Value}{ts:List ah}{w w':ae}(h:tB lo hi v ts w)(hz:hi<=lQ)(e:∀g,lo<g->g<hi->w'.heap[g]?=w.heap[g]?):tB lo lQ v ts w':=by
 rcases h with h|⟨g,cap,h1,h2,h3,h4⟩
 ·exact .inl h
 ·exact .inr ⟨g,cap,h1,h2,aa,fun k hk=>(World.cell?_of_block (w:=w) (w':=w') (a:=⟨g,0+k,none⟩) (e g h2 h3)).trans (h4 k hk)⟩
theorem OH{lo:Nat}{v:Value}{ts:List ah}{w1 w2:ae}(h:w2.ownsRow w1.heap.size 9 1 v ts.length (ts.map .string))(uL:lo<w1.heap.size):tB lo w2.heap.size v ts w2:=by
 have h0:=h;obtain⟨h4,h5⟩:=h;rcases h5 with⟨e1,e2⟩|⟨g,cap,cur,rfl,q1,q2,q3,q4,q5,q6⟩
 ·refine .inl ⟨e1,?_⟩;cases ts with
  |nil=>rfl
  |cons r rs=>simp at e2
 ·have hg:g<w2.heap.size:=aO fun q=>by
   rw[cb (cL q)] at q2;cases q2
  refine .inr ⟨g,cap,rfl,aa,hg,fun i hi=>?_⟩;have hc:=h0.cells (g:=g) rfl i (.string ts[i]) (by simp[hi]);have ha:(⟨g,0,none⟩:Addr).add i=⟨g,i,none⟩:=by simp[Addr.add];omega
  rw[ha] at hc;rw[bh];exact hc
structure BI(w:ae)(rs:List aL)(NM:aL->List ah)(Ru k:Nat)(w':ae):Prop where
 K9:Below w.heap.size w w'
 ru:rs≠[]->w.heap.size<=Ru/\Ru<w'.heap.size
 row:rs≠[]->∃N f,w'.rowIs Ru 42 N f/\rs.length*3<=N/\∀i (h:i<rs.length),f (i*3)=.string rs[i].out/\f (i*3+1)=.int .i64 rs[i].eD/\(k<=i->f (i*3+2)=.slice rs[i].sa rs[i].sl rs[i].sc)/\(i<k->tB Ru w'.heap.size (f (i*3+2)) (NM rs[i]) w')
structure Ld(lo:Nat)(rs:List aL)(NM:aL->List ah)(v:Value)(w':ae):Prop where
 ex:∃(bb Rb Ru c:Nat) (p':Option Addr) (f:Nat->Value),v=.pointer (some ⟨bb,0,none⟩)/\lo<=Rb/\Rb<bb/\bb<w'.heap.size/\((p'=none/\rs=[])\/(p'=some ⟨Ru,0,none⟩/\lo<=Ru/\Ru<Rb)) /\
  (∀i (h:i<rs.length),w'.cell? ⟨Ru,i*3,none⟩=some (.string rs[i].out)/\w'.cell? ⟨Ru,i*3+1,none⟩=some (.int .i64 rs[i].eD)/\w'.cell? ⟨Ru,i*3+2,none⟩=some (f i)/\tB Ru Rb (f i) (NM rs[i]) w') /\
  w'.heap[bb]?=some (Ji (.slice p' rs.length c) (.int .u32 0) (.int .i32 0) (.int .u32 0) (.slice none 0 0) (.slice none 0 0) (.slice none 0 0) (.slice (some ⟨Rb,0,none⟩) rs.length rs.length)) /\
  w'.rowIs Rb 222 (rs.length*4) rK
theorem RN(p:Option Addr)(b c:Nat)(rs:List aL)(NM:aL->List ah)(NB:aL->Nat)(w:ae)(hR:oK w p b rs NM NB)(hp:p=none->rs=[])(hpi:∀r∈rs,r.sa=none->NM r=[]):
  Calls ar 41 #[.slice p rs.length c] w fun e w'=>∃v,e=.returned v/\Below w.heap.size w w'/\w.heap.size<=w'.heap.size/\Ld w.heap.size rs NM v w':=by
 have E6:=hR.gT;have eY:=Dd b c rs.length p (dM rs) w (qc rs) aa (fun e=>by rw[hp e];rfl) (fun cV=>(hR.ptr (fun e=>cV (by rw[e];rfl))).1) (Dg hR.at_) (Df rs);have LV:=fun w=>Dh w rs.length aa;go_enter func41,ntmps41;go_wp2_with (go_at_call 71;refine eY.mono ?_;rintro e w1 ⟨v1,rfl,II,Ag,TT⟩;obtain⟨p',sl,c',Gd⟩:=jV II;have SO:=Ak II Gd;subst SO;subst Gd);obtain⟨Ru,fy,hB0⟩:∃Ru,((p'=none/\rs=[])\/(p'=some ⟨Ru,0,none⟩/\w.heap.size<=Ru/\Ru<w1.heap.size))/\BI w rs NM Ru 0 w1:=by
  rcases II.2 with⟨e1,e2⟩|⟨g,cap,cur,e1,q1,q2,q3,q4,q5,q6⟩
  ·have xU:rs=[]:=List.length_eq_zero_iff.1 e2;injection e1 with e1 _ _;exact⟨0,.inl ⟨e1,xU⟩,Ag,fun q=>absurd xU q,fun q=>absurd xU q⟩
  ·have hg:g<w1.heap.size:=aO fun q=>by
    rw[cb (cL q)] at q2;cases q2
   have hc:=II.cells (g:=g) (by rw[e1];rfl);cases e1;refine⟨g,.inr ⟨rfl,q1,hg⟩,Ag,fun _=>⟨q1,hg⟩,fun _=>⟨cur.size,fun j=>cur.getD j undef,⟨cur,q2,rfl,fun j hj=>by simp[hj]⟩,by rw[q5];exact iu _ q3,fun i hi=>?_⟩⟩;obtain⟨c0,c1,c2⟩:=na rs i hi;have cc:∀j u,(dM rs)[j]?=some u->cur.getD j undef=u:=fun j u hu=>by
    have:=hc j u hu;have hj:j<rs.length*3:=by
     rw[<- qc];exact(List.getElem?_eq_some_iff.1 hu).1
    have hj2:j<cur.size:=by rw[q5];exact bm hj (iu _ q3)
    have ha:(⟨g,0,none⟩:Addr).add j=⟨g,j,none⟩:=by simp[Addr.add];omega
    rw[ha] at this;simp[World.cell?,q2,hj2] at this;simp[hj2,this]
   exact⟨cc _ _ c0,cc _ _ c1,fun _=>cc _ _ c2,fun q=>aa⟩
 clear II Ag;go_loopw [9] (fun i w'=>∃k:Nat,k<=rs.length/\i=.int .i64 k/\BI w rs NM Ru k w'/\w1.heap.size<=w'.heap.size) (fun i _=>rs.length-(intOf i).toNat)
 case atStart=>exact⟨0,aQ _,rfl,hB0,ag _⟩
 case round =>
  clear hB0;obtain⟨k,hk,rfl,hB,oF⟩:=hrel;by_cases bZ:k<rs.length
  ·have cV:rs≠[]:=fun e=>by rw[e] at bZ;simp at bZ
   rcases fy with⟨-,e⟩|⟨rfl,kR,Kp⟩
   ·exact absurd e cV
   obtain⟨N,f,b6,hN,hf⟩:=hB.row cV;obtain⟨-,xz⟩:=hB.ru cV;obtain⟨f0,f1,f2,-⟩:=hf k bZ;have c2:=b6.cell (show k*3+2<N by omega);have z2:=b6.frozen (k*3+2);rw[f2 (ag _)] at c2;obtain⟨n1,n2,n3,n4⟩:=hR.nm rs[k] (aD bZ);rw[n1] at c2;have Ps:=Lc (NB rs[k]) rs[k].sc rs[k].sa (NM rs[k]) wr aa (hpi _ (aD bZ)) (fun q=>(n2 q).1) (fun j hj=>n3.below (n2 (fun e=>by rw[e] at hj;simp at hj)).2 hB.K9 j hj);go_wp2_with (go_at_call 51;refine Ps.mono ?_;rintro e w2 ⟨v2,rfl,Wm,pE,Ya⟩;have pd:=OH Wm xz;have I2:=jV Wm;obtain⟨sp,sl,sc2,I2⟩:=I2;subst I2;have cc2:=(pE.cell (p:=⟨Ru,k*3+2,none⟩) xz).trans c2;have zz2:=(pE.frozen (p:=⟨Ru,k*3+2,none⟩) xz).trans z2);have acf:=World.rowIs.of_block b6 (pE.block Ru xz);have on:=Go.Ren.fW w2 Ru (k*3+2) (.slice sp sl sc2);refine⟨⟨k+1,aa,by go_num,⟨?_,fun _=>⟨kR,by rw[on.1];omega⟩,fun _=>⟨N,fun j=>if j=k*3+2 then .slice sp sl sc2 else f j,(acf.set (k*3+2) _).congr fun j hj=>rfl,hN,fun i hi=>?_⟩⟩,by rw[on.1];omega⟩,by simp[intOf];omega⟩
   ·exact(hB.K9.trans (pE.mono (by have:=hB.K9.size;omega))).setCell (by simpa using kR) _
   ·obtain⟨g0,g1,g2,g3⟩:=hf i hi;have e0:¬i*3=k*3+2:=aa;have e1:¬i*3+1=k*3+2:=aa;simp only[if_neg e0,if_neg e1];refine⟨g0,g1,fun q=>?_,fun q=>?_⟩
    ·have e2:¬i*3+2=k*3+2:=aa;rw[if_neg e2];exact g2 aa
    ·by_cases e:i=k
     ·subst e;rw[if_pos rfl];exact pd.keep (bq on.1.symm) fun g hg _=>on.2 g aa
     ·have e2:¬i*3+2=k*3+2:=aa;rw[if_neg e2];exact(g3 aa).keep (by rw[on.1];exact Ya) fun g hg Cv=>(on.2 g aa).trans (pE.block g Cv)
  ·have kY:k=rs.length:=aa;subst kY;go_wp2;go_ret;generalize hm:madeCells #[.bool false,.slice none 0 0,.bool false,.string aN] (rs.length*4)=mc;have hms:mc.size=rs.length*4:=by rw[<- hm];simp[size_madeCells]
   have hzw:=hB.K9.size;refine⟨_,rfl,(hB.K9.alloc aa _).alloc eR _,eR,⟨wr.heap.size+1,wr.heap.size,Ru,c',p',fun i=>((wr.cell? ⟨Ru,i*3+2,none⟩).getD undef),rfl,hzw,aa,an,?_,fun i hi=>?_,heap_alloc2_new wr _ _,mc,heap_alloc2_old wr _ _,hms,fun j hj=>?_⟩⟩
   ·exact fy.imp id fun q=>⟨q.1,q.2.1,aa⟩
   ·have cV:rs≠[]:=fun e=>by rw[e] at hi;simp at hi
    obtain⟨N,f,b6,hN,hf⟩:=hB.row cV;obtain⟨-,xz⟩:=hB.ru cV;obtain⟨g0,g1,-,g3⟩:=hf i hi;have tt:((wr.alloc (.cells mc 222)).alloc (Ji (.slice p' rs.length c') (.int .u32 0) (.int .i32 0) (.int .u32 0) (.slice none 0 0) (.slice none 0 0) (.slice none 0 0) (.slice (some ⟨wr.heap.size,0,none⟩) rs.length rs.length))).heap[Ru]?=wr.heap[Ru]?:=(alloc_old _ _ _ eR).trans (alloc_old _ _ _ xz);have RP:=World.rowIs.of_block b6 tt;have d0:=RP.cell (show i*3<N by omega);have d1:=RP.cell (show i*3+1<N by omega);have d2:=RP.cell (show i*3+2<N by omega);have d3:=b6.cell (show i*3+2<N by omega);rw[g0] at d0;rw[g1] at d1;refine⟨d0,d1,?_,?_⟩
    ·show _=some ((wr.cell? ⟨Ru,i*3+2,none⟩).getD undef);rw[d3];exact d2
    show tB _ _ ((wr.cell? ⟨Ru,i*3+2,none⟩).getD undef) _ _;rw[d3];exact(g3 hi).keep (ag _) fun g _ hg=>(alloc_old _ _ _ eR).trans (alloc_old _ _ _ hg)
   ·rw[<- hm];simp only[madeCells,Array.getElem?_map,Array.getElem?_range,hj,if_true,Option.map_some];have h4:j%4=0\/j%4=1\/j%4=2\/j%4=3:=aa;rcases h4 with e|e|e|e<;>simp[e,rK]
end
open Go.Ren Go.Conc Go.ConcN
open Go.ConcR (Payload)
def fileOf:List ah->List V->ah->V
 |k::ks,v::vs,x=>if x=k then v else fileOf ks vs x
 |_,_,_=>V0
theorem xn:∀(ks:List ah) (vs:List V),(∀v∈vs,v.2.size<=12)->∀x,(fileOf ks vs x).2.size<=12
 | [],_,_,_=>by simp[fileOf,V0]
 |_::_,[],_,_=>by simp[fileOf,V0]
 |k::ks,v::vs,h,x=>by
  unfold fileOf;split
  ·exact h v an
  ·exact xn ks vs (fun u hu=>h u (by simp[hu])) x
theorem Ce:∀(ks:List ah) (vs:List V),ks.Nodup->vs.length=ks.length->vs=ks.map (fileOf ks vs)
 | [],[],_,_=>rfl
 | [],_::_,_,h=>by simp at h
 |_::_,[],_,h=>by simp at h
 |k::ks,v::vs,hn,h=>by
  have hn':=List.nodup_cons.1 hn;have ih:=Ce ks vs hn'.2 (by simpa using h);have e1:fileOf (k::ks) (v::vs) k=v:=by simp[fileOf]
  have e2:ks.map (fileOf (k::ks) (v::vs))=ks.map (fileOf ks vs):=cU fun x hx=>by
   have:x≠k:=fun e=>hn'.1 (e▸hx);simp[fileOf,this]
  rw[bU,e1,e2,<- ih]
theorem nY.nodup{xs:List ah}(h:nY xs):xs.Nodup:=List.pairwise_iff_getElem.2 fun i j hi hj DU e=>by
 have:=h i j hi hj DU;rw[e,tP] at this;exact absurd this dh
theorem IJ{α:Type}{x:ah}{v:α}:∀{l:List (ah×α)},eO l x=some v->(x,v)∈l
 | [],h=>by cases h
 | (k,u)::l,h=>by
  unfold eO at h;split at h
  ·rename_i e;cases h;subst e;simp
  ·exact bo _ (IJ h)
theorem IK{α:Type}{x:ah}{v:α}{y:ah×α}:∀{l:List (ah×α)},y∈gU l x v->y=(x,v)\/y∈l
 | [],h=>by simpa[gU] using h
 | (k,u)::l,h=>by
  unfold gU at h;split at h
  ·rcases List.mem_cons.1 h with h|h
   ·exact .inl h
   ·exact .inr (bo _ h)
  ·rcases List.mem_cons.1 h with h|h
   ·exact .inr (h▸iY)
   ·exact(IK h).imp id (bo _)
theorem IL{α:Type}{x:ah}{y:ah×α}:∀{l:List (ah×α)},y∈lI l x->y∈l
 | [],h=>by cases h
 | (k,u)::l,h=>by
  unfold lI at h;split at h
  ·exact bo _ h
  ·rcases List.mem_cons.1 h with h|h
   ·exact h▸iY
   ·exact bo _ (IL h)
structure Sound(K:sj)(s:kT):Prop where
 ph:s.phase<=3
 fd:s.phase=2\/s.phase=3->∃lo F,s.fd=some (lo,F)
 src:s.phase=2\/s.phase=3->s.src=iq K.B.NM K.B.rs
 idle:s.phase<=1->s.src=[]/\s.rd=[]/\s.ck=0
 early:s.phase=2->s.ck=0
 full:s.phase=3->s.rd.length=s.src.length
 rd:∀x∈s.rd,x.1.2.size<=12
 th:∀x∈s.th,x.2.size<=12
 once:s.qn.Nodup
 lost:s.lost=true->4<=s.qn.length
theorem Cf{ts:List ah}{lost:Bool}{x:ah}(hn:ts.Nodup)(hl:lost=true->4<=ts.length):(iX ts lost x).1.Nodup/\((iX ts lost x).2=true->4<=(iX ts lost x).1.length)/\(∀y,y∈(iX ts lost x).1->y=x\/y∈ts)/\(∀y∈ts,y∈(iX ts lost x).1)/\(x∈(iX ts lost x).1\/(iX ts lost x).2=true)/\(lost=true->(iX ts lost x).2=true):=by
 unfold iX;by_cases hc:Lib.containsS ts x=true
 ·rw[if_pos hc];exact⟨hn,hl,fun y hy=>.inr hy,fun y hy=>hy,.inl ((Lib.containsS_iff _ _).1 hc),id⟩
 ·rw[if_neg hc];have hx:x∉ts:=fun q=>hc ((Lib.containsS_iff _ _).2 q);by_cases h4:4<=ts.length
  ·rw[if_pos h4];exact⟨hn,fun _=>h4,fun y hy=>.inr hy,fun y hy=>hy,.inr rfl,fun _=>rfl⟩
  ·rw[if_neg h4];refine⟨?_,fun q=>absurd (hl q) h4,fun y hy=>?_,fun y hy=>by simp[hy],.inl an,id⟩
   ·refine List.nodup_append.2 ⟨hn,an,fun a ha b hb e=>?_⟩;simp at hb;exact hx (by rw[<- hb,<- e];exact ha)
   ·simp at hy;exact hy.symm
section
variable {Fin:bH} {o:aM} {w:ae} {K:sj} {s s':kT} {lab:Nat->Nat}
theorem Sound.tick(h:Sound K s)(t:Nat):Sound K {s with time:=t}:=⟨h.ph,h.fd,h.src,h.idle,h.early,h.full,h.rd,h.th,h.once,h.lost⟩
theorem Sound.edit(h:Sound K s){x t:ah}(ht:t.size<=12)(st':List (ah×Int))(rE:Value):Sound K {s with th:=gU s.th x t,st:=st',qv:=rE,qn:=(iX s.qn s.lost x).1,lost:=(iX s.qn s.lost x).2}:=by
 obtain⟨q1,q2,-⟩:=Cf (x:=x) h.once h.lost;refine⟨h.ph,h.fd,h.src,h.idle,h.early,h.full,h.rd,fun y hy=>?_,q1,q2⟩;rcases IK hy with rfl|hy
 ·exact ht
 ·exact h.th y hy
theorem Sound.remove(h:Sound K s){x:ah}(st':List (ah×Int))(rE:Value):Sound K {s with th:=lI s.th x,st:=st',qv:=rE,qn:=(iX s.qn s.lost x).1,lost:=(iX s.qn s.lost x).2}:=by
 obtain⟨q1,q2,-⟩:=Cf (x:=x) h.once h.lost;exact⟨h.ph,h.fd,h.src,h.idle,h.early,h.full,h.rd,fun y hy=>h.th y (IL hy),q1,q2⟩
theorem Sound.stand(h:Sound K s){p t:Nat}(hp:p<=1):Sound K (s.stand p t):=by
 refine⟨?_,?_,?_,?_,?_,?_,?_,h.th,h.once,h.lost⟩<;>simp only[kT.stand]
 ·omega
 ·omega
 ·omega
 ·exact fun _=>⟨trivial,trivial,trivial⟩
 ·omega
 ·omega
 ·simp
theorem Sound.checked{F:dm}{file:ah->V}{v:Value}(h:Sound K s)(h3:s.phase=3)(hc:Checked K s s' F file v):Sound K s':=by
 rcases hc with⟨-,-,ir,Wh,zk,zm,-,rfl⟩|⟨h1,h2,⟨-,-,rfl⟩|⟨-,-,rfl⟩⟩
 ·have q:=h.stand (p:=0) (t:=0) aa;exact⟨q.ph,q.fd,q.src,q.idle,q.early,q.full,q.rd,q.th,q.once,q.lost⟩
 ·exact h.stand aa
 ·exact⟨h.ph,h.fd,h.src,fun q=>by have:s.phase<=1:=q;omega,fun q=>by have:s.phase=2:=q;omega,h.full,h.rd,h.th,h.once,h.lost⟩
theorem Sound.late(h:Sound K s)(h2:s.phase=2)(hf:s.rd.length=s.src.length):Sound K {s with phase:=3} :=
 ⟨an,fun _=>h.fd (.inl h2),fun _=>h.src (.inl h2),fun q=>by simp at q,fun q=>by simp at q,fun _=>hf,h.rd,h.th,h.once,h.lost⟩
theorem IM{th:List (ah×ah)}(h:∀x∈th,x.2.size<=12)(x:ah):(jE th x).2.size<=12:=by
 unfold jE;split
 ·rename_i t e;exact h _ (IJ e)
 ·simp[V0]
theorem Sound.work{F:dm}{file:ah->V}{v:Value}(h:Sound K s)(hc:kX K s s' F file v):Sound K s':=by
 rcases hc with⟨h2,⟨h3,h4⟩|⟨h3,h4,SW,rfl⟩⟩|⟨h2,h3⟩|⟨h2,h3,h4⟩
 ·exact(h.late h2 h3).checked rfl h4
 ·refine⟨h.ph,h.fd,h.src,fun q=>by have:s.phase<=1:=q;omega,h.early,fun q=>by have:s.phase=3:=q;omega,fun x hx=>?_,h.th,h.once,h.lost⟩;rcases List.mem_append.1 hx with hx|hx
  ·exact h.rd x hx
  ·simp at hx;subst hx;exact IM h.th _
 ·exact h.checked h2 h3
 ·rcases h4 with⟨-,-,rfl⟩|⟨-,-,-,lo,F',SX,rfl⟩|⟨-,-,-,rfl⟩
  ·have q:Sound K {s with qv:=.slice none 0 0,qn:=[],lost:=false}:=⟨h.ph,h.fd,h.src,h.idle,h.early,h.full,h.rd,h.th,an,an⟩;exact q.stand aa
  ·exact⟨by simp[kT.stand],fun _=>⟨lo,F',rfl⟩,fun _=>rfl,fun q=>by simp[kT.stand] at q,fun _=>rfl,fun q=>by simp[kT.stand] at q,by simp[kT.stand],h.th,h.once,h.lost⟩
  ·exact h
theorem kX.kind{F:dm}{file:ah->V}{v:Value}(hc:kX K s s' F file v):∃n x,v=did n x/\0<=n/\n<=6/\((n=1/\s'.qn=[]/\s'.lost=false)\/(n≠1/\s'.qn=s.qn/\s'.lost=s.lost))/\s'.th=s.th/\s'.st=s.st/\s'.time=s.time:=by
 have chk:∀s s':kT,Checked K s s' F file v->∃n x,v=did n x/\0<=n/\n<=6/\((n=1/\s'.qn=[]/\s'.lost=false)\/(n≠1/\s'.qn=s.qn/\s'.lost=s.lost))/\s'.th=s.th/\s'.st=s.st/\s'.time=s.time:=fun s s' hc=>by
  rcases hc with⟨-,e,ir,Wh,zk,zm,-,rfl⟩|⟨h1,h2,⟨-,e,rfl⟩|⟨-,e,rfl⟩⟩;all_goals exact⟨_,_,e,aa,aa,.inr ⟨aa,rfl,rfl⟩,rfl,rfl,rfl⟩
 rcases hc with⟨h2,⟨h3,h4⟩|⟨h3,e,SW,rfl⟩⟩|⟨h2,h3⟩|⟨h2,h3,h4⟩
 ·exact chk {s with phase:=3} s' h4
 ·exact⟨_,_,e,aa,aa,.inr ⟨aa,rfl,rfl⟩,rfl,rfl,rfl⟩
 ·exact chk _ _ h3
 ·rcases h4 with⟨-,e,rfl⟩|⟨-,-,e,lo,F',SX,rfl⟩|⟨-,-,e,rfl⟩
  ·exact⟨_,_,e,aa,aa,.inl ⟨rfl,rfl,rfl⟩,rfl,rfl,rfl⟩
  ·exact⟨_,_,e,aa,aa,.inr ⟨aa,rfl,rfl⟩,rfl,rfl,rfl⟩
  ·exact⟨_,_,e,aa,aa,.inr ⟨aa,rfl,rfl⟩,rfl,rfl,rfl⟩
theorem yz[Payload](h:bg o w K s 0 lab)(hs:Sound K s):
  bp ar (XB ar Fin 0) 38 #[.pointer (some ⟨K.kb,0,none⟩)] o w fun v o' w'=>∃s' lab' F,((s.phase=2\/s.phase=3)->∃lo,s.fd=some (lo,F))/\kX K s s' F (fileOf s.src (s.rd.map (·.1))) v/\Sound K s'/\bg o' w' K s' 0 lab'/\cK o w lab o' w' lab':=by
 have pU:∀x,(fileOf s.src (s.rd.map (·.1)) x).2.size<=100:=fun x=>by
  have:=xn s.src (s.rd.map (·.1)) (fun v hv=>by
   obtain⟨y,hy,rfl⟩:=List.mem_map.1 hv;exact hs.rd y hy) x
  omega
 have ach:s.src=iq K.B.NM K.B.rs->s.rd.length=s.src.length->s.rd.map (·.1)=(iq K.B.NM K.B.rs).map (fileOf s.src (s.rd.map (·.1))):=fun e hl=>by
  have hn:s.src.Nodup:=by rw[e];exact(pA _).1.nodup
  have:=Ce s.src (s.rd.map (·.1)) hn (by simpa using hl);rw[<- e];exact this
 obtain⟨lo,F,hF⟩:∃(lo:Nat) (F:dm),s.phase=2\/s.phase=3->s.fd=some (lo,F):=by
  by_cases hp:s.phase=2\/s.phase=3
  ·obtain⟨lo,F,e⟩:=hs.fd hp;exact⟨lo,F,fun _=>e⟩
  ·exact⟨0,⟨[],0,0,fun _=>0,.slice none 0 0⟩,fun q=>absurd q hp⟩
 refine(Yy h lo F _ pU hF (fun h2 hl=>ach (hs.src (.inl h2)) hl) (fun h3=>⟨hs.full h3,ach (hs.src (.inr h3)) (hs.full h3)⟩)).mono ?_;rintro v o' w' ⟨s',lab',hw,hk,hS⟩;exact⟨s',lab',F,fun q=>⟨lo,hF q⟩,hw,hs.work hw,hk,hS⟩
end
section
open Go.RowKit (intOf)
theorem FC(w:ae):Calls ar 60 #[] w fun e w'=>e=.returned (.pointer (some ⟨w.heap.size+2,0,none⟩))/\w'=((w.alloc (.map #[] 0)).alloc (.map #[] 0)).alloc (.cells #[.map (some w.heap.size),.map (some (w.heap.size+1))] 164):=by
 have LV:∀(t:TypeId) (w:ae),(Instr.makeMap t none).run ar w=.ok (.map (some w.heap.size)) (w.alloc (.map #[] 0)):=fun t w=>rfl;go_enter func60,ntmps60;go_wp2;go_ret;exact⟨rfl,rfl⟩
section
variable {Fin:bH} {o o':aM} {w w':ae}
structure Hand(o:aM)(w:ae)(p:Option Addr)(b c:Nat)(rs:List aL)(NM:aL->List ah)(NB:aL->Nat)(RK:ah->Nat):Prop where
 gT:rs.length<=8
 ptr:rs≠[]->p=some ⟨b,0,none⟩/\o b
 nil:p=none->rs=[]
 at_:dX w b rs
 cl:Cl ar L0 o (.slice p rs.length c)
 cap:rs.length<=c
 nm:∀r∈rs,r.sl=(NM r).length/\(NM r≠[]->r.sa=some ⟨NB r,0,none⟩/\o (NB r))/\dP w (NB r) 0 (NM r)/\(NM r).length<=4
 nmn:∀r∈rs,r.sa=none->NM r=[]
 yes:Cc rs NM RK
 low:∀r∈rs,RK r.out<rs.length
theorem Hand.rin{p:Option Addr}{b c:Nat}{rs:List aL}{NM:aL->List ah}{NB:aL->Nat}{RK:ah->Nat}{wl:ae}(h:Hand o w p b c rs NM NB RK)(hF:bE ar L0 o w)(hz:wl.heap.size=w.heap.size)(aE:∀b,o b->wl.heap[b]?=w.heap[b]?):oK wl p b rs NM NB:=by
 refine⟨h.gT,fun q=>⟨(h.ptr q).1,by rw[hz];exact hF.lt (h.ptr q).2⟩,fun i hi=>?_,fun r hr=>⟨(h.nm r hr).1,fun q=>⟨((h.nm r hr).2.1 q).1,by rw[hz];exact hF.lt ((h.nm r hr).2.1 q).2⟩,fun k hk=>?_,(h.nm r hr).2.2.2⟩⟩
 ·exact gp h.at_ (aE b (h.ptr (fun q=>by rw[q] at hi;simp at hi)).2) i hi
 ·exact cI (h.nm r hr).2.2.1 (aE _ ((h.nm r hr).2.1 (fun q=>by rw[q] at hk;simp at hk)).2) k hk
theorem UX{p:Option Addr}{b c:Nat}{rs:List aL}{NM:aL->List ah}{NB:aL->Nat}{RK:ah->Nat}(hF:bE ar L0 o w)(h:Hand o w p b c rs NM NB RK):
  bp ar (XB ar Fin 0) 39 #[.slice p rs.length c] o w fun v o' w'=>v=.tuple #[.int .i64 0,.int .i64 0]/\fw o w v o' w':=by
 refine bp.mono (dS af hF (fun y hy=>by simp at hy;subst hy;exact h.cl) (Q:=fun wl v w'=>v=.tuple #[.int .i64 0,.int .i64 0]) (fun wl Ai v w1 w2 e1 e2 h=>h) (fun wl hz aE=>?_)) (fun v o' w' hq=>?_)
 ·refine(OF p b c rs NM NB RK wl (h.rin hF hz aE) h.yes h.cap).mono fun e w' hq=>?_;obtain⟨rfl,h1,h2⟩:=hq;exact⟨_,rfl,h2,fun b hb=>h1.block b hb,rfl⟩
 ·obtain⟨hN,wl,aI,-,-,-,h1⟩:=hq;exact⟨h1,hN⟩
theorem xo{w1 w2:ae}{b off:Nat}(e:w2.heap[b]?=w1.heap[b]?):w2.cell? ⟨b,off,none⟩=w1.cell? ⟨b,off,none⟩:=World.cell?_of_block (w:=w1) (w':=w2) (a:=⟨b,off,none⟩) e
theorem YD{p:Option Addr}{b c:Nat}{rs:List aL}{NM:aL->List ah}{NB:aL->Nat}{RK:ah->Nat}(hF:bE ar L0 o w)(h:Hand o w p b c rs NM NB RK):
  bp ar (XB ar Fin 0) 41 #[.slice p rs.length c] o w fun v o' w'=>fw o w v o' w'/\Ld w.heap.size rs NM v w':=by
 refine bp.mono (dS af hF (fun y hy=>by simp at hy;subst hy;exact h.cl) (Q:=fun wl v w'=>Ld wl.heap.size rs NM v w') (fun wl Ai v w1 w2 e1 e2 h=>?_) (fun wl hz aE=>?_)) (fun v o' w' hq=>?_)
 ·rw[e1];obtain⟨bb,Rb,Ru,c,p',f,h1,h2,h3,h4,h5,h6,h7,h8⟩:=h.ex;refine⟨bb,Rb,Ru,c,p',f,h1,h2,h3,by rw[e2];exact h4,h5,fun i hi=>?_,by rw[e2];exact h7,h8.of_block (by rw[e2])⟩;obtain⟨k1,k2,k3,k4⟩:=h6 i hi;exact⟨(xo (by rw[e2])).trans k1,(xo (by rw[e2])).trans k2,(xo (by rw[e2])).trans k3,k4.keep (ag _) fun g _ _=>by rw[e2]⟩
 ·refine(RN p b c rs NM NB wl (h.rin hF hz aE) h.nil h.nmn).mono fun e w' hq=>?_;obtain⟨v,rfl,h1,h2,h3⟩:=hq;exact⟨_,rfl,h2,fun b hb=>h1.block b hb,h3⟩
 ·obtain⟨hN,wl,aI,z1,z2,hs,h3⟩:=hq;refine⟨hN,?_⟩;rw[z1] at h3;obtain⟨bb,Rb,Ru,c,p',f,h1,h2,h3,h4,h5,h6,h7,h8⟩:=h3.ex;refine⟨bb,Rb,Ru,c,p',f,h1,h2,h3,aa,h5,fun i hi=>?_,(hs bb aa aa).trans h7,h8.of_block (hs Rb h2 aa)⟩;obtain⟨k1,k2,k3,k4⟩:=h6 i hi;have xz:w.heap.size<=Ru/\Ru<Rb:=by
   rcases h5 with⟨-,e⟩|⟨-,q1,q2⟩
   ·rw[e] at hi;simp at hi
   ·exact⟨q1,q2⟩
  have e:=hs Ru xz.1 aa;exact⟨(xo e).trans k1,(xo e).trans k2,(xo e).trans k3,k4.keep (ag _) fun g g1 g2=>hs g aa aa⟩
theorem Le(hF:bE ar L0 o w):
  bp ar (XB ar Fin 0) 60 #[] o w fun v o' w'=>fw o w v o' w'/\v=.pointer (some ⟨w.heap.size+2,0,none⟩)/\w'.heap.size=w.heap.size+3/\w'.heap[w.heap.size]?=some (.map #[] 0)/\w'.heap[w.heap.size+1]?=some (.map #[] 0)/\w'.heap[w.heap.size+2]?=some (.cells #[.map (some w.heap.size),.map (some (w.heap.size+1))] 164):=by
 refine bp.mono (dS af hF (fun y hy=>by simp at hy) (Q:=fun wl v w'=>v=.pointer (some ⟨wl.heap.size+2,0,none⟩)/\w'.heap.size=wl.heap.size+3/\w'.heap[wl.heap.size]?=some (.map #[] 0)/\w'.heap[wl.heap.size+1]?=some (.map #[] 0)/\w'.heap[wl.heap.size+2]?=some (.cells #[.map (some wl.heap.size),.map (some (wl.heap.size+1))] 164)) (fun wl Ai v w1 w2 e1 e2 h=>?_) (fun wl hz aE=>?_)) (fun v o' w' hq=>?_)
 ·rw[e1,e2];exact h
 ·refine(FC wl).mono fun e w' hq=>?_;obtain⟨rfl,rfl⟩:=hq;refine⟨_,rfl,eR,fun b hb=>?_,rfl,an,?_,?_,?_⟩
  ·rw[alloc_old _ _ _ eR,alloc_old _ _ _ eR,alloc_old _ _ _ hb]
  ·rw[alloc_old _ _ _ eR,alloc_old _ _ _ an,jR]
  ·rw[alloc_old _ _ _ an];exact heap_alloc2_new _ _ _
  ·have:=jR ((wl.alloc (.map #[] 0)).alloc (.map #[] 0)) (.cells #[.map (some wl.heap.size),.map (some (wl.heap.size+1))] 164);simpa using this
 ·obtain⟨hN,wl,aI,z1,z2,hs,rfl,h2,h3,h4,h5⟩:=hq;rw[z1] at h2 h3 h4 h5 hN |-;exact⟨hN,rfl,aa,(hs _ aa aa).trans h3,(hs _ aa aa).trans h4,(hs _ aa aa).trans h5⟩
end
end
def ZF:Value->Option Addr
 | .slice a _ _=>a
 |_=>none
def slL:Value->Nat
 | .slice _ l _=>l
 |_=>0
def slC:Value->Nat
 | .slice _ _ c=>c
 |_=>0
def Mo(rs:List aL)(f:Nat->Value)(i:Nat):aL:=⟨((rs[i]?).map (·.out)).getD aN,((rs[i]?).map (·.eD)).getD 0,ZF (f i),slL (f i),slC (f i)⟩
def jq(rs:List aL)(f:Nat->Value):List aL:=(List.range rs.length).map (Mo rs f)
theorem rL(rs:List aL)(f:Nat->Value):(jq rs f).length=rs.length:=by simp[jq]
theorem oM(rs:List aL)(f:Nat->Value)(i:Nat)(h:i<rs.length)(h':i<(jq rs f).length):(jq rs f)[i]=⟨rs[i].out,rs[i].eD,ZF (f i),slL (f i),slC (f i)⟩:=by simp[jq,Mo,h]
theorem qd(rs:List aL)(f:Nat->Value):(jq rs f).map (·.out)=rs.map (·.out):=by
 apply List.ext_getElem
 ·simp[rL]
 ·intro i h1 h2;have hi:i<rs.length:=by simpa using h2
  simp[oM rs f i hi]
theorem oN{rs:List aL}{f:Nat->Value}{r:aL}(h:r∈jq rs f):∃i,∃hi:i<rs.length,r=⟨rs[i].out,rs[i].eD,ZF (f i),slL (f i),slC (f i)⟩:=by
 obtain⟨i,hi,rfl⟩:=a8 h;have lQ:i<rs.length:=by rw[<- rL rs f];exact hi
 exact⟨i,lQ,oM rs f i lQ hi⟩
def Di:List aL->(aL->List ah)->ah->List ah
 | [],_,_=>[]
 |r::l,NM,x=>if r.out=x then NM r else Di l NM x
theorem Mp{NM:aL->List ah}:∀{rs:List aL},(rs.map (·.out)).Nodup->∀r∈rs,Di rs NM r.out=NM r
 | [],_,r,h=>by simp at h
 |q::l,hn,r,h=>by
  rw[bU,cS] at hn;unfold Di;rcases List.mem_cons.1 h with rfl|h
  ·rw[if_pos rfl]
  ·rw[if_neg (fun e=>hn.1 (by rw[e];exact List.mem_map.2 ⟨r,h,rfl⟩)),Mp hn.2 r h]
structure tX(rs:List aL)(NM:aL->List ah)(RK:ah->Nat)(B:zf):Prop where
 len:B.rs.length=rs.length
 at_:∀i (h:i<rs.length) (h':i<B.rs.length),B.rs[i].out=rs[i].out/\B.rs[i].eD=rs[i].eD/\B.NM B.rs[i]=NM rs[i]
 outs:B.rs.map (·.out)=rs.map (·.out)
 rk:B.RK=RK
section
variable {Fin:bH} {o o':aM} {w w':ae}
theorem IN{lo:Nat}{rs:List aL}{NM:aL->List ah}{RK:ah->Nat}{v:Value}(hF:bE ar L0 o' w')(uL:4<=lo)(own:∀b,lo<=b->b<w'.heap.size->o' b)(gT:rs.length<=8)(yes:Cc rs NM RK)(low:∀r∈rs,RK r.out<rs.length)(four:∀r∈rs,(NM r).length<=4)(pow:jB w')(N:Ld lo rs NM v w'):
  ∃B:zf,v=.pointer (some ⟨B.bb,0,none⟩)/\fq o' w' B none (fun _=>none)/\tX rs NM RK B/\(∀b,mB B none (fun _=>none) b->b=1\/(lo<=b/\b<=B.bb))/\lo<=B.bb/\B.bb<w'.heap.size:=by
 obtain⟨bb,Rb,Ru0,c,p',f,h1,h2,h3,h4,h5,h6,h7,h8⟩:=N.ex;have o1:o' 1:=hF.jF 1 (by rw[show ar.globals.size=4 by kernel_rfl];omega);obtain⟨Ru,hp,xz,h6⟩:∃Ru,((p'=none/\rs=[])\/p'=some ⟨Ru,0,none⟩)/\(Ru=1\/(lo<=Ru/\Ru<Rb))/\∀i (h:i<rs.length),w'.cell? ⟨Ru,i*3,none⟩=some (.string rs[i].out)/\w'.cell? ⟨Ru,i*3+1,none⟩=some (.int .i64 rs[i].eD)/\w'.cell? ⟨Ru,i*3+2,none⟩=some (f i)/\(lo<=Ru/\tB Ru Rb (f i) (NM rs[i]) w'):=by
  rcases h5 with⟨e1,e2⟩|⟨e1,e2,e3⟩
  ·exact⟨1,.inl ⟨e1,e2⟩,.inl rfl,fun i hi=>by rw[e2] at hi;simp at hi⟩
  ·exact⟨Ru0,.inr e1,.inr ⟨e2,e3⟩,fun i hi=>⟨(h6 i hi).1,(h6 i hi).2.1,(h6 i hi).2.2.1,e2,(h6 i hi).2.2.2⟩⟩
 have oRu:o' Ru:=by
  rcases xz with rfl|q
  ·exact o1
  ·exact own Ru q.1 aa
 have hlen:=rL rs f;have xV:∀i (hi:i<rs.length),Di rs NM rs[i].out=NM rs[i]:=fun i hi=>Mp yes.nodup _ (aD hi);have Fl:∀i (hi:i<rs.length),f i=.slice (ZF (f i)) (slL (f i)) (slC (f i))/\slL (f i)=(NM rs[i]).length/\((ZF (f i)=none/\NM rs[i]=[])\/∃g,ZF (f i)=some ⟨g,0,none⟩/\lo<=g/\g<Rb/\dP w' g 0 (NM rs[i])):=fun i hi=>by
  obtain⟨-,-,-,k1,k2⟩:=h6 i hi;rcases k2 with⟨e1,e2⟩|⟨g,cap,e1,e2,e3,e4⟩
  ·rw[e1,e2];exact⟨rfl,rfl,.inl ⟨rfl,rfl⟩⟩
  ·rw[e1];exact⟨rfl,rfl,.inr ⟨g,rfl,aa,e3,e4⟩⟩
 have hR:mQ (jq rs f) (fun r=>Di rs NM r.out) RK:=by
  refine⟨by rw[qd];exact yes.nodup,fun r hr=>?_,fun r hr x hx ho=>?_,fun r hr=>?_,fun r hr=>?_⟩;all_goals obtain⟨i,hi,rfl⟩:=oN hr
  ·rw[hlen];exact low rs[i] (aD hi)
  ·simp only[xV i hi] at hx;rw[qd] at ho;exact yes.Ig _ (aD hi) x hx ho
  ·exact yes.eD rs[i] (aD hi)
  ·simp only[xV i hi];exact four _ (aD hi)
 have EK:∀r∈jq rs f,Di rs NM r.out≠[]->lo<=(r.sa.map (·.block)).getD 0/\(r.sa.map (·.block)).getD 0<Rb:=fun r hr cV=>by
  obtain⟨i,hi,rfl⟩:=oN hr;simp only[xV i hi] at cV;obtain⟨-,-,q⟩:=Fl i hi;rcases q with⟨-,q⟩|⟨g,q,q1,q2,-⟩
  ·exact absurd q cV
  ·simp only[q,Option.map_some,Option.getD_some];exact⟨q1,q2⟩
 have hOK:kQ o' w' p' Ru c (jq rs f) (fun r=>Di rs NM r.out) (fun r=>(r.sa.map (·.block)).getD 0):=by
  refine⟨aa,fun cV=>?_,oRu,fun i hi=>?_,fun r hr=>?_,?_,fun r hr=>?_⟩
  ·rcases hp with⟨-,e⟩|e
   ·exact absurd (by subst e;rfl) cV
   ·exact e
  ·have lQ:i<rs.length:=aa;obtain⟨k0,k1,k2,-⟩:=h6 i lQ;rw[oM rs f i lQ hi];refine⟨k0,k1,?_⟩;rw[k2];exact congrArg some (Fl i lQ).1
  ·obtain⟨i,hi,rfl⟩:=oN hr;obtain⟨-,-,q⟩:=Fl i hi;rcases q with⟨q,-⟩|⟨g,q,q1,q2,-⟩
   ·simp only[q];exact gS
   ·simp only[q];exact di (own g q1 aa)
  ·rcases hp with⟨e,-⟩|e
   ·rw[e];exact gS
   ·rw[e];exact di oRu
  ·obtain⟨i,hi,rfl⟩:=oN hr;obtain⟨-,q0,q⟩:=Fl i hi;simp only[xV i hi];refine⟨q0,fun cV=>?_,?_,four _ (aD hi)⟩
   ·rcases q with⟨-,q⟩|⟨g,q,q1,q2,-⟩
    ·exact absurd q cV
    ·simp only[q,Option.map_some,Option.getD_some];exact⟨trivial,own g q1 aa⟩
   ·rcases q with⟨-,q⟩|⟨g,q,q1,q2,q3⟩
    ·rw[q];exact fun k hk=>by simp at hk
    ·simp only[q,Option.map_some,Option.getD_some];exact q3
 obtain⟨cs,r1,r2,r3⟩:=h8;have cm:∀s,s<rs.length->∀j,j<4->w'.cell? ⟨Rb,s*4+j,none⟩=some (rK (s*4+j)):=fun s hs j hj=>World.rowIs.cell (b:=Rb) ⟨cs,r1,r2,r3⟩ (show s*4+j<rs.length*4 by omega);refine⟨⟨bb,p',Ru,c,Rb,jq rs f,fun r=>Di rs NM r.out,fun r=>(r.sa.map (·.block)).getD 0,RK⟩,h1,⟨fun b hb=>?_,hR,hOK,?_,⟨_,_,_,by simp only[hlen];exact h7,(fun lo F e=>by cases e)⟩,(fun lo F e=>by cases e),fun _ _ _=>rfl,⟨cs,r1,by rw[r2,hlen]⟩,fun s hs r _=>?_,(fun s b vs _ e=>by cases e),pow⟩,⟨hlen,fun i h h'=>?_,qd rs f,rfl⟩,fun b hb=>?_,by simp only;omega,h4⟩
 ·rcases hb with rfl|rfl|rfl|rfl|⟨r,hr,q1,rfl⟩|⟨lo,F,q,-⟩|⟨s,vs,-,q⟩
  ·exact own _ aa h4
  ·exact oRu
  ·exact own _ h2 aa
  ·exact o1
  ·obtain⟨k1,k2⟩:=EK r hr q1;exact own _ k1 (jN k2 aa)
  ·cases q
  ·cases q
 ·show Ru≠bb/\Rb≠bb/\(∀r∈jq rs f,Di rs NM r.out≠[]->(r.sa.map (·.block)).getD 0≠bb)/\4<=Rb/\4<=bb/\Ru≠Rb/\(∀r∈jq rs f,Di rs NM r.out≠[]->(r.sa.map (·.block)).getD 0≠Rb);refine⟨aa,aa,fun r hr q=>?_,aa,aa,aa,fun r hr q=>?_⟩
  ·have:=EK r hr q;omega
  ·have:=EK r hr q;omega
 ·simp only[hlen] at hs;have e0:s*4%4=0:=aa;have e1:(s*4+1)%4=1:=aa;have e2:(s*4+2)%4=2:=aa;have e3:(s*4+3)%4=3:=aa;refine⟨?_,?_,?_,?_⟩
  ·have:=cm s hs 0 aa;simpa[rK,e0] using this
  ·have:=cm s hs 1 aa;simpa[rK,e1] using this
  ·have:=cm s hs 2 aa;simpa[rK,e2] using this
  ·have:=cm s hs 3 aa;simpa[rK,e3] using this
 ·simp only[oM rs f i h h',xV i h];exact⟨trivial,trivial,trivial⟩
 ·rcases hb with rfl|rfl|rfl|rfl|⟨r,hr,q1,rfl⟩|⟨lo,F,q,-⟩|⟨s,vs,-,q⟩
  ·exact .inr ⟨jO (Nat.lt_of_le_of_lt h2 h3),ag _⟩
  ·rcases xz with e|q
   ·exact .inl e
   ·exact .inr ⟨q.1,jO (jN q.2 h3)⟩
  ·exact .inr ⟨h2,jO h3⟩
  ·exact .inl rfl
  ·obtain⟨k1,k2⟩:=EK r hr q1;exact .inr ⟨k1,jO (jN k2 h3)⟩
  ·cases q
  ·cases q
end
def s0(pb:Nat):kT where
 fd:=none
 old:=fun _=>none
 th:=[]
 st:=[]
 qv:=.slice none 0 0
 qn:=[]
 lost:=false
 time:=0
 phase:=0
 since:=0
 sv:=.slice none 0 0
 src:=[]
 rv:=.slice none 0 0
 rd:=[]
 ck:=0
 pb:=pb
 num:=0
 kW:=.slice none 0 0
 res:=[]
 mz:=.slice none 0 0
 ku:=[]
theorem RQ(K:sj)(pb:Nat):Sound K (s0 pb):=⟨by simp[s0],by simp[s0],by simp[s0],fun _=>⟨rfl,rfl,rfl⟩,by simp[s0],by simp[s0],by simp[s0],by simp[s0],by simp[s0],by simp[s0]⟩
section
variable {Fin:bH} {o o':aM} {w w':ae}
theorem Ld.keep{lo:Nat}{rs:List aL}{NM:aL->List ah}{v:Value}{w w':ae}(h:Ld lo rs NM v w)(hz:w.heap.size<=w'.heap.size)(e:∀b,lo<=b->b<w.heap.size->w'.heap[b]?=w.heap[b]?):Ld lo rs NM v w':=by
 obtain⟨bb,Rb,Ru,c,p',f,h1,h2,h3,h4,h5,h6,h7,h8⟩:=h.ex;refine⟨bb,Rb,Ru,c,p',f,h1,h2,h3,aa,h5,fun i hi=>?_,(e bb aa h4).trans h7,h8.of_block (e Rb h2 aa)⟩;obtain⟨k1,k2,k3,k4⟩:=h6 i hi;have xz:lo<=Ru/\Ru<Rb:=by
  rcases h5 with⟨-,e⟩|⟨-,q1,q2⟩
  ·rw[e] at hi;simp at hi
  ·exact⟨q1,q2⟩
 have e':=e Ru xz.1 aa;exact⟨(xo e').trans k1,(xo e').trans k2,(xo e').trans k3,k4.keep (ag _) fun g g1 g2=>e g aa aa⟩
def OI(lo bb mT kb pb b:Nat):Nat:=if b=kb then 0 else if b=pb then 6 else if mT<=b/\b<=mT+2 then 2 else if b=1 then 8 else if lo<=b/\b<=bb then 1 else 7
theorem Lg{lo mT kb pb:Nat}{B:zf}(hF:bE ar L0 o' w')(hB:fq o' w' B none (fun _=>none))(zp:∀b,mB B none (fun _=>none) b->b=1\/(lo<=b/\b<=B.bb))(uL:4<=lo)(h1:B.bb<mT)(hlb:lo<=B.bb)(h2:mT+2<kb)(h3:kb<pb)(own:∀b,lo<=b->b<w'.heap.size->o' b)(hpb:pb<w'.heap.size)(m1:w'.heap[mT]?=some (.map #[] 0))(m2:w'.heap[mT+1]?=some (.map #[] 0))(m3:w'.heap[mT+2]?=some (.cells #[.map (some mT),.map (some (mT+1))] 164))(hk:w'.heap[kb]?=some (.cells #[.int .i32 0,.int .u32 0,.pointer (some ⟨B.bb,0,none⟩),.pointer (some ⟨mT+2,0,none⟩),.slice none 0 0,.bool false,.int .i64 0,.int .i64 0,.int .i64 0,.slice none 0 0,.slice none 0 0,.int .i64 0,.pointer (some ⟨pb,0,none⟩)] 120))(hp:w'.heap[pb]?=some (.cells #[.int .i64 0,.slice none 0 0,.slice none 0 0] 59)):
  bg o' w' ⟨B,kb,mT+2,mT,mT+1⟩ (s0 pb) 0 (OI lo B.bb mT kb pb):=by
 refine⟨hF,⟨_,hk,rfl,fun j hj=>?_⟩,own kb aa aa,hB,⟨m3,⟨#[],0,m1,rfl⟩,⟨#[],0,m2,rfl⟩,⟨own (mT+2) aa aa,own mT aa aa,own (mT+1) aa aa⟩,show mT+2≠mT/\mT+2≠mT+1/\mT≠mT+1 by omega⟩,?_,⟨⟨none,0,0,rfl,fun _=>rfl,fun q=>absurd rfl q,fun k hk=>by simp[s0] at hk⟩,gS,by simp[s0]⟩,⟨⟨0,aQ _,rfl,.inl ⟨rfl,rfl⟩⟩,gS,by simp[s0]⟩,⟨hp,own pb aa hpb,⟨none,0,0,rfl,fun _=>rfl,fun q=>absurd rfl q,fun i hi=>by simp[s0] at hi⟩,gS,by simp[s0],⟨⟨none,0,0,rfl,fun _=>rfl,fun q=>absurd rfl q,fun k hk=>by simp[s0] at hk⟩,gS,by simp[s0]⟩⟩,?_,fun b hb=>?_,fun b hb=>?_,(fun b hb=>by cases hb),(fun b hb=>by cases hb),(fun b hb=>by cases hb),fun b hb=>?_,by simp[s0]⟩
 ·rcases mm hj with rfl|rfl|rfl|rfl|rfl|rfl|rfl|rfl|rfl|rfl|rfl|rfl|rfl<;>rfl
 ·exact⟨⟨0,aQ _,rfl,.inl ⟨rfl,rfl⟩⟩,gS⟩
 ·simp[OI]
 ·have:=zp b hb;simp only[OI];rw[if_neg aa,if_neg aa,if_neg aa];unfold KY;by_cases e:b=1
  ·rw[if_pos e,if_pos e]
  ·rw[if_neg e,if_neg e,if_pos (this.resolve_left e)]
 ·have:mT<=b/\b<=mT+2:=by simp only at hb;omega
  simp only[OI];rw[if_neg aa,if_neg aa,if_pos this]
 ·rcases hb with hb|hb|hb
  ·have:b=pb:=hb;subst this;simp only[OI];rw[if_neg aa,if_pos trivial]
  ·cases hb
  ·cases hb
theorem Wn{p:Option Addr}{b c:Nat}{rs:List aL}{NM:aL->List ah}{NB:aL->Nat}{RK:ah->Nat}(hF:bE ar L0 o w)(h:Hand o w p b c rs NM NB RK)(pow:jB w):
  bp ar (XB ar Fin 0) 34 #[.slice p rs.length c] o w fun v o' w'=>∃K pb lab,v=.tuple #[.pointer (some ⟨K.kb,0,none⟩),.int .i64 0]/\bg o' w' K (s0 pb) 0 lab/\bu (fun _=>False) o w o' w'/\tX rs NM RK K.B/\(∀b,b<w.heap.size->7<=lab b/\(b≠1->lab b=7))/\w.heap.size<=K.kb:=by
 have W:=bJ (P:=ar) (Fin:=Fin) (d:=0);have g4:ar.globals.size=4:=af;refine bA W func34 ai ?_;walk_nrmf Tryz.f34;refine aA ?_;refine aF W rfl ai rfl func39 af rfl aC rfl ((UX hF h).mono ?_);rintro v1 o1 w1 ⟨rfl,N1⟩;have W1:bu (fun _=>False) o w o1 w1:=bu.dL N1;have hz:=hF.size;have h1:Hand o1 w1 p b c rs NM NB RK:=by
  refine⟨h.gT,fun q=>⟨(h.ptr q).1,W1.more _ (h.ptr q).2⟩,h.nil,fun i hi=>?_,h.cl.up W1.more,h.cap,fun r hr=>⟨(h.nm r hr).1,fun q=>⟨((h.nm r hr).2.1 q).1,W1.more _ ((h.nm r hr).2.1 q).2⟩,fun k hk=>?_,(h.nm r hr).2.2.2⟩,h.nmn,h.yes,h.low⟩
  ·exact gp h.at_ (N1.old _ (hF.lt (h.ptr (fun q=>by rw[q] at hi;simp at hi)).2)) i hi
  ·exact cI (h.nm r hr).2.2.1 (N1.old _ (hF.lt ((h.nm r hr).2.1 (fun q=>by rw[q] at hk;simp at hk)).2)) k hk
 refine aA ?_;refine aF W rfl ai rfl func41 af rfl aC rfl ((YD N1.ay h1).mono ?_);rintro v2 o2 w2 ⟨N2,B2⟩;have W2:bu (fun _=>False) o1 w1 o2 w2:=bu.dL N2;obtain⟨bb,tt,Uf,I2⟩:∃bb,w1.heap.size<=bb/\bb<w2.heap.size/\v2=.pointer (some ⟨bb,0,none⟩):=by
  obtain⟨bb,Rb,Ru,c,p',f,h1,h2,h3,h4,-⟩:=B2.ex;exact⟨bb,aa,h4,h1⟩
 subst I2;have obb:o2 bb:=by rw[N2.own];exact .inr ⟨tt,Uf⟩
 refine aA ?_;refine aF W rfl ai rfl func60 af rfl aC rfl ((Le N2.ay).mono ?_);rintro v3 o3 w3 ⟨N3,rfl,z3,m1,m2,m3⟩;have W3:bu (fun _=>False) o2 w2 o3 w3:=bu.dL N3;have ofb:o3 (w2.heap.size+2):=by rw[N3.own];exact .inr ⟨aa,aa⟩
 have agB:∀b,w1.heap.size<=b->b<w3.heap.size->o3 b:=fun b q1 q2=>by
  by_cases q:b<w2.heap.size
  ·exact W3.more _ (by rw[N2.own];exact .inr ⟨q1,q⟩)
  ·rw[N3.own];exact .inr ⟨aa,q2⟩
 have B3:=B2.keep W3.size fun b q1 q2=>N3.old b q2;have ana:bb<w2.heap.size:=Uf;generalize w2.heap.size=mT at *;refine aA ?_;refine cq aX N3.ay rfl ai ai ?_ rfl (R:=fun wl v aI=>v=.pointer (some ⟨wl.heap.size,0,none⟩)/\aI=wl.alloc (Obj.cells #[.int .i32 0,.int .u32 0,.pointer (some ⟨bb,0,none⟩),.pointer (some ⟨mT+2,0,none⟩),.slice none 0 0,.bool false,.int .i64 0,.int .i64 0,.int .i64 0,.slice none 0 0,.slice none 0 0,.int .i64 0,.pointer none] 120)) (fun wl aE=>⟨_,_,by first|(simp[go_sem];done)|(simp[go_sem];rfl),rfl,rfl⟩) fun wl v1 aI w4 aE hR ba=>?_
 ·refine cj ?_;refine cJ (vs:=[_,_,_,_,_,_,_,_,_,_,_,_,_]) (fun x hx=>?_);simp at hx;rcases hx with rfl|rfl|rfl|rfl|rfl|rfl|rfl|rfl|rfl|rfl;all_goals first|exact bN|exact gS|exact kn|exact Aa|exact aH ofb|exact aH (W3.more _ obb)
 obtain⟨rfl,hR⟩:=hR;obtain⟨z4,k4,si⟩:=ba.alloc N3.ay aE hR;obtain⟨W4,hK4⟩:=bu.mn ba.ay z4 k4;rw[aE.size];have agC:∀b,w1.heap.size<=b->b<w4.heap.size->grow o3 w3 w4 b:=fun b q1 q2=>by
  by_cases q:b<w3.heap.size
  ·exact W4.more _ (agB b q1 q)
  ·exact .inr ⟨aa,q2⟩
 clear hR ba aE wl aI;generalize grow o3 w3 w4=o4 at *;refine aA ?_;refine cq aX W4.ay rfl ai ai ?_ rfl (R:=fun wl v aI=>v=.pointer (some ⟨wl.heap.size,0,none⟩)/\aI=wl.alloc (Obj.cells #[.int .i64 0,.slice none 0 0,.slice none 0 0] 59)) (fun wl aE=>⟨_,_,by first|(simp[go_sem];done)|(simp[go_sem];rfl),rfl,rfl⟩) fun wl v1 aI w5 aE hR ba=>?_
 ·refine cj ?_;refine cJ (vs:=[_,_,_]) (fun x hx=>?_);simp at hx;rcases hx with rfl|rfl;all_goals first|exact bN|exact gS
 obtain⟨rfl,hR⟩:=hR;obtain⟨z5,k5,Jj⟩:=ba.alloc W4.ay aE hR;obtain⟨W5,hP5⟩:=bu.mn ba.ay z5 k5;rw[aE.size];have acj:∀b,w1.heap.size<=b->b<w5.heap.size->grow o4 w4 w5 b:=fun b q1 q2=>by
  by_cases q:b<w4.heap.size
  ·exact W5.more _ (agC b q1 q)
  ·exact .inr ⟨aa,q2⟩
 clear hR ba aE wl aI;generalize grow o4 w4 w5=o5 at *;have kk5:=(k5 w3.heap.size aa).trans si;have z45:w3.heap.size<w4.heap.size:=aa;refine aA ?_;refine aF W rfl ai rfl func61 af rfl aC rfl ((BS w3.heap.size 12 w4.heap.size _ _ _ (.pointer none) (by simp[World.cell?,kk5]) (by simp[World.frozen?,kk5]) Jj).mono ?_);rintro v6 o6 w6 ⟨rfl,rfl,rfl⟩;have RG:=fW w5 w3.heap.size 12 (.pointer (some ⟨w4.heap.size,0,none⟩));have kk6:(w5.setCell ⟨w3.heap.size,12,none⟩ (.pointer (some ⟨w4.heap.size,0,none⟩))).heap[w3.heap.size]?=some (.cells #[.int .i32 0,.int .u32 0,.pointer (some ⟨bb,0,none⟩),.pointer (some ⟨mT+2,0,none⟩),.slice none 0 0,.bool false,.int .i64 0,.int .i64 0,.int .i64 0,.slice none 0 0,.slice none 0 0,.int .i64 0,.pointer (some ⟨w4.heap.size,0,none⟩)] 120):=by
  simp[World.setCell,Array.getElem?_modify,kk5]
 have C3:bE ar L0 o6 (w5.setCell ⟨w3.heap.size,12,none⟩ (.pointer (some ⟨w4.heap.size,0,none⟩))):=Go.Conc.bE.setCell W5.ay (aH hP5);generalize w5.setCell ⟨w3.heap.size,12,none⟩ (.pointer (some ⟨w4.heap.size,0,none⟩))=w6 at *;have z6:=RG.1;have z12:=W1.size;have z21:=W2.size;have z32:=W3.size;have m16:=((RG.2 mT aa).trans ((k5 mT aa).trans (k4 mT aa))).trans m1;have m26:=((RG.2 (mT+1) aa).trans ((k5 (mT+1) aa).trans (k4 (mT+1) aa))).trans m2;have m36:=((RG.2 (mT+2) aa).trans ((k5 (mT+2) aa).trans (k4 (mT+2) aa))).trans m3;have kp6:=(RG.2 w4.heap.size aa).trans Jj;have hold:∀b,b<w3.heap.size->w6.heap[b]?=w3.heap[b]?:=fun b hb=>(RG.2 b aa).trans ((k5 b aa).trans (k4 b hb));have B6:=B3.keep (w':=w6) aa fun b q1 q2=>hold b q2;have o1w:∀b,b<w.heap.size->w6.heap[b]?=w.heap[b]?:=fun b hb=>by rw[hold b aa,N3.old b aa,N2.old b aa,N1.old b hb]
 have agE:jB w6:=fun q hq=>(cell_of (o1w 1 aa)).trans (pow q hq);obtain⟨B,e1,hB,hS,zp,Ag,pE⟩:=IN C3 aa (fun b q1 q2=>acj b q1 aa) h.gT h.yes h.low (fun r hr=>(h.nm r hr).2.2.2) agE B6;have e2:B.bb=bb:=by injection e1 with e1;injection e1 with e1;injection e1 with e1 _ _;exact e1.symm
 rw[<- e2] at kk6;have hk:=Lg (mT:=mT) (kb:=w3.heap.size) (pb:=w4.heap.size) C3 hB zp aa aa Ag aa aa (fun b q1 q2=>acj b q1 aa) aa m16 m26 m36 kk6 kp6;clear B6 B3 B2 hB zp;refine aA ?_;refine⟨.inr trivial,trivial,_,resultsC_tmp2 (t:=2) (u:=3) ai _,_,w4.heap.size,_,by first|(simp[Act.eval];done)|(simp[Act.eval];rfl),hk,⟨C3,fun b hb=>W5.more _ (W4.more _ (W3.more _ (W2.more _ (W1.more _ hb)))),fun b hb=>?_,aa,fun b hb _=>o1w b hb⟩,hS,fun b hb=>?_,by simp only;omega⟩
 ·by_cases q:b<w.heap.size
  ·refine .inl ?_;have a5:=(W5.new b hb).resolve_right aa;have a4:=(W4.new b a5).resolve_right aa;have a3:=(W3.new b a4).resolve_right aa;have a2:=(W2.new b a3).resolve_right aa;exact(W1.new b a2).resolve_right aa
  ·exact .inr aa
 ·simp only[OI];rw[if_neg aa,if_neg aa,if_neg aa];by_cases e:b=1
  ·rw[if_pos e];exact⟨aa,fun q=>absurd e q⟩
  ·rw[if_neg e,if_neg aa];exact⟨ag _,fun _=>rfl⟩
def iG:Array Value:=(je.map Value.string).toArray
theorem FD(hF:bE ar L0 o w):
  bp ar (XB ar Fin 0) 18 #[] o w fun v o' w'=>fw o w v o' w'/\v=.slice (some ⟨w.heap.size,0,none⟩) 6 6/\w'.heap.size=w.heap.size+1/\w'.heap[w.heap.size]?=some (.cells iG 9):=by
 refine bp.mono (dS af hF (fun y hy=>by simp at hy) (Q:=fun wl v w'=>v=.slice (some ⟨wl.heap.size,0,none⟩) 6 6/\w'.heap.size=wl.heap.size+1/\w'.heap[wl.heap.size]?=some (.cells iG 9)) (fun wl Ai v w1 w2 e1 e2 h=>?_) (fun wl hz aE=>?_)) (fun v o' w' hq=>?_)
 ·rw[e1,e2];exact h
 ·refine(OA wl).mono fun e w' hq=>?_;obtain⟨rfl,rfl⟩:=hq;exact⟨_,rfl,an,fun b hb=>alloc_old _ _ _ hb,rfl,an,jR _ _⟩
 ·obtain⟨hN,wl,aI,z1,z2,hs,rfl,h2,h3⟩:=hq;rw[z1] at h2 h3 hN |-;exact⟨hN,rfl,aa,(hs _ aa aa).trans h3⟩
theorem vC(hF:bE ar L0 o w)(c:Int)(n:Nat)(h1:-9223372036854775808<=c)(h2:c<=9223372036854775807)(hn:0<n)(O1:n<=1000):
  bp ar (XB ar Fin 0) 19 #[.int .i64 c,.int .i64 n] o w fun v o' w'=>v=.int .i64 (cW c n:Nat)/\fw o w v o' w':=by
 refine bp.mono (dS af hF (fun y hy=>by simp at hy;rcases hy with rfl|rfl<;>exact bN) (Q:=fun wl v w'=>v=.int .i64 (cW c n:Nat)) (fun wl Ai v w1 w2 e1 e2 h=>h) (fun wl hz aE=>?_)) (fun v o' w' hq=>?_)
 ·refine(IA c n wl h1 h2 hn O1).mono fun e w' hq=>?_;obtain⟨rfl,rfl⟩:=hq;exact⟨_,rfl,ag _,fun _ _=>rfl,rfl⟩
 ·obtain⟨hN,wl,aI,-,-,-,h1⟩:=hq;exact⟨h1,hN⟩
theorem Wo(hF:bE ar L0 o w)(i:Nat)(hi:i<8):
  bp ar (XB ar Fin 0) 15 #[.int .i64 i] o w fun v o' w'=>v=.string (gu i)/\fw o w v o' w':=by
 refine bp.mono (dS af hF (fun y hy=>by simp at hy;subst hy;exact bN) (Q:=fun wl v w'=>v=.string (gu i)) (fun wl Ai v w1 w2 e1 e2 h=>h) (fun wl hz aE=>?_)) (fun v o' w' hq=>?_)
 ·refine(US i hi wl).mono fun e w' hq=>?_;obtain⟨rfl,h1,h2⟩:=hq;exact⟨_,rfl,h2,fun b hb=>h1.block b hb,rfl⟩
 ·obtain⟨hN,wl,aI,-,-,-,h1⟩:=hq;exact⟨h1,hN⟩
theorem UY(hF:bE ar L0 o w)(c:Int)(h1:-9223372036854775808<=c)(h2:c<=9223372036854775807):
  bp ar (XB ar Fin 0) 20 #[.int .i64 c] o w fun v o' w'=>v=.string (qH c)/\fw o w v o' w':=by
 refine bp.mono (dS af hF (fun y hy=>by simp at hy;subst hy;exact bN) (Q:=fun wl v w'=>v=.string (qH c)) (fun wl Ai v w1 w2 e1 e2 h=>h) (fun wl hz aE=>?_)) (fun v o' w' hq=>?_)
 ·refine(OB c wl h1 h2).mono fun e w' hq=>?_;obtain⟨rfl,rfl⟩:=hq;exact⟨_,rfl,ag _,fun _ _=>rfl,rfl⟩
 ·obtain⟨hN,wl,aI,-,-,-,h1⟩:=hq;exact⟨h1,hN⟩
theorem FE(hF:bE ar L0 o w)(b off c:Nat)(p:Option Addr)(ts:List ah)(x:ah)(hn:ts.length<9000000000000000000)(hq:ts≠[]->p=some ⟨b,off,none⟩/\o b)(ht:dP w b off ts)(hc:Cl ar L0 o (.slice p ts.length c)):
  bp ar (XB ar Fin 0) 27 #[.slice p ts.length c,.string x] o w fun v o' w'=>v=.bool (Jn ts x)/\fw o w v o' w':=by
 refine bp.mono (dS af hF (fun y hy=>by simp at hy;rcases hy with rfl|rfl;exact hc;exact bf) (Q:=fun wl v w'=>v=.bool (Jn ts x)) (fun wl Ai v w1 w2 e1 e2 h=>h) (fun wl hz aE=>?_)) (fun v o' w' hq=>?_)
 ·refine(OC b off c p ts x wl hn (fun q=>(hq q).1) (fun k hk=>cI ht (aE b (hq (fun e=>by rw[e] at hk;simp at hk)).2) k hk)).mono fun e w' hq=>?_;obtain⟨rfl,rfl⟩:=hq;exact⟨_,rfl,ag _,fun _ _=>rfl,rfl⟩
 ·obtain⟨hN,wl,aI,-,-,-,h1⟩:=hq;exact⟨h1,hN⟩
structure qe(o:aM)(w:ae)(fv:Value)(fs:List (ah×ah)):Prop where
 ex:∃p b c,fv=.slice p fs.length c/\(fs≠[]->p=some ⟨b,0,none⟩/\o b)/\tA w b fs
 cl:Cl ar L0 o fv
theorem rM{w w':ae}{b:Nat}{fs:List (ah×ah)}(h:tA w b fs)(e:w'.heap[b]?=w.heap[b]?):tA w' b fs:=fun i hi=>⟨(cell_of e).trans (h i hi).1,(cell_of e).trans (h i hi).2⟩
theorem qe.keep{fv:Value}{fs:List (ah×ah)}(h:qe o w fv fs)(mW:∀b,o b->o' b)(e:∀g,fv.ownBlock=some g->w'.heap[g]?=w.heap[g]?):qe o' w' fv fs:=by
 obtain⟨p,b,c,h1,h2,h3⟩:=h.ex;refine⟨⟨p,b,c,h1,fun q=>⟨(h2 q).1,mW _ (h2 q).2⟩,fun i hi=>?_⟩,h.cl.up mW⟩;have q:fs≠[]:=fun q=>by rw[q] at hi;simp at hi
 exact rM h3 (e b (by rw[h1,(h2 q).1];rfl)) i hi
theorem ack(hF:bE ar L0 o w)(S:Nat)(kv rv fv:Value)(ed:Int)(fs:List (ah×ah))(x:ah)(hS:w.heap[S]?=some (.cells #[kv,rv,fv,.int .i64 ed] 39))(oS:o S)(hf:qe o w fv fs)(hn:fs.length<=1000):
  bp ar (XB ar Fin 0) 35 #[.pointer (some ⟨S,0,none⟩),.string x] o w fun v o' w'=>v=.bool (FB fs x)/\fw o w v o' w':=by
 obtain⟨p,b,c,h1,h2,h3⟩:=hf.ex;refine bp.mono (dS af hF (fun y hy=>by simp at hy;rcases hy with rfl|rfl;exact aH oS;exact bf) (Q:=fun wl v w'=>v=.bool (FB fs x)) (fun wl Ai v w1 w2 e1 e2 h=>h) (fun wl hz aE=>?_)) (fun v o' w' hq=>?_)
 ·refine(UU S b c kv rv ed p fs x wl (by simp[World.cell?,aE S oS,hS,h1]) hn (fun q=>(h2 q).1) (fun k hk=>rM h3 (aE b (h2 (fun e=>by rw[e] at hk;simp at hk)).2) k hk)).mono fun e w' hq=>?_;obtain⟨rfl,rfl⟩:=hq;exact⟨_,rfl,ag _,fun _ _=>rfl,rfl⟩
 ·obtain⟨hN,wl,aI,-,-,-,h1⟩:=hq;exact⟨h1,hN⟩
theorem RR(hF:bE ar L0 o w)(S:Nat)(kv rv fv:Value)(ed:Int)(fs:List (ah×ah))(x t:ah)(there:Bool)(hS:w.heap[S]?=some (.cells #[kv,rv,fv,.int .i64 ed] 39))(oS:o S)(hf:qe o w fv fs)(hn:fs.length<=1000)(cV:fv.ownBlock≠some S):
  bp ar (XB ar Fin 0) 22 #[.pointer (some ⟨S,0,none⟩),.string x,.string t,.bool there] o w fun v o' w'=>v=.tuple #[]/\bu (fun b=>b=S) o w o' w'/\∃zq,w'.heap[S]?=some (.cells #[kv,rv,zq,.int .i64 ed] 39)/\qe o' w' zq (pC fs x t there)/\∀g,zq.ownBlock=some g->w.heap.size<=g:=by
 obtain⟨p,b,c,h1,h2,h3⟩:=hf.ex;refine re aX af hF (Ma (fun y hy=>by simp at hy;rcases hy with rfl|rfl|rfl|rfl;exact aH oS;exact bf;exact bf;exact kn))
  (R:=fun wl v aI=>v=.tuple #[]/\∃zq w2h,wl.heap.size<=w2h.size/\(∀b,b<wl.heap.size->w2h[b]?=wl.heap[b]?)/\(∃w2:ae,w2.heap=w2h/\w2.ownsRow wl.heap.size 44 2 zq (pC fs x t there).length (fi (pC fs x t there))/\aI.heap=(w2.setCell ⟨S,2,none⟩ zq).heap))
  (fun wl v w1 τ d h=>h) (fun wl τ d v w' h=>h) (fun wl hz aE=>?_) ?_
 ·refine(UW S b c p fs x t there wl (by simp[World.cell?,aE S oS,hS,h1]) (by simp[World.frozen?,aE S oS,hS]) (by rw[hz];exact hF.lt oS) hn (fun q=>⟨(h2 q).1,by rw[hz];exact hF.lt (h2 q).2⟩) (fun k hk=>rM h3 (aE b (h2 (fun e=>by rw[e] at hk;simp at hk)).2) k hk)).mono fun e w' hq=>?_;obtain⟨rfl,zq,w2,q1,q2,q3,rfl⟩:=hq;exact⟨_,rfl,rfl,zq,w2.heap,q2,fun b hb=>q1.block b hb,w2,rfl,q3,rfl⟩
 ·rintro wl v aI w' hz aE ⟨rfl,zq,w2h,q1,q2,w2,rfl,q3,q4⟩ B;have hSl:S<wl.heap.size:=by rw[hz];exact hF.lt oS
  have on:=fW w2 S 2 zq;have zz:aI.heap.size=w2.heap.size:=by rw[q4];exact on.1
  have eS:w'.heap[S]?=some (.cells #[kv,rv,zq,.int .i64 ed] 39):=by
   rw[B.same S (.inl oS),q4];have e:w2.heap[S]?=some (.cells #[kv,rv,fv,.int .i64 ed] 39):=(q2 S hSl).trans ((aE S oS).trans hS);simp[World.setCell,Array.getElem?_modify,e]
  have Nc:=yh q3;have hW:bu (fun b=>b=S) o w (grow o w w') w':=by
   refine⟨B.ay,iK,fun b hb=>hb.imp id fun q=>q.1,B.gO,fun b hb hx=>?_⟩;by_cases ho:o b
   ·rw[B.same b (.inl ho),q4,on.2 b hx,q2 b aa,aE b ho]
   ·exact B.rest b hb ho
  have z2:=B.size;refine⟨rfl,hW,zq,eS,⟨?_,?_⟩,fun g hg=>by rw[<- hz];exact Nc g hg⟩
  ·obtain⟨h0,hc⟩:=q3;rcases hc with⟨rfl,e⟩|⟨g,cap,cur,rfl,k1,k2,k3,k4,k5,k6⟩
   ·have OJ:=List.length_eq_zero_iff.1 e;rw[OJ];exact⟨none,0,0,rfl,fun q=>absurd rfl q,fun i hi=>by simp at hi⟩
   ·have QV:g<w2.heap.size:=(Array.getElem?_eq_some_iff.1 k2).1;refine⟨_,g,cap,rfl,fun _=>⟨rfl,.inr ⟨aa,aa⟩⟩,fun i hi=>?_⟩;have eg:w'.heap[g]?=w2.heap[g]?:=by
     rw[B.same g (.inr ⟨aa,aa⟩),q4];exact on.2 g aa
    have own:w2.ownsRow wl.heap.size 44 2 (.slice (some ⟨g,0,none⟩) (pC fs x t there).length cap) (pC fs x t there).length (fi (pC fs x t there)):=⟨h0,.inr ⟨g,cap,cur,rfl,k1,k2,k3,k4,k5,k6⟩⟩;obtain⟨c0,c1⟩:=uY (pC fs x t there) i hi;have kZ:∀j u,(fi (pC fs x t there))[j]?=some u->w2.cell? ⟨g,j,none⟩=some u:=fun j u hu=>by
     have:=own.cells (g:=g) rfl j u hu;have ha:(⟨g,0,none⟩:Addr).add j=⟨g,j,none⟩:=by simp[Addr.add];omega
     rw[ha] at this;exact this
    exact⟨(cell_of eg).trans (kZ _ _ c0),(cell_of eg).trans (kZ _ _ c1)⟩
  ·obtain⟨h0,hc⟩:=q3;rcases hc with⟨rfl,e⟩|⟨g,cap,cur,rfl,k1,k2,k3,k4,k5,k6⟩
   ·exact gS
   ·have QV:g<w2.heap.size:=(Array.getElem?_eq_some_iff.1 k2).1;exact di (.inr ⟨aa,aa⟩)
end
section
variable {Fin:bH} {o o' o1 o2:aM} {w w' w1 w2:ae}
structure gi(o:aM)(w:ae)(o':aM)(w':ae):Prop where
 aU:bu (fun _=>False) o w o' w'
 all:∀b,w.heap.size<=b->b<w'.heap.size->o' b
theorem gi.refl(hF:bE ar L0 o w):gi o w o w:=⟨bu.refl hF,fun b h1 h2=>aa⟩
theorem gi.trans(h:gi o w o1 w1)(k:gi o1 w1 o2 w2):gi o w o2 w2:=⟨h.aU.trans k.aU,fun b h1 h2=>by
 by_cases q:b<w1.heap.size
 ·exact k.aU.more _ (h.all b h1 q)
 ·exact k.all b aa h2⟩
theorem gi.dL{v:Value}(h:fw o w v o' w'):gi o w o' w':=⟨bu.dL h,fun b h1 h2=>by rw[h.own];exact .inr ⟨h1,h2⟩⟩
theorem gi.tY(hF:bE ar L0 (grow o w w') w')(z:w.heap.size<=w'.heap.size)(k:∀b,b<w.heap.size->w'.heap[b]?=w.heap[b]?):gi o w (grow o w w') w' :=
 ⟨⟨hF,iK,fun b hb=>hb.imp id fun q=>q.1,z,fun b hb _=>k b hb⟩,fun b h1 h2=>.inr ⟨h1,h2⟩⟩
theorem gi.wrote{A:Nat}(h:gi o w o1 w1)(hA:w.heap.size<=A)(hF:bE ar L0 o1 w2)(on:cN A w1 w2):gi o w o1 w2:=by
 refine⟨⟨hF,h.aU.more,h.aU.new,by rw[on.1];exact h.aU.size,fun b hb hx=>?_⟩,fun b h1 h2=>h.all b h1 (by rw[<- on.1];exact h2)⟩;rw[on.2 b aa];exact h.aU.same b hb hx
theorem gi.row{v:Value}(h:gi o w o1 w1)(hv:∀b,v.ownBlock=some b->w.heap.size<=b)(k:bu (fun b=>v.ownBlock=some b) o1 w1 (grow o1 w1 w2) w2):gi o w (grow o1 w1 w2) w2:=by
 have z1:=h.aU.size;have z2:=k.size;refine⟨⟨k.ay,fun b hb=>k.more b (h.aU.more b hb),fun b hb=>(k.new b hb).elim (fun q=>h.aU.new b q) fun q=>.inr aa,aa,fun b hb hx=>?_⟩,fun b h1 h2=>?_⟩
 ·rw[k.same b aa (fun e=>by have:=hv b e;omega)];exact h.aU.same b hb hx
 ·by_cases q:b<w1.heap.size
  ·exact k.more _ (h.all b h1 q)
  ·exact .inr ⟨aa,h2⟩
structure lJ(o:aM)(w:ae)(lo e sz:Nat)(v:Value)(n:Nat)(xs:List Value):Prop where
 row:w.ownsRow lo e sz v n xs
 cl:Cl ar L0 o v
 low:lo<=w.heap.size
theorem lJ.nil(o:aM)(w:ae)(lo e sz:Nat)(h:lo<=w.heap.size):lJ o w lo e sz (.slice none 0 0) 0 []:=⟨⟨an,.inl ⟨rfl,rfl⟩⟩,gS,h⟩
theorem lJ.keep{lo e sz n:Nat}{v:Value}{xs:List Value}(h:lJ o w lo e sz v n xs)(mW:∀b,o b->o' b)(hz:w.heap.size<=w'.heap.size)(k:∀g,v.ownBlock=some g->w'.heap[g]?=w.heap[g]?):lJ o' w' lo e sz v n xs :=
 ⟨cQ h.row fun g hg _=>k g hg.symm,h.cl.up mW,aR h.low hz⟩
theorem lJ.lt{lo e sz n:Nat}{v:Value}{xs:List Value}(h:lJ o w lo e sz v n xs):∀g,v.ownBlock=some g->lo<=g/\g<w.heap.size:=fun g hg=>by
 refine⟨yh h.row g hg,?_⟩;obtain⟨_,hc⟩:=h.row;rcases hc with⟨rfl,_⟩|⟨g',cap,cur,rfl,h1,h2,_⟩
 ·cases hg
 ·cases hg;exact(Array.getElem?_eq_some_iff.1 h2).1
theorem lJ.gO{lo e sz n:Nat}{v:Value}{xs:List Value}(h:lJ o w lo e sz v n xs)(G:gi o w o' w'):lJ o' w' lo e sz v n xs:=h.keep G.aU.more G.aU.size fun g hg=>G.aU.same g (h.lt g hg).2 id
theorem lJ.add{lo e sz n n':Nat}{v v':Value}{xs xs':List Value}{wl aI:ae}(hF:bE ar L0 o w)(h:lJ o w lo e sz v n xs)(aE:im o w wl)(ba:kS ar L0 o w w' aI v')(b6:aI.ownsRow lo e sz v' n' xs')(CS:wl.grownBy aI v.ownBlock)(Wc:v'.ownBlock=v.ownBlock\/v'.ownBlock=some wl.heap.size):
  lJ (grow o w w') w' lo e sz v' n' xs'/\bu (fun b=>v.ownBlock=some b) o w (grow o w w') w'/\∀b,v'.ownBlock=some b->v.ownBlock=some b\/w.heap.size<=b:=by
 rw[aE.size] at Wc;have C3:=ba.ay;have eY:Cl ar L0 (grow o w w') v':=ba.val;have z6:=ba.gO;have Is:∀b,v'.ownBlock=some b->grow o w w' b:=fO C3 eY;refine⟨⟨cQ b6 fun b hb _=>ba.same b (Is b hb.symm),eY,by have:=h.low;omega⟩,⟨C3,iK,fun b hb=>hb.imp id fun q=>q.1,z6,fun b hb X3=>?_⟩,fun b hb=>?_⟩
 ·by_cases ho:o b
  ·rw[ba.same b (.inl ho),CS.block b (by rw[aE.size];exact hb) (fun e=>X3 e.symm),aE.heap b ho]
  ·exact ba.rest b hb ho
 ·rcases Wc with e|e
  ·rw[hb] at e;exact .inl e.symm
  ·rw[hb] at e;exact .inr (bq (aK e).symm)
theorem xp(W:ae)(lo:Nat)(v:Value)(xs:List ah)(x:ah)(A:Nat)(h:W.ownsRow lo 9 1 v xs.length (xs.map .string))(hn:(xs.length+1)*16<=140737488355328)(uL:lo<=W.heap.size)(ha:W.heap[A]?=some (.cells #[.string x] 9)):
  ∃v' W',(Builtin.append_ #[40,40] 40 #[v,.slice (some ⟨A,0,none⟩) 1 1]).run ar W=.ok v' W'/\W'.ownsRow lo 9 1 v' (xs++[x]).length ((xs++[x]).map .string)/\W.grownBy W' v.ownBlock/\(v'.ownBlock=v.ownBlock\/v'.ownBlock=some W.heap.size):=by
 obtain⟨i,hi,oF⟩:=Option.map_eq_some_iff.1 pq;simp only[Prod.mk.injEq] at oF;obtain⟨v',W',e1,e2,e3,_,e4⟩:=run_append_own_at (P:=ar) W lo 40 40 9 i _ 1 16 underlying40 hi oF.1 oF.2.1 oF.2.2 rfl aa v xs.length (xs.map .string) h ⟨A,0,none⟩ 1 1 [.string x] rfl (fun j u hj=>by
  cases j with
  |zero=>simp at hj;subst hj;simp[Addr.add,World.cell?,ha]
  |succ j=>simp at hj) (by simp;rfl) (by simp[maxLen];omega) aa uL
 exact⟨v',W',e1,by simpa using e2,e3,e4⟩
theorem IP(W:ae)(lo:Nat)(v:Value)(rs:List aL)(r:aL)(A:Nat)(h:W.ownsRow lo 42 3 v rs.length (dM rs))(hn:rs.length<=1000)(uL:lo<=W.heap.size)(ha:W.heap[A]?=some (.cells #[.string r.out,.int .i64 r.eD,.slice r.sa r.sl r.sc] 42)):
  ∃v' W',(Builtin.append_ #[35,35] 35 #[v,.slice (some ⟨A,0,none⟩) 1 1]).run ar W=.ok v' W'/\W'.ownsRow lo 42 3 v' (rs++[r]).length (dM (rs++[r]))/\W.grownBy W' v.ownBlock/\(v'.ownBlock=v.ownBlock\/v'.ownBlock=some W.heap.size):=by
 obtain⟨i,hi,oF⟩:=Option.map_eq_some_iff.1 BF;simp only[Prod.mk.injEq] at oF;obtain⟨v',W',e1,e2,e3,_,e4⟩:=run_append_own_at (P:=ar) W lo 35 35 42 i _ 3 48 underlying35 hi oF.1 oF.2.1 oF.2.2 rfl aa v rs.length (dM rs) h ⟨A,0,none⟩ 1 1 [.string r.out,.int .i64 r.eD,.slice r.sa r.sl r.sc] rfl (fun j u hj=>by
  match j,hj with
  |0,hj=>simp at hj;subst hj;simp[Addr.add,World.cell?,ha]
  |1,hj=>simp at hj;subst hj;simp[Addr.add,World.cell?,ha]
  |2,hj=>simp at hj;subst hj;simp[Addr.add,World.cell?,ha]) (by simp;exact⟨rfl,rfl,rfl⟩) (by simp[maxLen];omega) aa uL
 have e:dM (rs++[r])=dM rs++[.string r.out,.int .i64 r.eD,.slice r.sa r.sl r.sc]:=by simp[dM,aL.cells]
 exact⟨v',W',e1,by rw[e];simpa using e2,e3,e4⟩
end
end Go.Proofs.Kz
namespace Go.Ren
open Go.Conc Go.ConcN
structure El(w wl:ae):Prop where
 heap:wl.heap=w.heap
theorem El.cell{w wl:ae}(h:El w wl){ad:Addr}:wl.cell? ad=w.cell? ad:=by simp[World.cell?,h.heap]
section
variable {P:Program} {Fin:bH} {d:Nat} {o:aM} {w:ae} {fn:FuncId} {Q:Exit->Act->aM->ae->Prop} {a:Act} {ops:Array Oper} {i:Nat} {rest:List Nat} {op:Oper}
theorem RS{ad:Addr}{wt sy:Bool}(h:wC Fin ad.block):Xu Fin o ⟨.cell ad,wt,sy⟩:=zY (o:=fun b=>o b\/wC Fin b) (.inr h)
theorem oQ{B:Nat}(hB:wC Fin B)(ho:ops[i]?=some op)(hw:Region.wanted op (yielded ops a.tmps)=true){v:Value}{dd:Option Tmp}(hd:op.dst=dd)(hr:∀wl,El w wl->(execOp a.eval op).run P wl=.ok (.value v) wl)(iH:∀wl,El w wl->∀x∈(execOp a.eval op).events P wl #[],∃ad wt sy,x=⟨.cell ad,wt,sy⟩/\ad.block=B)(h:fu (XB P Fin d) fn ops rest Q (a.put dd v) o w):fu (XB P Fin d) fn ops (i::rest) Q a o w :=
 KO ho hw hd (fun n=>hr _ ⟨rfl⟩) (fun n x hx=>by
  obtain⟨ad,wt,sy,rfl,e⟩:=iH (w.at n) ⟨rfl⟩ x hx;subst e;exact⟨RS hB,an,an⟩) h
end
section
variable {P:Program} {L:Nat->Bool} {Fin:bH} {d:Nat} {fn:FuncId} {Q:Exit->Act->aM->ae->Prop} {a:Act} {ops:Array Oper} {S:(Nat->Option Value)->aM->ae->Prop} {kds:List Kd} {v:Nat->Value} {K:Act->Prop} {j:Nat} {l:List Nat} {xs:List Kd} {op:Oper} {dd:Option Tmp}
theorem UZ{B:Nat}(hB:wC Fin B)(ho:ops[j]?=some op)(hd:op.dst=dd)(hn:Bs op.op=true)(hw:Region.wanted op (yielded ops a.tmps)=true){y:Value}(cm:∀σ o w,x7 ops kds v j σ->S σ o w->(∀wl,El w wl->(execOp a.eval op).run P wl=.ok (.value y) wl)/\∀wl,El w wl->∀x∈(execOp a.eval op).events P wl #[],∃ad wt sy,x=⟨.cell ad,wt,sy⟩/\ad.block=B)(h:da P (Ad P (XB P Fin d) fn ops Q S kds v) ops K v l xs (a.put dd y)):da P (Ad P (XB P Fin d) fn ops Q S kds v) ops K v (j::l) (some (some y)::xs) a:=by
 refine fG ho hd (fun A rest σ o w h1 h2 h3 h4 hS hc=>?_) rfl h;obtain⟨hr,iH⟩:=cm σ o w h3 hS;have hex:=execOp_congr op (qs hn) h1;exact oQ hB ho (h2.trans hw) rfl (fun wl aE=>by rw[hex];exact hr wl aE) (fun wl aE x hx=>by rw[hex] at hx;exact iH wl aE x hx) (hc y o w ⟨rfl,hS⟩)
end
end Go.Ren
