import Derived.Test.YtgjekaaknjgnmaaGreatDoorAf
import Derived.Laws.Cover3
set_option linter.all false
set_option maxHeartbeats 32000000
set_option maxRecDepth 100000
namespace Go.Proofs.Kz
open Go.Proofs.Tryz
open Go.Proofs.Tryz renaming prog → ak
open _root_.ByteArray renaming empty → bF
open _root_.Option renaming some → so,none → we
open Go.Proofs
section
open Go.RowKit
def Ub:∀a b:List UInt8,Lib.compareBytes a b<0↔a<b
 | [],[]=>by simp[Lib.compareBytes]
 | [],_::_=>by simp[Lib.compareBytes]
 |_::_,[]=>by simp[Lib.compareBytes]
 |x::r,y::s=>by
  have ih:=Ub r s;rw[Lib.compareBytes,List.cons_lt_cons_iff];by_cases h1:x<y
  ·simp[h1]
  ·by_cases h2:y<x
   ·have h3:¬x=y:=λe=>by subst e;exact iq _ h2
    simp[h1,h2,h3]
   ·have e:x=y:=gz (eA.1 h2) (eA.1 h1);subst e;simp[h1,ih]
def oS(a b:ag):kx a b=true↔a.data.toList<b.data.toList:=by simp[kx,Ub]
def FY(a x:ag):Lib.minS a x=if kx x a then x else a:=by
 unfold Lib.minS;by_cases h:kx x a=true
 ·rw[if_pos h];have h1:=(oS x a).1 h;rw[if_neg];rintro(h2|h2)
  ·exact List.lt_asymm h1 h2
  ·rw[h2]at h1;exact mi _ h1
 ·rw[if_neg h];have h1:¬x.data.toList<a.data.toList:=λq=>h ((oS x a).2 q);rw[if_pos];by_cases h2:a.data.toList<x.data.toList
  ·exact .inl h2
  ·exact .inr (List.le_antisymm (List.not_lt.1 h1) (List.not_lt.1 h2))
def KI(ts:List ag)(x:ag)(h:ts≠[]):Lib.minOfS (ts++[x])=Lib.minS (Lib.minOfS ts) x:=by
 cases ts with
 |nil=>exact absurd rfl h
 |cons y r=>simp[Lib.minOfS,List.foldl_append]
def AP(ts:List ag)(k:Nat)(h:k<ts.length):ju (ts.take (k+1))=if k=0\/kx ts[k] (ju (ts.take k))=true then ts[k] else ju (ts.take k):=by
 rw[take_succ ts k h];by_cases h0:k=0
 ·subst h0;have:kx ts[0] ts[0]=false:=by
   cases q:kx ts[0] ts[0]
   ·rfl
   ·exact absurd ((oS _ _).1 q) (mi _)
  simp[ju,Lib.minOfS,FY]
 ·have fu:ts.take k≠[]:=λe=>by have:=congrArg List.length e;rw[ln]at this;simp only[List.length_nil]at this;omega
  rw[ju,if_neg (λe=>by simp only[List.append_eq_nil_iff]at e;exact fu e.1),KI _ _ fu,FY,ju,if_neg fu];simp[h0]
def QS(ts:List ag)(k:Nat)(h:k<ts.length):bytes (flat (ts.take (k+1)))=bytes (flat (ts.take k))++ts[k]:=by
 rw[take_succ ts k h];apply iZ;rw[lR];simp only[bytes,flat,List.map_append,List.flatten_append,aB,aJ,List.flatten_cons,List.flatten_nil,List.append_nil];apply kC;simp
structure aim(vs:List V)(k:Nat)(c s l m:Value):Prop where
 c:c=.int .i64 (cnt (vs.take k):Nat)
 s:s=.int .i64 (nU ((vs.map (·.2)).take k):Nat)
 l:l=.string (bytes (flat ((vs.map (·.2)).take k)))
 m:m=.string (ju ((vs.map (·.2)).take k))
end
section
open Go.RowKit
def nC(w:ae):Prop:=Lib.TabIs ak w "internal/strconv.uint64pow10" .u64 Lib.pow10Tab
structure OR(w:ae)(v:V)(e:Ending)(w':ae):Prop where
 ex:e=.returned (.agg #[.bool v.1,.string v.2])
 size:w.heap.size<=w'.heap.size
 same:∀b,b<w.heap.size->w'.heap[b]?=w.heap[b]?
def AQ(ts:List ag):∀k,k<=ts.length->(ju (ts.take k)).size<=gy ts
 |0,_=>by
  have e:(ju (ts.take 0)).size=0:=rfl;omega
 |k+1,h=>by
  rw[AP ts k aa];have h1:=CU ts k aa;split
  ·omega
  ·exact AQ ts k aa
def nC.same{w w':ae}(h:nC w)(e:∀b,b<w.heap.size->w'.heap[b]?=w.heap[b]?):nC w':=by
 unfold nC Lib.TabIs World.var? at h |-;rw[show ak.globalNamed "internal/strconv.uint64pow10" = so 1 by kernel_rfl]at h |-;simp only[Option.bind_some]at h |-;by_cases hb:1<w.heap.size
 ·rw[e 1 hb];exact h
 ·rw[bX aa]at h;cases h
def QT{l:List UInt8}:(bytes l).extract 0 32=bytes (l.take 32):=by
 apply iZ;rw[iT];simp[bytes,List.extract_toArray]
def QU{l:List UInt8}(h:l.length<=32):bytes l=bytes (l.take 32):=by rw[bz h]
def rev_succ{l:List UInt8}{j:Nat}(h:j<l.length):(bytes l).extract j (j+1)++bytes (l.take j).reverse=bytes (l.take (j+1)).reverse:=by
 apply iZ;rw[lR,iT,take_succ l j h];apply kC;simp[bytes,List.extract_toArray];rw[List.take_one,List.head?_drop,au h,take_succ l j h,List.reverse_append];rfl
def mK:(ak.info? 237).map (·.size)=so 2:=ah
def mL{w W:ae}(hW:∀b,b<w.heap.size->W.heap[b]?=w.heap[b]?)(RJ:w.heap.size<W.heap.size){v:V}{x:Bool}{y:ag}(h:v=(x,y)):OR w v (.returned (.agg #[.bool x,.string y])) ((W.setCell ⟨w.heap.size,0,we⟩ (.bool x)).setCell ⟨w.heap.size,1,we⟩ (.string y)):=by
 have on:=Go.Ren.OD W w.heap.size 0 1 (.bool x) (.string y);exact⟨by rw[h],by rw[on.1];omega,λb hb=>(on.2 b aa).trans (hW b hb)⟩
def Uc(r:Int)(hr:1<=r/\r<=5)(b off c:Nat)(p:Option Addr)(vs:List V)(w:ae)(hn:vs.length<=50)(hm:gy (vs.map (·.2))<=1000000)(hp:vs≠[]->p=so ⟨b,off,we⟩/\b<w.heap.size)(ht:qZ w b off vs)(hT:nC w):
  Calls ak 178 #[.int .i64 r,.slice p vs.length c] w λe w'=>OR w (ef r vs) e w':=by
 have hW:∀b,b<w.heap.size->(w.alloc (.cells #[.bool false,.string bF] 237)).heap[b]?=w.heap[b]?:=λb hb=>alloc_old _ _ _ hb;have uk:(w.alloc (.cells #[.bool false,.string bF] 237)).heap[w.heap.size]?=so (.cells #[.bool false,.string bF] 237):=dz _ _;have RJ:w.heap.size<(w.alloc (.cells #[.bool false,.string bF] 237)).heap.size:=aj;have hlen:(vs.map (·.2)).length=vs.length:=aj;go_enter func178,ntmps178;have eE:(bF:ag)=⟨#[]⟩:=rfl;simp only[eE]at hW uk RJ;go_wp2;generalize w.alloc (.cells #[.bool false,.string ⟨#[]⟩] 237)=W at *;go_loopw [5,6,7,8,9] (λc s l m i w'=>∃k:Nat,k<=vs.length/\i=.int .i64 k/\aim vs k c s l m/\∃n,w'=W.drewN n) (λ_ _ _ _ i _=>vs.length-(intOf i).toNat)
 case atStart=>exact⟨0,aW _,rfl,⟨rfl,rfl,rfl,rfl⟩,0,rfl⟩
 case round =>
  obtain⟨k,hk,rfl,⟨rfl,rfl,rfl,rfl⟩,n,rfl⟩:=hrel;by_cases cR:k<vs.length
  ·obtain⟨e1,hb⟩:=hp (lU cR);subst e1;have hc:∀n j,(W.drewN n).cell? ⟨b,j,we⟩=w.cell? ⟨b,j,we⟩:=λn j=>by
    show World.cell? W _=_;simp only[World.cell?,hW b hb]
   have h1:=λn=>(hc n _).trans (ht k cR).1;have h2:=λn=>(hc n _).trans (ht k cR).2;have HN:k<(vs.map (·.2)).length:=aa;have hzt:=CU (vs.map (·.2)) k HN;have hle:=BE ((vs.map (·.2)).take k);have hlz:=AQ (vs.map (·.2)) k aa;have HX:=q7 (vs.take k);have hl0:(bytes (flat ((vs.map (·.2)).take k))).size=gy ((vs.map (·.2)).take k):=by rw[lh,pG]
   have aap:(vs.take k).length<=k:=ff _ _;have HC:Hid (cnt (vs.take (k+1))=cnt (vs.take k)+if vs[k].1 then 1 else 0):=JL vs k cR;have HS:Hid (nU ((vs.map (·.2)).take (k+1))=nU ((vs.map (·.2)).take k)+sV vs[k].2.data.toList):=by have:=FB (vs.map (·.2)) k HN;rw[gR]at this;exact this
   have HF:Hid (bytes (flat ((vs.map (·.2)).take (k+1)))=bytes (flat ((vs.map (·.2)).take k))++vs[k].2):=by have:=QS (vs.map (·.2)) k HN;rw[gR]at this;exact this
   have HM:Hid (ju ((vs.map (·.2)).take (k+1))=if k=0\/kx vs[k].2 (ju ((vs.map (·.2)).take k))=true then vs[k].2 else ju ((vs.map (·.2)).take k)):=by have:=AP (vs.map (·.2)) k HN;rw[gR]at this;exact this
   rw[gR]at hzt;clear hc ht hW uk RJ hp hT hlen;generalize vs[k].2=tx at *;generalize vs[k].1=th at *;generalize cnt (vs.take k)=c0 at *;generalize nU ((vs.map (·.2)).take k)=s0 at *;generalize bytes (flat ((vs.map (·.2)).take k))=l0 at *;generalize ju ((vs.map (·.2)).take k)=m0 at *;generalize gy ((vs.map (·.2)).take k)=z0 at *;have ain:¬9223372036854775807<l0.size+tx.size:=aa;clear HN eE;cases th<;>(
   go_wp2;go_loop [6,10] (λs j=>∃q:Nat,q<=tx.size/\j=.int .i64 q/\s=.int .i64 (s0+sV (tx.data.toList.take q):Nat)) (λ_ j=>tx.size-(intOf j).toNat)
   case atStart=>exact⟨0,aW _,rfl,by simp[sV]⟩
   case round =>
    obtain⟨q,hq,rfl,rfl⟩:=hrel;by_cases hqt:q<tx.size
    ·have HB:Hid (sV (tx.data.toList.take (q+1))=sV (tx.data.toList.take q)+tx[q].toNat):=FA tx q hqt;have Ev:=BD (tx.data.toList.take q);have oe:(tx.data.toList.take q).length<=q:=ff _ _;have hc:=tx[q].toNat_lt;go_wp2
     go_round
     case rel=>exact⟨q+1,aa,by go_num,by have HB':sV (tx.data.toList.take (q+1))=sV (tx.data.toList.take q)+tx[q].toNat:=HB;rw[HB'];go_num⟩
     case measure=>simp[intOf];omega
    ·have e1:tx.data.toList.take q=tx.data.toList:=bz eW;rw[e1];clear e1;by_cases Lc:k=0
     ·have aio:((k:Int)==0)=true:=by rw[beq_iff_eq];omega
      rw[if_pos (.inl Lc)]at HM;clear Lc;go_wp2_with (go_at_call 180;refine(zk tx m0 _ aa aa).mono ?_;rintro e w' ⟨rfl,n2,rfl⟩);exact⟨⟨k+1,aa,by go_num,⟨by first|(rw[HC];go_num;done)|(rw[HC];simp),by rw[HS];simp,by rw[HF],by rw[HM]⟩,_,rfl⟩,by simp[intOf];omega⟩
     ·have aio:((k:Int)==0)=false:=by rw[dm];omega
      cases hl:kx tx m0
      ·rw[if_neg (λq=>q.elim Lc (λq=>by rw[hl]at q;cases q))]at HM;clear Lc;go_wp2_with (go_at_call 180;refine(zk tx m0 _ aa aa).mono ?_;rintro e w' ⟨rfl,n2,rfl⟩;rw[hl]);exact⟨⟨k+1,aa,by go_num,⟨by first|(rw[HC];go_num;done)|(rw[HC];simp),by rw[HS];simp,by rw[HF],by rw[HM]⟩,_,rfl⟩,by simp[intOf];omega⟩
      ·rw[if_pos (.inr hl)]at HM;clear Lc;go_wp2_with (go_at_call 180;refine(zk tx m0 _ aa aa).mono ?_;rintro e w' ⟨rfl,n2,rfl⟩;rw[hl]);exact⟨⟨k+1,aa,by go_num,⟨by first|(rw[HC];go_num;done)|(rw[HC];simp),by rw[HS];simp,by rw[HF],by rw[HM]⟩,_,rfl⟩,by simp[intOf];omega⟩
   )
  ·obtain rfl:k=vs.length:=aa;have et:vs.take vs.length=vs:=cO;have et2:(vs.map (·.2)).take vs.length=vs.map (·.2):=by rw[<- hlen];exact cO
   rw[et,et2];have fG:=q7 vs;have hsl:=BE (vs.map (·.2));have hfl:(bytes (flat (vs.map (·.2)))).size=gy (vs.map (·.2)):=by rw[lh,pG]
   have hTc:∀n,(W.drewN n).cell? ⟨w.heap.size,0,we⟩=so (.bool false)/\(W.drewN n).cell? ⟨w.heap.size,1,we⟩=so (.string ⟨#[]⟩)/\(W.drewN n).frozen? ⟨w.heap.size,0,we⟩=false/\(W.drewN n).frozen? ⟨w.heap.size,1,we⟩=false:=λn=>Go.Ren.lI (w:=W.drewN n) uk;have t0:=λn=>(hTc n).1;have t1:=λn=>(hTc n).2.1;have t2:=λn=>(hTc n).2.2.1;have t3:=λn=>(hTc n).2.2.2;clear hTc et et2;have HZ:r=1\/r=2\/r=3\/r=4\/r=5:=aa;by_cases h5:r=5
   ·subst h5;have lP:ef 5 vs=(true,⟨(Lib.decDigits (cnt vs)).toArray⟩):=by simp[ef]
    have hi:=λw=>Tryz.strconv_Itoa_small (cnt vs) aa w;have lP:Hid (ef 5 vs=(true,⟨(Lib.decDigits (cnt vs)).toArray⟩)):=lP;clear HZ hr ht hp hT;generalize cnt vs=c0 at *;go_wp2_with (go_at_call 197;refine(hi _).mono ?_;rintro e w' ⟨rfl,rfl⟩);exact bodyPost_ret (results_cell_row aG _ _ w.heap.size 237 #[.bool true,.string _] (0,0) _ rfl (Go.Ren.EB (w:=W.drewN _) uk) underlying237 rfl mK) rfl (mL (W:=W.drewN _) hW RJ lP)
   ·have h5b:(r==5)=false:=by rw[dm];exact h5
    by_cases hf:cnt vs<vs.length
    ·have hfI:(cnt vs:Int)<(vs.length:Int):=aa;have lP:Hid (ef r vs=(false,⟨#[]⟩)):=by show ef r vs=_;simp[ef,h5,hf];rfl
     clear HZ hr ht hp hT h5;generalize cnt vs=c0 at *;go_wp2;exact bodyPost_ret (results_cell_row aG _ _ w.heap.size 237 #[.bool false,.string _] (0,0) _ rfl (Go.Ren.EB (w:=W.drewN _) uk) underlying237 rfl mK) rfl (mL (W:=W.drewN _) hW RJ lP)
    ·have hfI:¬(cnt vs:Int)<(vs.length:Int):=aa;have lP:ef r vs=(true,gN r (vs.map (·.2))):=by simp[ef,h5,hf]
     have Ve:∀n,nC (W.drewN n):=λn=>hT.same hW;clear ht hp hT fG;generalize vs.map (·.2)=ts at *;generalize cnt vs=c0 at *;have QV:(flat ts).length=gy ts:=pG ts;have OC:((flat ts).take 32).length<=32:=ff _ _;have QW:∀n (os:Array Obj),(Go.Sort.grow (W.drewN n) os).heap[w.heap.size]?=so (.cells #[.bool false,.string ⟨#[]⟩] 237):=λn os=>by
      show(W.heap++os)[w.heap.size]?=_;rw[gM RJ];exact uk
     have VF:∀n (os:Array Obj) b,b<w.heap.size->(Go.Sort.grow (W.drewN n) os).heap[b]?=w.heap[b]?:=λn os b hb=>by
      show(W.heap++os)[b]?=_;rw[gM aa];exact hW b hb
     have ad7:∀n (os:Array Obj),w.heap.size<(Go.Sort.grow (W.drewN n) os).heap.size:=λn os=>by
      show _<(W.heap++os).size;rw[Array.size_append];omega
     have g0:=λn os=>(Go.Ren.lI (QW n os)).1;have g1:=λn os=>(Go.Ren.lI (QW n os)).2.1;have g2:=λn os=>(Go.Ren.lI (QW n os)).2.2.1;have g3:=λn os=>(Go.Ren.lI (QW n os)).2.2.2;by_cases hlg:32<gy ts
     ·have aip:(32:Int)<((bytes (flat ts)).size:Int):=aa;have aj2:(32:Int)<=((bytes (flat ts)).size:Int):=aa;have hS:(bytes (flat ts)).extract 0 32=bytes ((flat ts).take 32):=QT;rcases HZ with rfl|rfl|rfl|rfl|rfl
      ·have oU:Hid (ef 1 vs=(true,(bytes (flat ts)).extract 0 32)):=by show ef 1 vs=_;rw[lP,hS];simp[gN]
       clear lP OC QV Ve hS h5;go_wp2;exact bodyPost_ret (results_cell_row aG _ _ w.heap.size 237 #[.bool true,.string _] (0,0) _ rfl (Go.Ren.EB (w:=W.drewN _) (uk)) underlying237 rfl mK) rfl (mL (W:=W.drewN _) hW RJ oU)
      ·have oU:Hid (ef 2 vs=(true,bytes ((flat ts).take 32).reverse)):=by show ef 2 vs=_;rw[lP];simp[gN]
       have EP:=hS;clear lP Ve h5 hS;have hS:Hid ((bytes (flat ts)).extract 0 32=bytes ((flat ts).take 32)):=EP;clear EP;go_wp2;rw[show(bytes (flat ts)).extract 0 32=bytes ((flat ts).take 32) from hS];generalize hl:(flat ts).take 32=l at *;clear hS;have hlz:(bytes l).size=l.length:=lh l;go_loop [12,13] (λx i=>∃j:Nat,j<=l.length/\i=.int .i64 j/\x=.string (bytes (l.take j).reverse)) (λ_ i=>l.length-(intOf i).toNat)
       case atStart=>exact⟨0,aW _,rfl,rfl⟩
       case round =>
        obtain⟨j,hj,rfl,rfl⟩:=hrel;by_cases HV:j<l.length
        ·have Oq:(j:Int)<((bytes l).size:Int):=aa;have HR:Hid ((bytes l).extract j (j+1)++bytes (l.take j).reverse=bytes (l.take (j+1)).reverse):=rev_succ HV;have JO:(bytes (l.take j).reverse).size<=32:=by rw[lh,List.length_reverse,ln];omega
         have Da:((bytes l).extract j (j+1)).size<=32:=by rw[lB];omega
         have ad8:¬9223372036854775807<((bytes l).extract j (j+1)).size+(bytes (l.take j).reverse).size:=aa;generalize bytes (l.take j).reverse=B at *;generalize bytes l=S at *;go_wp2
         go_round
         case rel=>exact⟨j+1,aa,by go_num,by first|(rw[<- HR];done)|(rw[<- HR];congr 2)⟩
         case measure=>simp[intOf];omega
        ·have e:l.take j=l:=bz aa;rw[e];have Oq:¬(j:Int)<((bytes l).size:Int):=aa;generalize bytes l.reverse=B at *;generalize bytes l=S at *;go_wp2;exact bodyPost_ret (results_cell_row aG _ _ w.heap.size 237 #[.bool true,.string _] (0,0) _ rfl (Go.Ren.EB (w:=W.drewN _) (uk)) underlying237 rfl mK) rfl (mL (W:=W.drewN _) hW RJ oU)
      ·have oU:Hid (ef 3 vs=(true,⟨(Lib.itoa (nU ts:Nat)).toArray⟩)):=by show ef 3 vs=_;rw[lP,Lib.itoa_nonneg];simp[gN]
       have hi:=λn=>Tryz.strconv_Itoa (nU ts:Nat) aa aa (W.drewN n) (Ve n);clear lP OC QV Ve hS h5;generalize nU ts=s0 at *;go_wp2_with (go_at_call 197;refine(hi _).mono ?_;rintro e w' ⟨rfl,n2,os2,rfl⟩);exact bodyPost_ret (results_cell_row aG _ _ w.heap.size 237 #[.bool true,.string _] (0,0) _ rfl (Go.Ren.EB (w:=Go.Sort.grow (W.drewN _) _) (QW _ _)) underlying237 rfl mK) rfl (mL (W:=Go.Sort.grow (W.drewN _) _) (VF _ _) (ad7 _ _) oU)
      ·have oU:Hid (ef 4 vs=(true,ju ts)):=by show ef 4 vs=_;rw[lP];simp[gN]
       clear lP OC QV Ve hS h5;generalize ju ts=m0 at *;go_wp2;exact bodyPost_ret (results_cell_row aG _ _ w.heap.size 237 #[.bool true,.string _] (0,0) _ rfl (Go.Ren.EB (w:=W.drewN _) (uk)) underlying237 rfl mK) rfl (mL (W:=W.drewN _) hW RJ oU)
      ·exact absurd rfl h5
     ·have aip:¬(32:Int)<((bytes (flat ts)).size:Int):=aa;have hS:bytes (flat ts)=bytes ((flat ts).take 32):=QU aa;rcases HZ with rfl|rfl|rfl|rfl|rfl
      ·have oU:Hid (ef 1 vs=(true,bytes (flat ts))):=by show ef 1 vs=_;rw[lP,hS];simp[gN]
       clear lP OC QV Ve hS h5;go_wp2;exact bodyPost_ret (results_cell_row aG _ _ w.heap.size 237 #[.bool true,.string _] (0,0) _ rfl (Go.Ren.EB (w:=W.drewN _) (uk)) underlying237 rfl mK) rfl (mL (W:=W.drewN _) hW RJ oU)
      ·have oU:Hid (ef 2 vs=(true,bytes ((flat ts).take 32).reverse)):=by show ef 2 vs=_;rw[lP];simp[gN]
       have EP:=hS;clear lP Ve h5 hS;have hS:Hid (bytes (flat ts)=bytes ((flat ts).take 32)):=EP;clear EP;go_wp2;rw[show bytes (flat ts)=bytes ((flat ts).take 32) from hS];generalize hl:(flat ts).take 32=l at *;clear hS;have hlz:(bytes l).size=l.length:=lh l;go_loop [12,13] (λx i=>∃j:Nat,j<=l.length/\i=.int .i64 j/\x=.string (bytes (l.take j).reverse)) (λ_ i=>l.length-(intOf i).toNat)
       case atStart=>exact⟨0,aW _,rfl,rfl⟩
       case round =>
        obtain⟨j,hj,rfl,rfl⟩:=hrel;by_cases HV:j<l.length
        ·have Oq:(j:Int)<((bytes l).size:Int):=aa;have HR:Hid ((bytes l).extract j (j+1)++bytes (l.take j).reverse=bytes (l.take (j+1)).reverse):=rev_succ HV;have JO:(bytes (l.take j).reverse).size<=32:=by rw[lh,List.length_reverse,ln];omega
         have Da:((bytes l).extract j (j+1)).size<=32:=by rw[lB];omega
         have ad8:¬9223372036854775807<((bytes l).extract j (j+1)).size+(bytes (l.take j).reverse).size:=aa;generalize bytes (l.take j).reverse=B at *;generalize bytes l=S at *;go_wp2
         go_round
         case rel=>exact⟨j+1,aa,by go_num,by first|(rw[<- HR];done)|(rw[<- HR];congr 2)⟩
         case measure=>simp[intOf];omega
        ·have e:l.take j=l:=bz aa;rw[e];have Oq:¬(j:Int)<((bytes l).size:Int):=aa;generalize bytes l.reverse=B at *;generalize bytes l=S at *;go_wp2;exact bodyPost_ret (results_cell_row aG _ _ w.heap.size 237 #[.bool true,.string _] (0,0) _ rfl (Go.Ren.EB (w:=W.drewN _) (uk)) underlying237 rfl mK) rfl (mL (W:=W.drewN _) hW RJ oU)
      ·have oU:Hid (ef 3 vs=(true,⟨(Lib.itoa (nU ts:Nat)).toArray⟩)):=by show ef 3 vs=_;rw[lP,Lib.itoa_nonneg];simp[gN]
       have hi:=λn=>Tryz.strconv_Itoa (nU ts:Nat) aa aa (W.drewN n) (Ve n);clear lP OC QV Ve hS h5;generalize nU ts=s0 at *;go_wp2_with (go_at_call 197;refine(hi _).mono ?_;rintro e w' ⟨rfl,n2,os2,rfl⟩);exact bodyPost_ret (results_cell_row aG _ _ w.heap.size 237 #[.bool true,.string _] (0,0) _ rfl (Go.Ren.EB (w:=Go.Sort.grow (W.drewN _) _) (QW _ _)) underlying237 rfl mK) rfl (mL (W:=Go.Sort.grow (W.drewN _) _) (VF _ _) (ad7 _ _) oU)
      ·have oU:Hid (ef 4 vs=(true,ju ts)):=by show ef 4 vs=_;rw[lP];simp[gN]
       clear lP OC QV Ve hS h5;generalize ju ts=m0 at *;go_wp2;exact bodyPost_ret (results_cell_row aG _ _ w.heap.size 237 #[.bool true,.string _] (0,0) _ rfl (Go.Ren.EB (w:=W.drewN _) (uk)) underlying237 rfl mK) rfl (mL (W:=W.drewN _) hW RJ oU)
      ·exact absurd rfl h5
end
section
open Go.RowKit
def KJ(b c:Nat)(p:Option Addr)(fs:List (ag×ag))(x:ag)(w:ae)(hn:fs.length<=1000)(hp:fs≠[]->p=so ⟨b,0,we⟩/\b<w.heap.size)(hf:na w b fs)(hx:∀f∈fs,f.1≠x):
  Calls ak 69 #[.slice p fs.length c,.string x] w λe w'=>e=.returned (.bool false)/\Below w.heap.size w w'/\w.heap.size<=w'.heap.size:=by
 go_enter func69,ntmps69;go_wp2;go_loopw [9] (λi w'=>∃k:Nat,k<=fs.length/\i=.int .i64 k/\Below w.heap.size w w'/\w.heap.size<=w'.heap.size) (λi _=>fs.length-(intOf i).toNat)
 case atStart=>exact⟨0,aW _,rfl,Below.refl _ _,af _⟩
 case round =>
  obtain⟨k,hk,rfl,im,hz⟩:=hrel;by_cases cR:k<fs.length
  ·obtain⟨rfl,hb⟩:=hp (lU cR);obtain⟨c0,c1⟩:=hf.below hb im k cR;have fu:=qA (hx fs[k] (aA cR));generalize fs[k]=f at *;obtain⟨f1,f2⟩:=f;simp only at c0 c1 fu;clear hf hx;go_wp2;exact⟨⟨k+1,aa,by go_num,im.alloc aa _,eW⟩,by simp[intOf];omega⟩
  ·go_wp2;go_ret;exact⟨rfl,im,hz⟩
end
section
open Go.RowKit
open Go.Ren (cell_of)
def Yl{w:ae}{B t n k:Nat}{vs:List V}{v:V}(hk:k<vs.length)(cd:w.rowIs B t (n*2) (fK vs)):
  ((w.setCell ⟨B,k*2,we⟩ (.bool v.1)).setCell ⟨B,k*2+1,we⟩ (.string v.2)).rowIs B t (n*2) (fK (vs.set k v)):=by
 refine((cd.set (k*2) _).set (k*2+1) _).congr λj hj=>?_;by_cases e1:j=k*2+1
 ·subst e1;rw[if_pos rfl];have h1:(k*2+1)%2=1:=aa;have h2:(k*2+1)/2=k:=aa;simp[fK,h1,h2,hk]
 ·by_cases e2:j=k*2
  ·subst e2;rw[if_neg e1,if_pos rfl];have h1:(k*2)%2=0:=aa;have h2:(k*2)/2=k:=aa;simp[fK,h1,h2,hk]
  ·rw[if_neg e1,if_neg e2];have h3:k≠j/2:=aa;simp[fK,h3]
def lK(dR:List ag)(fs:List (ag×ag)):List V:=fs.foldl (λvs f=>if qk dR f.1 then vs.set (nY dR f.1) (true,f.2)else vs) (List.replicate dR.length V0)
def AS(dR:List ag)(fs:List (ag×ag))(k:Nat)(h:k<fs.length):lK dR (fs.take (k+1))=if qk dR fs[k].1 then(lK dR (fs.take k)).set (nY dR fs[k].1) (true,fs[k].2)else lK dR (fs.take k):=by
 unfold lK;rw[take_succ fs k h,List.foldl_append];rfl
def DD(dR:List ag)(fs:List (ag×ag)):(lK dR fs).length=dR.length:=by
 unfold lK
 suffices ∀(l:List (ag×ag)) (vs:List V),(l.foldl (λvs f=>if qk dR f.1 then vs.set (nY dR f.1) (true,f.2)else vs) vs).length=vs.length by
  rw[this,List.length_replicate]
 intro l
 induction l with
 |nil=>exact λ_=>rfl
 |cons f l ih =>
  intro vs;rw[List.foldl_cons,ih];split
  ·rw[List.length_set]
  ·rfl
def Ht(sb sc b c:Nat)(sp p:Option Addr)(dR:List ag)(fs:List (ag×ag))(w:ae)(h1:dR.length<=1000)(h2:fs.length<=1000)(xU:dR≠[]->sp=so ⟨sb,0,we⟩/\sb<w.heap.size)(hp:fs≠[]->p=so ⟨b,0,we⟩/\b<w.heap.size)(hs:gf w sb 0 dR)(hf:na w b fs):
  Calls ak 43 #[.slice sp dR.length sc,.slice p fs.length c] w λe w'=>e=.returned (.slice (so ⟨w.heap.size,0,we⟩) dR.length dR.length)/\Below w.heap.size w w'/\w.heap.size<w'.heap.size /\
   w'.rowIs w.heap.size 159 (dR.length*2) (fK (lK dR fs)):=by
 have lP:=λw=>wQ w dR.length aa;go_enter func43,ntmps43;go_wp2;go_loopw [15] (λi w'=>∃k:Nat,k<=fs.length/\i=.int .i64 k/\Below w.heap.size w w'/\w.heap.size<w'.heap.size/\w'.rowIs w.heap.size 159 (dR.length*2) (fK (lK dR (fs.take k)))) (λi _=>fs.length-(intOf i).toNat)
 case atStart =>
  refine⟨0,aW _,rfl,(Below.refl _ _).alloc (af _) _,aj,_,dz _ _,by simp[size_madeCells],λj hj=>?_⟩;simp only[madeCells,aM,Array.getElem?_range,hj,if_true,aK];have h5:(lK dR (fs.take 0)).getD (j/2) V0=V0:=by
   show(List.replicate dR.length V0).getD (j/2) V0=V0;rw[bm,gl];split<;>rfl
  unfold fK;rw[h5];rcases fL j with e|e<;>simp[e]
 case round =>
  obtain⟨k,hk,rfl,im,hz,cd⟩:=hrel;by_cases cR:k<fs.length
  ·obtain⟨rfl,hb⟩:=hp (lU cR);obtain⟨c0,c1⟩:=hf.below hb im k cR;have BH:=AS dR fs k cR;have hlen:=DD dR (fs.take k);have oh:qk dR fs[k].1=true->nY dR fs[k].1<dR.length:=λh=>(fR h).1;have VX:=λx=>ve sb sc sp dR fs[k].1 (wr.alloc x) aa (λh=>(xU h).1) (λj hj=>hs.below (xU (lU hj)).2 (im.alloc aa _) j hj);have d0:∀j,j<dR.length->wr.cell? ⟨w.heap.size,j*2,we⟩=so (fK (lK dR (fs.take k)) (j*2)):=λj hj=>cd.cell aa;have d1:∀j,j<dR.length->wr.cell? ⟨w.heap.size,j*2+1,we⟩=so (fK (lK dR (fs.take k)) (j*2+1)):=λj hj=>cd.cell aa;have f0:∀j,wr.frozen? ⟨w.heap.size,j,we⟩=false:=λj=>cd.frozen j;generalize fs[k]=f at *;obtain⟨f1,f2⟩:=f;simp only at c0 c1 VX oh BH;clear hs hf xU hp;generalize lK dR (fs.take k)=vs at *;generalize qk dR f1=ht at *;generalize nY dR f1=po at *;cases ht
   ·go_wp2_with (go_at_call 77;refine(VX _).mono ?_;rintro e w2 ⟨rfl,tY,oe⟩);refine⟨⟨k+1,aa,by go_num,oe _ _ (im.alloc aa _),?_,?_⟩,by simp[intOf];omega⟩
    ·rw[tY];simp;omega
    ·rw[BH];exact cd.of_block (by rw[tY];exact Below.heap_alloc _ _ _ hz)
   ·have hpo:=oh rfl;have hpI:(po:Int)<(dR.length:Int):=aa;obtain⟨a0,e0⟩:∃v,wr.cell? ⟨w.heap.size,po*2,we⟩=so v:=⟨_,d0 po hpo⟩;obtain⟨a1,e1⟩:∃v,wr.cell? ⟨w.heap.size,po*2+1,we⟩=so v:=⟨_,d1 po hpo⟩;have hA:∀x:Obj,(wr.alloc x).heap[w.heap.size]?=wr.heap[w.heap.size]?:=λx=>Below.heap_alloc _ _ _ hz;have r0:=λx=>(cell_of (hA x)).trans e0;have r1:=λx=>(cell_of (hA x)).trans e1;have r2:∀x j,(wr.alloc x).frozen? ⟨w.heap.size,j,we⟩=false:=λx j=>by
     have:=f0 j;unfold World.frozen? at this |-;rw[hA x];exact this
    clear d0 d1 f0 e0 e1 lP;go_wp2_with (go_at_call 77;refine(VX _).mono ?_;rintro e w2 ⟨rfl,tY,oe⟩;have g0:=(nA tY _).trans (r0 _);have g1:=(nA tY _).trans (r1 _);have g2:=λj=>(vf tY _).trans (r2 _ j);have g3:=(nA tY _).trans (tA _ _ _ 1));refine⟨⟨k+1,aa,by go_num,((oe _ _ (im.alloc aa _)).setCell (af _) _).setCell (af _) _,?_,?_⟩,by simp[intOf];omega⟩
    ·simp[World.setCell,tY];omega
    ·rw[BH,if_pos trivial];exact Yl (v:=(true,f2)) aa (cd.of_block (by rw[tY];exact hA _))
  ·have e:k=fs.length:=aa;subst e;rw[cO]at cd;go_wp2;go_ret;exact⟨rfl,im,hz,cd⟩
end
open Go.Ren Go.Conc Go.ConcN
def nC.Ym{w w':ae}(h:nC w)(e:w'.heap[1]?=w.heap[1]?):nC w':=by
 unfold nC Lib.TabIs World.var? at h |-;rw[show ak.globalNamed "internal/strconv.uint64pow10" = so 1 by kernel_rfl]at h |-;simp only[Option.bind_some]at h |-;rw[e];exact h
def Hu(l:List V)(k:Nat)(h:k<l.length):(mJ l)[k*2]?=so (.bool l[k].1)/\(mJ l)[k*2+1]?=so (.string l[k].2):=by
 induction l generalizing k with
 |nil=>simp at h
 |cons v l ih =>
  cases k with
  |zero=>simp[mJ]
  |succ k =>
   have:=ih k (by simpa using h);have e1:(k+1)*2=k*2+2:=aa;have e2:(k+1)*2+1=k*2+1+2:=aa;rw[e1,show k*2+2+1=k*2+1+2 by omega];simpa[mJ] using this
section
variable {Fin:br}{o o':aL}{w w':ae}
structure Ud(o:aL)(w:ae)(v:Value)(l:List V):Prop where
 ex:∃p b c,v=.slice p l.length c/\l.length<=c/\(l≠[]->p=so ⟨b,0,we⟩/\o b)/\qZ w b 0 l
 cl:Cl ak L0 o v
def jy.ad9{lo:Nat}{v:Value}{l:List V}(h:jy o w lo 237 2 v l.length (mJ l))(hF:bJ ak L0 o w):Ud o w v l:=by
 obtain⟨p,b,c,rfl,h1,h2,-,h3⟩:=h.at_ hF;refine⟨⟨p,b,c,rfl,h1,λq=>⟨(h2 (dF.2 q)).1,(h2 (dF.2 q)).2.1⟩,λk hk=>?_⟩,h.cl⟩;obtain⟨c0,c1⟩:=Hu l k hk;rw[bD];exact⟨h3 _ _ c0,h3 _ _ c1⟩
def aar(hF:bJ ak L0 o w)(hT:nC w)(r:Int)(hr:1<=r/\r<=5){v:Value}{vs:List V}(hV:Ud o w v vs)(hn:vs.length<=50)(hm:gy (vs.map (·.2))<=1000000):
  bC ak (XB ak Fin 0) 178 #[.int .i64 r,v] o w λu o' w'=>u=.agg #[.bool (ef r vs).1,.string (ef r vs).2]/\iz o w u o' w':=by
 obtain⟨p,b,c,rfl,hc,hp,ht⟩:=hV.ex;refine bC.mono (fQ ah hF (λy hy=>by simp at hy;rcases hy with rfl|rfl;exact lG;exact hV.cl) (Q:=λwl u w'=>u=.agg #[.bool (ef r vs).1,.string (ef r vs).2]) (λwl D8 v w1 w2 e1 e2 h=>h) (λwl hz bu=>?_)) (λu o' w' hq=>?_)
 ·have g4:ak.globals.size=4:=ah;refine(Uc r hr b 0 c p vs wl hn hm (λq=>⟨(hp q).1,by rw[hz];exact hF.lt (hp q).2⟩) (λk hk=>?_) (hT.Ym (bu 1 (hF.kz 1 (by rw[g4];omega))))).mono λe w' hq=>?_
  ·have ob:=(hp (lU hk)).2;exact⟨(cell_of (bu b ob)).trans (ht k hk).1,(cell_of (bu b ob)).trans (ht k hk).2⟩
  ·exact⟨_,hq.ex,hq.size,hq.same,rfl⟩
 ·exact⟨hq.2.choose_spec.choose_spec.2.2.2,hq.1⟩
def xb(w:ae)(n:Nat)(hn:n<=100000):(Instr.makeSlice 234 (.int .i64 (n:Int)) (.int .i64 (n:Int))).run ak w=.ok (.slice (so ⟨w.heap.size,0,we⟩) n n) (w.alloc (.cells (madeCells #[.bool false,.string ⟨#[]⟩] (n*2)) 237)):=by
 obtain⟨i,hi,hz⟩:=aH.1 Af;simp only[bO]at hz;obtain⟨hz,hs,hb⟩:=hz;have:=run_make (P:=ak) w 234 237 i _ underlying234 hi hz .i64 .i64 n n aa (en _) (by rw[hb];omega) aa;rw[this,hs];simp[Value.cells]
def DF{w:ae}{A n:Nat}(h:w.heap[A]?=so (.cells (madeCells #[.bool false,.string ⟨#[]⟩] (n*2)) 237)):w.rowIs A 237 (n*2) (fK (List.replicate n V0)):=by
 refine⟨_,h,by simp[size_madeCells],λj hj=>?_⟩;have hV:(List.replicate n V0).getD (j/2) V0=V0:=by simp[List.getD,List.getElem?_replicate];split<;>rfl
 simp only[madeCells,aM,Array.getElem?_range,hj,if_true,aK,fK,hV];rcases fL j with e|e
 ·simp[e]
 ·simp[e];rfl
def OS{A:Nat}{l:List V}(h:w.rowIs A 237 (l.length*2) (fK l)):qZ w A 0 l:=λk hk=>by
 have c0:=h.cell (show k*2<l.length*2 by omega);have c1:=h.cell (show k*2+1<l.length*2 by omega);rw[bD];have e0:(k*2)/2=k:=aa;have e1:(k*2+1)/2=k:=aa;have e2:(k*2+1)%2=1:=aa;simp only[fK,Nat.mul_mod_left,if_true,e0,List.getD_eq_getElem?_getD,au hk,bc]at c0;simp only[fK,e2,e1,List.getD_eq_getElem?_getD,au hk,bc]at c1;exact⟨c0,by simpa using c1⟩
end
def stepT(us:List Ru)(fs:List (ag×ag))(hv:List V):List V:=us.map λu=>ef u.eT (wy (us.map (·.out)) fs hv u.ins)
def gF(us:List Ru)(fs:List (ag×ag)):Nat->List V
 |0=>List.replicate us.length V0
 |k+1=>stepT us fs (gF us fs k)
def Ag(us:List Ru)(fs:List (ag×ag)):∀k,(gF us fs k).length=us.length
 |0=>by simp[gF]
 |k+1=>by simp[gF,stepT]
def Nf{fs:List (ag×ag)}(h:∀f∈fs,f.2.size<=100)(x:ag):(ot fs x).2.size<=100:=by
 induction fs with
 |nil=>show(0:Nat)<=100;omega
 |cons f l ih =>
  unfold ot;split
  ·exact h f aj
  ·exact ih λg hg=>h g (by simp[hg])
def FZ{outs:List ag}{fs:List (ag×ag)}{hv:List V}(h:∀f∈fs,f.2.size<=100)(k:∀v∈hv,v.2.size<=100)(ins:List ag):∀v∈wy outs fs hv ins,v.2.size<=100:=λv wM=>by
 obtain⟨x,-,rfl⟩:=aV.1 wM;split
 ·rw[bm];cases e:hv[(uj outs x 0).toNat]? with
  |none=>show(0:Nat)<=100;omega
  |some u=>exact k u (cL e)
 ·exact Nf h x
def DG{us:List Ru}{fs:List (ag×ag)}(h4:∀u∈us,u.ins.length<=4)(h:∀f∈fs,f.2.size<=100):∀k,∀v∈gF us fs k,v.2.size<=100
 |0,v,hv=>by rw[ga hv];show(0:Nat)<=100;omega
 |k+1,v,hv=>by
  obtain⟨u,hu,rfl⟩:=aV.1 hv;exact Dm (by simp[wy];exact h4 u hu) (FZ h (DG h4 h k) u.ins)
def QX{l:List V}(hl:l.length<=50)(h:∀v∈l,v.2.size<=100):gy (l.map (·.2))<=1000000:=by
 have:gy (l.map (·.2))<=100*l.length:=by
  clear hl
  induction l with
  |nil=>simp[gy]
  |cons v l ih =>
   have h1:=ih λu hu=>h u (by simp[hu]);have h2:=h v aj;simp[gy]at h1 |-;omega
 omega
def Ue(l:List V)(k:Nat)(h:k<l.length):(part l k).set k l[k]=part l (k+1):=by
 apply dA;intro j;simp only[part,List.getElem?_set,List.length_append,List.length_take,List.length_replicate];by_cases e:k=j
 ·subst e;rw[if_pos rfl,if_pos aa,dI eW,cE aa,au h]
 ·rw[if_neg e];by_cases e1:j<k
  ·rw[dI eW,dI eW,cE e1,cE aa]
  ·rw[dD eW,dD eW,gl,gl];simp only[List.length_take];by_cases e2:j<l.length
   ·rw[if_pos aa,if_pos aa]
   ·rw[if_neg aa,if_neg aa]
section
variable {Fin:br}{o o':aL}{w w':ae}{p:Option Addr}{b off c:Nat}{ls:List iF}
def Uf{l:List ag}{k:Nat}(hk:k<l.length):0<=uj l l[k] 0/\(uj l l[k] 0<(k:Int)↔l[k]∈l.take k):=by
 rcases tc l[k] l 0 with⟨e,h⟩|⟨i,e,h1,h2⟩
 ·exact absurd (aA hk) h
 ·obtain⟨hi,h1⟩:=a8.1 h1;refine⟨aa,⟨λq=>?_,λq=>?_⟩⟩
  ·rw[<- h1];exact gQ.2 ⟨i,eW,aj⟩
  ·obtain⟨j,hj,QN⟩:=gQ.1 q;simp at hj QN;have:¬j<i:=λq=>h2 j q (by rw[au aa,QN]);omega
def aea(hR:kp Fin o w p b off ls)(h8:ls.length<=8)(k:Nat)(hk:k<ls.length):
  bC ak (XB ak Fin 0) 129 #[.slice p ls.length c,.int .i64 (k:Nat)] o w λv o' w'=>∃e,v=.int .i64 e/\oa (ls.map iF.ru) k e/\o'=o/\fl w w':=by
 have W:=bZ (P:=ak) (Fin:=Fin) (d:=0);obtain⟨ep,hB,ub⟩:=hR.ptr (lU hk);obtain⟨c0,c1,c2⟩:=hR.at_ k hk;obtain⟨n1,n2⟩:=hR.ins ls[k] (aA hk);obtain⟨Ug,QQ,bg2⟩:=hR.qt.2 ls[k] (aA hk);have hu:(ls.map iF.ru)[k]?=so ⟨ls[k].out,ls[k].eT,ls[k].ins⟩:=by simp[iF.ru,au hk]
 have qx:((ls.map iF.ru).take k).map (·.out)=(ls.map (·.out)).take k:=by simp[<- List.map_take,iF.ru,List.map_map,Function.comp_def]
 have wY:=Uf (l:=ls.map (·.out)) (k:=k) (by simpa using hk);simp only[List.getElem_map]at wY;rw[<- qx]at wY;clear qx;subst ep;generalize OQ:ls.map iF.ru=us at *;have rB:=λy=>Nd (c:=c) (hR.keep (o':=λb=>o b\/b=w.heap.size) (w':=w.alloc (.cells #[.string ls[k].out,.int .i64 ls[k].eT,.slice ls[k].sa ls[k].ins.length ls[k].sc] 42)) (λb h=>.inl h) aj (λb hb=>RowKit.Below.heap_alloc _ _ b hb)) y;have T9:=fl.alloc w (.cells #[.string ls[k].out,.int .i64 ls[k].eT,.slice ls[k].sa ls[k].ins.length ls[k].sc] 42);have hTc:=ki (w:=w.alloc (.cells #[.string ls[k].out,.int .i64 ls[k].eT,.slice ls[k].sa ls[k].ins.length ls[k].sc] 42)) (b:=w.heap.size) (dz _ _);clear hR OQ;generalize ls[k].out=y at *;generalize ls[k].eT=rc at *;generalize ls[k].sa=sa at *;generalize ls[k].sc=sc at *;generalize ls[k].ib=ib at *;generalize ls[k].Nc=io at *;generalize ls[k].ins=ts at *;have rq:(k:Int)<(ls.length:Int):=aa;refine bC.drop ?_;refine bt W func129 aG ?_;walk_nrmf Tryz.f129;refine aD ?_;refine eZ hB rfl aG rfl (v:=.agg #[.string y,.int .i64 rc,.slice sa ts.length sc]) (λwl bu=>by simp[go_sem,bu.cell.trans c0,bu.cell.trans c1,bu.cell.trans c2]) (λwl bu x hx=>?_) ?_
 ·simp[go_sem,bu.cell.trans c0,bu.cell.trans c1,bu.cell.trans c2]at hx;rcases hx with rfl|rfl|rfl<;>exact⟨_,_,_,rfl,rfl⟩
 walk_nrm;refine Dx y rc sa ts.length sc ?_;have hz:(w.alloc (.cells #[.string y,.int .i64 rc,.slice sa ts.length sc] 42)).heap.size=w.heap.size+1:=aj;have n2':∀j (h:j<ts.length),(w.alloc (.cells #[.string y,.int .i64 rc,.slice sa ts.length sc] 42)).cell? ⟨ib,io+j,we⟩=so (.string ts[j]):=λj h=>(cell_of (T9.same ib (n1 (lU h)).2.2)).trans (n2 j h);have n1':ts≠[]->sa=so ⟨ib,io,we⟩/\wx Fin (λb=>o b\/b=w.heap.size) ib:=λq=>⟨(n1 q).1,(n1 q).2.1.up λb h=>.inl h⟩;obtain⟨d0,d1,d2,-⟩:=hTc;have hT:wx Fin (λb=>o b\/b=w.heap.size) w.heap.size:=.inl (.inr rfl);have KL:∀b,o b->(λb=>o b\/b=w.heap.size) b:=λb h=>.inl h;clear n1 n2 hB ub c0 c1 c2 hz;generalize w.heap.size=T at *;generalize (λb=>o b\/b=T)=oT at *;generalize w.alloc (.cells #[.string y,.int .i64 rc,.slice sa ts.length sc] 42)=wT at *;refine aD ?_;refine kn hT d0 ?_;walk_nrm;refine dq func131 (Hr y Ug) ?_;rintro v o2 w2 ⟨q0,rfl,hq0,e1,e2⟩;subst e1 e2;refine aD ?_;refine dQ W (λm a o' w'=>∃j,m+j=ts.length/\a.tmps.size=56/\a.defers=[]/\a.eval (.tmp 0)=.slice (so ⟨b,off,we⟩) ls.length c/\a.eval (.tmp 1)=.int .i64 (k:Nat)/\a.eval (.tmp 5)=.pointer (so ⟨T,0,we⟩)/\a.eval (.tmp 7)=.int .i64 (j:Nat)/\o'=o2/\w'=w2/\∃q,a.eval (.tmp 6)=.bool q/\(q=true↔isName y/\∀x∈ts.take j,isName x)) (N:=ts.length) ⟨0,aj,rfl,rfl,ax,ax,ax,ax,rfl,rfl,q0,ax,by simp[hq0]⟩ ?_;clear hq0;rintro m a o3 w3 ⟨j,hmj,ew,iu,i0,i1,i5,i7,e1,e2,q,i6,hq⟩;subst e1 e2;obtain⟨gs,rfl⟩:=eQ ew iu;clear ew iu;simp only[List.range,List.range.loop,aB,aJ]at i0 i1 i5 i6 i7 |-;simp[Act.eval]at i0 i1 i5 i6 i7;simp only[i0,i1,i5,i6,i7];clear i0 i1 i5 i6 i7;by_cases hj:j<ts.length
 ·have Oq:(j:Int)<(ts.length:Int):=aa;have US:IntKind.i64.wrap ((j:Int)+1)=((j+1:Nat):Int):=by rw[IntKind.wrap_i64]<;>omega
  obtain⟨es,hI⟩:=n1' (lU hj);have ci:=n2' j hj;have bx:=bg2 _ (aA hj);have qw:∀q',(q'=true↔isName ts[j])->((q&&q')=true↔isName y/\∀x∈ts.take (j+1),isName x):=λq' h=>by
   rw[aU,hq,h];constructor
   ·rintro⟨⟨h1,h2⟩,h3⟩;refine⟨h1,λx hx=>?_⟩;rcases(gH hj).1 hx with hx|rfl
    ·exact h2 x hx
    ·exact h3
   ·rintro⟨h1,h2⟩;exact⟨⟨h1,λx hx=>h2 x ((gH hj).2 (.inl hx))⟩,h2 _ ((gH hj).2 (.inr rfl))⟩
  clear n1' n2' bg2 rB wY hu;generalize Vj:ts[j]=x at *;subst es;refine aD ?_;refine kn hT d2 ?_;refine aD ?_;refine kn hT d2 ?_;refine aD ?_;refine kn hI ci ?_;walk_nrm;refine dq func131 (Hr x bx) ?_;rintro v o2 w2 ⟨q1,rfl,AE,e1,e2⟩;subst e1 e2;have qw:=qw q1 AE;clear AE hq;walk_nrm;cases q
  ·rw[Bool.false_and]at qw;refine aD ?_;exact⟨m-1,aa,j+1,aa,bQ,bQ,ax,ax,ax,by simp[Act.eval,US],by trivial,by trivial,_,ax,qw⟩
  ·rw[Bool.true_and]at qw;refine aD ?_;exact⟨m-1,aa,j+1,aa,bQ,bQ,ax,ax,ax,by simp[Act.eval,US],by trivial,by trivial,_,ax,qw⟩
 have Oq:¬(j:Int)<(ts.length:Int):=aa;rw[bz aa]at hq;clear n1' n2' bg2;cases q
 ·have dO:oa us k 2:=⟨_,hu,.inl ⟨rfl,λh=>by have:=hq.2 h;cases this⟩⟩;clear rB wY hu hq;refine aD ?_;refine kn hT d2 ?_;refine aD ?_;exact⟨.inr trivial,trivial,_,resultsC_tmp (t:=4) aG _,o,KL,2,ax,dO,rfl,T9⟩
 have mj:Ru.named ⟨y,rc,ts⟩:=hq.1 rfl;clear hq;by_cases hL:4<ts.length
 ·have hLI:(4:Int)<(ts.length:Int):=aa;have dO:oa us k 1:=⟨_,hu,.inr ⟨mj,.inl ⟨rfl,hL⟩⟩⟩;clear rB wY hu mj;refine aD ?_;refine kn hT d2 ?_;refine aD ?_;refine kn hT d2 ?_;refine aD ?_;exact⟨.inr trivial,trivial,_,resultsC_tmp (t:=4) aG _,o,KL,1,ax,dO,rfl,T9⟩
 have hLI:¬(4:Int)<(ts.length:Int):=aa;have Uh:ts.length<=4:=aa;by_cases hK1:rc<1
 ·have dO:oa us k 3:=⟨_,hu,.inr ⟨mj,.inr ⟨Uh,.inl ⟨rfl,λh=>by have h1:(1:Int)<=rc:=h.1;omega⟩⟩⟩⟩;clear rB wY hu mj Uh;refine aD ?_;refine kn hT d2 ?_;refine aD ?_;refine kn hT d2 ?_;refine aD ?_;refine kn hT d1 ?_;refine aD ?_;exact⟨.inr trivial,trivial,_,resultsC_tmp (t:=4) aG _,o,KL,3,ax,dO,rfl,T9⟩
 by_cases UO:5<rc
 ·have dO:oa us k 3:=⟨_,hu,.inr ⟨mj,.inr ⟨Uh,.inl ⟨rfl,λh=>by have h1:rc<=(5:Int):=h.2;omega⟩⟩⟩⟩;clear rB wY hu mj Uh;refine aD ?_;refine kn hT d2 ?_;refine aD ?_;refine kn hT d2 ?_;refine aD ?_;refine kn hT d1 ?_;refine aD ?_;refine kn hT d1 ?_;refine aD ?_;exact⟨.inr trivial,trivial,_,resultsC_tmp (t:=4) aG _,o,KL,3,ax,dO,rfl,T9⟩
 have hK:(1:Int)<=rc/\rc<=5:=aa;have dO:∀r:Int,(r<(k:Int)↔y∈(us.take k).map (·.out))->(r<(k:Int)->oa us k 4)/\(¬r<(k:Int)->oa us k 0):=λr hr =>
  ⟨λh=>⟨_,hu,.inr ⟨mj,.inr ⟨Uh,.inr ⟨hK,.inl ⟨rfl,hr.1 h⟩⟩⟩⟩⟩,λh=>⟨_,hu,.inr ⟨mj,.inr ⟨Uh,.inr ⟨hK,.inr ⟨rfl,λq=>h (hr.2 q)⟩⟩⟩⟩⟩⟩
 have dO:=dO _ wY.2;clear wY hu mj Uh hK;refine aD ?_;refine kn hT d2 ?_;refine aD ?_;refine kn hT d2 ?_;refine aD ?_;refine kn hT d1 ?_;refine aD ?_;refine kn hT d1 ?_;refine aD ?_;refine kn hT d0 ?_;walk_nrm;refine dq func176 (rB y) ?_;rintro v o2 w2 ⟨rfl,e1,e2⟩;subst e1 e2;generalize uj (ls.map (·.out)) y 0=r at *;clear rB;walk_nrm;by_cases hr:r<(k:Int)
 ·have dO:=dO.1 hr;refine aD ?_;exact⟨.inr trivial,trivial,_,resultsC_tmp (t:=4) aG _,o,KL,4,ax,dO,rfl,T9⟩
 ·have dO:=dO.2 hr;refine aD ?_;exact⟨.inr trivial,trivial,_,resultsC_tmp (t:=4) aG _,o,KL,0,ax,dO,rfl,T9⟩
end
section
variable {us:List Ru}
def OT{i:Nat}(kL:(us.map (·.out)).Nodup){v:Ru}(h:us[i]?=so v):uj (us.map (·.out)) v.out 0=(i:Nat):=by
 have hm:(us.map (·.out))[i]?=so v.out:=by simp[h]
 rcases tc v.out (us.map (·.out)) 0 with⟨-,q⟩|⟨j,e,h1,h2⟩
 ·exact absurd (cL hm) q
 ·rw[e];rcases dB i j with q|q|q
  ·exact absurd hm (h2 i q)
  ·omega
  ·obtain⟨a1,a2⟩:=a8.1 h1;obtain⟨b1,b2⟩:=a8.1 hm;exact absurd (a2.trans b2.symm) (ba.1 kL j i a1 b1 q)
def xO(kL:(us.map (·.out)).Nodup){t:Nat}{v:Ru}(hv:us[t]?=so v):∀s i,nh us s i v.out=true↔pg (tX us) s i t
 |0,i=>by simp[nh,pg]
 |s+1,i=>by
  unfold nh pg;cases hu:us[i]? with
  |none =>
   simp only[Option.map_none,Option.getD_none,List.any_nil,aT,false_iff,not_or];exact⟨(λ⟨u,_,h,_⟩=>by rw[hu]at h;cases h),(λ⟨k,⟨u,_,h,_⟩,_⟩=>by rw[hu]at h;cases h)⟩
  |some u =>
   simp only[aK,bc,List.any_eq_true,Bool.or_eq_true,decide_eq_true_eq,aU];constructor
   ·rintro⟨n,hn,rfl|⟨h0,h⟩⟩
    ·exact .inl ⟨u,v,hu,hv,hn⟩
    ·rcases tc n (us.map (·.out)) 0 with⟨e,-⟩|⟨j,e,h1,-⟩
     ·omega
     ·rw[e]at h;simp only[Nat.zero_add,Int.toNat_natCast]at h;rw[bM]at h1;obtain⟨x,hx,hxn⟩:=aH.1 h1;exact .inr ⟨j,⟨u,x,hu,hx,hxn▸hn⟩,(xO kL hv s j).1 h⟩
   ·rintro(⟨u',v',h1,h2,h3⟩|⟨k,⟨u',x,h1,h2,h3⟩,h4⟩)
    ·rw[hu]at h1;rw[hv]at h2;cases h1;cases h2;exact⟨v.out,h3,.inl rfl⟩
    ·rw[hu]at h1;cases h1;have e:=OT kL h2;refine⟨x.out,h3,.inr ⟨by rw[e];omega,?_⟩⟩;rw[e];exact(xO kL hv s k).2 (by simpa using h4)
def KM(kL:(us.map (·.out)).Nodup){i:Nat}{v:Ru}(hv:us[i]?=so v):nh us us.length i v.out=true↔ng us i :=
 (xO kL hv _ _).trans ⟨λh=>⟨_,h⟩,λ⟨n,h⟩=>h.short λa b q=>q.lt.2⟩
end
section
variable {Fin:br}{o o':aL}{w w':ae}{p:Option Addr}{b off c:Nat}{ls:List iF}
def OU(hR:kp Fin o w p b off ls):
  bC ak (XB ak Fin 0) 85 #[.slice p ls.length c] o w λv o' w'=>∃e a,v=.tuple #[.int .i64 e,.int .i64 a]/\jG (ls.map iF.ru) e a/\o'=o/\fl w w':=by
 have W:=bZ (P:=ak) (Fin:=Fin) (d:=0);have jE:=hR.qt.1;have Ui:(ls.map iF.ru).length=ls.length:=aj;have mW:∀i (hi:i<ls.length),(ls.map iF.ru)[i]?=so ls[i].ru:=λi hi=>by simp[au hi]
 refine bt W func85 aG ?_;walk_nrmf Tryz.f85;by_cases h8:8<ls.length
 ·have h8I:(8:Int)<(ls.length:Int):=aa;have dO:jG (ls.map iF.ru) 1 0:=⟨.inl ⟨aa,rfl,rfl⟩⟩;clear hR mW;refine aD ?_;exact⟨.inr trivial,trivial,_,resultsC_tmp2 (t:=2) (u:=3) aG _,1,0,ax,dO,by trivial,fl.refl _⟩
 have h8I:¬(8:Int)<(ls.length:Int):=aa;have h8':ls.length<=8:=aa;have Bi:=λw1 (hw:fl w w1) k hk=>aea (c:=c) (hR.keep (o':=o) (λ_ h=>h) hw.size hw.same) h8' k hk;have QY:=λw1 (hw:fl w w1) x f hf=>QP (c:=c) (hR.keep (o':=o) (λ_ h=>h) hw.size hw.same) x ls.length f aa hf;have hrd:=λi (hi:i<ls.length)=>hR.at_ i hi;have MW:=hR.ptr;clear hR;generalize OQ:ls.map iF.ru=us at *;refine aD ?_;refine dQ W (λm a o' w'=>∃k,m+k=ls.length/\a.tmps.size=42/\a.defers=[]/\a.eval (.tmp 0)=.slice p ls.length c/\a.eval (.tmp 4)=.int .i64 (k:Nat)/\o'=o/\fl w w'/\∀j,j<k->oa us j 0) (N:=ls.length) ⟨0,aj,rfl,rfl,ax,ax,rfl,fl.refl _,λj hj=>aa⟩ ?_;rintro m a o1 w1 ⟨k,lP,ew,iu,i0,i4,e1,hw,eP⟩;subst e1;obtain⟨gs,rfl⟩:=eQ ew iu;clear ew iu;simp only[List.range,List.range.loop,aB,aJ]at i0 i4 |-;simp[Act.eval]at i0 i4;simp only[i0,i4];clear i0 i4;by_cases hk:k<ls.length
 ·have rq:(k:Int)<(ls.length:Int):=aa;have om:IntKind.i64.wrap ((k:Int)+1)=((k+1:Nat):Int):=by rw[IntKind.wrap_i64]<;>omega
  have Bi:=Bi w1 hw k hk;clear QY hrd MW mW;refine aD ?_;refine dq func129 (Bi) ?_;rintro v o2 w2 ⟨e,rfl,he,e1,tY⟩;subst e1;have X9:=hw.trans tY;clear Bi hw tY;walk_nrm;by_cases h0:e=0
  ·subst h0;have vn:∀j,j<k+1->oa us j 0:=λj hj=>by
    by_cases q:j=k
    ·subst q;exact he
    ·exact eP j aa
   clear eP he;refine aD ?_;exact⟨m-1,aa,k+1,aa,bQ,bQ,ax,by simp[Act.eval,om],by trivial,X9,vn⟩
  ·have h0b:(e != 0)=true:=by rw[mB];exact h0
   have dO:jG us e k:=⟨.inr ⟨aa,.inl ⟨k,aa,he,h0,rfl,eP⟩⟩⟩;clear eP he h0;refine aD ?_;exact⟨.inr trivial,trivial,_,resultsC_tmp2 (t:=2) (u:=3) aG _,e,k,ax,dO,by trivial,X9⟩
 have rq:¬(k:Int)<(ls.length:Int):=aa;have eP:∀j,j<us.length->oa us j 0:=λj hj=>eP j aa;have kL:=Dw eP;clear Bi;refine aD ?_;refine dQ W (λm a o' w'=>∃k,m+k=ls.length/\a.tmps.size=42/\a.defers=[]/\a.eval (.tmp 0)=.slice p ls.length c/\a.eval (.tmp 6)=.int .i64 (k:Nat)/\o'=o1/\w'=w1/\∀j,j<k->¬ng us j) (N:=ls.length) ⟨0,aj,rfl,rfl,ax,ax,rfl,rfl,λj hj=>aa⟩ ?_;clear lP hk rq;rintro m a o2 w2 ⟨k,lP,ew,iu,i0,i6,e1,e2,ua⟩;subst e1 e2;obtain⟨gs,rfl⟩:=eQ ew iu;clear ew iu;simp only[List.range,List.range.loop,aB,aJ]at i0 i6 |-;simp[Act.eval]at i0 i6;simp only[i0,i6];clear i0 i6;by_cases hk:k<ls.length
 ·have rq:(k:Int)<(ls.length:Int):=aa;have om:IntKind.i64.wrap ((k:Int)+1)=((k+1:Nat):Int):=by rw[IntKind.wrap_i64]<;>omega
  obtain⟨ep,hB,ub⟩:=MW (lU hk);have c0:=(cell_of (hw.same b ub)).trans (hrd k hk).1;have QY:=QY w2 hw ls[k].out k hk;have R8:nh us ls.length k ls[k].out=true↔ng us k:=by rw[<- Ui];exact KM kL (mW k hk)
  clear hrd MW mW;subst ep;generalize ls[k].out=y at *;generalize nh us ls.length k y=q at *;refine aD ?_;refine kn hB c0 ?_;refine aD ?_;refine dq func130 (QY) ?_;rintro v o3 w3 ⟨rfl,e1,e2⟩;subst e1 e2;clear QY;walk_nrm;cases q
  ·have aas:∀j,j<k+1->¬ng us j:=λj hj h=>by
    by_cases e:j=k
    ·subst e;cases R8.2 h
    ·exact ua j aa h
   clear ua R8 eP kL;refine aD ?_;exact⟨m-1,aa,k+1,aa,bQ,bQ,ax,by simp[Act.eval,om],by trivial,by trivial,aas⟩
  ·have dO:jG us 5 k:=⟨.inr ⟨aa,.inr ⟨eP,.inl ⟨k,aa,R8.1 rfl,rfl,rfl,ua⟩⟩⟩⟩;clear ua R8 eP kL;refine aD ?_;exact⟨.inr trivial,trivial,_,resultsC_tmp2 (t:=2) (u:=3) aG _,5,k,ax,dO,by trivial,hw⟩
 ·have rq:¬(k:Int)<(ls.length:Int):=aa;have dO:jG us 0 0:=⟨.inr ⟨aa,.inr ⟨eP,.inr ⟨λj hj=>ua j aa,rfl,rfl⟩⟩⟩⟩;clear ua QY eP kL hrd MW mW;refine aD ?_;exact⟨.inr trivial,trivial,_,resultsC_tmp2 (t:=2) (u:=3) aG _,0,0,ax,dO,by trivial,hw⟩
end
section
open Go.RowKit
structure tI(w:ae)(p:Option Addr)(b:Nat)(rs:List aN)(NM:aN->List ag)(NB:aN->Nat):Prop where
 qt:rs.length<=9223372036854775807
 ptr:rs≠[]->p=so ⟨b,0,we⟩/\b<w.heap.size
 at_:fw w b rs
 nm:∀r∈rs,r.sl=(NM r).length/\(NM r≠[]->r.sa=so ⟨NB r,0,we⟩/\NB r<w.heap.size)/\gf w (NB r) 0 (NM r)/\(NM r).length<=9223372036854775807/\∀x∈NM r,x.size<=9223372036854775807
 outs:∀r∈rs,r.out.size<=9223372036854775807
def tI.below{w w':ae}{p:Option Addr}{b:Nat}{rs:List aN}{NM:aN->List ag}{NB:aN->Nat}(h:tI w p b rs NM NB)(hw:Below w.heap.size w w'):tI w' p b rs NM NB:=by
 refine⟨h.qt,λq=>⟨(h.ptr q).1,bf (h.ptr q).2 hw.size⟩,λi hi=>?_,λr hr=>⟨(h.nm r hr).1,λq=>⟨((h.nm r hr).2.1 q).1,bf ((h.nm r hr).2.1 q).2 hw.size⟩,λk hk=>?_,(h.nm r hr).2.2.2⟩,h.outs⟩
 ·exact h.at_.below (h.ptr (lU hi)).2 hw i hi
 ·exact(h.nm r hr).2.2.1.below ((h.nm r hr).2.1 (lU hk)).2 hw k hk
def gS(NM:aN->List ag)(r:aN):Ru:=⟨r.out,r.eT,NM r⟩
def OV(x:ag)(h:¬isName x)(hx:x.size<=9223372036854775807)(w:ae):Calls ak 68 #[.string x] w λe w'=>e=.returned (.bool false)/\w'=w:=by
 refine(Dq x w hx).mono λe w' hq=>?_;obtain⟨⟨b,rfl,hb⟩,rfl⟩:=hq;cases b
 ·exact⟨rfl,rfl⟩
 ·exact absurd (hb.1 rfl) h
def Uj(n:Int)(w:ae)(h:¬(1<=n/\n<=5)):Calls ak 106 #[.int .i64 n] w λe w'=>e=.returned (.bool false)/\w'=w:=by
 go_enter func106,ntmps106;by_cases h1:1<=n
 ·have h5:¬n<=5:=λq=>h ⟨h1,q⟩;clear h;go_wp2;go_ret;exact⟨rfl,rfl⟩
 ·clear h;go_wp2;go_ret;exact⟨rfl,rfl⟩
def KN(b c:Nat)(p:Option Addr)(ts:List ag)(w:ae)(hn:ts.length<=9223372036854775807)(hp:ts≠[]->p=so ⟨b,0,we⟩)(ht:gf w b 0 ts)(hz:∀x∈ts,x.size<=9223372036854775807)(ha:¬ ∀x∈ts,isName x):
  Calls ak 105 #[.slice p ts.length c] w λe w'=>e=.returned (.bool false)/\w'=w:=by
 go_enter func105,ntmps105;go_wp2;go_loop [7] (λi=>∃k:Nat,k<=ts.length/\i=.int .i64 k/\∀x∈ts.take k,isName x) (λi=>ts.length-(intOf i).toNat)
 case atStart=>exact⟨0,aW _,rfl,λx hx=>by simp at hx⟩
 case round =>
  obtain⟨k,hk,rfl,hs⟩:=hrel;by_cases cR:k<ts.length
  ·have e:=hp (lU cR);subst e;have h1:=ht k cR;rw[bD]at h1;by_cases hN:isName ts[k]
   ·have qW:=Dt ts[k] hN w;have rJ:∀x∈ts.take (k+1),isName x:=λx hx=>by
     rcases(gH cR).1 hx with hx|rfl
     ·exact hs x hx
     ·exact hN
    clear ha hs hz;go_wp2_with (go_at_call 68;refine qW.mono ?_;rintro e w' ⟨rfl,rfl⟩)
    go_round
    case rel=>exact⟨k+1,aa,by go_num,rJ⟩
    case measure=>simp[intOf];omega
   ·have qW:=OV ts[k] hN (hz _ (aA cR)) w;clear ha hs hz;go_wp2_with (go_at_call 68;refine qW.mono ?_;rintro e w' ⟨rfl,rfl⟩);go_ret;exact⟨rfl,rfl⟩
  ·exact absurd (λx hx=>hs x (by rw[bz aa];exact hx)) ha
def Hv(b c:Nat)(p:Option Addr)(ts:List ag)(w:ae)(hn:ts.length<=9223372036854775807)(hp:ts≠[]->p=so ⟨b,0,we⟩)(ht:gf w b 0 ts)(ha:∀x∈ts,isName x):
  Calls ak 105 #[.slice p ts.length c] w λe w'=>e=.returned (.bool true)/\w'=w:=by
 go_enter func105,ntmps105;go_wp2;go_loop [7] (λi=>∃k:Nat,k<=ts.length/\i=.int .i64 k) (λi=>ts.length-(intOf i).toNat)
 case atStart=>exact⟨0,aW _,rfl⟩
 case round =>
  obtain⟨k,hk,rfl⟩:=hrel;by_cases cR:k<ts.length
  ·have e:=hp (lU cR);subst e;have h1:=ht k cR;rw[bD]at h1;have qW:=Dt ts[k] (ha _ (aA cR)) w;clear ha;go_wp2_with (go_at_call 68;refine qW.mono ?_;rintro e w' ⟨rfl,rfl⟩)
   go_round
   case rel=>exact⟨k+1,aa,by go_num⟩
   case measure=>simp[intOf];omega
  ·clear ha;go_wp2;go_ret;exact⟨rfl,rfl⟩
structure Ng(us:List Ru)(k:Nat)(w:ae)(e:Ending)(w':ae):Prop where
 ex:∃n,e=.returned (.int .i64 n)/\oa us k n
 FQ:Below w.heap.size w w'
 size:w.heap.size<=w'.heap.size
def KO(p:Option Addr)(b c:Nat)(rs:List aN)(NM:aN->List ag)(NB:aN->Nat)(w:ae)(hR:tI w p b rs NM NB)(h8:rs.length<=8)(k:Nat)(hk:k<rs.length)(hc:rs.length<=c):
  Calls ak 66 #[.slice p rs.length c,.int .i64 k] w λe w'=>Ng (rs.map (gS NM)) k w e w':=by
 obtain⟨ep,hb⟩:=hR.ptr (lU hk);subst ep;obtain⟨c0,c1,c2⟩:=hR.at_ k hk;obtain⟨n1,n2,n3,n4,n5⟩:=hR.nm rs[k] (aA hk);have hzo:=hR.outs rs[k] (aA hk);rw[n1]at c2;have hu:(rs.map (gS NM))[k]?=so ⟨rs[k].out,rs[k].eT,NM rs[k]⟩:=by simp[gS,au hk]
 have qx:((rs.map (gS NM)).take k).map (·.out)=(rs.take k).map (·.out):=by simp[<- List.map_take,gS,List.map_map,Function.comp_def]
 have im:∀x:Obj,Below w.heap.size w (w.alloc x):=λx=>(Below.refl _ _).alloc (af _) _;have mW:∀x:Obj,fw (w.alloc x) b (rs.take k):=λx i hi=>by
  have mn:i<rs.length:=by simp at hi;omega
  have:=(hR.at_.below hb (im x)) i mn;simpa using this
 have hT:∀x,gf (w.alloc x) (NB rs[k]) 0 (NM rs[k]):=λx j hj=>n3.below (n2 (lU hj)).2 (im x) j hj;have hp:NM rs[k]≠[]->rs[k].sa=so ⟨NB rs[k],0,we⟩:=λq=>(n2 q).1;have vu:=λx n=>Ds b c (so ⟨b,0,we⟩) (rs.take k) rs[k].out ((w.alloc x).drewN n) eW (λ_=>rfl) (λi hi=>mW x i hi);have wY:=KB (rs.take k) rs[k].out;have RD:(rs.take k).length=k:=eW;simp only[RD]at vu;have hkc:k<=c:=aa;have air:(k:Int)<=(c:Int):=aa;have hB:=im (.cells #[.string rs[k].out,.int .i64 rs[k].eT,.slice rs[k].sa (NM rs[k]).length rs[k].sc] 42);clear mW im n2 n3 hR;generalize OQ:rs.map (gS NM)=us at *;have rH:(∃q∈rs.take k,q.out=rs[k].out)↔rs[k].out∈(us.take k).map (·.out):=by rw[qx,aV]
 generalize Bf (rs.take k) rs[k].out 0=ix at *;generalize rs[k].out=y at *;generalize rs[k].eT=rc at *;generalize rs[k].sa=sa at *;generalize rs[k].sc=sc at *;generalize NB rs[k]=nb at *;generalize NM rs[k]=ts at *;go_enter func66,ntmps66;by_cases hN:isName y
 case neg =>
  have qW:=λx=>OV y hN hzo (w.alloc x);have dO:oa us k 2:=⟨_,hu,.inl ⟨rfl,λq=>hN q.1⟩⟩;clear hu qx wY rH vu hT hp n5;go_wp2_with (go_at_call 68;refine(qW _).mono ?_;rintro e w' ⟨rfl,rfl⟩);go_ret;exact⟨⟨_,rfl,dO⟩,hB,hB.size⟩
 have qW:=λx=>Dt y hN (w.alloc x);by_cases hA:∀x∈ts,isName x
 case neg =>
  have eP:=λx=>KN nb sc sa ts (w.alloc x) n4 hp (hT x) n5 hA;have dO:oa us k 2:=⟨_,hu,.inl ⟨rfl,λq=>hA q.2⟩⟩;clear hu qx wY rH vu hT hp n5 hA;go_wp2_with (first
   | (go_at_call 68;refine(qW _).mono ?_;rintro e w' ⟨rfl,rfl⟩)
   | (go_at_call 105;refine(eP _).mono ?_;rintro e w' ⟨rfl,rfl⟩))
  go_ret;exact⟨⟨_,rfl,dO⟩,hB,hB.size⟩
 have eP:=λx=>Hv nb sc sa ts (w.alloc x) n4 hp (hT x) hA;have mj:Ru.named ⟨y,rc,ts⟩:=⟨hN,hA⟩;clear hT hp n5 hA;generalize NT:ts.length=nl at *;by_cases hL:4<nl
 case pos =>
  have hLI:(4:Int)<(nl:Int):=aa;have dO:oa us k 1:=⟨_,hu,.inr ⟨mj,.inl ⟨rfl,by show 4<ts.length;omega⟩⟩⟩;clear hu qx wY rH vu mj;go_wp2_with (first
   | (go_at_call 68;refine(qW _).mono ?_;rintro e w' ⟨rfl,rfl⟩)
   | (go_at_call 105;refine(eP _).mono ?_;rintro e w' ⟨rfl,rfl⟩))
  go_ret;exact⟨⟨_,rfl,dO⟩,hB,hB.size⟩
 have n4I:¬(4:Int)<(nl:Int):=aa;have Uh:ts.length<=4:=aa;by_cases hK:1<=rc/\rc<=5
 case neg =>
  have IP:=λx=>Uj rc (w.alloc x) hK;have dO:oa us k 3:=⟨_,hu,.inr ⟨mj,.inr ⟨Uh,.inl ⟨rfl,hK⟩⟩⟩⟩;clear hu qx wY rH vu mj hK;go_wp2_with (first
   | (go_at_call 68;refine(qW _).mono ?_;rintro e w' ⟨rfl,rfl⟩)
   | (go_at_call 105;refine(eP _).mono ?_;rintro e w' ⟨rfl,rfl⟩)
   | (go_at_call 106;refine(IP _).mono ?_;rintro e w' ⟨rfl,rfl⟩))
  go_ret;exact⟨⟨_,rfl,dO⟩,hB,hB.size⟩
 have IP:=λx=>QL rc (w.alloc x) hK.1 hK.2;have dO:(ix=-1/\oa us k 0)\/0<=ix/\oa us k 4:=by
  rcases wY.ex with⟨e,h⟩|⟨j,hj,e,h⟩
  ·exact .inl ⟨e,_,hu,.inr ⟨mj,.inr ⟨Uh,.inr ⟨hK,.inr ⟨rfl,λq=>by
    obtain⟨q,h1,h2⟩:=rH.2 q;exact h q h1 h2⟩⟩⟩⟩⟩
  ·exact .inr ⟨aa,_,hu,.inr ⟨mj,.inr ⟨Uh,.inr ⟨hK,.inl ⟨rfl,rH.1 ⟨_,aA hj,h⟩⟩⟩⟩⟩⟩
 clear hu qx wY rH mj hK;go_wp2_with (first
  | (go_at_call 68;refine(qW _).mono ?_;rintro e w' ⟨rfl,rfl⟩)
  | (go_at_call 105;refine(eP _).mono ?_;rintro e w' ⟨rfl,rfl⟩)
  | (go_at_call 106;refine(IP _).mono ?_;rintro e w' ⟨rfl,rfl⟩))
 clear qW eP IP;rcases dO with⟨rfl,dO⟩|⟨h0,dO⟩
 ·go_quiet (first|(go_at_call 107;refine Calls.quiet_of_same (vu _ _)))
  go_wp2;go_ret;exact⟨⟨_,rfl,dO⟩,⟨hB.os,hB.tape,hB.output,hB.size,hB.block⟩,hB.size⟩
 ·go_quiet (first|(go_at_call 107;refine Calls.quiet_of_same (vu _ _)))
  go_wp2;go_ret;exact⟨⟨_,rfl,dO⟩,⟨hB.os,hB.tape,hB.output,hB.size,hB.block⟩,hB.size⟩
end
section
variable {Fin:br}{o o':aL}{w w':ae}{p fp:Option Addr}{b off c fb rP fc:Nat}{ls:List iF}{fs:List (ag×ag)}
structure vo(o:aL)(w:ae)(hb n:Nat)(l:List V)(o':aL)(w':ae):Prop where
 bA:fW (λ_=>False) o w o' w'
 own:o' hb/\w.heap.size<=hb
 row:w'.rowIs hb 237 (n*2) (fK l)
def vo.on{hb n:Nat}{l:List V}(h:vo o w hb n l o' w'){o2:aL}{w2:ae}(k:fW (λ_=>False) o' w' o2 w2):vo o w hb n l o2 w2 :=
 ⟨h.bA.trans k,⟨k.more _ h.own.1,h.own.2⟩,World.rowIs.of_block h.row (k.same _ (h.bA.bS.lt h.own.1) id)⟩
def aec(hF:bJ ak L0 o w)(hT:nC w)(hR:kp Fin o w p b off ls)(hL:kB Fin o w fp fb rP fs)(h8:ls.length<=8)(h4:∀l∈ls,l.ins.length<=4/\1<=l.eT/\l.eT<=5)(hfs:∀f∈fs,f.2.size<=100):
  bC ak (XB ak Fin 0) 132 #[.slice p ls.length c,.slice fp fs.length fc] o w λv o' w'=>∃hb,v=.slice (so ⟨hb,0,we⟩) ls.length ls.length/\vo o w hb ls.length (gF (ls.map iF.ru) fs ls.length) o' w':=by
 have W:=bZ (P:=ak) (Fin:=Fin) (d:=0);have g4:ak.globals.size=4:=ah;have H3:1<w.heap.size:=by have:=hF.size;rw[g4]at this;omega
 have Ui:(ls.map iF.ru).length=ls.length:=aj;have h4':∀u∈ls.map iF.ru,u.ins.length<=4:=λu hu=>by obtain⟨l,hl,rfl⟩:=aV.1 hu;exact(h4 l hl).1
 have dO:(ls.map iF.ru).map (·.out)=ls.map (·.out):=by simp[iF.ru,List.map_map,Function.comp_def]
 have Ze:∀k,(gF (ls.map iF.ru) fs k).length=ls.length:=λk=>(Ag _ _ k).trans Ui;have lP:∀n:Nat,n=ls.length->∀wl:ae,(Instr.makeSlice 234 (.int .i64 (n:Int)) (.int .i64 (n:Int))).run ak wl=.ok (.slice (so ⟨wl.heap.size,0,we⟩) n n) (wl.alloc (.cells (madeCells #[.bool false,.string ⟨#[]⟩] (n*2)) 237)):=λn e wl=>xb wl n aa;have lP:=lP _ rfl;refine bt W func132 aG ?_;walk_nrmf Tryz.f132;refine aD ?_;refine jL jN hF rfl aG aG ?_ rfl (R:=λwl v bN=>v=.slice (so ⟨wl.heap.size,0,we⟩) ls.length ls.length/\bN=wl.alloc (.cells (madeCells #[.bool false,.string ⟨#[]⟩] (ls.length*2)) 237)) (λwl bu=>⟨_,_,by simp[go_sem,Act.eval,lP],rfl,rfl⟩) λwl v1 bN w1 bu tV fP=>?_
 ·intro y hy;simp[Op.operands]at hy;subst hy;simp[Act.eval];exact lG
 obtain⟨rfl,tV⟩:=tV;obtain⟨z1,k1,Kp⟩:=fP.alloc hF bu tV;rw[bu.size];have G1:=gZ.tH fP.bS aa k1;have A1:vo o w w.heap.size ls.length (gF (ls.map iF.ru) fs 0) (Go.Ren.grow o w w1) w1:=⟨G1.bA,⟨G1.all _ (af _) aa,af _⟩,by rw[gF,Ui];exact DF Kp⟩;clear tV fP bu wl bN z1 k1 Kp G1;generalize Go.Ren.grow o w w1=o1 at *;refine aD ?_;refine dQ W (λm a o' w'=>∃k hb,m+k=ls.length/\a.tmps.size=45/\a.defers=[]/\a.eval (.tmp 0)=.slice p ls.length c/\a.eval (.tmp 1)=.slice fp fs.length fc/\a.eval (.tmp 5)=.slice (so ⟨hb,0,we⟩) ls.length ls.length/\a.eval (.tmp 6)=.int .i64 (k:Nat)/\vo o w hb ls.length (gF (ls.map iF.ru) fs k) o' w') (N:=ls.length) ⟨0,w.heap.size,aj,rfl,rfl,ax,ax,ax,ax,A1⟩ ?_;clear A1 lP;rintro m a o2 w2 ⟨k,hb,lP,ew,iu,i0,i1,i5,i6,hA⟩;obtain⟨gs,rfl⟩:=eQ ew iu;clear ew iu;simp only[List.range,List.range.loop,aB,aJ]at i0 i1 i5 i6 |-;simp[Act.eval]at i0 i1 i5 i6;simp only[i0,i1,i5,i6];clear i0 i1 i5 i6;by_cases hk:k<ls.length;rotate_left
 ·have rq:¬(k:Int)<(ls.length:Int):=aa;obtain rfl:k=ls.length:=aa;refine aD ?_;exact⟨.inr trivial,trivial,_,resultsC_tmp (t:=4) aG _,hb,ax,hA⟩
 have rq:(k:Int)<(ls.length:Int):=aa;have om:IntKind.i64.wrap ((k:Int)+1)=((k+1:Nat):Int):=by rw[IntKind.wrap_i64]<;>omega
 have rK:=hA.bA.bS;have zm:∀wl:ae,(Instr.makeSlice 234 (.int .i64 (ls.length:Int)) (.int .i64 (ls.length:Int))).run ak wl=.ok (.slice (so ⟨wl.heap.size,0,we⟩) ls.length ls.length) (wl.alloc (.cells (madeCells #[.bool false,.string ⟨#[]⟩] (ls.length*2)) 237)):=λwl=>xb wl _ aa;refine aD ?_;refine jL jN rK rfl aG aG ?_ rfl (R:=λwl v bN=>v=.slice (so ⟨wl.heap.size,0,we⟩) ls.length ls.length/\bN=wl.alloc (.cells (madeCells #[.bool false,.string ⟨#[]⟩] (ls.length*2)) 237)) (λwl bu=>⟨_,_,by simp[go_sem,Act.eval,zm],rfl,rfl⟩) λwl v1 bN w3 bu tV fP=>?_
 ·intro y hy;simp[Op.operands]at hy;subst hy;simp[Act.eval];exact lG
 obtain⟨rfl,tV⟩:=tV;obtain⟨z1,k1,Kp⟩:=fP.alloc rK bu tV;rw[bu.size];have G1:=gZ.tH fP.bS aa k1;have xR:=hA.on G1.bA;have hpt:part (stepT (ls.map iF.ru) fs (gF (ls.map iF.ru) fs k)) 0=List.replicate ls.length V0:=by simp[part,stepT]
 have X4:vo o w w2.heap.size ls.length (part (stepT (ls.map iF.ru) fs (gF (ls.map iF.ru) fs k)) 0) (Go.Ren.grow o2 w2 w3) w3:=⟨xR.bA,⟨G1.all _ (af _) aa,hA.bA.size⟩,by rw[hpt];exact DF Kp⟩;have fu:hb≠w2.heap.size:=by have:=rK.lt hA.own.1;omega
 clear tV fP bu wl bN z1 k1 Kp G1 hA rK hpt zm;generalize Go.Ren.grow o2 w2 w3=o3 at *;generalize w2.heap.size=nb at *;refine aD ?_;refine dQ W (λm2 a o' w'=>∃i,m2+i=ls.length/\a.tmps.size=45/\a.defers=[]/\a.eval (.tmp 0)=.slice p ls.length c/\a.eval (.tmp 1)=.slice fp fs.length fc/\a.eval (.tmp 5)=.slice (so ⟨hb,0,we⟩) ls.length ls.length/\a.eval (.tmp 6)=.int .i64 (k:Nat)/\a.eval (.tmp 7)=.slice (so ⟨nb,0,we⟩) ls.length ls.length/\a.eval (.tmp 8)=.int .i64 (i:Nat)/\vo o w hb ls.length (gF (ls.map iF.ru) fs k) o' w'/\vo o w nb ls.length (part (stepT (ls.map iF.ru) fs (gF (ls.map iF.ru) fs k)) i) o' w') (N:=ls.length) ⟨0,aj,rfl,rfl,ax,ax,ax,ax,ax,ax,xR,X4⟩ ?_;clear xR X4;rintro m2 a o4 w4 ⟨i,Ln,ew,iu,i0,i1,i5,i6,i7,i8,hA,hB⟩;obtain⟨gs,rfl⟩:=eQ ew iu;clear ew iu;simp only[List.range,List.range.loop,aB,aJ]at i0 i1 i5 i6 i7 i8 |-;simp[Act.eval]at i0 i1 i5 i6 i7 i8;simp only[i0,i1,i5,i6,i7,i8];clear i0 i1 i5 i6 i7 i8;by_cases hi:i<ls.length;rotate_left
 ·have Yk:¬(i:Int)<(ls.length:Int):=aa;have hpe:part (stepT (ls.map iF.ru) fs (gF (ls.map iF.ru) fs k)) i=gF (ls.map iF.ru) fs (k+1):=by
   have hl:(stepT (ls.map iF.ru) fs (gF (ls.map iF.ru) fs k)).length=ls.length:=by simp[stepT]
   simp only[part,hl,gF];rw[bz aa,show ls.length-i=0 by omega];simp
  rw[hpe]at hB;refine aD ?_;exact⟨m-1,aa,k+1,nb,aa,bQ,bQ,ax,ax,ax,by simp[Act.eval,om],hB⟩
 have Yk:(i:Int)<(ls.length:Int):=aa;have KP:IntKind.i64.wrap ((i:Int)+1)=((i+1:Nat):Int):=by rw[IntKind.wrap_i64]<;>omega
 have Ea:fl w w4:=⟨hA.bA.size,λb hb=>hA.bA.same b hb id⟩;have hR4:=hR.keep (o':=o4) hA.bA.more Ea.size Ea.same;have hL4:=hL.keep (o':=o4) hA.bA.more Ea;have hV4:=OS (l:=gF (ls.map iF.ru) fs k) (by rw[Ze];exact hA.row);have h4i:=h4 ls[i] (aA hi);have pW:=ad3 (c:=c) (fc:=fc) (hc:=ls.length) hA.bA.bS hR4 hL4 hA.own.1 hV4 (Ze k) h8 i hi h4i.1;clear hV4 hR4 hL4;refine aD ?_;refine dq func177 (pW) ?_;rintro v5 o5 w5 ⟨hW5,od⟩;have RG:=hA.on hW5;have hB5:=hB.on hW5;clear pW hA hB Ea;have zu:=RG.bA.bS;have pz:(wy (ls.map (·.out)) fs (gF (ls.map iF.ru) fs k) ls[i].ins).length=ls[i].ins.length:=by simp[wy]
 have hV5:Ud o5 w5 v5 (wy (ls.map (·.out)) fs (gF (ls.map iF.ru) fs k) ls[i].ins):=by rw[<- pz]at od;exact od.ad9 zu
 have hT5:=hT.Ym (RG.bA.same 1 H3 id);have hmd:=aar (Fin:=Fin) zu hT5 ls[i].eT h4i.2 hV5 (by rw[pz];omega) (QX (by rw[pz];omega) (FZ hfs (DG h4' hfs k) _));have fe:∃h:i<(stepT (ls.map iF.ru) fs (gF (ls.map iF.ru) fs k)).length,(stepT (ls.map iF.ru) fs (gF (ls.map iF.ru) fs k))[i]=ef ls[i].eT (wy (ls.map (·.out)) fs (gF (ls.map iF.ru) fs k) ls[i].ins):=⟨by simp[stepT];exact hi,by simp only[stepT,List.getElem_map,dO];rfl⟩;obtain⟨aat,fe⟩:=fe;have hps:=Ue _ i aat;rw[fe]at hps;have aed:i<(part (stepT (ls.map iF.ru) fs (gF (ls.map iF.ru) fs k)) i).length:=by rw[nz _ _ aa];exact aat
 have EG:fl w w5:=⟨RG.bA.size,λb hb=>RG.bA.same b hb id⟩;have Ey:=hR.keep (o':=o5) RG.bA.more EG.size EG.same;obtain⟨ep,hRB,ub⟩:=Ey.ptr (lU hi);obtain⟨-,c1,-⟩:=Ey.at_ i hi;clear Ey EG fe aat od hV5 hT5 pz;subst ep;generalize ls[i].eT=rc at *;generalize ef rc (wy (ls.map (·.out)) fs (gF (ls.map iF.ru) fs k) ls[i].ins)=mv at *;obtain⟨mq,my⟩:=mv;refine aD ?_;refine kn hRB c1 ?_;refine aD ?_;refine dq func178 (hmd) ?_;rintro v6 o6 w6 ⟨rfl,N6⟩;have G6:=gZ.kJ N6;have Yn:=RG.on G6.bA;have RL:=hB5.on G6.bA;clear N6 G6 hmd RG hB5 zu c1 hRB ub hW5;have BG:=Yn.bA.bS;refine aD ?_;have f0:=RL.row.frozen (i*2);have f1:=RL.row.frozen (i*2+1);have d0:=RL.row.cell (show i*2<ls.length*2 by omega);have d1:=RL.row.cell (show i*2+1<ls.length*2 by omega);have oN:=RL.own.1;refine vF jN BG rfl aG aG ?_ rfl (R:=λwl bN=>bN=(wl.setCell ⟨nb,i*2,we⟩ (.bool mq)).setCell ⟨nb,i*2+1,we⟩ (.string my)) (λwl bu=>⟨_,?_,rfl⟩) λwl bN w7 bu U9 fP=>?_
 ·intro z hz;simp[Op.operands]at hz;rcases hz with rfl|rfl
  ·simp[Act.eval];exact gE oN
  ·simp[Act.eval];refine sB (vs:=[_,_]) (λx hx=>?_);simp at hx;rcases hx with rfl|rfl
   ·exact vE
   ·exact dH
 ·have e0:=(cell_of (bu.heap _ oN)).trans d0;have e1:=(cell_of (bu.heap _ oN)).trans d1;have g0:wl.frozen? ⟨nb,i*2,we⟩=false:=by rw[<- f0];simp only[World.frozen?,bu.heap _ oN]
  have g1:wl.frozen? ⟨nb,i*2+1,we⟩=false:=by rw[<- f1];simp only[World.frozen?,bu.heap _ oN]
  simp[go_sem,Act.eval,e0,e1,g0,g1]
 have hO:nZ nb wl bN:=by rw[U9];exact OD _ _ _ _ _ _
 obtain⟨on7,kN7,ey⟩:=fP.only bu oN hO;have Tx:=fP.bS;rw[ey]at Tx |-;have hz7:=RL.own.2;have hW7:fW (λ_=>False) o w o6 w7:=⟨Tx,Yn.bA.more,Yn.bA.new,by rw[on7.1];exact Yn.bA.size,λb hb hx=>(on7.2 b aa).trans (Yn.bA.same b hb hx)⟩;have hA7:vo o w hb ls.length (gF (ls.map iF.ru) fs k) o6 w7:=⟨hW7,Yn.own,World.rowIs.of_block Yn.row (on7.2 _ fu)⟩;have hB7:vo o w nb ls.length (part (stepT (ls.map iF.ru) fs (gF (ls.map iF.ru) fs k)) (i+1)) o6 w7:=⟨hW7,RL.own,by
  rw[<- hps];refine World.rowIs.of_block (Yl (v:=(mq,my)) aed (World.rowIs.of_block RL.row (bu.heap _ oN))) ?_;rw[kN7,U9]⟩
 clear U9 fP bu wl bN hO on7 kN7 Yn RL f0 f1 d0 d1;refine aD ?_;exact⟨m2-1,aa,i+1,aa,bQ,bQ,ax,ax,ax,ax,ax,by simp[Act.eval,KP],hA7,hB7⟩
end
section
open Go.RowKit (Hid)
def gu(outs:List ag)(L:List Int):Nat->Int
 |0=>-1
 |i+1=>if (i:Int)∈L then gu outs L i else if gu outs L i<0\/kx (outs.getD i ⟨#[]⟩) (outs.getD (gu outs L i).toNat ⟨#[]⟩)=true then(i:Int)else gu outs L i
def eB(outs:List ag):Nat->List Int
 |0=>[]
 |k+1=>eB outs k++[gu outs (eB outs k) outs.length]
def KQ(outs:List ag)(L:List Int):∀i:Nat,gu outs L i<(i:Int)
 |0=>by simp[gu]
 |i+1=>by
  have:=KQ outs L i;unfold gu;split
  ·omega
  ·split<;>omega
def F5(outs:List ag)(L:List Int):∀i:Nat,gu outs L i<0->gu outs L i=-1
 |0,_=>rfl
 |i+1,h=>by
  have ih:=F5 outs L i;unfold gu at h |-;split
  ·rename_i q;rw[if_pos q]at h;exact ih h
  ·rename_i q;rw[if_neg q]at h;split
   ·rename_i q2;rw[if_pos q2]at h;omega
   ·rename_i q2;exact absurd (.inl (by rw[if_neg q2]at h;exact h)) q2
def gT(outs:List ag):∀k,(eB outs k).length=k
 |0=>rfl
 |k+1=>by simp[eB,gT outs k]
def te(L:List Int):List Value:=L.map λx=>.int .i64 x
section
variable {Fin:br}{d:Nat}{fn:FuncId}{Q:Exit->Act->aL->ae->Prop}{a:Act}{ops:Array Oper}{S:(Nat->Option Value)->aL->ae->Prop}{kds:List Kd}{v:Nat->Value}{K:Act->Prop}{j:Nat}{l:List Nat}{xs:List Kd}{op:Oper}{dd:Option Tmp}
def sH{B i:Nat}{y:Value}(hS:∀σ o w,S σ o w->wx Fin o B/\w.cell? ⟨B,i,we⟩=so y)(h:cS ak (vG ak (XB ak Fin d) fn ops Q S kds v) ops K v l xs (a.put dd y))(ho:ops[j]?=so op:=by rfl)(hd:op.dst=dd:=by rfl)(hn:sS op.op=true:=by rfl)(hw:Region.wanted op (yielded ops a.tmps)=true:=by rfl)(f2:∀wl:ae,wl.cell? ⟨B,i,we⟩=so y->(execOp a.eval op).run ak wl=.ok (.value y) wl:=by
   intro wl h9;simp[go_sem,Act.eval,h9])(f3:∀wl:ae,wl.cell? ⟨B,i,we⟩=so y->∀x∈(execOp a.eval op).events ak wl #[],∃ad wt sy,x=⟨.cell ad,wt,sy⟩/\ad.block=B:=by
   intro wl h9 x hx;simp[go_sem,Act.eval,h9]at hx;subst hx;exact⟨_,_,_,rfl,rfl⟩):cS ak (vG ak (XB ak Fin d) fn ops Q S kds v) ops K v (j::l) (so (so y)::xs) a:=by
 refine fE ho hd (λA rest σ o w h1 h2 h3 h4 hq hc=>?_) rfl h;obtain⟨hB,c⟩:=hS σ o w hq;have hex:=execOp_congr op (nS hn) h1;exact eZ hB ho (h2.trans hw) rfl (λwl bu=>by rw[hex];exact f2 wl (bu.cell.trans c)) (λwl bu x hx=>by rw[hex]at hx;exact f3 wl (bu.cell.trans c) x hx) (hc y o w ⟨rfl,hq⟩)
end
section
variable {Fin:br}{o o':aL}{w w':ae}{p:Option Addr}{b off c:Nat}{ls:List iF}
def aau(hF:bJ ak L0 o w)(x y:ag)(hx:x.size<=9223372036854775807)(hy:y.size<=9223372036854775807):
  bC ak (XB ak Fin 0) 180 #[.string x,.string y] o w λv o' w'=>v=.bool (kx x y)/\iz o w v o' w':=by
 refine bC.mono (fQ ah hF (λz hz=>by simp at hz;rcases hz with rfl|rfl;exact dH;exact dH) (Q:=λwl v w'=>v=.bool (kx x y)) (λwl D8 v w1 w2 e1 e2 h=>h) (λwl hz bu=>?_)) (λv o' w' hq=>?_)
 ·refine(zk x y wl hx hy).mono λe w' hq=>?_;obtain⟨rfl,n,rfl⟩:=hq;exact⟨_,rfl,af _,λ_ _=>rfl,rfl⟩
 ·exact⟨hq.2.choose_spec.choose_spec.2.2.2,hq.1⟩
def jy.ints{lo:Nat}{v:Value}{L:List Int}(h:jy o w lo 3 1 v L.length (te L))(hF:bJ ak L0 o w):∃p b c,v=.slice p L.length c/\(L≠[]->p=so ⟨b,0,we⟩/\o b)/\∀k (hk:k<L.length),w.cell? ⟨b,k,we⟩=so (.int .i64 L[k]):=by
 obtain⟨p,b,c,rfl,h1,h2,-,h3⟩:=h.at_ hF;exact⟨p,b,c,rfl,λq=>⟨(h2 (dF.2 q)).1,(h2 (dF.2 q)).2.1⟩,λk hk=>h3 k _ (by simp[te,au hk])⟩
def WV(hF:bJ ak L0 o w)(hR:kp Fin o w p b off ls)(h8:ls.length<=8):
  bC ak (XB ak Fin 0) 179 #[.slice p ls.length c] o w λv o' w'=>fW (λ_=>False) o w o' w'/\jy o' w' w.heap.size 3 1 v ls.length (te (eB (ls.map (·.out)) ls.length)):=by
 have W:=bZ (P:=ak) (Fin:=Fin) (d:=0);have RI:=gT (ls.map (·.out));refine bt W func179 aG ?_;walk_nrmf Tryz.f179;refine aD ?_;refine dQ W (λm a o' w'=>∃k,m+k=ls.length/\a.tmps.size=58/\a.defers=[]/\a.eval (.tmp 0)=.slice p ls.length c/\a.eval (.tmp 4)=.int .i64 (k:Nat)/\∃v,a.eval (.tmp 3)=v/\fW (λ_=>False) o w o' w'/\jy o' w' w.heap.size 3 1 v k (te (eB (ls.map (·.out)) k))) (N:=ls.length) ⟨0,aj,rfl,rfl,ax,ax,_,ax,fW.refl hF,jy.nil _ _ _ _ _ (af _)⟩ ?_;rintro m a o1 w1 ⟨k,lP,ew,iu,i0,i4,v,i3,hW,row⟩;obtain⟨gs,rfl⟩:=eQ ew iu;clear ew iu;simp only[List.range,List.range.loop,aB,aJ]at i0 i3 i4 |-;simp[Act.eval]at i0 i3 i4;simp only[i0,i3,i4];clear i0 i3 i4;by_cases hk:k<ls.length;rotate_left
 ·have rq:¬(k:Int)<(ls.length:Int):=aa;obtain rfl:k=ls.length:=aa;refine aD ?_;exact⟨.inr trivial,trivial,_,resultsC_tmp (t:=2) aG _,hW,by simpa[Act.eval] using row⟩
 have rq:(k:Int)<(ls.length:Int):=aa;have om:IntKind.i64.wrap ((k:Int)+1)=((k+1:Nat):Int):=by rw[IntKind.wrap_i64]<;>omega
 have hLl:=RI k;have BH:Hid (eB (ls.map (·.out)) (k+1)=eB (ls.map (·.out)) k++[gu (ls.map (·.out)) (eB (ls.map (·.out)) k) ls.length]):=by show eB _ _=_;rw[eB];simp
 clear RI;generalize eB (ls.map (·.out)) k=L at *;subst hLl;refine aD ?_;refine dQ W (λm2 a o' w'=>∃i,m2+i=ls.length/\a.tmps.size=58/\a.defers=[]/\a.eval (.tmp 0)=.slice p ls.length c/\a.eval (.tmp 3)=v/\a.eval (.tmp 4)=.int .i64 (L.length:Nat)/\a.eval (.tmp 5)=.int .i64 (gu (ls.map (·.out)) L i)/\a.eval (.tmp 6)=.int .i64 (i:Nat)/\fW (λ_=>False) o w o' w'/\jy o' w' w.heap.size 3 1 v L.length (te L)) (N:=ls.length) ⟨0,aj,rfl,rfl,ax,ax,ax,by simp[Act.eval,gu],ax,hW,row⟩ ?_;clear hW row;rintro m2 a o2 w2 ⟨i,Ln,ew,iu,i0,i3,i4,i5,i6,hW,row⟩;obtain⟨gs,rfl⟩:=eQ ew iu;clear ew iu;simp only[List.range,List.range.loop,aB,aJ]at i0 i3 i4 i5 i6 |-;simp[Act.eval]at i0 i3 i4 i5 i6;simp only[i0,i3,i4,i5,i6];clear i0 i3 i4 i5 i6;have rK:=hW.bS;by_cases hi:i<ls.length;rotate_left
 ·have Yk:¬(i:Int)<(ls.length:Int):=aa;obtain rfl:i=ls.length:=aa;generalize gu (ls.map (·.out)) L ls.length=Hw at *;obtain⟨pv,lv,cv,rfl⟩:=nB row.row;have Xw:=vP row.row rfl;subst Xw;refine aD ?_;refine aal (us:=[.int .i64 Hw]) rK row aa aa rfl (by intro u hu;simp at hu;subst hu;rfl) Hc rfl aa underlying130 (lG (k:=.i64) (n:=Hw)) λy6 o6 w6 hA=>?_;have Lv:fW (λ_=>False) o w o6 w6:=⟨hA.bA.bS,λb hb=>hA.bA.more b (hW.more b hb),λb hb=>(hA.bA.new b hb).elim (λq=>hW.new b q) λq=>.inr (by have:=hW.size;omega),by have:=hW.size;have:=hA.bA.size;omega,λb hb hx=>(hA.bA.same b (by have:=hW.size;omega) (λq=>by have:=(row.lt b q).1;omega)).trans (hW.same b hb hx)⟩;have ug:=hA.row;clear hA row hW rK;refine aD ?_;exact⟨m-1,aa,L.length+1,aa,bQ,bQ,ax,by simp[Act.eval,om],y6,ax,Lv,by rw[show eB (ls.map (·.out)) (L.length+1)=_ from BH];simpa[te] using ug⟩
 have Yk:(i:Int)<(ls.length:Int):=aa;have KP:IntKind.i64.wrap ((i:Int)+1)=((i+1:Nat):Int):=by rw[IntKind.wrap_i64]<;>omega
 obtain⟨pv,bv,cv,rfl,hpv,hcv⟩:=row.ints rK;have Lw:Hid ((i:Int)∈L->gu (ls.map (·.out)) L (i+1)=gu (ls.map (·.out)) L i):=λh=>by rw[gu,if_pos h]
 have Lu:Hid ((i:Int)∉L->gu (ls.map (·.out)) L i<0->gu (ls.map (·.out)) L (i+1)=(i:Int)):=λh h2=>by rw[gu,if_neg h,if_pos (.inl h2)]
 have X2:Hid ((i:Int)∉L->¬gu (ls.map (·.out)) L i<0->∀q,kx ((ls.map (·.out)).getD i ⟨#[]⟩) ((ls.map (·.out)).getD (gu (ls.map (·.out)) L i).toNat ⟨#[]⟩)=q->gu (ls.map (·.out)) L (i+1)=bif q then(i:Int)else gu (ls.map (·.out)) L i):=λh h2 q hq=>by
  rw[gu,if_neg h];cases q
  ·rw[if_neg (by rw[hq];simp[h2])];rfl
  ·rw[if_pos (.inr hq)];rfl
 have hpi:=KQ (ls.map (·.out)) L i;have hpn:Hid (gu (ls.map (·.out)) L i<0->gu (ls.map (·.out)) L i=-1):=by
  show _->_;exact F5 _ L i
 generalize aki:gu (ls.map (·.out)) L i=Hw at *;refine aD ?_;refine dQ W (λm3 a o' w'=>∃j,m3+j=L.length/\a.tmps.size=58/\a.defers=[]/\a.eval (.tmp 0)=.slice p ls.length c/\a.eval (.tmp 3)=.slice pv L.length cv/\a.eval (.tmp 4)=.int .i64 (L.length:Nat)/\a.eval (.tmp 5)=.int .i64 Hw/\a.eval (.tmp 6)=.int .i64 (i:Nat)/\a.eval (.tmp 8)=.int .i64 (j:Nat)/\o'=o2/\w'=w2/\∃q,a.eval (.tmp 7)=.bool q/\(q=true↔(i:Int)∈L.take j)) (N:=L.length) ⟨0,aj,rfl,rfl,ax,ax,ax,ax,ax,ax,rfl,rfl,false,ax,aj⟩ ?_;rintro m3 a o3 w3 ⟨j,hmj,ew,iu,i0,i3,i4,i5,i6,i8,e1,e2,q,i7,hq⟩;subst e1 e2;obtain⟨gs,rfl⟩:=eQ ew iu;clear ew iu;simp only[List.range,List.range.loop,aB,aJ]at i0 i3 i4 i5 i6 i7 i8 |-;simp[Act.eval]at i0 i3 i4 i5 i6 i7 i8;simp only[i0,i3,i4,i5,i6,i7,i8];clear i0 i3 i4 i5 i6 i7 i8;by_cases hj:j<L.length
 ·have Oq:(j:Int)<(L.length:Int):=aa;have US:IntKind.i64.wrap ((j:Int)+1)=((j+1:Nat):Int):=by rw[IntKind.wrap_i64]<;>omega
  obtain⟨es,ob⟩:=hpv (lU hj);have cj:=hcv j hj;have Kw:∀q2:Bool,(q2=true↔q=true\/L[j]=(i:Int))->(q2=true↔(i:Int)∈L.take (j+1)):=λq2 h=>by
   rw[h,hq,gH hj];exact⟨λh=>h.imp id λe=>e.symm,λh=>h.imp id λe=>e.symm⟩
  clear hpv hcv hq;subst es;generalize L[j]=x at *;cases q
  ·by_cases hx:x=(i:Int)
   ·have hxb:(x==(i:Int))=true:=by rw[beq_iff_eq];exact hx
    have Uk:=Kw true (by simp[hx]);clear Kw hx;refine aD ?_;refine kn (.inl ob) cj ?_;refine aD ?_;exact⟨m3-1,aa,j+1,aa,bQ,bQ,ax,ax,ax,ax,ax,by simp[Act.eval,US],by trivial,by trivial,true,ax,Uk⟩
   ·have hxb:(x==(i:Int))=false:=by rw[dm];exact hx
    have Uk:=Kw false (by simp[hx]);clear Kw hx;refine aD ?_;refine kn (.inl ob) cj ?_;refine aD ?_;exact⟨m3-1,aa,j+1,aa,bQ,bQ,ax,ax,ax,ax,ax,by simp[Act.eval,US],by trivial,by trivial,false,ax,Uk⟩
  ·have Uk:=Kw true aj;clear Kw;refine aD ?_;exact⟨m3-1,aa,j+1,aa,bQ,bQ,ax,ax,ax,ax,ax,by simp[Act.eval,US],by trivial,by trivial,true,ax,Uk⟩
 have Oq:¬(j:Int)<(L.length:Int):=aa;rw[bz aa]at hq;clear hpv hcv;cases q;rotate_left
 ·have Yo:Hid (gu (ls.map (·.out)) L (i+1)=Hw):=Lw (hq.1 rfl);clear Lw Lu X2;refine aD ?_;exact⟨m2-1,aa,i+1,aa,bQ,bQ,ax,ax,ax,by rw[show gu (ls.map (·.out)) L (i+1)=_ from Yo];simp[Act.eval],by simp[Act.eval,KP],hW,row⟩
 have J9:(i:Int)∉L:=λh=>by have:=hq.2 h;cases this
 clear hq Lw;have Bj:fl w w3:=⟨hW.size,λb hb=>hW.same b hb id⟩;have FI:=hR.keep (o':=o3) hW.more Bj.size Bj.same;obtain⟨ep,hB,ub⟩:=FI.ptr (lU hi);obtain⟨ci,-,-⟩:=FI.at_ i hi;have hzi:=(FI.qt.2 ls[i] (aA hi)).1;have egi:(ls.map (·.out)).getD i ⟨#[]⟩=ls[i].out:=by rw[bm,bM,au hi];rfl
 subst ep;by_cases hb0:Hw<0
 ·have Yo:Hid (gu (ls.map (·.out)) L (i+1)=(i:Int)):=Lu J9 hb0;obtain rfl:Hw=-1:=hpn hb0;clear FI Bj ci egi Lu X2 J9 hpn;refine aD ?_;refine iy mixed ah [so we,so we,so we,so (so undef),so (so undef),so (so undef),so (so undef),so (so undef),so (so undef),so (so undef),so (so undef),so (so undef),so (so undef),so (so undef),so we]
   (S:=λσ o' w'=>o3=o'/\w3=w') ⟨rfl,rfl⟩ λv9=>?_
  refine fF ?_;refine fU ?_;refine jD rfl rfl aG ?_;walk_nrm;refine jD rfl rfl aG ?_;walk_nrm;refine jD rfl rfl aG ?_;walk_nrm;refine jD rfl rfl aG ?_;walk_nrm;refine jD rfl rfl aG ?_;walk_nrm;refine jD rfl rfl aG ?_;walk_nrm;refine jD rfl rfl aG ?_;walk_nrm;refine jD rfl rfl aG ?_;walk_nrm;refine jD rfl rfl aG ?_;walk_nrm;refine jD rfl rfl aG ?_;walk_nrm;refine jD rfl rfl aG ?_;refine fU ?_;refine fj λσ o10 w10 wu hS=>?_;clear wu;obtain⟨rfl,rfl⟩:=hS;simp only[nu,gL,if_true,if_false,reduceIte,Nat.reduceEqDiff];refine aD ?_;exact⟨m2-1,aa,i+1,aa,bQ,bQ,ax,ax,ax,by rw[show gu (ls.map (·.out)) L (i+1)=_ from Yo];simp[Act.eval],by simp[Act.eval,KP],hW,row⟩
 obtain⟨bn,rfl⟩:∃bn:Nat,Hw=(bn:Int):=⟨Hw.toNat,aa⟩;have hbn:bn<ls.length:=aa;have hbI:(bn:Int)<(ls.length:Int):=aa;have hbz:decide ((bn:Int)<0)=false:=cz hb0;obtain⟨cb,-,-⟩:=FI.at_ bn hbn;have hzb:=(FI.qt.2 ls[bn] (aA hbn)).1;have egb:(ls.map (·.out)).getD ((bn:Int)).toNat ⟨#[]⟩=ls[bn].out:=by rw[iP,bm,bM,au hbn];rfl
 have Yo:Hid (∀q,kx ls[i].out ls[bn].out=q->gu (ls.map (·.out)) L (i+1)=bif q then(i:Int) else(bn:Int)):=by
  intro q hq;exact X2 J9 hb0 q (by rw[egi,egb];exact hq)
 clear FI Bj egi egb Lu X2 J9 hpn;generalize ls[i].out=yi at *;generalize ls[bn].out=yb at *;refine aD ?_;refine iy mixed ah [so we,so we,so we,so we,so we,so we,so we,so (so (.string yi)),so we,so we,so we,so we,so (so (.string yb)),so (so (.bool (kx yi yb))),so we]
  (S:=λσ o' w'=>gZ o3 w3 o' w') (gZ.refl rK) λv9=>?_
 refine fF ?_;refine fU ?_;refine sH (B:=b) (i:=off+i*3) (λσ o' w' hS=>?_) ?_
 ·exact⟨hB.up hS.bA.more,(cell_of (hS.bA.same b ub id)).trans ci⟩
 refine fU ?_;refine sH (B:=b) (i:=off+bn*3) (λσ o' w' hS=>?_) ?_
 ·exact⟨hB.up hS.bA.more,(cell_of (hS.bA.same b ub id)).trans cb⟩
 refine fU ?_;refine CR rfl rfl aG rfl func180 ah rfl (av:=#[.string yi,.string yb]) ax (λσ o' w' H hS=>?_) ?_
 ·refine(aau hS.bA.bS yi yb hzi hzb).mono ?_;rintro y o10 w10 ⟨rfl,N10⟩;exact⟨rfl,hS.trans (gZ.kJ N10)⟩
 refine fU ?_;refine fj λσ o10 w10 wu hS=>?_;clear wu;have hW9:=hW.trans hS.bA;have xP:=row.sx hS;clear hS hW row hB ci cb;simp only[nu,gL,if_true,if_false,reduceIte,Nat.reduceEqDiff];simp only[hbz,Bool.false_or];cases hl:kx yi yb
 ·have Nh:gu (ls.map (·.out)) L (i+1)=_:=Yo _ hl;clear Yo;have Nh:Hid (_=_):=Nh;refine aD ?_;exact⟨m2-1,aa,i+1,aa,bQ,bQ,ax,ax,ax,by rw[show gu (ls.map (·.out)) L (i+1)=_ from Nh];simp[Act.eval],by simp[Act.eval,KP],hW9,xP⟩
 ·have Nh:gu (ls.map (·.out)) L (i+1)=_:=Yo _ hl;clear Yo;have Nh:Hid (_=_):=Nh;refine aD ?_;exact⟨m2-1,aa,i+1,aa,bQ,bQ,ax,ax,ax,by rw[show gu (ls.map (·.out)) L (i+1)=_ from Nh];simp[Act.eval],by simp[Act.eval,KP],hW9,xP⟩
end
end
section
variable {rs:List aN}{NM:aN->List ag}{RK:ag->Nat}
def Ni{file:ag->V}{x:ag}(h:x∉rs.map (·.out)):valOf rs NM file x=file x:=by
 simp only[valOf,tC,qz h]
def Hy:(rs.map (gS NM)).map (·.out)=rs.map (·.out):=by simp[gS,List.map_map,Function.comp_def]
def aaw{l:List ag}{x:ag}(h:x∉l):uj l x 0=-1:=by
 rcases tc x l 0 with⟨e,-⟩|⟨i,-,h1,-⟩
 ·exact e
 ·exact absurd (cL h1) h
def F6(h:lJ rs NM RK)(fs:List (ag×ag)):∀(k i:Nat) (hi:i<rs.length),RK rs[i].out<k->(gF (rs.map (gS NM)) fs k)[i]?=so (valOf rs NM (ot fs) rs[i].out)
 |0,i,hi,hr=>absurd hr (cH _)
 |k+1,i,hi,hr=>by
  have hu:(rs.map (gS NM))[i]?=so (gS NM rs[i]):=by simp[au hi]
  rw[gF,stepT,bM,hu,aK,FK h (ot fs) (aA hi),Hy]
  congr 2
  show wy _ _ _ (NM rs[i])=_;unfold wy;refine cQ λx hx=>?_;by_cases hm:x∈rs.map (·.out)
  ·obtain⟨r,XS,rfl⟩:=aV.1 hm;obtain⟨j,hj,rfl⟩:=bB XS;have e:uj (rs.map (·.out)) rs[j].out 0=(j:Nat):=by
    have:=OT (us:=rs.map (gS NM)) (i:=j) (v:=gS NM rs[j]) (by rw[Hy];exact h.nodup) (by simp[au hj]);rwa[Hy]at this
   have vY:=h.Dk rs[i] (aA hi) rs[j].out hx hm;rw[e,if_pos aa,iP,bm,F6 h fs k j hj aa];rfl
  ·rw[aaw hm,if_neg aa,Ni hm]
def QZ(h:lJ rs NM RK)(fs:List (ag×ag)):gF (rs.map (gS NM)) fs rs.length=rs.map λr=>valOf rs NM (ot fs) r.out:=by
 apply dA;intro i;by_cases hi:i<rs.length
 ·rw[F6 h fs rs.length i hi (h.low _ (aA hi)),bM,au hi,aK]
 ·rw[cV (by rw[Ag];simp;omega),cV eW]
end
def DH(x:ag):∀fs:List (ag×ag),ot fs x=oq fs x
 | []=>rfl
 | (k,t)::l=>by
  have ih:=DH x l;unfold ot oq wv;by_cases h:k=x
  ·subst h;simp
  ·have h':¬x=k:=λe=>h e.symm;simp only[h,h',if_false];exact ih
def Ah(outs:List ag)(L:List Int):∀n:Nat,n<=outs.length->(gu outs L n=-1/\∀i:Nat,i<n->(i:Int)∈L)\/∃b:Nat,b<n/\gu outs L n=(b:Int)/\(b:Int)∉L/\∀i:Nat,i<n->(i:Int)∉L->kx (outs.getD i ⟨#[]⟩) (outs.getD b ⟨#[]⟩)=false
 |0,_=>.inl ⟨rfl,λi hi=>aa⟩
 |n+1,hn=>by
  have irr:∀x:ag,kx x x=false:=λx=>by
   cases q:kx x x
   ·rfl
   ·exact absurd ((oS _ _).1 q) (mi _)
  unfold gu;rcases Ah outs L n aa with⟨e,h⟩|⟨b,hb,e,h1,h2⟩
  ·by_cases hm:(n:Int)∈L
   ·rw[if_pos hm];refine .inl ⟨e,λi hi=>?_⟩;by_cases q:i=n
    ·subst q;exact hm
    ·exact h i aa
   ·rw[if_neg hm,if_pos (.inl aa)];refine .inr ⟨n,aa,rfl,hm,λi hi J9=>?_⟩;by_cases q:i=n
    ·subst q;exact irr _
    ·exact absurd (h i aa) J9
  ·by_cases hm:(n:Int)∈L
   ·rw[if_pos hm];refine .inr ⟨b,aa,e,h1,λi hi J9=>?_⟩;by_cases q:i=n
    ·subst q;exact absurd hm J9
    ·exact h2 i aa J9
   ·rw[if_neg hm,e];simp only[Int.toNat_natCast];by_cases hl:kx (outs.getD n ⟨#[]⟩) (outs.getD b ⟨#[]⟩)=true;rotate_left
    ·rw[if_neg (by rintro(q|q);omega;exact hl q)];refine .inr ⟨b,aa,rfl,h1,λi hi J9=>?_⟩;by_cases q:i=n
     ·subst q;simpa using hl
     ·exact h2 i aa J9
    ·rw[if_pos (.inr hl)];refine .inr ⟨n,aa,rfl,hm,λi hi J9=>?_⟩;by_cases q:i=n
     ·subst q;exact irr _
     ·cases hq:kx (outs.getD i ⟨#[]⟩) (outs.getD n ⟨#[]⟩)
      ·rfl
      ·have:=List.lt_trans ((oS _ _).1 hq) ((oS _ _).1 hl);rw[<- oS]at this;rw[h2 i aa J9]at this;cases this
def ni(outs:List ag):∀k,k<=outs.length->(eB outs k).Nodup/\∀x∈eB outs k,0<=x/\x<(outs.length:Int)
 |0,_=>⟨List.nodup_nil,λx hx=>by cases hx⟩
 |k+1,hk=>by
  obtain⟨h1,h2⟩:=ni outs k aa;rcases Ah outs (eB outs k) outs.length (af _) with⟨-,h⟩|⟨b,hb,e,h3,-⟩
  ·
   exfalso;have hl:((List.range outs.length).map λi:Nat=>(i:Int)).length<=k:=by
    have KL:∀x∈(List.range outs.length).map (λi:Nat=>(i:Int)),x∈eB outs k:=λx hx=>by
     obtain⟨i,hi,rfl⟩:=aV.1 hx;exact h i (bU.1 hi)
    have kL:((List.range outs.length).map λi:Nat=>(i:Int)).Nodup:=by
     refine List.pairwise_map.2 (List.nodup_range.imp λ{a b} q e=>q aa)
    have:=jb kL KL;rwa[gT]at this
   simp at hl;omega
  ·rw[eB,e];refine⟨gx.2 ⟨h1,aj,λx hx y hy q=>?_⟩,λx hx=>?_⟩
   ·simp at hy;subst hy q;exact h3 hx
   ·rcases bG.1 hx with hx|hx
    ·exact h2 x hx
    ·simp at hx;omega
def vp(outs:List ag)(i:Nat):∀k,i<=k->(eB outs k).take i=eB outs i
 |0,h=>by
  obtain rfl:i=0:=aa;rfl
 |k+1,h=>by
  by_cases e:i=k+1
  ·subst e;exact bz (by rw[gT];omega)
  ·rw[eB,List.take_append_of_le_length (by rw[gT];omega)];exact vp outs i k aa
def Q0(outs:List ag){i j:Nat}(wh:i<j)(hj:j<outs.length){x y:Int}(hx:(eB outs outs.length)[i]?=so x)(hy:(eB outs outs.length)[j]?=so y):kx (outs.getD y.toNat ⟨#[]⟩) (outs.getD x.toNat ⟨#[]⟩)=false:=by
 obtain⟨kL,Ul⟩:=ni outs outs.length (af _);obtain⟨hy1,UQ⟩:=Ul y (cL hy);have vw:=(Ul x (cL hx)).1;have hxp:x=gu outs (eB outs i) outs.length:=by
  have h1:((eB outs outs.length).take (i+1))[i]?=so x:=by rw[cE aa];exact hx
  rw[vp outs (i+1) outs.length aa,eB,dD (by rw[gT];omega),gT]at h1;simpa using h1.symm
 have J9:y∉eB outs i:=λhm=>by
  rw[<- vp outs i outs.length aa]at hm;obtain⟨m,hm1,YO⟩:=gQ.1 hm;simp only[List.length_take,gT]at hm1;rw[eN]at YO;obtain⟨QN,hy3⟩:=a8.1 hy;exact ba.1 kL m j (by rw[gT];omega) QN aa (YO.trans hy3.symm)
 rcases Ah outs (eB outs i) outs.length (af _) with⟨e,-⟩|⟨b,hb,e,-,h⟩
 ·omega
 ·have:=h y.toNat aa (by rw[ig hy1];exact J9);rw[hxp,e,iP];exact this
def Nj{l:List (ag×ag)}{x t:ag}(hx:x∉l.map (·.1))(y:ag):oq (l++[(x,t)]) y=if y=x then(true,t)else oq l y:=by
 unfold oq;rw[FU];by_cases e:y=x
 ·subst e;rw[FT hx];simp
 ·cases wv l y<;>simp[e]
def Nk{xs:List ag}(h:mY xs){i j:Nat}(hi:i<xs.length)(hj:j<xs.length)(e:xs[i]=xs[j]):i=j:=by
 rcases dB i j with q|q|q
 ·have:=h i j hi hj q;rw[e,sW]at this;exact absurd this iG
 ·exact q
 ·have:=h j i hj hi q;rw[e,sW]at this;exact absurd this iG
def AT{dR:List ag}{fs:List (ag×ag)}(hs:mY dR)(hn:(fs.map (·.1)).Nodup):∀k,k<=fs.length->lK dR (fs.take k)=dR.map (oq (fs.take k))
 |0,_=>by
  apply dA;intro i;simp only[lK,List.take_zero,List.foldl_nil,List.getElem?_replicate,List.getElem?_map];by_cases h:i<dR.length
  ·simp[h,oq,wv]
  ·simp[h]
 |k+1,h=>by
  have hk:k<fs.length:=h;have hx:fs[k].1∉(fs.take k).map (·.1):=λq=>by
   obtain⟨f,hf,e⟩:=aV.1 q;obtain⟨i,hi,rfl⟩:=bB hf;have mn:i<k:=by simp at hi;omega
   rw[eN]at e;have:=ba.1 hn i k eW eW mn;simp at this;exact this e
  rw[AS dR fs k hk,AT hs hn k aa,take_succ fs k hk];have WW:=λy=>Nj (t:=fs[k].2) hx y;generalize fs[k]=f at *;obtain⟨x,t⟩:=f;simp only at WW |-;apply dA;intro i;by_cases hh:qk dR x=true
  ·rw[if_pos hh];obtain⟨h1,h2⟩:=fR hh;rw[bm,au h1,bc]at h2;by_cases e:nY dR x=i
   ·subst e;simp[h1,h2,WW]
   ·rw[eO e,bM,bM];by_cases hi:i<dR.length
    ·have:dR[i]≠x:=λq=>e (Nk hs h1 hi (h2.trans q.symm));simp[hi,WW,this]
    ·simp[hi]
  ·rw[if_neg hh,bM,bM];by_cases hi:i<dR.length
   ·have:dR[i]≠x:=λq=>hh ((yW dR hs x).2 (q▸aA hi));simp[hi,WW,this]
   ·simp[hi]
def Nl{dR:List ag}{fs:List (ag×ag)}(hs:mY dR)(hn:(fs.map (·.1)).Nodup):lK dR fs=dR.map (oq fs):=by
 have:=AT hs hn fs.length (af _);rwa[cO]at this
section
variable {Fin:br}{o o':aL}{w w':ae}
def Q1(hF:bJ ak L0 o w)(b c:Nat)(p:Option Addr)(fs:List (ag×ag))(x:ag)(hn:fs.length<=1000)(hp:fs≠[]->p=so ⟨b,0,we⟩/\o b)(hf:na w b fs)(hc:Cl ak L0 o (.slice p fs.length c))(hx:∀f∈fs,f.1≠x):
  bC ak (XB ak Fin 0) 69 #[.slice p fs.length c,.string x] o w λv o' w'=>v=.bool false/\iz o w v o' w':=by
 refine bC.mono (fQ ah hF (λy hy=>by simp at hy;rcases hy with rfl|rfl;exact hc;exact dH) (Q:=λwl v w'=>v=.bool false) (λwl D8 v w1 w2 e1 e2 h=>h) (λwl hz bu=>?_)) (λv o' w' hq=>?_)
 ·refine(KJ b c p fs x wl hn (λq=>⟨(hp q).1,by rw[hz];exact hF.lt (hp q).2⟩) (λk hk=>n9 hf (bu b (hp (lU hk)).2) k hk) hx).mono λe w' hq=>?_;obtain⟨rfl,hB,Da⟩:=hq;exact⟨_,rfl,Da,λb hb=>hB.block b hb,rfl⟩
 ·obtain⟨hN,wl,bN,-,-,-,h1⟩:=hq;exact⟨h1,hN⟩
structure zn(fs:List (ag×ag)):Prop where
 ui:fs.length<=12
 name:∀f∈fs,isName f.1
 once:(fs.map (·.1)).Nodup
 text:∀f∈fs,f.2.size<=12
end
section
open Go.RowKit
def KR(b c:Nat)(p:Option Addr)(fs:List (ag×ag))(x:ag)(w:ae)(hn:fs.length<=1000)(hp:fs≠[]->p=so ⟨b,0,we⟩/\b<w.heap.size)(hf:na w b fs)(hx:∃f∈fs,f.1=x):
  Calls ak 69 #[.slice p fs.length c,.string x] w λe w'=>e=.returned (.bool true)/\Below w.heap.size w w'/\w.heap.size<=w'.heap.size:=by
 go_enter func69,ntmps69;go_wp2;go_loopw [9] (λi w'=>∃k:Nat,k<=fs.length/\i=.int .i64 k/\Hid (∃f∈fs.drop k,f.1=x)/\Below w.heap.size w w'/\w.heap.size<=w'.heap.size) (λi _=>fs.length-(intOf i).toNat)
 case atStart=>exact⟨0,aW _,rfl,hx,Below.refl _ _,af _⟩
 case round =>
  obtain⟨k,hk,rfl,p7,im,hz⟩:=hrel;have cR:k<fs.length:=fg λq=>by
   obtain⟨f,EY,-⟩:∃f∈fs.drop k,f.1=x:=p7;rw[dZ q]at EY;cases EY
  obtain⟨rfl,hb⟩:=hp (lU cR);obtain⟨c0,c1⟩:=hf.below hb im k cR;have qw:fs[k].1=x\/Hid (∃f∈fs.drop (k+1),f.1=x):=by
   obtain⟨f,EY,e⟩:∃f∈fs.drop k,f.1=x:=p7;rw[dJ cR]at EY;rcases bq.1 EY with rfl|EY
   ·exact .inl e
   ·exact .inr ⟨f,EY,e⟩
  generalize fs[k]=f at *;obtain⟨f1,f2⟩:=f;simp only at c0 c1 qw;clear hf hx p7;by_cases he:f1=x
  ·subst he;clear qw;have hB:=λy=>im.alloc hz y;go_wp2;go_ret;exact⟨rfl,hB _,eW⟩
  ·have fu:=qA he;have MB:=qw.resolve_left he;clear qw he;go_wp2;exact⟨⟨k+1,aa,by go_num,MB,im.alloc aa _,eW⟩,by simp[intOf];omega⟩
end
section
open Go.RowKit (Hid)
structure nj(fs:List (ag×ag))(e:Int):Prop where
 ex:12<fs.length/\e=1\/fs.length<=12/\(e=2/\¬(∀f∈fs,isName f.1)\/(∀f∈fs,isName f.1)/\(e=4/\¬(fs.map (·.1)).Nodup\/(fs.map (·.1)).Nodup/\(e=6/\¬(∀f∈fs,f.2.size<=12)\/e=0/\∀f∈fs,f.2.size<=12)))
def nj.one{fs:List (ag×ag)}{e e':Int}(h:nj fs e)(h':nj fs e'):e=e':=by
 rcases h.ex with⟨h1,rfl⟩|⟨h1,⟨rfl,h2⟩|⟨h2,⟨rfl,h3⟩|⟨h3,⟨rfl,h4⟩|⟨rfl,h4⟩⟩⟩⟩<;>rcases h'.ex with⟨k1,rfl⟩|⟨k1,⟨rfl,k2⟩|⟨k2,⟨rfl,k3⟩|⟨k3,⟨rfl,k4⟩|⟨rfl,k4⟩⟩⟩⟩<;>first|rfl|(exfalso;omega)|exact absurd h2 k2|exact absurd k2 h2|exact absurd h3 k3|exact absurd k3 h3|exact absurd h4 k4|exact absurd k4 h4
def nj.yes{fs:List (ag×ag)}(h:nj fs 0):zn fs:=by
 rcases h.ex with⟨-,e⟩|⟨h1,⟨e,-⟩|⟨h2,⟨e,-⟩|⟨h3,⟨e,-⟩|⟨-,h4⟩⟩⟩⟩
 ·cases e
 ·cases e
 ·cases e
 ·cases e
 ·exact⟨h1,h2,h3,h4⟩
def vl.right{us:List Ru}(h:vl us):jG us 0 0:=by
 refine⟨.inr ⟨h.ui,.inr ⟨λj hj=>⟨_,au hj,?_⟩,.inr ⟨λj _=>h.round j,rfl,rfl⟩⟩⟩⟩;obtain⟨h1,h2,h3,h4⟩:=h.each us[j] (aA hj);refine .inr ⟨h1,.inr ⟨h2,.inr ⟨⟨h3,h4⟩,.inr ⟨rfl,λq=>?_⟩⟩⟩⟩;obtain⟨u,hu,e⟩:=aV.1 q;obtain⟨i,hi,rfl⟩:=bB hu;rw[eN]at e;simp at hi;have:=ba.1 h.nodup i j eW eW aa;simp at this;exact this e
def zn.right{fs:List (ag×ag)}(h:zn fs):nj fs 0:=⟨.inr ⟨h.ui,.inr ⟨h.name,.inr ⟨h.once,.inr ⟨rfl,h.text⟩⟩⟩⟩⟩
def Nn{fs:List (ag×ag)}{k:Nat}(hk:k<fs.length)(h:((fs.take k).map (·.1)).Nodup)(ua:∀f∈fs.take k,f.1≠fs[k].1):((fs.take (k+1)).map (·.1)).Nodup:=by
 rw[kH,au hk,jw];refine gx.2 ⟨h,aj,λx hx y hy e=>?_⟩;simp only[Option.toList_some,aB,aJ,List.mem_singleton]at hy;obtain⟨f,hf,rfl⟩:=aV.1 hx;exact ua f hf (e.trans hy)
def Um{fs:List (ag×ag)}{k:Nat}(hk:k<fs.length)(h:∃f∈fs.take k,f.1=fs[k].1):¬(fs.map (·.1)).Nodup:=λq=>by
 obtain⟨f,hf,e⟩:=h;obtain⟨j,hj,rfl⟩:=bB hf;rw[eN]at e;simp at hj;have:=ba.1 q j k eW eW aa;simp at this;exact this e
section
variable {Fin:br}{d:Nat}{o:aL}{w:ae}{fn:FuncId}{Q:Exit->Act->aL->ae->Prop}{a:Act}{ops:Array Oper}{i j:Nat}{rest:List Nat}{t:Tmp}{e1 e2:Oper}
def DJ{x0 y0 x y:ag}{T:Nat}(hT:T=w.heap.size)(k:dK (XB ak Fin d) fn ops rest Q (a.put we undef) (λb=>o b\/b=T) (w.alloc (.cells #[.string x,.string y] 44)))(h5:ops[j]?=so e2:=by rfl)(h6:Region.wanted e2 (yielded ops a.tmps)=true:=by rfl)(h7:∃u v,e2.op=.store 44 u v/\a.eval u=.pointer (so ⟨T,0,we⟩)/\a.eval v=.agg #[.string x,.string y]:=by exact⟨_,_,rfl,rfl,rfl⟩)(h8:e2.dst=none:=by rfl):dK (XB ak Fin d) fn ops (j::rest) Q a (λb=>o b\/b=T) (w.alloc (.cells #[.string x0,.string y0] 44)):=by
 obtain⟨u,v,h7,q9,Hs⟩:=h7;obtain⟨_,_,_,_,_,_⟩:=e2;simp only at h7 h8;subst h7 h8 hT;have hg:Go.Ren.grow (λb=>o b\/b=w.heap.size) (w.alloc (.cells #[.string x0,.string y0] 44)) (w.alloc (.cells #[.string x,.string y] 44))=λb=>o b\/b=w.heap.size:=by
  funext b;simp only[Go.Ren.grow,eq_iff_iff];exact⟨λh=>h.elim id λh=>by simp at h;omega,.inl⟩
 have ji:∀m,((w.alloc (.cells #[.string x0,.string y0] 44)).at m).heap[w.heap.size]?=so (.cells #[.string x0,.string y0] 44):=λm=>dz _ _;refine rA (w':=w.alloc (.cells #[.string x,.string y] 44)) h5 h6 rfl aj ⟨rfl,rfl⟩ (λm=>?_) (λm x hx=>?_) ?_
 ·obtain⟨e0,e1,f0,f1⟩:=lI (ji m);generalize Act.eval a=ev at q9 Hs |-;have:=Dv (w.at m) (.string x0) (.string y0) (.string x) (.string y) 44;simp[go_sem,q9,Hs,e0,e1,f0,f1];exact this
 ·obtain⟨e0,e1,f0,f1⟩:=lI (ji m);generalize Act.eval a=ev at q9 Hs hx;simp[go_sem,sf,q9,Hs,e0,e1,f0,f1]at hx;rw[hg];rcases hx with rfl|rfl<;>exact⟨_,_,_,rfl,.inl (.inr rfl)⟩
 ·rw[hg];exact k
def Ai(hF:bJ ak L0 o w)(x y:ag):gZ o w (λb=>o b\/b=w.heap.size) (w.alloc (.cells #[.string x,.string y] 44)) :=
 ⟨⟨hF.alloc rfl λf hf=>by simp[obj],λb h=>.inl h,λb h=>h.imp id λe=>aa,aj,λb hb _=>RowKit.Below.heap_alloc _ _ b hb⟩,λb h1 h2=>.inr (by simp at h2;omega)⟩
end
section
variable {Fin:br}{o o':aL}{w w':ae}
def No(hF:bJ ak L0 o w)(b c:Nat)(p:Option Addr)(fs:List (ag×ag))(x:ag)(hn:fs.length<=1000)(hp:fs≠[]->p=so ⟨b,0,we⟩/\o b)(hf:na w b fs)(hc:Cl ak L0 o (.slice p fs.length c)):
  bC ak (XB ak Fin 0) 69 #[.slice p fs.length c,.string x] o w λv o' w'=>∃q,v=.bool q/\(q=true↔∃f∈fs,f.1=x)/\iz o w v o' w':=by
 by_cases hx:∃f∈fs,f.1=x
 ·refine bC.mono (fQ ah hF (λy hy=>by simp at hy;rcases hy with rfl|rfl;exact hc;exact dH) (Q:=λwl v w'=>v=.bool true) (λwl D8 v w1 w2 e1 e2 h=>h) (λwl hz bu=>?_)) (λv o' w' hq=>?_)
  ·refine(KR b c p fs x wl hn (λq=>⟨(hp q).1,by rw[hz];exact hF.lt (hp q).2⟩) (λk hk=>n9 hf (bu b (hp (lU hk)).2) k hk) hx).mono λe w' hq=>?_;obtain⟨rfl,hB,Da⟩:=hq;exact⟨_,rfl,Da,λb hb=>hB.block b hb,rfl⟩
  ·obtain⟨hN,wl,bN,-,-,-,h1⟩:=hq;exact⟨true,h1,by simp[hx],hN⟩
 ·refine(Q1 (Fin:=Fin) hF b c p fs x hn hp hf hc λf EY e=>hx ⟨f,EY,e⟩).mono λv o' w' ⟨h1,h2⟩=>⟨false,h1,by simp[hx],h2⟩
def OW(hF:bJ ak L0 o w)(b c:Nat)(p:Option Addr)(fs:List (ag×ag))(hp:fs≠[]->p=so ⟨b,0,we⟩/\o b)(hf:na w b fs)(hc:Cl ak L0 o (.slice p fs.length c))(Er:fs.length<=c)(jE:∀f∈fs,f.1.size<=9223372036854775807/\f.2.size<=9223372036854775807):
  bC ak (XB ak Fin 0) 40 #[.slice p fs.length c] o w λv o' w'=>∃e,v=.int .i64 e/\nj fs e/\gZ o w o' w':=by
 have W:=bZ (P:=ak) (Fin:=Fin) (d:=0);have at_:∀{o1:aL} {w1:ae} (G:gZ o w o1 w1) (k:Nat) (hk:k<fs.length),o1 b/\w1.cell? ⟨b,k*2,we⟩=so (.string fs[k].1)/\w1.cell? ⟨b,k*2+1,we⟩=so (.string fs[k].2):=λG k hk=>by
  have q:=(hp (lU hk)).2;have e:=G.bA.same b (hF.lt q) id;exact⟨G.bA.more _ q,(cell_of e).trans (hf k hk).1,(cell_of e).trans (hf k hk).2⟩
 refine bt W func40 aG ?_;walk_nrmf Tryz.f40;by_cases Wm:12<fs.length
 ·have aax:(12:Int)<(fs.length:Int):=aa;have dO:nj fs 1:=⟨.inl ⟨Wm,rfl⟩⟩;have hG:=gZ.refl hF;clear hp hf hc jE at_;refine aD ?_;exact⟨.inr trivial,trivial,_,resultsC_tmp (t:=2) aG _,1,ax,dO,hG⟩
 have aax:¬(12:Int)<(fs.length:Int):=aa;have sD:fs.length<=12:=aa;have hG0:=gZ.refl hF;refine aD ?_;refine dQ W (λm a o' w'=>∃k,m+k=fs.length/\a.tmps.size=48/\a.defers=[]/\a.eval (.tmp 0)=.slice p fs.length c/\a.eval (.tmp 12)=.slice p fs.length c/\a.eval (.tmp 13)=.int .i64 fs.length/\a.eval (.tmp 14)=.int .i64 k/\gZ o w o' w'/\Hid (∀j (h:j<fs.length),j<k->isName fs[j].1)) (N:=fs.length) ⟨0,aj,rfl,rfl,ax,ax,ax,ax,hG0,λj h hj=>absurd hj (cH _)⟩ ?_;clear hG0;rintro m a o1 w1 ⟨k,lP,ew,iu,i0,i1,i2,i3,G,hI⟩;obtain⟨gs,rfl⟩:=eQ ew iu;clear ew iu;simp only[List.range,List.range.loop,aB,aJ]at i0 i1 i2 i3 |-;simp[Act.eval]at i0 i1 i2 i3;simp only[i0,i1,i2,i3];clear i0 i1 i2 i3;by_cases hk:k<fs.length;rotate_left
 ·have rq:¬(k:Int)<(fs.length:Int):=aa;have qW:Hid (∀f∈fs,isName f.1):=λf EY=>by
   obtain⟨j,hj,rfl⟩:=bB EY;exact(show ∀j (h:j<fs.length),j<k->isName fs[j].1 from hI) j hj aa
  have hG9:=G;clear hI G;clear lP hk;refine aD ?_;refine dQ W (λm a o' w'=>∃k,m+k=fs.length/\a.tmps.size=48/\a.defers=[]/\a.eval (.tmp 0)=.slice p fs.length c/\a.eval (.tmp 23)=.slice p fs.length c/\a.eval (.tmp 24)=.int .i64 fs.length/\a.eval (.tmp 25)=.int .i64 k/\gZ o w o' w'/\Hid (((fs.take k).map (·.1)).Nodup)) (N:=fs.length) ⟨0,aj,rfl,rfl,ax,ax,ax,ax,hG9,by simp[Hid]⟩ ?_;clear hG9;rintro m a o1 w1 ⟨k,lP,ew,iu,i0,i1,i2,i3,G,hI⟩;obtain⟨gs,rfl⟩:=eQ ew iu;clear ew iu;simp only[List.range,List.range.loop,aB,aJ]at i0 i1 i2 i3 |-;simp[Act.eval]at i0 i1 i2 i3;simp only[i0,i1,i2,i3];clear i0 i1 i2 i3;by_cases hk:k<fs.length;rotate_left
  ·have rq:¬(k:Int)<(fs.length:Int):=aa;have kL:(fs.map (·.1)).Nodup:=by
    have:((fs.take k).map (·.1)).Nodup:=hI;rwa[bz aa]at this
   have kL:Hid ((fs.map (·.1)).Nodup):=kL;have hG8:=G;clear hI G;clear lP hk;refine aD ?_;refine dQ W (λm a o' w'=>∃k,m+k=fs.length/\a.tmps.size=48/\a.defers=[]/\a.eval (.tmp 0)=.slice p fs.length c/\a.eval (.tmp 37)=.slice p fs.length c/\a.eval (.tmp 38)=.int .i64 fs.length/\a.eval (.tmp 39)=.int .i64 k/\gZ o w o' w'/\Hid (∀j (h:j<fs.length),j<k->fs[j].2.size<=12)) (N:=fs.length) ⟨0,aj,rfl,rfl,ax,ax,ax,ax,hG8,λj h hj=>absurd hj (cH _)⟩ ?_;clear hG8;rintro m a o1 w1 ⟨k,lP,ew,iu,i0,i1,i2,i3,G,hI⟩;obtain⟨gs,rfl⟩:=eQ ew iu;clear ew iu;simp only[List.range,List.range.loop,aB,aJ]at i0 i1 i2 i3 |-;simp[Act.eval]at i0 i1 i2 i3;simp only[i0,i1,i2,i3];clear i0 i1 i2 i3;by_cases hk:k<fs.length;rotate_left
   ·have rq:¬(k:Int)<(fs.length:Int):=aa;have dO:nj fs 0:=⟨.inr ⟨sD,.inr ⟨qW,.inr ⟨kL,.inr ⟨rfl,λf EY=>by
     obtain⟨j,hj,rfl⟩:=bB EY;exact(show ∀j (h:j<fs.length),j<k->fs[j].2.size<=12 from hI) j hj aa⟩⟩⟩⟩⟩
    clear hp hf hc jE at_ hI;refine aD ?_;exact⟨.inr trivial,trivial,_,resultsC_tmp (t:=2) aG _,0,ax,dO,G⟩
   have rq:(k:Int)<(fs.length:Int):=aa;have om:IntKind.i64.wrap ((k:Int)+1)=((k+1:Nat):Int):=by rw[IntKind.wrap_i64]<;>omega
   obtain⟨ob,c0,c1⟩:=at_ G k hk;obtain⟨Ug,QQ⟩:=jE fs[k] (aA hk);obtain⟨e1,-⟩:=hp (lU hk);subst e1;have lS:=G.bA.bS;have qw:(fs[k].2.size<=12->Hid (∀j (h:j<fs.length),j<k+1->fs[j].2.size<=12))/\(¬fs[k].2.size<=12->¬ ∀f∈fs,f.2.size<=12):=⟨λq j h hj=>if e:j=k then by subst e;exact q else(show ∀j (h:j<fs.length),j<k->fs[j].2.size<=12 from hI) j h aa,λq h=>q (h _ (aA hk))⟩;clear hI;rcases Si:fs[k] with⟨x,t⟩;simp only[Si]at c0 c1 Ug QQ qw;clear Si;refine aD ?_;refine eZ (.inl ob) rfl aG rfl (v:=.agg #[.string x,.string t]) (λwl bu=>by simp[go_sem,bu.cell.trans c0,bu.cell.trans c1]) (λwl bu x hx=>?_) ?_
   ·simp[go_sem,bu.cell.trans c0,bu.cell.trans c1]at hx;rcases hx with rfl|rfl<;>exact⟨_,_,_,rfl,rfl⟩
   walk_nrm;refine eu rfl aG rfl (.cells #[.string ⟨#[]⟩,.string ⟨#[]⟩] 44) (λn=>.pointer (so ⟨n,0,we⟩)) (λw1=>by first|(simp[go_sem];done)|(simp[go_sem];rfl)) (λw1=>by first|(simp[go_sem];done)|(simp[go_sem];rfl)) ?_;walk_nrm;refine DJ rfl ?_;have G4:=Ai lS x t;obtain⟨t0,t1,-⟩:=lI (w:=w1.alloc (.cells #[.string x,.string t] 44)) (b:=w1.heap.size) (dz _ _);have H3:(w1.alloc (.cells #[.string x,.string t] 44)).heap.size=w1.heap.size+1:=aj;have BF:=G4.bA.bS;generalize (λb=>o1 b\/b=w1.heap.size)=o4 at *;generalize w1.alloc (.cells #[.string x,.string t] 44)=w4 at *;have oA:=G4.all w1.heap.size (af _) aa;clear H3;generalize w1.heap.size=A at *;clear c0 c1;refine aD ?_;refine kn (.inl oA) t1 ?_;walk_nrm;refine dq func70 (aag BF t) ?_;rintro v5 o5 w5 ⟨rfl,N5⟩;have G5:=G.trans (G4.trans (gZ.kJ N5));clear N5 G4 BF G lS;walk_nrm;by_cases ht:t.size<=12
   ·have E7:decide ((t.size:Int)<=12)=true:=eY aa;have Sa:=qw.1 ht;clear hp hf hc jE at_ qw;rw[E7];clear E7;refine aD ?_;exact⟨m-1,aa,k+1,aa,bQ,bQ,ax,ax,ax,by simp[Act.eval,om],G5,Sa⟩
   ·have E7:decide ((t.size:Int)<=12)=false:=cz aa;have dO:nj fs 6:=⟨.inr ⟨sD,.inr ⟨qW,.inr ⟨kL,.inl ⟨rfl,qw.2 ht⟩⟩⟩⟩⟩;clear hp hf hc jE at_ qw;rw[E7];clear E7;refine aD ?_;exact⟨.inr trivial,trivial,_,resultsC_tmp (t:=2) aG _,6,ax,dO,G5⟩
  have rq:(k:Int)<(fs.length:Int):=aa;have om:IntKind.i64.wrap ((k:Int)+1)=((k+1:Nat):Int):=by rw[IntKind.wrap_i64]<;>omega
  obtain⟨ob,c0,c1⟩:=at_ G k hk;obtain⟨Ug,QQ⟩:=jE fs[k] (aA hk);obtain⟨e1,-⟩:=hp (lU hk);subst e1;have lS:=G.bA.bS;have qw:((∀f∈fs.take k,f.1≠fs[k].1)->Hid ((fs.take (k+1)).map (·.1)).Nodup)/\((∃f∈fs.take k,f.1=fs[k].1)->¬(fs.map (·.1)).Nodup):=⟨Nn hk hI,Um hk⟩;clear hI;rcases Si:fs[k] with⟨x,t⟩;simp only[Si]at c0 c1 Ug QQ qw;clear Si;refine aD ?_;refine eZ (.inl ob) rfl aG rfl (v:=.agg #[.string x,.string t]) (λwl bu=>by simp[go_sem,bu.cell.trans c0,bu.cell.trans c1]) (λwl bu x hx=>?_) ?_
  ·simp[go_sem,bu.cell.trans c0,bu.cell.trans c1]at hx;rcases hx with rfl|rfl<;>exact⟨_,_,_,rfl,rfl⟩
  walk_nrm;refine eu rfl aG rfl (.cells #[.string ⟨#[]⟩,.string ⟨#[]⟩] 44) (λn=>.pointer (so ⟨n,0,we⟩)) (λw1=>by first|(simp[go_sem];done)|(simp[go_sem];rfl)) (λw1=>by first|(simp[go_sem];done)|(simp[go_sem];rfl)) ?_;refine aD ?_;refine DJ rfl ?_;have G4:=Ai lS x t;obtain⟨t0,t1,-⟩:=lI (w:=w1.alloc (.cells #[.string x,.string t] 44)) (b:=w1.heap.size) (dz _ _);have H3:(w1.alloc (.cells #[.string x,.string t] 44)).heap.size=w1.heap.size+1:=aj;have BF:=G4.bA.bS;generalize (λb=>o1 b\/b=w1.heap.size)=o4 at *;generalize w1.alloc (.cells #[.string x,.string t] 44)=w4 at *;have oA:=G4.all w1.heap.size (af _) aa;clear H3;generalize w1.heap.size=A at *;clear c0 c1;refine aD ?_;have HT:(fs.take k).length=k:=eW;have hkc:k<=c:=aa;have air:(k:Int)<=(c:Int):=aa;have hcut:=λw1 es=>nf (P:=ak) w1 es 37 44 b k fs.length c underlying37 hkc;refine iy mixed ah [so we,so we,so we,so we,so (so (.string x)),we]
   (S:=λσ o' w'=>gZ o4 w4 o' w'/\∀y,σ 5=so y->∃q,y=.bool q/\(q=true↔∃f∈fs.take k,f.1=x)) ⟨gZ.refl BF,λy hy=>by cases hy⟩ λv9=>?_
  refine fF ?_;refine fU ?_;refine sH (B:=A) (i:=0) (λσ o' w' hS=>?_) ?_
  ·exact⟨.inl (hS.1.bA.more _ oA),(cell_of (hS.1.bA.same _ (BF.lt oA) id)).trans t0⟩
  refine fU ?_;refine BB rfl rfl aG rfl func69 ah rfl (av:=#[.slice (so ⟨b,0,we⟩) k c,.string x]) ax (λσ o' w' H h5 hS=>?_) ?_
  ·have hGG:=G.trans (G4.trans hS.1);have hh:=No (Fin:=Fin) hS.1.bA.bS b c (so ⟨b,0,we⟩) (fs.take k) x aa (λ_=>⟨rfl,(at_ hGG k hk).1⟩) (λj hj=>by
    have Bd:j<fs.length:=aa;have:=(at_ hGG j Bd).2;simpa using this) (eK (at_ hGG k hk).1)
   rw[HT]at hh;refine hh.mono ?_;rintro y o10 w10 ⟨q,rfl,hq,N10⟩;refine⟨hS.1.trans (gZ.kJ N10),λy hy=>?_⟩;simp only[lg,if_true,ay]at hy;exact⟨q,hy.symm,hq⟩
  refine fU ?_;refine fj λσ o10 w10 wu hS=>?_;obtain⟨q,eq,hq⟩:=hS.2 _ (wu 5 iG rfl);have G5:=G.trans (G4.trans hS.1);clear wu hS G4 BF G lS;rw[eq];clear eq;simp only[nu,gL,if_true,if_false,reduceIte,Nat.reduceEqDiff];cases q
  ·have Sa:=qw.1 λf EY e=>by have:=hq.2 ⟨f,EY,e⟩;cases this
   clear hp hf hc jE at_ qw hq;refine aD ?_;exact⟨m-1,aa,k+1,aa,bQ,bQ,ax,ax,ax,by simp[Act.eval,om],G5,Sa⟩
  ·have dO:nj fs 4:=⟨.inr ⟨sD,.inr ⟨qW,.inl ⟨rfl,qw.2 (hq.1 rfl)⟩⟩⟩⟩;clear hp hf hc jE at_ qw hq;refine aD ?_;exact⟨.inr trivial,trivial,_,resultsC_tmp (t:=2) aG _,4,ax,dO,G5⟩
 have rq:(k:Int)<(fs.length:Int):=aa;have om:IntKind.i64.wrap ((k:Int)+1)=((k+1:Nat):Int):=by rw[IntKind.wrap_i64]<;>omega
 obtain⟨ob,c0,c1⟩:=at_ G k hk;obtain⟨Ug,QQ⟩:=jE fs[k] (aA hk);obtain⟨e1,-⟩:=hp (lU hk);subst e1;have lS:=G.bA.bS;have qw:(isName fs[k].1->Hid (∀j (h:j<fs.length),j<k+1->isName fs[j].1))/\(¬isName fs[k].1->¬ ∀f∈fs,isName f.1):=⟨λq j h hj=>if e:j=k then by subst e;exact q else(show ∀j (h:j<fs.length),j<k->isName fs[j].1 from hI) j h aa,λq h=>q (h _ (aA hk))⟩;clear hI;rcases Si:fs[k] with⟨x,t⟩;simp only[Si]at c0 c1 Ug QQ qw;clear Si;refine aD ?_;refine eZ (.inl ob) rfl aG rfl (v:=.agg #[.string x,.string t]) (λwl bu=>by simp[go_sem,bu.cell.trans c0,bu.cell.trans c1]) (λwl bu x hx=>?_) ?_
 ·simp[go_sem,bu.cell.trans c0,bu.cell.trans c1]at hx;rcases hx with rfl|rfl<;>exact⟨_,_,_,rfl,rfl⟩
 walk_nrm;refine eu rfl aG rfl (.cells #[.string ⟨#[]⟩,.string ⟨#[]⟩] 44) (λn=>.pointer (so ⟨n,0,we⟩)) (λw1=>by first|(simp[go_sem];done)|(simp[go_sem];rfl)) (λw1=>by first|(simp[go_sem];done)|(simp[go_sem];rfl)) ?_;walk_nrm;refine DJ rfl ?_;have G4:=Ai lS x t;obtain⟨t0,t1,-⟩:=lI (w:=w1.alloc (.cells #[.string x,.string t] 44)) (b:=w1.heap.size) (dz _ _);have H3:(w1.alloc (.cells #[.string x,.string t] 44)).heap.size=w1.heap.size+1:=aj;have BF:=G4.bA.bS;generalize (λb=>o1 b\/b=w1.heap.size)=o4 at *;generalize w1.alloc (.cells #[.string x,.string t] 44)=w4 at *;have oA:=G4.all w1.heap.size (af _) aa;clear H3;generalize w1.heap.size=A at *;clear c0 c1;refine aD ?_;refine kn (.inl oA) t0 ?_;walk_nrm;refine dq func68 (aaf BF x Ug) ?_;rintro v5 o5 w5 ⟨q5,rfl,hq5,N5⟩;have G5:=G.trans (G4.trans (gZ.kJ N5));clear N5 G4 BF G lS;walk_nrm;cases q5
 ·have ua:¬isName x:=λq=>by have:=hq5.2 q;cases this
  have dO:nj fs 2:=⟨.inr ⟨sD,.inl ⟨rfl,qw.2 ua⟩⟩⟩;clear hp hf hc jE at_ qw;refine aD ?_;exact⟨.inr trivial,trivial,_,resultsC_tmp (t:=2) aG _,2,ax,dO,G5⟩
 ·have Sa:=qw.1 (hq5.1 rfl);clear hp hf hc jE at_ qw;refine aD ?_;exact⟨m-1,aa,k+1,aa,bQ,bQ,ax,ax,ax,by simp[Act.eval,om],G5,Sa⟩
end
end
section
open Go.RowKit
open Go.Ren (AI nZ pg FW)
structure ER(Φ:(Nat->Bool)->Prop)(cs:Array Value):Prop where
 size:cs.size=64
 ex:∃g:Nat->Bool,(∀k,k<64->cs[k]?=so (.bool (g k)))/\Φ g
def ER.one{Φ:(Nat->Bool)->Prop}{cs:Array Value}(h:ER Φ cs):cs.all (·.oneCell')=true:=by
 obtain⟨g,hg,-⟩:=h.ex;rw[Array.all_eq_true_iff_forall_mem];intro v hv;obtain⟨k,hk,rfl⟩:=Array.getElem_of_mem hv;have:=hg k (by rw[<- h.size];exact hk);rw[aO hk]at this;rw[aP this];rfl
def ER.info{Φ:(Nat->Bool)->Prop}{cs:Array Value}(h:ER Φ cs):(ak.info? 201).map (·.size)=so cs.size:=by rw[h.size];exact xN
structure xd(w:ae)(b:Nat)(Φ:(Nat->Bool)->Prop):Prop where
 ex:∃g:Nat->Bool,w.rowIs b 201 64 (λj=>.bool (g j))/\Φ g
section
variable {Φ Φ':(Nat->Bool)->Prop}{w w':ae}{b:Nat}{cs:Array Value}
def xd.blk(h:xd w b Φ):∃cs,w.heap[b]?=so (.cells cs 201 (0,0))/\ER Φ cs:=by
 obtain⟨g,⟨cs,h1,h2,h3⟩,hg⟩:=h.ex;exact⟨cs,h1,h2,g,λk hk=>h3 k hk,hg⟩
def ER.at(h:ER Φ cs)(hb:w.heap[b]?=so (.cells cs 201 (0,0))):xd w b Φ:=by
 obtain⟨g,h1,hg⟩:=h.ex;exact⟨g,⟨cs,hb,h.size,λk hk=>h1 k hk⟩,hg⟩
def xd.mono(h:xd w b Φ)(hm:∀g,Φ g->Φ' g):xd w b Φ':=by
 obtain⟨g,h1,hg⟩:=h.ex;exact⟨g,h1,hm g hg⟩
def xd.of_block(h:xd w b Φ)(e:w'.heap[b]?=w.heap[b]?):xd w' b Φ:=by
 obtain⟨g,h1,hg⟩:=h.ex;exact⟨g,h1.of_block e,hg⟩
structure MS(x:Nat)(w:ae)(w':ae)(Φ:(Nat->Bool)->Prop):Prop where
 FQ:Below w.heap.size w w'
 size:w.heap.size+2<=w'.heap.size
 low:x<=1
 yl:xd w' (w.heap.size+x) Φ
 res:∃z:Array Value,w'.heap[w.heap.size+(1-x)]?=so (.cells z 201 (0,0))/\z.size=64
variable {x:Nat}
def MS.mono(h:MS x w w' Φ)(hm:∀g,Φ g->Φ' g):MS x w w' Φ':=⟨h.FQ,h.size,h.low,h.yl.mono hm,h.res⟩
def MS.put(h:MS x w w' Φ){g:Nat->Bool}(cd:w'.rowIs (w.heap.size+x) 201 64 (λj=>.bool (g j))){n:Nat}(hm:Φ' (λk=>if k=n then true else g k)):MS x w (w'.setCell ⟨w.heap.size+x,n,we⟩ (.bool true)) Φ':=by
 obtain⟨z,h1,h2⟩:=h.res;have on:=AI w' (w.heap.size+x) n (.bool true);have hx:=h.low;exact⟨h.FQ.setCell aj _,by rw[on.1];exact h.size,hx,⟨_,(cd.set n _).congr λk hk=>by by_cases e:k=n<;>simp[e],hm⟩,z,(on.2 _ aa).trans h1,h2⟩
def MS.alloc(h:MS x w w' Φ)(y:Obj):MS x w (w'.alloc y) Φ:=by
 obtain⟨z,h1,h2⟩:=h.res;have:=h.size;have hx:=h.low;exact⟨h.FQ.alloc aa _,eW,hx,h.yl.of_block (alloc_old _ _ _ aa),z,(alloc_old _ _ _ aa).trans h1,h2⟩
end
structure WI(E:Nat->Nat->Prop)(m f t:Nat)(g:Nat->Bool):Prop where
 sound:∀i j,i<8->j<8->g (i*8+j)=true->∃n,pg E n i j
 old:∀i j,i<8->j<8->FW E m i j->g (i*8+j)=true
 new:∀i j,i<8->j<8->i<f\/i=f/\j<t->FW E (m+1) i j->g (i*8+j)=true
section
variable {E:Nat->Nat->Prop}{m f t:Nat}{g:Nat->Bool}
def WI.begin(h:∀i j,i<8->j<8->(g (i*8+j)=true↔E i j)):WI E 0 0 0 g :=
 ⟨λi j hi hj q=>⟨1,.inl ((h i j hi hj).1 q)⟩,λi j hi hj q=>(h i j hi hj).2 q,λi j _ _ q=>aa⟩
def WI.skip(h:WI E m f t g)(hm:m<8)(hf:f<8)(ht:t<8)(hn:g (f*8+m)=false\/g (m*8+t)=false):WI E m f (t+1) g:=by
 refine⟨h.sound,h.old,λi j hi hj q hv=>?_⟩;by_cases e:i=f/\j=t
 ·obtain⟨rfl,rfl⟩:=e;rcases hv with hv|⟨h1,h2⟩
  ·exact h.old i j hi hj hv
  ·rcases hn with hn|hn
   ·rw[h.old i m hi hm h1]at hn;cases hn
   ·rw[h.old m j hm hj h2]at hn;cases hn
 ·exact h.new i j hi hj aa hv
def WI.put(h:WI E m f t g)(hm:m<8)(hf:f<8)(ht:t<8)(h1:g (f*8+m)=true)(h2:g (m*8+t)=true):WI E m f (t+1) (λk=>if k=f*8+t then true else g k):=by
 refine⟨λi j hi hj q=>?_,λi j hi hj hv=>?_,λi j hi hj q hv=>?_⟩
 ·by_cases e:i*8+j=f*8+t
  ·have e1:i=f:=aa;have e2:j=t:=aa;subst e1 e2;obtain⟨a,ha⟩:=h.sound i m hi hm h1;obtain⟨b,hb⟩:=h.sound m j hm hj h2;exact⟨a+b,ha.trans hb⟩
  ·simp only[if_neg e]at q;exact h.sound i j hi hj q
 ·by_cases e:i*8+j=f*8+t
  ·simp only[if_pos e]
  ·simp only[if_neg e];exact h.old i j hi hj hv
 ·by_cases e:i*8+j=f*8+t
  ·simp only[if_pos e]
  ·simp only[if_neg e];exact h.new i j hi hj aa hv
def WI.row(h:WI E m f 8 g):WI E m (f+1) 0 g:=⟨h.sound,h.old,λi j hi hj q=>h.new i j hi hj aa⟩
def WI.next(h:WI E m 8 0 g):WI E (m+1) 0 0 g:=⟨h.sound,λi j hi hj q=>h.new i j hi hj (.inl hi) q,λi j _ _ q=>aa⟩
end
def KS(E:Nat->Nat->Prop)(hE:∀i j,E i j->i<8/\j<8)(cs:Array Value)(HP:ER (λg=>∀i j,i<8->j<8->(g (i*8+j)=true↔E i j)) cs)(w:ae):
  Calls ak 108 #[.agg cs] w λe w'=>∃uI,e=.returned (.agg uI)/\ER (λg=>∀i j,i<8->j<8->(g (i*8+j)=true↔∃n,pg E n i j)) uI/\Below w.heap.size w w'/\w.heap.size<=w'.heap.size:=by
 have ew:=HP.size;go_enter func108,ntmps108;go_wp2;go_loopw [6] (λi w'=>∃m:Nat,m<=8/\i=.int .i64 m/\MS 0 w w' (WI E m 0 0)) (λi _=>8-(intOf i).toNat)
 case atStart =>
  refine⟨0,aa,rfl,((Below.refl _ _).alloc (af _) _).alloc aj _,aj,aa,(HP.at (heap_alloc2_old w _ _)).mono λg hg=>.begin hg,Array.replicate 64 (.bool false),heap_alloc2_new w _ _,aj⟩
 case round =>
  obtain⟨m,hm,rfl,hS⟩:=hrel;by_cases cR:m<8
  ·have hmI:(m:Int)<8:=aa;go_wp2;go_loopw [9] (λi w'=>∃f:Nat,f<=8/\i=.int .i64 f/\MS 0 w w' (WI E m f 0)) (λi _=>8-(intOf i).toNat)
   case atStart=>exact⟨0,aa,rfl,hS⟩
   case round =>
    clear hS;obtain⟨f,hf,rfl,hS⟩:=hrel;by_cases IV:f<8
    ·have hfI:(f:Int)<8:=aa;go_wp2;go_loopw [12] (λi w'=>∃t:Nat,t<=8/\i=.int .i64 t/\MS 0 w w' (WI E m f t)) (λi _=>8-(intOf i).toNat)
     case atStart=>exact⟨0,aa,rfl,hS⟩
     case round =>
      clear hS;obtain⟨t,ht,rfl,hS⟩:=hrel;by_cases A0:t<8
      ·have htI:(t:Int)<8:=aa;obtain⟨g,cd,iS⟩:=hS.yl.ex;simp only[Nat.add_zero]at cd;have c1:=cd.cell (show f*8+m<64 by omega);have c2:=cd.cell (show m*8+t<64 by omega);have c3:=cd.cell (show f*8+t<64 by omega);have f3:=cd.frozen (f*8+t);cases h1:g (f*8+m)
       ·rw[h1]at c1;have EP:MS 0 w _ (WI E m f (t+1)):=⟨hS.FQ,hS.size,hS.low,⟨g,cd,iS.skip cR IV A0 (.inl h1)⟩,hS.res⟩;clear iS HP hE;go_wp2;exact⟨⟨t+1,aa,by go_num,EP⟩,by simp[intOf];omega⟩
       ·rw[h1]at c1;cases h2:g (m*8+t)
        ·rw[h2]at c2;have EP:MS 0 w _ (WI E m f (t+1)):=⟨hS.FQ,hS.size,hS.low,⟨g,cd,iS.skip cR IV A0 (.inr h2)⟩,hS.res⟩;clear iS HP hE;go_wp2;exact⟨⟨t+1,aa,by go_num,EP⟩,by simp[intOf];omega⟩
        ·rw[h2]at c2;have EP:=hS.put cd (iS.put cR IV A0 h1 h2);clear iS HP hE;go_wp2;exact⟨⟨t+1,aa,by go_num,EP⟩,by simp[intOf];omega⟩
      ·obtain rfl:t=8:=aa;have EP:=hS.mono λg hg=>WI.row hg;clear HP hE;go_wp2;exact⟨⟨f+1,aa,by go_num,EP⟩,by simp[intOf];omega⟩
    ·obtain rfl:f=8:=aa;have EP:=hS.mono λg hg=>WI.next hg
     clear HP hE;go_wp2;exact⟨⟨m+1,aa,by go_num,EP⟩,by simp[intOf];omega⟩
  ·obtain rfl:m=8:=aa;have hS:=hS.mono (Φ':=λg=>∀i j,i<8->j<8->(g (i*8+j)=true↔∃n,pg E n i j)) λg hg i j hi hj=>⟨hg.sound i j hi hj,λ⟨n,hn⟩=>hg.old i j hi hj (hn.via hE)⟩;obtain⟨uI,nD,RN⟩:=hS.yl.blk;simp only[Nat.add_zero]at nD;obtain⟨z,hz,YY⟩:=hS.res;have hi:(ak.info? 201).map (·.size)=so uI.size:=by rw[RN.size];exact xN
   go_wp2_with (first
    | (refine wpList_load_row rfl 201 _ rfl w.heap.size rfl 201 uI (0,0) _ nD underlying201 rfl hi ?_)
    | (refine wpList_plain rfl λ_ hK=>wp_store_row 201 _ _ rfl (w.heap.size+1) uI rfl rfl 201 z hz hi (YY.trans RN.size.symm) RN.one (hK _ _ ?_)))
   refine bodyPost_ret (results_cell_row aG _ _ (w.heap.size+1) 201 uI (0,0) _ rfl (setRow_heap _ _ _ _ _ _ hz) underlying201 rfl hi) rfl ⟨uI,rfl,RN,?_,?_⟩
   ·exact tE hS.FQ aa _
   ·rw[setRow_size];have:=hS.size;omega
structure DI(us:List Ru)(m t:Nat)(g:Nat->Bool):Prop where
 law:∀i j,i<8->j<8->(g (i*8+j)=true↔∃u v,us[i]?=so u/\us[j]?=so v/\(i<m/\v.out∈u.ins\/i=m/\v.out∈u.ins.take t))
def DI.begin{us:List Ru}:DI us 0 0 (λ_=>false):=⟨λi j _ _=>⟨(λq=>by cases q),λ⟨u,v,_,_,q⟩=>by rcases q with⟨q,_⟩|⟨_,q⟩;omega;simp at q⟩⟩
section
variable {NM:aN->List ag}{rs:List aN}{m t:Nat}{g:Nat->Bool}{y:ag}{rc:Int}{ts:List ag}
def Un{i:Nat}{u:Ru}(h:(rs.map (gS NM))[i]?=so u):∃hi:i<rs.length,u=gS NM rs[i]:=by
 rw[bM]at h;obtain⟨r,hr,rfl⟩:=aH.1 h;obtain⟨hi,rfl⟩:=a8.1 hr;exact⟨hi,rfl⟩
def DI.skip(h:DI (rs.map (gS NM)) m t g)(hu:(rs.map (gS NM))[m]?=so ⟨y,rc,ts⟩)(ht:t<ts.length)(hn:∀q∈rs,q.out≠ts[t]):DI (rs.map (gS NM)) m (t+1) g:=by
 refine⟨λi j hi hj=>(h.law i j hi hj).trans ⟨?_,?_⟩⟩
 ·rintro⟨u,v,h1,h2,h3|⟨rfl,h3⟩⟩
  ·exact⟨u,v,h1,h2,.inl h3⟩
  ·rw[hu]at h1;cases h1;exact⟨_,v,hu,h2,.inr ⟨rfl,(gH ht).2 (.inl h3)⟩⟩
 ·rintro⟨u,v,h1,h2,h3|⟨rfl,h3⟩⟩
  ·exact⟨u,v,h1,h2,.inl h3⟩
  ·rw[hu]at h1;cases h1;rcases(gH ht).1 h3 with h3|h3
   ·exact⟨_,v,hu,h2,.inr ⟨rfl,h3⟩⟩
   ·obtain⟨Bd,rfl⟩:=Un h2;exact absurd h3 (hn _ (aA Bd))
def DI.put(h:DI (rs.map (gS NM)) m t g)(kL:(rs.map (·.out)).Nodup)(h8:rs.length<=8)(hu:(rs.map (gS NM))[m]?=so ⟨y,rc,ts⟩)(ht:t<ts.length){k:Nat}(hk:k<rs.length)(hx:rs[k].out=ts[t]):DI (rs.map (gS NM)) m (t+1) (λn=>if n=m*8+k then true else g n):=by
 obtain⟨hm,-⟩:=Un hu;refine⟨λi j hi hj=>?_⟩;by_cases e:i*8+j=m*8+k
 ·have e1:i=m:=aa;have e2:j=k:=aa;subst e1 e2;simp only[if_true,true_iff];exact⟨_,gS NM rs[j],hu,by simp[au hk],.inr ⟨by trivial,(gH ht).2 (.inr hx)⟩⟩
 ·simp only[if_neg e];refine(h.law i j hi hj).trans ⟨?_,?_⟩
  ·rintro⟨u,v,h1,h2,h3|⟨rfl,h3⟩⟩
   ·exact⟨u,v,h1,h2,.inl h3⟩
   ·rw[hu]at h1;cases h1;exact⟨_,v,hu,h2,.inr ⟨rfl,(gH ht).2 (.inl h3)⟩⟩
  ·rintro⟨u,v,h1,h2,h3|⟨rfl,h3⟩⟩
   ·exact⟨u,v,h1,h2,.inl h3⟩
   ·rw[hu]at h1;cases h1;rcases(gH ht).1 h3 with h3|h3
    ·exact⟨_,v,hu,h2,.inr ⟨rfl,h3⟩⟩
    ·obtain⟨Bd,rfl⟩:=Un h2;have hjk:j≠k:=λq=>e (by rw[q]);have h4:rs[j].out=rs[k].out:=h3.trans hx.symm;rcases Nat.lt_or_gt_of_ne hjk with q|q
     ·have:=ba.1 kL j k (by simpa using Bd) (by simpa using hk) q;simp only[List.getElem_map]at this;exact absurd h4 this
     ·have:=ba.1 kL k j (by simpa using hk) (by simpa using Bd) q;simp only[List.getElem_map]at this;exact absurd h4.symm this
def DI.row(h:DI (rs.map (gS NM)) m t g)(hu:(rs.map (gS NM))[m]?=so ⟨y,rc,ts⟩)(ht:ts.length<=t):DI (rs.map (gS NM)) (m+1) 0 g:=by
 refine⟨λi j hi hj=>(h.law i j hi hj).trans ⟨?_,?_⟩⟩
 ·rintro⟨u,v,h1,h2,h3|⟨rfl,h3⟩⟩
  ·exact⟨u,v,h1,h2,.inl ⟨aa,h3.2⟩⟩
  ·exact⟨u,v,h1,h2,.inl ⟨aa,List.mem_of_mem_take h3⟩⟩
 ·rintro⟨u,v,h1,h2,⟨h3,h4⟩|⟨rfl,h3⟩⟩
  ·by_cases e:i=m
   ·subst e;rw[hu]at h1;cases h1;exact⟨_,v,hu,h2,.inr ⟨rfl,by rw[bz ht];exact h4⟩⟩
   ·exact⟨u,v,h1,h2,.inl ⟨aa,h4⟩⟩
  ·simp at h3
def DI.all{us:List Ru}(h:DI us m 0 g)(hm:us.length<=m):∀i j,i<8->j<8->(g (i*8+j)=true↔tX us i j):=λi j hi hj=>(h.law i j hi hj).trans ⟨λ⟨u,v,h1,h2,h3⟩=>⟨u,v,h1,h2,by
  rcases h3 with⟨_,h3⟩|⟨_,h3⟩
  ·exact h3
  ·simp at h3⟩,λ⟨u,v,h1,h2,h3⟩=>⟨u,v,h1,h2,.inl ⟨by have:=(a8.1 h1).1;omega,h3⟩⟩⟩
end
def Np(p:Option Addr)(b c:Nat)(rs:List aN)(NM:aN->List ag)(NB:aN->Nat)(w:ae)(hR:tI w p b rs NM NB)(sD:rs.length<=8)(kL:(rs.map (·.out)).Nodup):
  Calls ak 109 #[.slice p rs.length c] w λe w'=>∃uI,e=.returned (.agg uI)/\ER (λg=>∀i j,i<8->j<8->(g (i*8+j)=true↔tX (rs.map (gS NM)) i j)) uI/\Below w.heap.size w w'/\w.heap.size<=w'.heap.size:=by
 go_enter func109,ntmps109;go_wp2;go_loopw [11] (λi w'=>∃m:Nat,m<=rs.length/\i=.int .i64 m/\MS 1 w w' (DI (rs.map (gS NM)) m 0)) (λi _=>rs.length-(intOf i).toNat)
 case atStart =>
  refine⟨0,aa,rfl,((Below.refl _ _).alloc (af _) _).alloc aj _,aj,aa,⟨λ_=>false,⟨Array.replicate 64 (.bool false),heap_alloc2_new w _ _,aj,λk hk=>by simp[hk]⟩,DI.begin⟩,Array.replicate 64 (.bool false),heap_alloc2_old w _ _,aj⟩
 case round =>
  obtain⟨m,hm,rfl,hS⟩:=hrel;by_cases cR:m<rs.length
  ·obtain⟨ep,hb⟩:=hR.ptr (lU cR);subst ep;have tV:=hR.below hS.FQ;obtain⟨c0,c1,c2⟩:=tV.at_ m cR;obtain⟨n1,n2,n3,n4,n5⟩:=hR.nm rs[m] (aA cR);rw[n1]at c2;have hum:(rs.map (gS NM))[m]?=so ⟨rs[m].out,rs[m].eT,NM rs[m]⟩:=by simp[gS,au cR]
   clear n5;generalize anQ:NM rs[m]=ts at *;generalize rs[m].sa=sa at *;generalize NB rs[m]=nb at *;generalize rs[m].sc=sc at *;have hSa:=hS.alloc (.cells #[.string rs[m].out,.int .i64 rs[m].eT,.slice sa ts.length sc] 42);go_wp2;go_loopw [19] (λi w'=>∃t:Nat,t<=ts.length/\i=.int .i64 t/\MS 1 w w' (DI (rs.map (gS NM)) m t)) (λi _=>ts.length-(intOf i).toNat)
   case atStart=>exact⟨0,aa,rfl,hSa⟩
   case round =>
    clear hSa hS tV;obtain⟨t,ht,rfl,hS⟩:=hrel;by_cases A0:t<ts.length
    ·obtain⟨e1,e2⟩:=n2 (lU A0);subst e1;have h1:=n3.below e2 hS.FQ t A0;rw[bD]at h1;have tV:=hR.below hS.FQ;have Fy:=Ds b c _ rs ts[t] _ aa (λq=>rfl) tV.at_;obtain⟨g,cd,iS⟩:=hS.yl.ex;have hx:=KB rs ts[t];generalize Bf rs ts[t] 0=r at *;rcases hx.ex with⟨rfl,xe⟩|⟨j,hj,rfl,QN⟩
     ·have EP:MS 1 w _ (DI (rs.map (gS NM)) m (t+1)):=hS.mono λg hg=>hg.skip hum A0 xe;clear iS cd hum;go_wp2_with (go_at_call 107;refine Fy.mono ?_;rintro e w' ⟨rfl,rfl⟩);exact⟨⟨t+1,aa,by go_num,EP⟩,by simp[intOf];omega⟩
     ·have hj8:j<8:=aa;have Oq:(j:Int)<8:=aa;have hmI:(m:Int)<8:=aa;have c3:=cd.cell (show m*8+j<64 by omega);have f3:=cd.frozen (m*8+j);have EP:=hS.put cd (iS.put kL sD hum A0 hj QN);clear iS hum;go_wp2_with (go_at_call 107;refine Fy.mono ?_;rintro e w' ⟨rfl,rfl⟩);exact⟨⟨t+1,aa,by go_num,EP⟩,by simp[intOf];omega⟩
    ·have EP:=hS.mono λg hg=>hg.row hum aa;clear hum;go_wp2;exact⟨⟨m+1,aa,by go_num,EP⟩,by simp[intOf];omega⟩
  ·obtain rfl:m=rs.length:=aa;have hS:=hS.mono (Φ':=λg=>∀i j,i<8->j<8->(g (i*8+j)=true↔tX (rs.map (gS NM)) i j)) λg hg=>hg.all aj;obtain⟨uI,nD,RN⟩:=hS.yl.blk;obtain⟨z,hz,YY⟩:=hS.res;have hi:(ak.info? 201).map (·.size)=so uI.size:=by rw[RN.size];exact xN
   go_wp2_with (first
    | (refine wpList_load_row rfl 201 _ rfl (w.heap.size+1) rfl 201 uI (0,0) _ nD underlying201 rfl hi ?_)
    | (refine wpList_plain rfl λ_ hK=>wp_store_row 201 _ _ rfl w.heap.size uI rfl rfl 201 z hz hi (YY.trans RN.size.symm) RN.one (hK _ _ ?_)))
   refine bodyPost_ret (results_cell_row aG _ _ w.heap.size 201 uI (0,0) _ rfl (setRow_heap _ _ _ _ _ _ hz) underlying201 rfl hi) rfl ⟨uI,rfl,RN,?_,?_⟩
   ·exact tE hS.FQ (af _) _
   ·rw[setRow_size];have:=hS.size;omega
end
section
open Go.RowKit
open Go.Ren (pg)
structure DK(us:List Ru)(r:Int):Prop where
 ex:r=-1/\(∀j,j<us.length->¬ng us j)\/∃i:Nat,i<us.length/\r=i/\ng us i/\∀j,j<i->¬ng us j
def DL(p:Option Addr)(b c:Nat)(rs:List aN)(NM:aN->List ag)(NB:aN->Nat)(w:ae)(hR:tI w p b rs NM NB)(sD:rs.length<=8)(kL:(rs.map (·.out)).Nodup):
  Calls ak 67 #[.slice p rs.length c] w λe w'=>∃r,e=.returned (.int .i64 r)/\DK (rs.map (gS NM)) r/\Below w.heap.size w w'/\w.heap.size<=w'.heap.size:=by
 have aix:∀i j,tX (rs.map (gS NM)) i j->i<8/\j<8:=λi j q=>by have:=q.lt;simp at this;omega
 have Ui:(rs.map (gS NM)).length=rs.length:=aj;have hd:=Np p b c rs NM NB w hR sD kL;go_enter func67,ntmps67;generalize OQ:rs.map (gS NM)=us at *;clear OQ;go_wp2_with (first
  | (go_at_call 109;refine hd.mono ?_;rintro e w1 ⟨tQ,rfl,WX,Ev,JO⟩)
  | (go_at_call 108;refine(KS (tX us) aix tQ WX w1).mono ?_;rintro e w2 ⟨cs2,rfl,hN2,oe,Da⟩;have hi:=hN2.info)
  | (refine wpList_plain rfl λ_ hK=>wp_store_row 201 _ _ rfl w2.heap.size cs2 rfl rfl 201 _ (dz _ _) hi hN2.size.symm hN2.one (hK _ _ ?_)))
 have aiy:Below w.heap.size w w2:=Ev.trans (oe.mono JO);generalize hzc:(Obj.cells _ 201 (0,0))=zc;have FG:Below w.heap.size w ((w2.alloc zc).setRow w2.heap.size cs2)/\w.heap.size<=((w2.alloc zc).setRow w2.heap.size cs2).heap.size :=
  ⟨tE (aiy.alloc aa _) aa _,by rw[setRow_size];simp;omega⟩
 have hn3:=hN2.at (w:=(w2.alloc zc).setRow w2.heap.size cs2) (b:=w2.heap.size) (by rw[<- hzc];exact setRow_heap _ _ _ _ _ _ (dz _ _));generalize (w2.alloc zc).setRow w2.heap.size cs2=w3 at *;obtain⟨g,cd,iS⟩:=hn3.ex;clear hn3 hzc hN2 WX hi hd hR;have hg:∀k,k<8->(g (k*8+k)=true↔ng us k):=λk hk=>iS k k hk hk;clear iS;go_loop [10] (λi=>∃k:Nat,k<=rs.length/\i=.int .i64 k/\∀j,j<k->¬ng us j) (λi=>rs.length-(intOf i).toNat)
 case atStart=>exact⟨0,aW _,rfl,λj hj=>aa⟩
 case round =>
  obtain⟨k,hk,rfl,ua⟩:=hrel;by_cases cR:k<rs.length
  ·have rq:(k:Int)<8:=aa;have c1:=cd.cell (show k*8+k<64 by omega);have Lx:=hg k aa;cases h:g (k*8+k)
   ·rw[h]at c1 Lx;have aas:∀j,j<k+1->¬ng us j:=λj hj q=>by
     by_cases e:j=k
     ·subst e;cases Lx.2 q
     ·exact ua j aa q
    clear hg ua Lx;go_wp2
    go_round
    case rel=>exact⟨k+1,aa,by go_num,aas⟩
    case measure=>simp[intOf];omega
   ·rw[h]at c1 Lx;have dO:DK us (k:Int):=⟨.inr ⟨k,aa,rfl,Lx.1 rfl,ua⟩⟩;clear hg ua Lx;go_wp2;go_ret;exact⟨_,rfl,dO,FG⟩
  ·have dO:DK us (-1):=⟨.inl ⟨rfl,λj hj=>ua j aa⟩⟩;clear hg ua;go_wp2;go_ret;exact⟨_,rfl,dO,FG⟩
structure Uo(us:List Ru)(w:ae)(e:Ending)(w':ae):Prop where
 ex:∃n a,e=.returned (.tuple #[.int .i64 n,.int .i64 a])/\jG us n a
 FQ:Below w.heap.size w w'
 size:w.heap.size<=w'.heap.size
def F7(p:Option Addr)(b c:Nat)(rs:List aN)(NM:aN->List ag)(NB:aN->Nat)(w:ae)(hR:tI w p b rs NM NB)(hc:rs.length<=c):
  Calls ak 39 #[.slice p rs.length c] w λe w'=>Uo (rs.map (gS NM)) w e w':=by
 have jE:=hR.qt;have Ui:(rs.map (gS NM)).length=rs.length:=aj;have Bi:=λw1 (hw:Below w.heap.size w w1) (h8:rs.length<=8) k hk=>KO p b c rs NM NB w1 (hR.below hw) h8 k hk hc;have Ps:=λw1 (hw:Below w.heap.size w w1) (h8:rs.length<=8) kL=>DL p b c rs NM NB w1 (hR.below hw) h8 kL;have kL:(∀j,j<rs.length->oa (rs.map (gS NM)) j 0)->(rs.map (·.out)).Nodup:=λh=>by
  have:=Dw (us:=rs.map (gS NM)) (λj hj=>h j (by simpa using hj));simpa[gS,List.map_map,Function.comp_def] using this
 go_enter func39,ntmps39;generalize OQ:rs.map (gS NM)=us at *;clear OQ;by_cases h8:8<rs.length
 ·have h8I:(8:Int)<(rs.length:Int):=aa;have dO:jG us 1 0:=⟨.inl ⟨aa,rfl,rfl⟩⟩;clear Bi Ps kL hR;go_wp2
  go_ret2
  exact⟨⟨_,_,rfl,dO⟩,Below.refl _ _,af _⟩
 have h8I:¬(8:Int)<(rs.length:Int):=aa;have h8':rs.length<=8:=aa;clear hR;have Bi:=λw1 hw k hk=>Bi w1 hw h8' k hk;have Ps:=λw1 hw kL=>Ps w1 hw h8' kL;go_wp2;go_loopw [12] (λi w'=>∃k:Nat,k<=rs.length/\i=.int .i64 k/\(∀j,j<k->oa us j 0)/\Below w.heap.size w w'/\w.heap.size<=w'.heap.size) (λi _=>rs.length-(intOf i).toNat)
 case atStart=>exact⟨0,aW _,rfl,λj hj=>aa,Below.refl _ _,af _⟩
 case round =>
  obtain⟨k,hk,rfl,eP,im,hz⟩:=hrel;by_cases cR:k<rs.length
  ·have h1:=Bi _ im k cR;clear Bi Ps kL;by_cases hy:oa us k 0
   ·have vn:∀j,j<k+1->oa us j 0:=λj hj=>by
     by_cases e:j=k
     ·subst e;exact hy
     ·exact eP j aa
    have h2:=h1.mono (λe w2 (q:Ng us k _ e w2)=>show e=.returned (.int .i64 0)/\Below _ _ w2/\_<=w2.heap.size from by
     obtain⟨n,rfl,hn⟩:=q.ex;rw[hn.one hy];exact⟨rfl,q.FQ,q.size⟩)
    clear eP hy h1;go_wp2_with (go_at_call 66;refine h2.mono ?_;rintro e w2 ⟨rfl,oe,Da⟩);exact⟨⟨k+1,aa,by go_num,vn,im.trans (oe.mono hz),aa⟩,by simp[intOf];omega⟩
   ·have h2:=h1.mono (λe w2 (q:Ng us k _ e w2)=>show ∃n,e=.returned (.int .i64 n)/\¬n=0/\jG us n k/\Below _ _ w2/\_<=w2.heap.size from by
     obtain⟨n,rfl,hn⟩:=q.ex;have h0:¬n=0:=λe=>hy (e▸hn);exact⟨n,rfl,h0,⟨.inr ⟨aa,.inl ⟨k,aa,hn,h0,rfl,eP⟩⟩⟩,q.FQ,q.size⟩)
    clear eP hy h1;go_wp2_with (go_at_call 66;refine h2.mono ?_;rintro e w2 ⟨n,rfl,h0,dO,oe,Da⟩)
    go_ret2
    exact⟨⟨_,_,rfl,dO⟩,im.trans (oe.mono hz),aa⟩
  ·have vn:∀j,j<us.length->oa us j 0:=λj hj=>eP j aa;have h1:=Ps _ im (kL λj hj=>eP j aa);clear Bi Ps kL eP;by_cases hy:∀j,j<us.length->¬ng us j
   ·have h2:=h1.mono (λe w2 (q:∃r,e=.returned (.int .i64 r)/\DK us r/\Below _ _ w2/\_<=w2.heap.size)=>show e=.returned (.int .i64 (-1))/\Below _ _ w2/\_<=w2.heap.size from by
     obtain⟨r,rfl,hr,q1,q2⟩:=q;rcases hr.ex with⟨rfl,-⟩|⟨i,hi,-,q,-⟩
     ·exact⟨rfl,q1,q2⟩
     ·exact absurd q (hy i hi))
    have dO:jG us 0 0:=⟨.inr ⟨aa,.inr ⟨vn,.inr ⟨hy,rfl,rfl⟩⟩⟩⟩;clear hy h1 vn;go_wp2_with (go_at_call 67;refine h2.mono ?_;rintro e w2 ⟨rfl,oe,Da⟩)
    go_ret2
    exact⟨⟨_,_,rfl,dO⟩,im.trans (oe.mono hz),aa⟩
   ·have h2:=h1.mono (λe w2 (q:∃r,e=.returned (.int .i64 r)/\DK us r/\Below _ _ w2/\_<=w2.heap.size)=>show ∃r,e=.returned (.int .i64 r)/\0<=r/\jG us 5 r/\Below _ _ w2/\_<=w2.heap.size from by
     obtain⟨r,rfl,hr,q1,q2⟩:=q;rcases hr.ex with⟨-,q⟩|⟨i,hi,rfl,q,q3⟩
     ·exact absurd q hy
     ·exact⟨_,rfl,aa,⟨.inr ⟨aa,.inr ⟨vn,.inl ⟨i,hi,q,rfl,rfl,q3⟩⟩⟩⟩,q1,q2⟩)
    clear hy h1 vn;go_wp2_with (go_at_call 67;refine h2.mono ?_;rintro e w2 ⟨r,rfl,h0,dO,oe,Da⟩)
    go_ret2
    exact⟨⟨_,_,rfl,dO⟩,im.trans (oe.mono hz),aa⟩
end
open Go.ConcR (Payload)
section
open Go.Ren (pg)
section
variable {Fin:br}{o o' o1 o2:aL}{w w' w1 w2:ae}
def Nq(hF:bJ ak L0 o w)(sb sc b c:Nat)(sp p:Option Addr)(dR:List ag)(fs:List (ag×ag))(h1:dR.length<=1000)(h2:fs.length<=1000)(xU:dR≠[]->sp=so ⟨sb,0,we⟩/\o sb)(hs:gf w sb 0 dR)(HP:Cl ak L0 o (.slice sp dR.length sc))(hp:fs≠[]->p=so ⟨b,0,we⟩/\o b)(hf:na w b fs)(hc:Cl ak L0 o (.slice p fs.length c)):
  bC ak (XB ak Fin 0) 43 #[.slice sp dR.length sc,.slice p fs.length c] o w λv o' w'=>v=.slice (so ⟨w.heap.size,0,we⟩) dR.length dR.length/\iz o w v o' w'/\w.heap.size<w'.heap.size/\w'.rowIs w.heap.size 159 (dR.length*2) (fK (lK dR fs)):=by
 refine bC.mono (fQ ah hF (λy hy=>by simp at hy;rcases hy with rfl|rfl;exact HP;exact hc) (Q:=λwl v w'=>v=.slice (so ⟨wl.heap.size,0,we⟩) dR.length dR.length/\wl.heap.size<w'.heap.size/\w'.rowIs wl.heap.size 159 (dR.length*2) (fK (lK dR fs))) (λwl D8 v w1 w2 e1 e2 h=>?_) (λwl hz bu=>?_)) (λv o' w' hq=>?_)
 ·rw[e1,e2];exact⟨h.1,h.2.1,h.2.2.of_block (by rw[e2])⟩
 ·refine(Ht sb sc b c sp p dR fs wl h1 h2 (λq=>⟨(xU q).1,by rw[hz];exact hF.lt (xU q).2⟩) (λq=>⟨(hp q).1,by rw[hz];exact hF.lt (hp q).2⟩) (λk hk=>dS hs (bu sb (xU (lU hk)).2) k hk) (λk hk=>n9 hf (bu b (hp (lU hk)).2) k hk)).mono λe w' hq=>?_;obtain⟨rfl,hB,Da,hr⟩:=hq;exact⟨_,rfl,aa,λb hb=>hB.block b hb,rfl,Da,hr⟩
 ·obtain⟨hN,wl,bN,z1,z2,rJ,h1,h2,h3⟩:=hq;rw[z1]at h1 h2 h3;exact⟨h1,hN,aa,h3.of_block (rJ _ (af _) aa)⟩
def fW.low{x:Nat}(h:fW (λ_=>False) o w o1 w1)(k:fW (·=x) o1 w1 o2 w2)(hx:w.heap.size<=x):fW (λ_=>False) o w o2 w2:=by
 have z1:=h.size;have z2:=k.size;exact⟨k.bS,λb hb=>k.more b (h.more b hb),λb hb=>(k.new b hb).elim (λq=>h.new b q) λq=>.inr aa,aa,λb hb hq=>(k.same b aa aa).trans (h.same b hb hq)⟩
def Up{p:Option Addr}{b c:Nat}{rs:List aN}{NM:aN->List ag}{NB:aN->Nat}{RK:ag->Nat}(hF:bJ ak L0 o w)(h:Hand o w p b c rs NM NB RK):
  bC ak (XB ak Fin 0) 39 #[.slice p rs.length c] o w λv o' w'=>v=.tuple #[.int .i64 0,.int .i64 0]/\iz o w v o' w':=by
 have sD:=h.ui;have ho:(rs.map (gS NM)).map (·.out)=rs.map (·.out):=by simp[gS,List.map_map,Function.comp_def]
 have pB:∀n i j,pg (tX (rs.map (gS NM))) n i j->∀u v,(rs.map (gS NM))[i]?=so u->(rs.map (gS NM))[j]?=so v->RK v.out<RK u.out:=by
  have e1:∀i j,tX (rs.map (gS NM)) i j->∀u v,(rs.map (gS NM))[i]?=so u->(rs.map (gS NM))[j]?=so v->RK v.out<RK u.out:=λi j ⟨u',v',h1,h2,h3⟩ u v hu hv=>by
   rw[h1]at hu;rw[h2]at hv;cases hu;cases hv;obtain⟨r,hr,rfl⟩:=aV.1 (cL h1);obtain⟨r2,ME,rfl⟩:=aV.1 (cL h2);exact h.yes.Dk r hr _ h3 (aV.2 ⟨r2,ME,rfl⟩)
  intro n
  induction n with
  |zero=>exact λi j q=>q.elim
  |succ n ih =>
   intro i j q u v hu hv;rcases q with q|⟨k,q1,q2⟩
   ·exact e1 i j q u v hu hv
   ·obtain⟨_,x,_,hx,_⟩:=id q1;exact lj (ih k j q2 x v hx hv) (e1 i k q1 u x hu hx)
 have hY:vl (rs.map (gS NM)):=⟨by simpa using sD,λu hu=>by
  obtain⟨r,hr,rfl⟩:=aV.1 hu;exact⟨⟨h.yes.outs r hr,h.yes.ins r hr⟩,(h.nm r hr).2.2.2,h.yes.eT r hr⟩,by rw[ho];exact h.yes.nodup,λi ⟨n,hn⟩=>by
  have hl:i<(rs.map (gS NM)).length:=by
   cases n with
   |zero=>exact hn.elim
   |succ n=>exact hn.elim (λq=>q.lt.1) λ⟨k,q,_⟩=>q.lt.1
  have:=pB n i i hn _ _ (au hl) (au hl);omega⟩
 refine bC.mono (fQ ah hF (λy hy=>by simp at hy;subst hy;exact h.cl) (Q:=λwl v w'=>v=.tuple #[.int .i64 0,.int .i64 0]) (λwl D8 v w1 w2 e1 e2 h=>h) (λwl hz bu=>?_)) (λv o' w' hq=>?_)
 ·have hI:=h.rin hF hz bu;refine(F7 p b c rs NM NB wl ⟨aa,hI.ptr,hI.at_,λr hr=>⟨(hI.nm r hr).1,(hI.nm r hr).2.1,(hI.nm r hr).2.2.1,by have:=(hI.nm r hr).2.2.2;omega,λx hx=>by have:=(h.yes.ins r hr x hx).2.1;omega⟩,λr hr=>by have:=(h.yes.outs r hr).2.1;omega⟩ h.cap).mono λe w' hq=>?_;obtain⟨⟨n,a,rfl,h1⟩,h2,h3⟩:=hq;obtain⟨rfl,rfl⟩:=h1.one hY.right;exact⟨_,rfl,h3,λb hb=>h2.block b hb,rfl⟩
 ·obtain⟨hN,wl,bN,-,-,-,h1⟩:=hq;exact⟨h1,hN⟩
structure WY(rs:List aN)(NM:aN->List ag)(RK:ag->Nat)(fs:List (ag×ag))(o:aL)(w:ae)(v:Value)(o':aL)(w':ae):Prop where
 bA:fW (λ_=>False) o w o' w'
 ex:∃R B F,v=.tuple #[.slice (so ⟨R,0,we⟩) rs.length rs.length,.int .i64 0]/\s7 rs NM RK B/\lJ B.rs B.NM B.RK/\F.cB.Perm B.rs/\(∀i j (hi:i<F.cB.length) (hj:j<F.cB.length),i<j->¬rN F.cB[j] F.cB[i]<0)/\w.heap.size<=R/\o' R/\tW w' R (Dr B F (oq fs))
def WZ[Payload](hF:bJ ak L0 o w)(pow:jM w){p:Option Addr}{b c:Nat}{rs:List aN}{NM:aN->List ag}{NB:aN->Nat}{RK:ag->Nat}(hH:Hand o w p b c rs NM NB RK)(fb fc:Nat)(fp:Option Addr)(fs:List (ag×ag))(hp:fs≠[]->fp=so ⟨fb,0,we⟩/\o fb)(hf:na w fb fs)(hc:Cl ak L0 o (.slice fp fs.length fc))(Er:fs.length<=fc)(ok:zn fs):
  bC ak (XB ak Fin 0) 16 #[.slice p rs.length c,.slice fp fs.length fc] o w λv o' w'=>WY rs NM RK fs o w v o' w'/\∃R f,v=.tuple #[.slice (so ⟨R,0,we⟩) rs.length rs.length,.int .i64 0]/\w'.rowIs R 65 (rs.length*3) f:=by
 have W:=bZ (P:=ak) (Fin:=Fin) (d:=0);have g4:ak.globals.size=4:=ah;have H3:4<=w.heap.size:=by have:=hF.size;rw[g4]at this;omega
 have l1:=hF.lt (ad1 hF);have fat:∀{o1:aL} {w1:ae},fW (λ_=>False) o w o1 w1->(fs≠[]->fp=so ⟨fb,0,we⟩/\o1 fb)/\na w1 fb fs/\Cl ak L0 o1 (.slice fp fs.length fc):=λG =>
  ⟨λq=>⟨(hp q).1,G.more _ (hp q).2⟩,λk hk=>n9 hf (G.same fb (hF.lt (hp (lU hk)).2) id) k hk,hc.up G.more⟩
 have hfo:∀g,KG rs NM NB b g->g<w.heap.size:=λg hg=>by
  rcases hg with⟨q,rfl⟩|⟨r,hr,q,rfl⟩
  ·exact hF.lt (hH.ptr q).2
  ·exact hF.lt ((hH.nm r hr).2.1 q).2
 have AN:∀x,(oq fs x).2.size<=100:=λx=>by
  have:=KE ok.text x;omega
 refine bt W func16 aG ?_;walk_nrmf Tryz.f16;refine aD ?_;refine dq func39 (Up hF hH) ?_;rintro v1 o1 w1 ⟨rfl,N1⟩;have W1:fW (λ_=>False) o w o1 w1:=fW.kJ N1;have z1:=W1.size;obtain⟨Lw,hf1,Of⟩:=fat W1;refine aD ?_;refine dq func40 (OW N1.bS fb fc fp fs Lw hf1 Of Er λf hf=>⟨by have:=(ok.name f hf).2.1;omega,by have:=ok.text f hf;omega⟩) ?_;rintro v2 o2 w2 ⟨e2,rfl,W8,G2⟩;obtain rfl:=W8.one ok.right;clear W8;have W2:fW (λ_=>False) o w o2 w2:=W1.trans G2.bA;have z2:=W2.size;have hH2:=hH.keep W2.more λg hg=>W2.same g (hfo g hg) id;clear G2 Lw hf1 Of W1 N1 z1;refine aD ?_;refine dq func41 (aah W2.bS hH2) ?_;rintro v3 o3 w3 ⟨N3,B3⟩;have W3:fW (λ_=>False) o2 w2 o3 w3:=fW.kJ N3;have GD:=W2.trans W3;have Xa:jM w3:=λq hq=>(cell_of (GD.same 1 l1 id)).trans (pow q hq);obtain⟨B,rfl,hB,hSR,Yp,ub,hbz⟩:=KF (RK:=RK) N3.bS (show 4<=w2.heap.size by omega) (λb q1 q2=>by rw[N3.own];exact .inr ⟨q1,q2⟩) hH.ui hH.yes hH.low (λr hr=>(hH.nm r hr).2.2.2) Xa B3;have GZ:w2.heap.size<=B.Rb:=by
  rcases Yp B.Rb (.inr (.inr (.inl rfl)))with q|q
  ·have:=hB.apart.2.2.2.1;omega
  ·exact q.1
 have aeg:B.Rb<w3.heap.size:=hB.own _ (.inr (.inr (.inl rfl)))|>N3.bS.lt
 clear B3 N3 W3 W2 hH2 Yp;refine aD ?_;refine dq func44 (QJ GD.bS B we _ hB) ?_;rintro v4 o4 w4 ⟨W4,⟨lo,F,mid,Yq,Jp,aiz,hfm,OB⟩,aeh,hT4,Yr⟩;have hW4:=GD.low W4 aa;have z4:=W4.size;have aiA:=TX Yq;obtain⟨sp,sb,sc,rfl,xU,fe⟩:∃sp sb sc,v4=.slice sp (kj B.NM B.rs).length sc/\(kj B.NM B.rs≠[]->sp=so ⟨sb,0,we⟩/\o4 sb)/\gf w4 sb 0 (kj B.NM B.rs):=by
  rcases hT4 with⟨e1,e2⟩|⟨g,cap,e1,-,-,-,e5⟩
  ·exact⟨we,0,0,by rw[e1,e2];rfl,λq=>absurd e2 q,by rw[e2];exact λk hk=>by simp at hk⟩
  ·exact⟨_,g,cap,e1,λ_=>⟨rfl,Yr _ _ _ e1⟩,e5⟩
 obtain⟨hp4,hf4,hc4⟩:=fat hW4;clear hT4 Yr OB hfm aiz Jp hB GD;refine aD ?_;refine dq func43 (Nq hW4.bS sb sc fb fc sp fp (kj B.NM B.rs) fs aiA (by have:=ok.ui;omega) xU fe aeh hp4 hf4 hc4) ?_;rintro v5 o5 w5 ⟨rfl,N5,hz5,HZ⟩;have Q2:lK (kj B.NM B.rs) fs=(kj B.NM B.rs).map (oq fs):=Nl (sY _).1 ok.once;have hV:gp w5 w4.heap.size ((kj B.NM B.rs).map (oq fs)):=by
  unfold gp;rw[<- Q2,DD];exact HZ
 have W5:fW (λ_=>False) o4 w4 o5 w5:=fW.kJ N5;have hW5:=hW4.trans W5;have hB5:=Yq.keep W5.more W5.size λg hg=>N5.old g (hW4.bS.lt (Yq.own g hg));have oV:o5 w4.heap.size:=by rw[N5.own];exact .inr ⟨af _,hz5⟩
 clear Yq hp4 hf4 hc4 HZ Q2 fe xU aeh N5;refine aD ?_;refine dq func42 (WJ hW5.bS B lo F (λ_=>we) hB5 (oq fs) AN w4.heap.size (kj B.NM B.rs).length oV aa hV aj) ?_;rintro v6 o6 w6 ⟨R,rv,ry,rfl,W6,RL,-,⟨hRz,oR,cd⟩,-⟩;have Lv:=hW5.low W6 aa;have z5:=W5.size;obtain⟨y0,y1,y2,-,hpl⟩:=RL.blk;have hP:=hpl lo F rfl;have hlen:=hSR.len;refine aD ?_;exact⟨.inr trivial,trivial,_,resultsC_tmp2 (t:=4) (u:=5) aG _,⟨Lv,R,B,F,by simp[Act.eval,hlen],hSR,RL.right,hP.perm,hP.sorted,aa,oR,WK cd⟩,R,_,by simp[Act.eval,hlen],by rw[<- hlen];exact cd⟩
end
end
structure aaA(rs:List aN)(NM:aN->List ag)(Nr:List aN)(Xb:aN->List ag):Prop where
 len:Nr.length=rs.length
 at_:∀i (h:i<rs.length) (h':i<Nr.length),Nr[i].out=rs[i].out/\Nr[i].eT=rs[i].eT/\Xb Nr[i]=NM rs[i]
def F8(q:ag->Bool):∀(us bs:List aN) (hl:bs.length=us.length) (h:∀i (h:i<us.length) (h':i<bs.length),bs[i].out=us[i].out),(us.find? (λr=>q r.out)=we/\bs.find? (λr=>q r.out)=we)\/∃i,∃(h:i<us.length) (h':i<bs.length),us.find? (λr=>q r.out)=so us[i]/\bs.find? (λr=>q r.out)=so bs[i]
 | [],[],_,_=>.inl ⟨rfl,rfl⟩
 | [],_::_,hl,_=>by simp at hl
 |_::_,[],hl,_=>by simp at hl
 |a::us,b::bs,hl,h=>by
  have e0:b.out=a.out:=h 0 aj aj;by_cases hq:q a.out=true
  ·exact .inr ⟨0,aj,aj,by simp[List.find?,hq],by simp[List.find?,e0,hq]⟩
  ·have Cm:q a.out=false:=by simpa using hq
   rcases F8 q us bs (by simpa using hl) (λi h1 h2=>h (i+1) (by simpa using h1) (by simpa using h2)) with⟨h1,h2⟩|⟨i,h1,h2,h3,h4⟩
   ·exact .inl ⟨by simp[List.find?,Cm];simpa using h1,by simp[List.find?,e0,Cm];simpa using h2⟩
   ·exact .inr ⟨i+1,by simpa using h1,by simpa using h2,by simp[List.find?,Cm,h3],by simp[List.find?,e0,Cm,h4]⟩
def F9{rs Nr:List aN}{NM Xb:aN->List ag}(h:aaA rs NM Nr Xb)(file:ag->V):∀f x,tC Nr Xb file f x=tC rs NM file f x
 |0,_=>rfl
 |f+1,x=>by
  unfold tC;rcases F8 (λy=>decide (y=x)) rs Nr h.len (λi h1 h2=>(h.at_ i h1 h2).1) with⟨h1,h2⟩|⟨i,h1,h2,h3,h4⟩
  ·rw[h1,h2]
  ·rw[h3,h4];obtain⟨-,e2,e3⟩:=h.at_ i h1 h2;show ef Nr[i].eT ((Xb Nr[i]).map (tC Nr Xb file f))=ef rs[i].eT ((NM rs[i]).map (tC rs NM file f));rw[e2,e3]
   congr 1
   exact cQ λy _=>F9 h file f y
def Ns{rs Nr:List aN}{NM Xb:aN->List ag}(h:aaA rs NM Nr Xb)(file:ag->V)(x:ag):valOf Nr Xb file x=valOf rs NM file x:=by
 unfold valOf;rw[h.len];exact F9 h file _ x
def s7.Gc{rs:List aN}{NM:aN->List ag}{RK:ag->Nat}{B:Ab}(h:s7 rs NM RK B):aaA rs NM B.rs B.NM:=⟨h.len,h.at_⟩
structure Q3(B:Ab)(F:gP):Prop where
 right:lJ B.rs B.NM B.RK
 perm:F.cB.Perm B.rs
 sorted:∀i j (hi:i<F.cB.length) (hj:j<F.cB.length),i<j->¬rN F.cB[j] F.cB[i]<0
def Q3.strict{B:Ab}{F:gP}(h:Q3 B F):mY (F.cB.map (·.out)):=vj (((h.perm.map (·.out)).nodup_iff).2 h.right.nodup) h.sorted
def Q3.mem{B:Ab}{F:gP}(h:Q3 B F)(x:ag):x∈F.cB.map (·.out)↔x∈B.rs.map (·.out):=(h.perm.map (·.out)).mem_iff
def Xc{B:Ab}{F:gP}(h:Q3 B F)(file:ag->V):Dr B F file=(F.cB.map (·.out)).map λx=>(x,valOf B.rs B.NM file x):=by
 have hl:=h.perm.length_eq;unfold Dr uf;rw[<- hl];apply dA;intro i;by_cases hi:i<F.cB.length
 ·simp[hi,wq]
 ·simp[hi]
def rC(outs:List ag)(hv:List V):List (ag×V):=(eB outs outs.length).map λx=>(outs.getD x.toNat ⟨#[]⟩,hv.getD x.toNat V0)
def DN(outs:List ag)(hv:List V):(rC outs hv).length=outs.length:=by simp[rC,gT]
def Nt(outs:List ag){i:Nat}(hi:i<outs.length):(i:Int)∈eB outs outs.length:=by
 obtain⟨kL,Ul⟩:=ni outs outs.length (af _);refine aX λhn=>?_;have h1:((i:Int)::eB outs outs.length).Nodup:=il.2 ⟨hn,kL⟩;have h2:∀x∈(i:Int)::eB outs outs.length,x∈(List.range outs.length).map (λi:Nat=>(i:Int)):=λx hx=>by
  have h3:0<=x/\x<(outs.length:Int):=by
   rcases bq.1 hx with rfl|hx
   ·omega
   ·exact Ul x hx
  exact aV.2 ⟨x.toNat,bU.2 aa,aa⟩
 have:=jb h1 h2;simp[gT]at this;omega
def Q4(a b:ag):kx a b=true↔Lib.compareBytes a.toList b.toList<0:=by
 simp[kx,ByteArray.toList_eq]
def Uq{a b:ag}(h:a.toList=b.toList):a=b:=by
 rw[ByteArray.toList_eq,ByteArray.toList_eq]at h;cases a;cases b;simpa using h
def ES{outs:List ag}(hn:outs.Nodup):mY ((eB outs outs.length).map λx=>outs.getD x.toNat ⟨#[]⟩):=λi j hi hj wh=>by
 obtain⟨kL,Ul⟩:=ni outs outs.length (af _);simp only[List.length_map]at hi hj;simp only[List.getElem_map];have hl:=gT outs outs.length;have h1:=Q0 outs wh aa (au hi) (au hj);have r1:=Ul _ (aA hi);have r2:=Ul _ (aA hj);have fu:=ba.1 kL i j hi hj wh;generalize (eB outs outs.length)[i]=x at *;generalize (eB outs outs.length)[j]=y at *;have h2:¬Lib.compareBytes (outs.getD y.toNat ⟨#[]⟩).toList (outs.getD x.toNat ⟨#[]⟩).toList<0:=λh=>by rw[<- Q4,h1]at h;cases h
 rw[rh (outs.getD x.toNat ⟨#[]⟩).toList (outs.getD y.toNat ⟨#[]⟩).toList]at h2;have h3:Lib.compareBytes (outs.getD x.toNat ⟨#[]⟩).toList (outs.getD y.toNat ⟨#[]⟩).toList≠0:=λh=>by
  have h4:=Uq (r9 _ _ h);rw[bm,bm,au aa,au aa]at h4;simp only[bc]at h4;rcases dB x.toNat y.toNat with q|q|q
  ·exact ba.1 hn _ _ _ _ q h4
  ·omega
  ·exact ba.1 hn _ _ _ _ q h4.symm
 omega
def Nu{outs:List ag}(x:ag):x∈(eB outs outs.length).map (λx=>outs.getD x.toNat ⟨#[]⟩)↔x∈outs:=by
 obtain⟨kL,Ul⟩:=ni outs outs.length (af _);constructor
 ·intro h;obtain⟨y,hy,rfl⟩:=aV.1 h;have:=Ul y hy;rw[bm,au aa];exact aA _
 ·intro h;obtain⟨i,hi,rfl⟩:=bB h;refine aV.2 ⟨i,Nt outs hi,?_⟩;rw[iP,bm,au hi];rfl
def Xd{rs:List aN}{NM:aN->List ag}{RK:ag->Nat}{B:Ab}{F:gP}(hR:lJ rs NM RK)(h:Q3 B F)(k:s7 rs NM RK B)(fs:List (ag×ag)):rC (rs.map (·.out)) (gF (rs.map (gS NM)) fs rs.length)=Dr B F (oq fs):=by
 have e:F.cB.map (·.out)=(eB (rs.map (·.out)) (rs.map (·.out)).length).map (λx=>(rs.map (·.out)).getD x.toNat ⟨#[]⟩):=wX h.strict (ES hR.nodup) λx=>by
  rw[h.mem,Nu,k.outs]
 rw[Xc h,e,QZ hR,List.map_map,rC];refine cQ λx hx=>?_;have Ul:=(ni (rs.map (·.out)) _ (af _)).2 x hx;simp only[List.length_map]at Ul;have hn:x.toNat<rs.length:=aa;simp only[Function.comp_def];rw[Ns k.Gc];simp only[List.getD_eq_getElem?_getD,List.getElem?_map,au hn,aK,bc];rw[show oq fs=ot fs from funext λy=>(DH y fs).symm]
section
open Go.RowKit (Hid)
def Q5(i j:Nat)(o:aL)(w:ae)(lo e sz:Nat)(v:Value)(n:Nat)(xs us:List Value)(σ:Nat->Option Value)(o':aL)(w':ae):Prop :=
 (σ j=we/\gZ o w o' w'/\∀y,σ i=so y->∃Nb,y=.slice (so ⟨Nb,0,we⟩) 1 1/\o' Nb/\w'.heap[Nb]?=so (.cells us.toArray e))\/∃y,σ j=so y/\WQ o w lo e sz v y (n+1) (xs++us) o' w'
section
variable {Fin:br}{d:Nat}{fn:FuncId}{Q:Exit->Act->aL->ae->Prop}{a:Act}{ops:Array Oper}{S:(Nat->Option Value)->aL->ae->Prop}{kds:List Kd}{v:Nat->Value}{K:Act->Prop}{i j:Nat}{l:List Nat}{ks:List Kd}{op e1 e2:Oper}{dd:Option Tmp}{t1:Tmp}
def Hz{B i:Nat}{y:Value}(hS:∀σ o w,yL ops kds v j σ->S σ o w->wx Fin o B/\w.cell? ⟨B,i,we⟩=so y)(h:cS ak (vG ak (XB ak Fin d) fn ops Q S kds v) ops K v l ks (a.put dd y))(ho:ops[j]?=so op:=by rfl)(hd:op.dst=dd:=by rfl)(hn:sS op.op=true:=by rfl)(hw:Region.wanted op (yielded ops a.tmps)=true:=by rfl)(f2:∀wl:ae,wl.cell? ⟨B,i,we⟩=so y->(execOp a.eval op).run ak wl=.ok (.value y) wl:=by
   intro wl h9;simp[go_sem,Act.eval,h9])(f3:∀wl:ae,wl.cell? ⟨B,i,we⟩=so y->∀x∈(execOp a.eval op).events ak wl #[],∃ad wt sy,x=⟨.cell ad,wt,sy⟩/\ad.block=B:=by
   intro wl h9 x hx;simp[go_sem,Act.eval,h9]at hx;subst hx;exact⟨_,_,_,rfl,rfl⟩):cS ak (vG ak (XB ak Fin d) fn ops Q S kds v) ops K v (j::l) (so (so y)::ks) a:=by
 refine fE ho hd (λA rest σ o w h1 h2 h3 h4 hq hc=>?_) rfl h;obtain⟨hB,c⟩:=hS σ o w h3 hq;have hex:=execOp_congr op (nS hn) h1;exact eZ hB ho (h2.trans hw) rfl (λwl bu=>by rw[hex];exact f2 wl (bu.cell.trans c)) (λwl bu x hx=>by rw[hex]at hx;exact f3 wl (bu.cell.trans c) x hx) (hc y o w ⟨rfl,hq⟩)
def Q5.GN{o o':aL}{w w':ae}{lo e sz n:Nat}{v0:Value}{xs us:List Value}{σ:Nat->Option Value}(h:Q5 i j o w lo e sz v0 n xs us σ o' w')(hj:σ j=we):gZ o w o' w':=by
 rcases h with h|⟨y,q,-⟩
 ·exact h.2.1
 ·rw[hj]at q;cases q
def Q5.done{o o':aL}{w w':ae}{lo e sz n:Nat}{v0 y:Value}{xs us:List Value}{σ:Nat->Option Value}(h:Q5 i j o w lo e sz v0 n xs us σ o' w')(hj:σ j=so y):WQ o w lo e sz v0 y (n+1) (xs++us) o' w':=by
 rcases h with h|⟨y',q,k⟩
 ·rw[hj]at h;cases h.1
 ·rw[hj]at q;cases q;exact k
def aaB{o:aL}{w:ae}{e sz bs:Nat}{t:TypeId}{z:Value}{us:List Value}{lo n:Nat}{v0:Value}{xs:List Value}(row:jy o w lo e sz v0 n xs)(hn:(n+1)*bs<=140737488355328)(MB:n+1<=9223372036854775807)(OQ:us.length=sz)(h1c:∀u∈us,u.oneCell'=true)(zj:(ak.info? e).map (λi=>(i.zero,i.size,i.bytes))=so (so z,sz,bs))(hz:z.cells.size=sz)(h0:0<sz)(hu:ak.underlying t=so (.slice e)){xv:Value}(hx:∀o',Cl ak L0 o' xv)(hS:S=Q5 i j o w lo e sz v0 n xs us)(k:cS ak (vG ak (XB ak Fin d) fn ops Q S kds v) ops K v l ks ((a.put (so t1) (v i)).put dd (v j)))(h1:ops[i]?=so e1:=by rfl)(h2:Region.wanted e1 (yielded ops a.tmps)=true:=by rfl)(h3:oC L0 e1.op=true:=by rfl)(h4:e1.dst=so t1:=by rfl)(UY:sS e1.op=true:=by rfl)(h5:∀wl,(execOp a.eval e1).run ak wl=.ok (.value (.slice (so ⟨wl.heap.size,0,we⟩) 1 1)) (wl.alloc (.cells us.toArray e)):=by intro wl;simp[go_sem,Act.eval])(h6:∀o',Cl ak L0 o' xv->∀x∈e1.op.operands,Cl ak L0 o' (a.eval x):=by
   intro o' h9 y hy;simp[Op.operands]at hy;subst hy;simp[Act.eval];exact h9)(h7:ops[j]?=so e2:=by rfl)(h8:Region.wanted e2 (yielded ops (a.put (so t1) (v i)).tmps)=true:=by rfl)(h9:oC L0 e2.op=true:=by rfl)(aiB:sS e2.op=true:=by rfl)(vx:∃s,e2.op=.call {callee:=.builtin .append,args:=#[s,.tmp t1],argTypes:=#[t,t]}/\(a.put (so t1) (v i)).eval s=v0/\(a.put (so t1) (v i)).eval (.tmp t1)=v i:=by exact⟨_,rfl,rfl,rfl⟩)(h11:e2.dst=dd:=by rfl)(wh:i≠j:=by omega)(aaC:rY ops j i=true:=by kernel_rfl)(rG:Kd.at kds i=none:=by rfl):cS ak (vG ak (XB ak Fin d) fn ops Q S kds v) ops K v (i::j::l) (none::none::ks) a:=by
 subst hS;obtain⟨s,vx,q1,q2⟩:=vx;refine zS jN h1 h4 UY h2 h3 (λσ o' w' H hi hS=>?_) ?_
 ·have G:=hS.GN (H.GN j aaC);refine⟨G.bA.bS,h6 _ (hx _),λwl v bN=>v=.slice (so ⟨wl.heap.size,0,we⟩) 1 1/\bN=wl.alloc (.cells us.toArray e),λwl bu=>⟨_,_,h5 wl,rfl,rfl⟩,λwl y bN w2 bu hR fP=>?_⟩;obtain⟨rfl,hR⟩:=hR;obtain⟨z2,k2,kb2⟩:=fP.alloc G.bA.bS bu hR;have G2:=gZ.tH fP.bS aa k2;refine .inl ⟨?_,G.trans G2,λy hy=>?_⟩
  ·have:=H.GN j aaC;simpa[lg,Ne.symm wh] using this
  ·simp only[lg,if_true,ay]at hy;exact⟨w'.heap.size,by rw[<- hy,bu.size],G2.all _ (af _) aa,kb2⟩
 ·refine zS jN h7 h11 aiB h8 h9 (λσ o' w' H hj hS=>?_) k;rcases hS with⟨-,G,hN⟩|⟨y,q,-⟩;rotate_left
  ·rw[hj]at q;cases q
  obtain⟨Nb,hy,hNo,hNb⟩:=hN _ (H.done i aaC rG);have od:=row.sx G;have zu:=G.bA.bS;refine⟨zu,λy Wz=>?_,λwl y bN=>bN.ownsRow lo e sz y (n+1) (xs++us)/\wl.grownBy bN v0.ownBlock/\(y.ownBlock=v0.ownBlock\/y.ownBlock=so wl.heap.size),λwl bu=>?_,λwl y6 bN w6 bu hR6 fP=>?_⟩
  ·rw[vx]at Wz;simp[Op.operands,Call.operands]at Wz;rcases Wz with rfl|rfl
   ·rw[q1];exact od.cl
   ·rw[q2,hy];exact eK hNo
  ·obtain⟨i0,hi,pL⟩:=aH.1 zj;simp only[bO]at pL;have ha:=(bu.heap _ hNo).trans hNb;obtain⟨v',W',r1,r2,r3,-,r4⟩:=run_append_own_at (P:=ak) wl lo t e2.type e i0 z sz bs hu hi pL.1 pL.2.1 pL.2.2 hz h0 v0 n xs (gv od.row λg hg _=>bu.heap g (se zu od.cl g hg.symm)) ⟨Nb,0,we⟩ 1 1 us aa (λj u hj=>by
    have e:(⟨Nb,0,we⟩:Addr).add j=⟨Nb,j,we⟩:=by simp[Addr.add];omega
    rw[e];simp[World.cell?,ha,hj]) h1c (by simp[maxLen];omega) hn (by rw[bu.size];exact od.low)
   exact⟨v',W',j0 s (.tmp t1) t vx q1 (q2.trans hy) r1,r2,r3,r4⟩
  ·obtain⟨r1,r2,r3⟩:=hR6;obtain⟨q1,q2,q3⟩:=jy.add zu od bu fP r1 r2 r3;have z6:=q2.size;have zg:=G.bA.size;refine .inr ⟨y6,by simp[lg],q1,⟨q2.bS,λb hb=>q2.more b (G.bA.more b hb),λb hb=>(q2.new b hb).elim (λq=>G.bA.new b q) λq=>.inr aa,aa,λb hb hx=>(q2.same b aa hx).trans (G.bA.same b hb id)⟩,λb Ev oe=>?_⟩;by_cases q:b<w'.heap.size
   ·exact q2.more _ (G.all b Ev q)
   ·exact .inr ⟨aa,oe⟩
end
def ET(l:List (ag×V))(x:ag)(v:V):ja (l++[(x,v)])=ja l++[.string x,.string v.2,.bool (!v.1)]:=by simp[ja]
def zo:(ak.info? 65).map (λi=>(i.zero,i.size,i.bytes))=so (so (.agg #[.string ⟨#[]⟩,.string ⟨#[]⟩,.bool false]),3,40):=ah
section
variable {Fin:br}{o o':aL}{w w':ae}{p:Option Addr}{b off c hb hc:Nat}{ls:List iF}{hv:List V}
def Q6(outs:List ag)(hv:List V){k:Nat}(hk:k<outs.length):(rC outs hv).take (k+1)=(rC outs hv).take k++[(outs.getD ((eB outs outs.length).getD k 0).toNat ⟨#[]⟩,hv.getD ((eB outs outs.length).getD k 0).toNat V0)]:=by
 have hl:=DN outs hv;have ho:=gT outs outs.length;rw[take_succ _ k aa]
 congr 1
 simp only[rC,List.getElem_map,List.getD_eq_getElem?_getD,au (show k<(eB outs outs.length).length by omega),bc]
def Q7(hF:bJ ak L0 o w)(hR:kp Fin o w p b off ls)(ohb:o hb)(hV:qZ w hb 0 hv)(Wf:hv.length=ls.length)(h8:ls.length<=8):
  bC ak (XB ak Fin 0) 133 #[.slice p ls.length c,.slice (so ⟨hb,0,we⟩) ls.length hc] o w λv o' w'=>fW (λ_=>False) o w o' w'/\∃lo,w.heap.size<=lo/\jy o' w' lo 65 3 v ls.length (ja (rC (ls.map (·.out)) hv)):=by
 have W:=bZ (P:=ak) (Fin:=Fin) (d:=0);have lhb:=hF.lt ohb;have RI:=gT (ls.map (·.out)) ls.length;have qx:Hid (∀k,k<ls.length->_):=λk=>Q6 (ls.map (·.out)) hv (k:=k)|>λh q=>by simp only[List.length_map]at h;exact h q
 have eP:Hid ((rC (ls.map (·.out)) hv).take ls.length=rC (ls.map (·.out)) hv):=bz (by rw[DN];simp);have Q2:Hid (∀x∈eB (ls.map (·.out)) ls.length,0<=x/\x<(ls.length:Int)):=by
  have:=(ni (ls.map (·.out)) ls.length aj).2;simp only[List.length_map]at this;exact this
 have TC:=WV (Fin:=Fin) (c:=c) hF hR h8;refine bt W func133 aG ?_;walk_nrmf Tryz.f133;generalize eB (ls.map (·.out)) ls.length=L at *;refine aD ?_;refine dq func179 (TC) ?_;rintro v1 o1 w1 ⟨D5,HA⟩;clear TC;have lS:=D5.bS;obtain⟨pv,bv,cv,ev,hpv,hcv⟩:=jy.ints (L:=L) (by rw[RI];exact HA) lS;rw[RI]at ev;subst ev;have pM:fl w w1:=⟨D5.size,λb hb=>D5.same b hb id⟩;have tV:=hR.keep (o':=o1) D5.more pM.size pM.same;have XM:=hV.olds pM lhb;have aei:=D5.more _ ohb;have aiC:=lS.lt aei;clear hR hV HA pM lhb ohb hF;have hL8:L.length<=8:=aa;refine aD ?_;refine dQ W (λm a o' w'=>∃k,m+k=ls.length/\a.tmps.size=42/\a.defers=[]/\a.eval (.tmp 0)=.slice p ls.length c/\a.eval (.tmp 1)=.slice (so ⟨hb,0,we⟩) ls.length hc/\a.eval (.tmp 6)=.slice pv ls.length cv/\a.eval (.tmp 7)=.int .i64 (k:Nat)/\∃v,a.eval (.tmp 5)=v/\fW (λ_=>False) o1 w1 o' w'/\jy o' w' w1.heap.size 65 3 v k (ja ((rC (ls.map (·.out)) hv).take k))) (N:=ls.length) ⟨0,aj,rfl,rfl,ax,ax,ax,ax,_,ax,fW.refl lS,jy.nil _ _ _ _ _ (af _)⟩ ?_;rintro m a o2 w2 ⟨k,lP,ew,iu,i0,i1,i6,i7,v,i5,hW,row⟩;obtain⟨gs,rfl⟩:=eQ ew iu;clear ew iu;simp only[List.range,List.range.loop,aB,aJ]at i0 i1 i5 i6 i7 |-;simp[Act.eval]at i0 i1 i5 i6 i7;simp only[i0,i1,i5,i6,i7];clear i0 i1 i5 i6 i7;have rK:=hW.bS;by_cases RD:k<ls.length;rotate_left
 ·have rq:¬(k:Int)<(ls.length:Int):=aa;have hke:k=ls.length:=aa;have vn:(rC (ls.map (·.out)) hv).take ls.length=rC (ls.map (·.out)) hv:=eP;rw[hke,vn]at row;have hW9:=D5.trans hW;clear qx Q2 eP vn hpv hcv hke;refine aD ?_;exact⟨.inr trivial,trivial,_,resultsC_tmp (t:=4) aG _,hW9,_,D5.size,by simpa[Act.eval] using row⟩
 have rq:(k:Int)<(ls.length:Int):=aa;have hk:k<L.length:=aa;have om:IntKind.i64.wrap ((k:Int)+1)=((k+1:Nat):Int):=by rw[IntKind.wrap_i64]<;>omega
 obtain⟨es,obv⟩:=hpv (lU hk);have Bj:fl w1 w2:=⟨hW.size,λb hb=>hW.same b hb id⟩;have cj:=(cell_of (hW.same bv (lS.lt obv) id)).trans (hcv k hk);have hx:0<=L[k]/\L[k]<(ls.length:Int):=Q2 _ (aA hk);obtain⟨xn,exn⟩:∃n:Nat,L[k]=(n:Int):=⟨L[k].toNat,aa⟩;have BH:(rC (ls.map (·.out)) hv).take (k+1)=_:=qx k aa;have egk:(L.getD k 0).toNat=xn:=by rw[bm,au hk,bc,exn];rfl
 rw[egk]at BH;rw[exn]at cj hx;have hxn:xn<ls.length:=aa;have hxI:(xn:Int)<(ls.length:Int):=aa;have egi:(ls.map (·.out)).getD xn ⟨#[]⟩=ls[xn].out:=by rw[bm,bM,au hxn];rfl
 have hvx:xn<hv.length:=aa;have ehv:hv.getD xn V0=hv[xn]:=by rw[bm,au aa];rfl
 rw[egi,ehv]at BH;have FI:=tV.keep (o':=o2) hW.more Bj.size Bj.same;obtain⟨ep,hB,ub⟩:=FI.ptr (lU hxn);obtain⟨ci,-,-⟩:=FI.at_ xn hxn;obtain⟨g0,g1⟩:=(XM.olds Bj aiC) xn aa;rw[bD]at g0 g1;have aek:=hW.more _ aei;have Xe:=hW.more _ obv;clear FI Bj egi ehv egk Q2 qx eP hpv hcv;generalize hv[xn]=hq at *;obtain⟨qq,qy⟩:=hq;have BH:Hid ((rC (ls.map (·.out)) hv).take (k+1)=_):=BH;generalize ls[xn].out=yi at *;generalize (rC (ls.map (·.out)) hv).take k=R0 at *;subst ep es;refine aD ?_;refine kn (.inl Xe) cj ?_;refine aD ?_;refine eZ (B:=hb) (.inl aek) rfl aG rfl (v:=.agg #[.bool qq,.string qy]) (λwl bu=>by simp[go_sem,bu.cell.trans g0,bu.cell.trans g1]) (λwl bu x hx=>?_) ?_
 ·simp[go_sem,bu.cell.trans g0,bu.cell.trans g1]at hx;rcases hx with rfl|rfl<;>exact⟨_,_,_,rfl,rfl⟩
 walk_nrm;refine eu rfl aG rfl (.cells #[.bool false,.string ⟨#[]⟩] 237) (λn=>.pointer (so ⟨n,0,we⟩)) (λw1=>by first|(simp[go_sem];done)|(simp[go_sem];rfl)) (λw1=>by first|(simp[go_sem];done)|(simp[go_sem];rfl)) ?_;walk_nrm;refine zi rfl ?_;walk_nrm;have GT:=Dy rK qq qy;have Dz:=row.sx GT;have uk:=hW.trans GT.bA;obtain⟨t0,t1,-⟩:=lI (w:=w2.alloc (.cells #[.bool qq,.string qy] 237)) (b:=w2.heap.size) (dz _ _);have hBT:wx Fin (λb=>o2 b\/b=w2.heap.size) b:=hB.up λb h=>.inl h;have ciT:=(cell_of (GT.bA.same b ub id)).trans ci;have cjT:=(cell_of (GT.bA.same bv (rK.lt Xe) id)).trans cj;have ael:b<(w2.alloc (.cells #[.bool qq,.string qy] 237)).heap.size:=bf ub GT.bA.size;have Va:=GT.bA.bS;have hzT:(w2.alloc (.cells #[.bool qq,.string qy] 237)).heap.size=w2.heap.size+1:=aj;clear row hW hB ci cj g0 g1 aek ub;generalize (λb=>o2 b\/b=w2.heap.size)=oV at *;generalize w2.alloc (.cells #[.bool qq,.string qy] 237)=wV at *;have oT:=GT.all w2.heap.size (af _) aa;have obT:=GT.bA.more _ Xe;clear GT hzT rK Xe;generalize w2.heap.size=T at *;have lT:=Va.lt oT;have lbv:=Va.lt obT;refine aD ?_;refine iy mixed ah [so we,so we,so we,so we,so we,so (so (.int .i64 (xn:Nat))),so we,so we,so (so (.string yi)),so we,so (so (.string qy)),so we,so (so (.bool qq)),so we,so we,we,we,so we]
  (S:=Q5 15 16 oV wV w1.heap.size 65 3 v k (ja R0) [.string yi,.string qy,.bool (!qq)]) (.inl ⟨rfl,gZ.refl Va,λy hy=>by cases hy⟩) λv9=>?_
 refine fF ?_;refine fU ?_;refine Hz (B:=bv) (i:=k) (λσ o' w' H hS=>?_) ?_
 ·have G:=hS.GN (H.P8 [15,14,8,7,6] 16 ah);exact⟨.inl (G.bA.more _ obT),(cell_of (G.bA.same bv lbv id)).trans cjT⟩
 refine fU ?_;refine Hz (B:=b) (i:=off+xn*3) (λσ o' w' H hS=>?_) ?_
 ·have G:=hS.GN (H.P8 [15,14] 16 ah);exact⟨hBT.up G.bA.more,(cell_of (G.bA.same b ael id)).trans ciT⟩
 refine fU ?_;refine Hz (B:=T) (i:=1) (λσ o' w' H hS=>?_) ?_
 ·have G:=hS.GN (H.P8 [15,14] 16 ah);exact⟨.inl (G.bA.more _ oT),(cell_of (G.bA.same T lT id)).trans t1⟩
 refine fU ?_;refine Hz (B:=T) (i:=0) (λσ o' w' H hS=>?_) ?_
 ·have G:=hS.GN (H.P8 [15,14,13] 16 ah);exact⟨.inl (G.bA.more _ oT),(cell_of (G.bA.same T lT id)).trans t0⟩
 refine fU ?_;refine aaB (xv:=.agg #[.string yi,.string qy,.bool (!qq)]) Dz aa aa rfl (by intro u hu;simp at hu;rcases hu with rfl|rfl|rfl<;>rfl) zo rfl aa underlying46 (λo'=>sB (vs:=[.string yi,.string qy,.bool (!qq)]) λu hu=>by
  simp at hu;rcases hu with rfl|rfl|rfl
  ·exact dH
  ·exact dH
  ·exact vE) rfl ?_
 refine fU ?_;refine fj λσ o9 w9 wu hS=>?_;have hA:=hS.done (wu 16 iG rfl);clear wu hS;generalize v9 16=y6 at *;have Lv:fW (λ_=>False) o1 w1 o9 w9:=⟨hA.bA.bS,λb hb=>hA.bA.more b (uk.more b hb),λb hb=>(hA.bA.new b hb).elim (λq=>uk.new b q) λq=>.inr (by have:=uk.size;omega),by have:=uk.size;have:=hA.bA.size;omega,λb hb hx=>(hA.bA.same b (by have:=uk.size;omega) (λq=>by have:=(Dz.lt b q).1;omega)).trans (uk.same b hb hx)⟩;have ug:=hA.row;clear hA Dz uk Va t0 t1 oT hBT obT ciT cjT ael;simp only[nu,gL,if_true,if_false,reduceIte,Nat.reduceEqDiff];refine aD ?_;exact⟨m-1,aa,k+1,aa,bQ,bQ,ax,ax,ax,by simp[Act.eval,om],y6,ax,Lv,by rw[show(rC (ls.map (·.out)) hv).take (k+1)=R0++[(yi,(qq,qy))] from BH,ET];exact ug⟩
end
end
section
open Go.RowKit (Hid)
structure DO(us:List Ru)(fs:List (ag×ag))(e:Int):Prop where
 ex:(∃a,jG us e a/\e≠0)\/(∃a,jG us 0 a)/\nj fs e
def DO.one{us:List Ru}{fs:List (ag×ag)}{e e':Int}(h:DO us fs e)(h':DO us fs e'):e=e':=by
 rcases h.ex with⟨a,h1,h2⟩|⟨⟨a,h1⟩,h2⟩<;>rcases h'.ex with⟨a',k1,k2⟩|⟨⟨a',k1⟩,k2⟩
 ·exact(h1.one k1).1
 ·exact absurd (h1.one k1).1 h2
 ·exact absurd (k1.one h1).1 k2
 ·exact h2.one k2
structure DQ(us:List Ru)(fs:List (ag×ag))(o:aL)(w:ae)(v:Value)(o':aL)(w':ae):Prop where
 bA:fW (λ_=>False) o w o' w'
 ex:∃r e,v=.tuple #[r,.int .i64 e]/\DO us fs e/\(e≠0/\r=.slice we 0 0\/e=0/\∃lo,w.heap.size<=lo/\jy o' w' lo 65 3 r us.length (ja (rC (us.map (·.out)) (gF us fs us.length))))
section
variable {Fin:br}{o o':aL}{w w':ae}{p fp:Option Addr}{b off c fb rP fc:Nat}{ls:List iF}{fs:List (ag×ag)}
def Nv{i:Nat}(hi:i<fs.length){q q':Bool}(h:q=true↔∀j (h:j<fs.length),j<i->isName fs[j].1)(h':q'=true↔isName fs[i].1):((q&&q')=true↔∀j (h:j<fs.length),j<i+1->isName fs[j].1):=by
 rw[aU,h,h'];exact⟨λ⟨h1,h2⟩ j hj Au=>if e:j=i then by subst e;exact h2 else h1 j hj aa,λh=>⟨λj hj Au=>h j hj aa,h i hi aa⟩⟩
def Q8{i:Nat}(hi:i<fs.length){q q':Bool}(h:q=true↔∃j,∃(h:j<fs.length),j<i/\12<fs[j].2.size)(h':q'=true↔12<fs[i].2.size):((q||q')=true↔∃j,∃(h:j<fs.length),j<i+1/\12<fs[j].2.size):=by
 rw[Bool.or_eq_true,h,h'];constructor
 ·rintro(⟨j,h1,h2,h3⟩|h)
  ·exact⟨j,h1,aa,h3⟩
  ·exact⟨i,hi,aa,h⟩
 ·rintro⟨j,h1,h2,h3⟩;by_cases e:j=i
  ·subst e;exact .inr h3
  ·exact .inl ⟨j,h1,aa,h3⟩
def rD(fs:List (ag×ag))(i k:Nat):Prop:=∃j m,∃(hj:j<fs.length) (hm:m<fs.length),fs[m].1=fs[j].1/\(j<i/\m<j\/j=i/\m<k)
def Nw{i k:Nat}(hi:i<fs.length)(hk:k<i){q:Bool}(h:q=true↔rD fs i k):((q||decide (fs[k].1=fs[i].1))=true↔rD fs i (k+1)):=by
 rw[Bool.or_eq_true,h,decide_eq_true_eq];constructor
 ·rintro(⟨j,m,h1,h2,h3,h4⟩|h)
  ·exact⟨j,m,h1,h2,h3,h4.imp id λq=>⟨q.1,aa⟩⟩
  ·exact⟨i,k,hi,aa,h,.inr ⟨rfl,aa⟩⟩
 ·rintro⟨j,m,h1,h2,h3,h4|⟨rfl,h4⟩⟩
  ·exact .inl ⟨j,m,h1,h2,h3,.inl h4⟩
  ·by_cases e:m=k
   ·subst e;exact .inr h3
   ·exact .inl ⟨j,m,h1,h2,h3,.inr ⟨rfl,aa⟩⟩
def Q9{i:Nat}:rD fs i i↔rD fs (i+1) 0:=by
 constructor
 ·rintro⟨j,m,h1,h2,h3,h4|⟨rfl,h4⟩⟩
  ·exact⟨j,m,h1,h2,h3,.inl ⟨aa,h4.2⟩⟩
  ·exact⟨j,m,h1,h2,h3,.inl ⟨aa,h4⟩⟩
 ·rintro⟨j,m,h1,h2,h3,h4|h4⟩
  ·by_cases e:j=i
   ·subst e;exact⟨j,m,h1,h2,h3,.inr ⟨rfl,h4.2⟩⟩
   ·exact⟨j,m,h1,h2,h3,.inl ⟨aa,h4.2⟩⟩
  ·omega
def Ra:¬rD fs fs.length 0↔(fs.map (·.1)).Nodup:=by
 constructor
 ·intro h;refine ba.2 λi j hi hj wh e=>?_;simp only[List.length_map]at hi hj;simp only[List.getElem_map]at e;exact h ⟨j,i,hj,hi,e,.inl ⟨hj,wh⟩⟩
 ·rintro h ⟨j,m,h1,h2,h3,h4|h4⟩
  ·have:=ba.1 h m j (by simpa using h2) (by simpa using h1) h4.2;simp at this;exact this h3
  ·omega
def Ny(hF:bJ ak L0 o w)(hT:nC w)(hR:kp Fin o w p b off ls)(hL:kB Fin o w fp fb rP fs):
  bC ak (XB ak Fin 0) 89 #[.slice p ls.length c,.slice fp fs.length fc] o w λv o' w'=>DQ (ls.map iF.ru) fs o w v o' w':=by
 have W:=bZ (P:=ak) (Fin:=Fin) (d:=0);have g4:ak.globals.size=4:=ah;have H3:1<w.heap.size:=by have:=hF.size;rw[g4]at this;omega
 have jE:=hL.qt.1;have Ur:=OU (c:=c) hR;refine bt W func89 aG ?_;walk_nrmf Tryz.f89;refine aD ?_;refine dq func85 (Ur) ?_;rintro v1 o1 w1 ⟨e,Ym,rfl,HD,eo,pM⟩;subst eo;clear Ur;have lS:=pM.bS hF;have W1:fW (λ_=>False) o1 w o1 w1:=⟨lS,λ_ h=>h,λ_ h=>.inl h,pM.size,λb hb _=>pM.same b hb⟩;walk_nrm;by_cases he:e=0;rotate_left
 ·have heb:(e != 0)=true:=by rw[mB];exact he
  have dO:DQ (ls.map iF.ru) fs o1 w (.tuple #[.slice we 0 0,.int .i64 e]) o1 w1:=⟨W1,_,e,rfl,⟨.inl ⟨Ym,HD,he⟩⟩,.inl ⟨he,rfl⟩⟩;clear hR hL HD W1 lS pM;refine aD ?_;exact⟨.inr trivial,trivial,_,resultsC_tmp2 (t:=4) (u:=5) aG _,by simpa[Act.eval] using dO⟩
 subst he;have hY:=HD.yes;have HD:Hid (∃a,jG (ls.map iF.ru) 0 a):=⟨_,HD⟩;by_cases Wm:12<fs.length
 ·have aax:(12:Int)<(fs.length:Int):=aa;have dO:DQ (ls.map iF.ru) fs o1 w (.tuple #[.slice we 0 0,.int .i64 1]) o1 w1:=⟨W1,_,1,rfl,⟨.inr ⟨HD,⟨.inl ⟨Wm,rfl⟩⟩⟩⟩,.inl ⟨aa,rfl⟩⟩;clear hR hL HD W1 lS pM;refine aD ?_;exact⟨.inr trivial,trivial,_,resultsC_tmp2 (t:=4) (u:=5) aG _,by simpa[Act.eval] using dO⟩
 have aax:¬(12:Int)<(fs.length:Int):=aa;have sD:fs.length<=12:=aa;have FX:=hL.keep (o':=o1) (λ_ h=>h) pM;refine aD ?_;refine dQ W (λm a o' w'=>∃i,m+i=fs.length/\a.tmps.size=84/\a.defers=[]/\a.eval (.tmp 0)=.slice p ls.length c/\a.eval (.tmp 1)=.slice fp fs.length fc/\a.eval (.tmp 11)=.int .i64 (i:Nat)/\o'=o1/\w'=w1/\∃q1 q2 q3,a.eval (.tmp 8)=.bool q1/\a.eval (.tmp 9)=.bool q2/\a.eval (.tmp 10)=.bool q3/\Hid ((q1=true↔∀j (h:j<fs.length),j<i->isName fs[j].1)/\(q2=true↔rD fs i 0)/\(q3=true↔∃j,∃(h:j<fs.length),j<i/\12<fs[j].2.size))) (N:=fs.length) ⟨0,aj,rfl,rfl,ax,ax,ax,rfl,rfl,true,false,false,ax,ax,ax,by simp[Hid,rD]⟩ ?_;rintro m a o2 w2 ⟨i,Ln,ew,iu,i0,i1,i11,e1,e2,q1,q2,q3,i8,i9,i10,hq⟩;subst e1 e2;obtain⟨gs,rfl⟩:=eQ ew iu;clear ew iu;simp only[List.range,List.range.loop,aB,aJ]at i0 i1 i8 i9 i10 i11 |-;simp[Act.eval]at i0 i1 i8 i9 i10 i11;simp only[i0,i1,i8,i9,i10,i11];clear i0 i1 i8 i9 i10 i11;by_cases hi:i<fs.length;rotate_left
 ·have Yk:¬(i:Int)<(fs.length:Int):=aa;obtain⟨k1,k2,k3⟩:=hq;have k1:q1=true↔∀f∈fs,isName f.1:=k1.trans ⟨λh f hf=>by
   obtain⟨j,hj,rfl⟩:=bB hf;exact h j hj aa,λh j hj _=>h _ (aA hj)⟩
  have k2:q2=false↔(fs.map (·.1)).Nodup:=by
   have ei:i=fs.length:=aa;rw[<- Ra,<- ei,<- k2];simp
  have k3:q3=false↔∀f∈fs,f.2.size<=12:=by
   rw[<- Bool.not_eq_true,k3];exact⟨λh f hf=>by
    obtain⟨j,hj,rfl⟩:=bB hf;exact dt λq=>h ⟨j,hj,aa,q⟩,λh ⟨j,hj,_,q⟩=>by have:=h _ (aA hj);omega⟩
  have mV:∀e,nj fs e->e≠0->DQ (ls.map iF.ru) fs o2 w (.tuple #[.slice we 0 0,.int .i64 e]) o2 w2:=λe h he=>⟨W1,_,e,rfl,⟨.inr ⟨HD,h⟩⟩,.inl ⟨he,rfl⟩⟩;cases q1
  ·have dO:=mV 2 ⟨.inr ⟨sD,.inl ⟨rfl,λh=>by have:=k1.2 h;cases this⟩⟩⟩ aa;clear hR hL HD W1 lS pM k1 k2 k3 mV FX hY;refine aD ?_;exact⟨.inr trivial,trivial,_,resultsC_tmp2 (t:=4) (u:=5) aG _,by simpa[Act.eval] using dO⟩
  have qW:=k1.1 rfl;cases q2;rotate_left
  ·have dO:=mV 4 ⟨.inr ⟨sD,.inr ⟨qW,.inl ⟨rfl,λh=>by have:=k2.2 h;cases this⟩⟩⟩⟩ aa;clear hR hL HD W1 lS pM k1 k2 k3 mV FX hY qW;refine aD ?_;exact⟨.inr trivial,trivial,_,resultsC_tmp2 (t:=4) (u:=5) aG _,by simpa[Act.eval] using dO⟩
  have kL:=k2.1 rfl;cases q3;rotate_left
  ·have dO:=mV 6 ⟨.inr ⟨sD,.inr ⟨qW,.inr ⟨kL,.inl ⟨rfl,λh=>by have:=k3.2 h;cases this⟩⟩⟩⟩⟩ aa;clear hR hL HD W1 lS pM k1 k2 k3 mV FX hY qW kL;refine aD ?_;exact⟨.inr trivial,trivial,_,resultsC_tmp2 (t:=4) (u:=5) aG _,by simpa[Act.eval] using dO⟩
  have Zz:=k3.1 rfl;have W8:nj fs 0:=⟨.inr ⟨sD,.inr ⟨qW,.inr ⟨kL,.inr ⟨rfl,Zz⟩⟩⟩⟩⟩;have FI:=hR.keep (o':=o2) (λ_ h=>h) pM.size pM.same;have hT2:=hT.Ym (pM.same 1 H3);have h8:ls.length<=8:=by have:=hY.ui;simpa using this
  have h4:∀l∈ls,l.ins.length<=4/\1<=l.eT/\l.eT<=5:=λl hl=>(hY.each l.ru (aV.2 ⟨l,hl,rfl⟩)).2;have eP:=aec (c:=c) (fc:=fc) lS hT2 FI FX h8 h4 λf hf=>by have:=Zz f hf;omega
  clear k1 k2 k3 mV qW kL Zz;refine aD ?_;refine dq func132 (eP) ?_;rintro v3 o3 w3 ⟨hb,rfl,hA⟩;clear eP;have Ui:(ls.map iF.ru).length=ls.length:=aj;have Ze:(gF (ls.map iF.ru) fs ls.length).length=ls.length:=(Ag _ _ _).trans Ui;have vN:fl w2 w3:=⟨hA.bA.size,λb hb=>hA.bA.same b hb id⟩;have hR3:=FI.keep (o':=o3) hA.bA.more vN.size vN.same;have hV3:=OS (l:=gF (ls.map iF.ru) fs ls.length) (by rw[Ze];exact hA.row);have qK:=Q7 (c:=c) (hc:=ls.length) hA.bA.bS hR3 hA.own.1 hV3 Ze h8;have GD:=W1.trans hA.bA;have Lt:=GD.size;clear hR hL FI FX hT2 lS pM hA vN hR3 hV3 W1 hY h4;refine aD ?_;refine dq func133 (qK) ?_;rintro v4 o4 w4 ⟨hW4,lo,Jp,EI⟩;have dO:DQ (ls.map iF.ru) fs o2 w (.tuple #[v4,.int .i64 0]) o4 w4:=⟨GD.trans hW4,v4,0,rfl,⟨.inr ⟨HD,W8⟩⟩,.inr ⟨rfl,lo,aa,by
   have eo:(ls.map iF.ru).map (·.out)=ls.map (·.out):=by simp[iF.ru,List.map_map,Function.comp_def]
   rw[Ui,eo];exact EI⟩⟩
  clear qK GD hW4 EI HD W8;refine aD ?_;exact⟨.inr trivial,trivial,_,resultsC_tmp2 (t:=4) (u:=5) aG _,by simpa[Act.eval] using dO⟩
 have Yk:(i:Int)<(fs.length:Int):=aa;have KP:IntKind.i64.wrap ((i:Int)+1)=((i+1:Nat):Int):=by rw[IntKind.wrap_i64]<;>omega
 obtain⟨ep,hB,ub⟩:=FX.ptr (lU hi);obtain⟨c0,c1⟩:=FX.at_ i hi;obtain⟨Ug,QQ⟩:=FX.qt.2 fs[i] (aA hi);have mW:=FX.at_;obtain⟨k1,k2,k3⟩:=hq;have k1:Hid (∀q',(q'=true↔isName fs[i].1)->((q1&&q')=true↔∀j (h:j<fs.length),j<i+1->isName fs[j].1)):=λq' h=>Nv hi k1 h;have k3:Hid (∀q',(q'=true↔12<fs[i].2.size)->((q3||q')=true↔∃j,∃(h:j<fs.length),j<i+1/\12<fs[j].2.size)):=λq' h=>Q8 hi k3 h;have k2n:Hid (∀k (hk:k<i) (q:Bool),(q=true↔rD fs i k)->((q||decide ((fs[k]'aa).1=fs[i].1))=true↔rD fs i (k+1))):=λk hk q h=>Nw hi hk h;clear hR hL FX HD hY hT;subst ep;rcases hfi:fs[i] with⟨x,t⟩;simp only[hfi]at c0 c1 Ug QQ k1 k3 k2n;have Zh:=OP t;refine aD ?_;refine kn hB c0 ?_;walk_nrm;refine dq func131 (Hr x Ug) ?_;rintro v3 o3 w3 ⟨qn,rfl,hqn,e1,e2⟩;subst e1 e2;have k1':=k1 qn hqn;clear k1 hqn;refine Zr ?_;refine ON W (λa o' w'=>a.tmps.size=84/\a.defers=[]/\a.eval (.tmp 0)=.slice p ls.length c/\a.eval (.tmp 1)=.slice (so ⟨fb,rP,we⟩) fs.length fc/\a.eval (.tmp 9)=.bool q2/\a.eval (.tmp 10)=.bool q3/\a.eval (.tmp 11)=.int .i64 (i:Nat)/\o'=o3/\w'=w3/\a.eval (.tmp 8)=.bool (q1&&qn)) ?_ ?_
 ·cases q1
  ·refine aD ?_;exact⟨bQ,bQ,ax,ax,ax,ax,ax,by trivial,by trivial,ax⟩
  ·refine aD ?_;exact⟨bQ,bQ,ax,ax,ax,ax,ax,by trivial,by trivial,ax⟩
 rintro a o4 w4 ⟨ew,iu,i0,i1,i9,i10,i11,e1,e2,i8⟩;subst e1 e2;obtain⟨gs,rfl⟩:=eQ ew iu;clear ew iu;simp only[List.range,List.range.loop,aB,aJ]at i0 i1 i8 i9 i10 i11 |-;simp[Act.eval]at i0 i1 i8 i9 i10 i11;simp only[i0,i1,i8,i9,i10,i11];clear i0 i1 i8 i9 i10 i11;have k1':Hid (_↔_):=k1';generalize (q1&&qn)=qa at *;refine ON W (λa o' w'=>a.tmps.size=84/\a.defers=[]/\a.eval (.tmp 0)=.slice p ls.length c/\a.eval (.tmp 1)=.slice (so ⟨fb,rP,we⟩) fs.length fc/\a.eval (.tmp 8)=.bool qa/\a.eval (.tmp 9)=.bool q2/\a.eval (.tmp 11)=.int .i64 (i:Nat)/\o'=o4/\w'=w4/\a.eval (.tmp 10)=.bool (q3||decide (12<t.size))) ?_ ?_
 ·clear k1' k2 k3 k2n;cases q3
  ·by_cases ht:12<t.size
   ·have htI:(12:Int)<(t.size:Int):=aa;refine aD ?_;refine kn hB c1 ?_;refine aD ?_;exact⟨bQ,bQ,ax,ax,ax,ax,ax,by trivial,by trivial,by simp[Act.eval,ht]⟩
   ·have htI:¬(12:Int)<(t.size:Int):=aa;refine aD ?_;refine kn hB c1 ?_;refine aD ?_;exact⟨bQ,bQ,ax,ax,ax,ax,ax,by trivial,by trivial,by simp[Act.eval,ht]⟩
  ·refine aD ?_;exact⟨bQ,bQ,ax,ax,ax,ax,ax,by trivial,by trivial,ax⟩
 have k3':=k3 (decide (12<t.size)) aj;rintro a o5 w5 ⟨ew,iu,i0,i1,i8,i9,i11,e1,e2,i10⟩;subst e1 e2;obtain⟨gs,rfl⟩:=eQ ew iu;clear ew iu;simp only[List.range,List.range.loop,aB,aJ]at i0 i1 i8 i9 i10 i11 |-;simp[Act.eval]at i0 i1 i8 i9 i10 i11;simp only[i0,i1,i8,i9,i10,i11];clear i0 i1 i8 i9 i10 i11;have k3':Hid (_↔_):=k3';generalize (q3||decide (12<t.size))=qb at *;have k2:Hid (q2=true↔rD fs i 0):=k2;clear k3;refine aD ?_;refine dQ W (λm2 a o' w'=>∃k,m2+k=i/\a.tmps.size=84/\a.defers=[]/\a.eval (.tmp 0)=.slice p ls.length c/\a.eval (.tmp 1)=.slice (so ⟨fb,rP,we⟩) fs.length fc/\a.eval (.tmp 8)=.bool qa/\a.eval (.tmp 10)=.bool qb/\a.eval (.tmp 11)=.int .i64 (i:Nat)/\a.eval (.tmp 13)=.int .i64 (k:Nat)/\o'=o5/\w'=w5/\∃q,a.eval (.tmp 9)=.bool q/\Hid (q=true↔rD fs i k)) (N:=i) ⟨0,aj,rfl,rfl,ax,ax,ax,ax,ax,ax,rfl,rfl,q2,ax,k2⟩ ?_;clear k2;rintro m2 a o6 w6 ⟨k,lP,ew,iu,i0,i1,i8,i10,i11,i13,e1,e2,q,i9,hq⟩;subst e1 e2;obtain⟨gs,rfl⟩:=eQ ew iu;clear ew iu;simp only[List.range,List.range.loop,aB,aJ]at i0 i1 i8 i9 i10 i11 i13 |-;simp[Act.eval]at i0 i1 i8 i9 i10 i11 i13;simp only[i0,i1,i8,i9,i10,i11,i13];clear i0 i1 i8 i9 i10 i11 i13;by_cases hk:k<i;rotate_left
 ·have rq:¬(k:Int)<(i:Int):=aa;have Cm:q=true↔rD fs (i+1) 0:=by
   have h:q=true↔rD fs i k:=hq;have ek:k=i:=aa;rw[h,ek];exact Q9
  have mV:Hid ((qa=true↔∀j (h:j<fs.length),j<i+1->isName fs[j].1)/\(q=true↔rD fs (i+1) 0)/\(qb=true↔∃j,∃(h:j<fs.length),j<i+1/\12<fs[j].2.size)):=⟨k1',Cm,k3'⟩;clear k1' k3' hq Cm k2n mW;refine aD ?_;exact⟨m-1,aa,i+1,aa,bQ,bQ,ax,ax,by simp[Act.eval,KP],by trivial,by trivial,qa,q,qb,ax,ax,ax,mV⟩
 have rq:(k:Int)<(i:Int):=aa;have aaD:(k:Int)<(fs.length:Int):=aa;have om:IntKind.i64.wrap ((k:Int)+1)=((k+1:Nat):Int):=by rw[IntKind.wrap_i64]<;>omega
 have RD:k<fs.length:=aa;have ck:=(mW k RD).1;have qw:((q||decide (fs[k].1=x))=true↔rD fs i (k+1)):=k2n k hk q hq;clear mW hq k2n;generalize fs[k].1=z at *;cases q
 ·have hzx:decide (z=x)=(z.toList==x.toList):=by rw[jv,decide_eq_true_eq,beq_iff_eq];exact⟨λe=>by rw[e],Uq⟩
  rw[kA,hzx]at qw;have qw:Hid (_↔_):=qw;clear hzx;refine aD ?_;refine iy mixed ah [so we,so we,so we,so we,so we,so we,so (so (.string z)),so we,so we,so we,so we,so (so (.string x)),so we,so we,so we]
   (S:=λσ o' w'=>o6=o'/\w6=w') ⟨rfl,rfl⟩ λv9=>?_
  refine fF ?_;refine fU ?_;refine sH (B:=fb) (i:=rP+k*2) (λσ o' w' hS=>?_) ?_
  ·obtain⟨rfl,rfl⟩:=hS;exact⟨hB,ck⟩
  refine fU ?_;refine sH (B:=fb) (i:=rP+i*2) (λσ o' w' hS=>?_) ?_
  ·obtain⟨rfl,rfl⟩:=hS;exact⟨hB,c0⟩
  refine fU ?_;refine fj λσ o9 w9 wu hS=>?_;clear wu;obtain⟨rfl,rfl⟩:=hS;simp only[nu,gL,if_true,if_false,reduceIte,Nat.reduceEqDiff];refine aD ?_;exact⟨m2-1,aa,k+1,aa,bQ,bQ,ax,ax,ax,ax,ax,by simp[Act.eval,om],by trivial,by trivial,(z.toList==x.toList),ax,qw⟩
 ·rw[Bool.true_or]at qw;have qw:Hid (_↔_):=qw;refine aD ?_;refine iy mixed ah [so we,so we,so (so undef),so (so undef),so (so undef),so (so undef),so (so undef),so (so undef),so (so undef),so (so undef),so (so undef),so (so undef),so (so undef),so we,so we]
   (S:=λσ o' w'=>o6=o'/\w6=w') ⟨rfl,rfl⟩ λv9=>?_
  refine fF ?_;refine fU ?_;refine jD rfl rfl aG ?_;walk_nrm;refine jD rfl rfl aG ?_;walk_nrm;refine jD rfl rfl aG ?_;walk_nrm;refine jD rfl rfl aG ?_;walk_nrm;refine jD rfl rfl aG ?_;walk_nrm;refine jD rfl rfl aG ?_;walk_nrm;refine jD rfl rfl aG ?_;walk_nrm;refine jD rfl rfl aG ?_;walk_nrm;refine jD rfl rfl aG ?_;walk_nrm;refine jD rfl rfl aG ?_;walk_nrm;refine jD rfl rfl aG ?_;refine fU ?_;refine fj λσ o9 w9 wu hS=>?_;clear wu;obtain⟨rfl,rfl⟩:=hS;simp only[nu,gL,if_true,if_false,reduceIte,Nat.reduceEqDiff];refine aD ?_;exact⟨m2-1,aa,k+1,aa,bQ,bQ,ax,ax,ax,ax,ax,by simp[Act.eval,om],by trivial,by trivial,true,ax,qw⟩
end
end
section
open Go.RowKit (Hid)
def R0:aN:=⟨⟨#[]⟩,0,we,0,0⟩
def gA(cs:List aN)(j:Nat):Value:=if j%3=0 then .string (cs.getD (j/3) R0).out else if j%3=1 then .int .i64 (cs.getD (j/3) R0).eT else .slice (cs.getD (j/3) R0).sa (cs.getD (j/3) R0).sl (cs.getD (j/3) R0).sc
def jQ(ts:List ag)(j:Nat):Value:=.string (ts.getD j ⟨#[]⟩)
def dV(fs:List (ag×ag))(j:Nat):Value:=if j%2=0 then .string (fs.getD (j/2) (⟨#[]⟩,⟨#[]⟩)).1 else .string (fs.getD (j/2) (⟨#[]⟩,⟨#[]⟩)).2
def jR(cs:List aN)(k:Nat)(hk:k<cs.length):gA cs (k*3)=.string cs[k].out/\gA cs (k*3+1)=.int .i64 cs[k].eT/\gA cs (k*3+2)=.slice cs[k].sa cs[k].sl cs[k].sc:=by
 have e:cs.getD k R0=cs[k]:=by rw[bm,au hk];rfl
 have a0:(k*3)%3=0:=aa;have a1:(k*3+1)%3=1:=aa;have a2:(k*3+2)%3=2:=aa;have b0:(k*3)/3=k:=aa;have b1:(k*3+1)/3=k:=aa;have b2:(k*3+2)/3=k:=aa;simp only[gA,a0,a1,a2,b0,b1,b2,e];simp
def pJ(fs:List (ag×ag))(k:Nat)(hk:k<fs.length):dV fs (k*2)=.string fs[k].1/\dV fs (k*2+1)=.string fs[k].2:=by
 have e:fs.getD k (⟨#[]⟩,⟨#[]⟩)=fs[k]:=by rw[bm,au hk];rfl
 have a0:(k*2)%2=0:=aa;have a1:(k*2+1)%2=1:=aa;have b0:(k*2)/2=k:=aa;have b1:(k*2+1)/2=k:=aa;simp only[dV,a0,a1,b0,b1,e];simp
def sg(ts:List ag)(k:Nat)(hk:k<ts.length):jQ ts k=.string ts[k]:=by
 simp[jQ,List.getD_eq_getElem?_getD,au hk]
section
variable {w:ae}{B t n k:Nat}
def KT{cs:List aN}{r:aN}(hk:k<cs.length)(cd:w.rowIs B t n (gA cs)):
  (((w.setCell ⟨B,k*3,we⟩ (.string r.out)).setCell ⟨B,k*3+1,we⟩ (.int .i64 r.eT)).setCell ⟨B,k*3+2,we⟩ (.slice r.sa r.sl r.sc)).rowIs B t n (gA (cs.set k r)):=by
 refine(((cd.set (k*3) _).set (k*3+1) _).set (k*3+2) _).congr λj hj=>?_;obtain⟨c0,c1,c2⟩:=jR (cs.set k r) k (by simpa using hk);simp only[List.getElem_set_self]at c0 c1 c2;by_cases e2:j=k*3+2
 ·subst e2;rw[if_pos rfl,c2]
 by_cases e1:j=k*3+1
 ·subst e1;rw[if_neg e2,if_pos rfl,c1]
 by_cases e0:j=k*3
 ·subst e0;rw[if_neg e2,if_neg e1,if_pos rfl,c0]
 rw[if_neg e2,if_neg e1,if_neg e0];have h3:k≠j/3:=aa;simp[gA,h3]
def Rc{cs:List aN}{sa:Option Addr}{sl sc:Nat}(hk:k<cs.length)(cd:w.rowIs B t n (gA cs)):
  (w.setCell ⟨B,k*3+2,we⟩ (.slice sa sl sc)).rowIs B t n (gA (cs.set k ⟨cs[k].out,cs[k].eT,sa,sl,sc⟩)):=by
 refine(cd.set (k*3+2) _).congr λj hj=>?_;obtain⟨c0,c1,c2⟩:=jR (cs.set k ⟨cs[k].out,cs[k].eT,sa,sl,sc⟩) k (by simpa using hk);obtain⟨d0,d1,d2⟩:=jR cs k hk;simp only[List.getElem_set_self]at c0 c1 c2;by_cases e2:j=k*3+2
 ·subst e2;rw[if_pos rfl,c2]
 rw[if_neg e2];by_cases e1:j=k*3+1
 ·subst e1;rw[c1,d1]
 by_cases e0:j=k*3
 ·subst e0;rw[c0,d0]
 have h3:k≠j/3:=aa;simp[gA,h3]
def Re{cs:List aN}{x:Int}(hk:k<cs.length)(cd:w.rowIs B t n (gA cs)):
  (w.setCell ⟨B,k*3+1,we⟩ (.int .i64 x)).rowIs B t n (gA (cs.set k ⟨cs[k].out,x,cs[k].sa,cs[k].sl,cs[k].sc⟩)):=by
 refine(cd.set (k*3+1) _).congr λj hj=>?_;obtain⟨c0,c1,c2⟩:=jR (cs.set k ⟨cs[k].out,x,cs[k].sa,cs[k].sl,cs[k].sc⟩) k (by simpa using hk);obtain⟨d0,d1,d2⟩:=jR cs k hk;simp only[List.getElem_set_self]at c0 c1 c2;by_cases e1:j=k*3+1
 ·subst e1;rw[if_pos rfl,c1]
 rw[if_neg e1];by_cases e2:j=k*3+2
 ·subst e2;rw[c2,d2]
 by_cases e0:j=k*3
 ·subst e0;rw[c0,d0]
 have h3:k≠j/3:=aa;simp[gA,h3]
def KU{ts:List ag}{x:ag}(hk:k<ts.length)(cd:w.rowIs B t n (jQ ts)):(w.setCell ⟨B,k,we⟩ (.string x)).rowIs B t n (jQ (ts.set k x)):=by
 refine(cd.set k _).congr λj hj=>?_;by_cases e:j=k
 ·subst e;rw[if_pos rfl];simp[jQ,hk]
 ·have e':k≠j:=λq=>e q.symm;rw[if_neg e];simp[jQ,e']
def Us{fs:List (ag×ag)}{x y:ag}(hk:k<fs.length)(cd:w.rowIs B t n (dV fs)):
  ((w.setCell ⟨B,k*2,we⟩ (.string x)).setCell ⟨B,k*2+1,we⟩ (.string y)).rowIs B t n (dV (fs.set k (x,y))):=by
 refine((cd.set (k*2) _).set (k*2+1) _).congr λj hj=>?_;obtain⟨c0,c1⟩:=pJ (fs.set k (x,y)) k (by simpa using hk);simp only[List.getElem_set_self]at c0 c1;by_cases e1:j=k*2+1
 ·subst e1;rw[if_pos rfl,c1]
 by_cases e0:j=k*2
 ·subst e0;rw[if_neg e1,if_pos rfl,c0]
 rw[if_neg e1,if_neg e0];have h3:k≠j/2:=aa;simp[dV,h3]
end
def Rf:(ak.info? 44).map (λi=>(i.zero,i.size,i.bytes))=so (so (.agg #[.string ⟨#[]⟩,.string ⟨#[]⟩]),2,32):=ah
def Rg:(ak.info? 42).map (λi=>(i.zero,i.size,i.bytes))=so (so (.agg #[.string ⟨#[]⟩,.int .i64 0,.slice we 0 0]),3,48):=ah
def Rh:(ak.info? 9).map (λi=>(i.zero,i.size,i.bytes))=so (so (.string ⟨#[]⟩),1,16):=ah
def DR{t e:TypeId}{z:Value}{sz bs:Nat}(ht:ak.underlying t=so (.slice e))(zj:(ak.info? e).map (λi=>(i.zero,i.size,i.bytes))=so (so z,sz,bs))(n:Nat)(hn:n*bs<=140737488355328)(MB:n<=9223372036854775807)(w:ae):
  (Instr.makeSlice t (.int .i64 (n:Int)) (.int .i64 (n:Int))).run ak w=.ok (.slice (so ⟨w.heap.size,0,we⟩) n n) (w.alloc (.cells (madeCells z.cells (n*sz)) e))/\∀es,(Instr.makeSlice t (.int .i64 (n:Int)) (.int .i64 (n:Int))).events ak w es=es:=by
 obtain⟨i,hi,hz⟩:=aH.1 zj;simp only[bO]at hz;obtain⟨hz,hs,hb⟩:=hz;have hm:(bs:Int)*(n:Int)<=281474976710656:=by
  have:((n*bs:Nat):Int)<=140737488355328:=aa;rw[Int.natCast_mul,Int.mul_comm]at this;omega
 constructor
 ·have:=run_make (P:=ak) w t e i z ht hi hz .i64 .i64 n n aa (en _) (by rw[hb];exact hm) aa;rw[this,hs];simp
 ·exact λes=>events_make w t e i z ht hi hz .i64 .i64 n n aa (en _) (by rw[hb];exact hm) aa (by rw[hb];simpa using hn) es
def Nz{w:ae}{A n:Nat}(h:w.heap[A]?=so (.cells (madeCells #[.string ⟨#[]⟩,.int .i64 0,.slice we 0 0] (n*3)) 42)):w.rowIs A 42 (n*3) (gA (List.replicate n R0)):=by
 refine⟨_,h,by simp[size_madeCells],λj hj=>?_⟩;have hV:(List.replicate n R0).getD (j/3) R0=R0:=by simp[List.getD,List.getElem?_replicate];split<;>rfl
 simp only[madeCells,aM,Array.getElem?_range,hj,if_true,aK,gA,hV];have h3:j%3=0\/j%3=1\/j%3=2:=aa;rcases h3 with e|e|e
 ·simp[e];rfl
 ·simp[e];rfl
 ·simp[e];exact⟨rfl,rfl,rfl⟩
def Ri(P:Program)(d:Nat){t e:TypeId}(h:P.underlying t=so (.slice e))(a:Option Addr)(l c:Nat)(w:ae)(es:Array Event):(Op.equalIn (d+1) t (.slice a l c) (.slice we 0 0)).events P w es=es:=by
 cases a<;>simp[Op.equalIn,run_underlying h,events_underlying]
def mM{P:Program}{t e:TypeId}(h:P.underlying t=so (.slice e))(a:Option Addr)(l c:Nat):(∀w,(binOp .eql t (.slice a l c) (.slice we 0 0)).run P w=.ok (.bool a.isNone) w)/\(∀w es,(binOp .eql t (.slice a l c) (.slice we 0 0)).events P w es=es)/\(∀w,(binOp .neq t (.slice a l c) (.slice we 0 0)).run P w=.ok (.bool (!a.isNone)) w)/\(∀w es,(binOp .neq t (.slice a l c) (.slice we 0 0)).events P w es=es):=by
 have he:∀w es,(Op.equal t (.slice a l c) (.slice we 0 0)).events P w es=es:=λw es=>Ri P 9999 h a l c w es;have hr:=λw=>run_equal_slice_nil (P:=P) w t e a l c h;refine⟨λw=>?_,λw es=>?_,λw=>run_neq_slice_nil w t e a l c h,λw es=>?_⟩
 ·simp[binOp,hr]
 ·simp[binOp,hr,he]
 ·simp[binOp,hr,he]
def HE{P:Program}(w:ae)(dT sT ty elem:TypeId)(g dLen Ut:Nat)(a:Addr)(n mw sz:Nat)(cur:Array Value)(t:TypeId)(cs:List Value)(hu:P.underlying dT=so (.slice elem))(hs:(P.info? elem).map (·.size)=so sz)(hg:w.heap[g]?=so (.cells cur t (0,0)))(hn:n<=dLen)(hl:cs.length=n*sz)(rM:∀j v,cs[j]?=so v->w.cell? (a.add j)=so v)(Xf:cs.length<=cur.size)(h1:∀v∈cs,v.oneCell'=true):
  (Builtin.copy_ #[dT,sT] ty #[.slice (so ⟨g,0,we⟩) dLen Ut,.slice (so a) n mw]).run P w=.ok (goInt n) (w.setRow g (cs++cur.toList.drop cs.length).toArray) /\
  ∀x∈(Builtin.copy_ #[dT,sT] ty #[.slice (so ⟨g,0,we⟩) dLen Ut,.slice (so a) n mw]).events P w #[],∃ad,x.loc=.cell ad/\(ad.block=g\/cs≠[]/\ad.block=a.block):=by
 have hld:=run_loadCells_list (P:=P) w a cs rM;have fe:=run_storeCells_at P g 0 t cs 0 cur w hg (by simpa using Xf) h1;have hm:Nat.min n dLen=n:=Nat.min_eq_left hn;cases hq:P.info? elem with
 |none=>simp[hq]at hs
 |some i =>
  have hi:i.size=sz:=by simpa[hq] using hs
  constructor
  ·simp[Builtin.copy_,run_underlying hu,Builtin.lenOf,Builtin.firstCells,sizeOf,typeInfo,hq,hi,hm,<- hl,hld,fe]
  ·intro x hx;have hfc:(Builtin.firstCells sz n (.slice (so a) n mw)).run P w=.ok cs.toArray w:=by simp[Builtin.firstCells,<- hl,hld]
   simp only[Builtin.copy_]at hx;simp[run_underlying hu,events_underlying,Builtin.lenOf,sizeOf,typeInfo,hq,hi,hm,hfc]at hx;rcases events_storeCells_at g 0 t cs 0 cur w _ hg (by simpa using Xf) h1 x hx with h|⟨ad,h2,h3⟩
   ·by_cases hc:cs=[]
    ·subst hc;simp[Builtin.firstCells,<- hl,loadCells,loadCellsFrom]at h
    ·rcases events_firstCells_in (P:=P) (λb=>b=a.block) sz n (.slice (so a) n mw) w #[] (λa' l c e=>by
      simp only[Value.slice.injEq,ay]at e;obtain⟨rfl,-,-⟩:=e;exact⟨rfl,λj hj=>isSome_of_list rM aa⟩) x h with h|⟨ad,h2,-,h3⟩
     ·simp at h
     ·exact⟨ad,h2,.inr ⟨hc,h3⟩⟩
   ·exact⟨ad,h2,.inl h3⟩
section
variable {P:Program}{Fin:br}{d:Nat}{o:aL}{w:ae}{fn:FuncId}{Q:Exit->Act->aL->ae->Prop}{a:Act}{ops:Array Oper}{i:Nat}{rest:List Nat}{op:Oper}{dd:Option Tmp}
def pK{w':ae}(h:w'.heap.size=w.heap.size):Go.Ren.grow o w w'=o:=by
 funext b;simp only[Go.Ren.grow,eq_iff_iff];exact⟨λq=>q.elim id λq=>aa,.inl⟩
def size_setRow(w:ae)(g:Nat)(c:Array Value):(w.setRow g c).heap.size=w.heap.size:=by simp[World.setRow]
def Ys{g dLen Ut n mw sz:Nat}{ad:Addr}{cur:Array Value}{t elem dT:TypeId}{cs:List Value}(hu:P.underlying dT=so (.slice elem))(hs:(P.info? elem).map (·.size)=so sz)(hg:w.heap[g]?=so (.cells cur t (0,0)))(og:o g)(hB:cs≠[]->wx Fin o ad.block)(hn:n<=dLen)(hl:cs.length=n*sz)(rM:∀j v,cs[j]?=so v->w.cell? (ad.add j)=so v)(Xf:cs.length<=cur.size)(h1:∀v∈cs,v.oneCell'=true)(k:dK (XB P Fin d) fn ops rest Q (a.put dd (goInt n)) o (w.setRow g (cs++cur.toList.drop cs.length).toArray))(ho:ops[i]?=so op:=by rfl)(hw:Region.wanted op (yielded ops a.tmps)=true:=by rfl)(hd:op.dst=dd:=by rfl)(fD:∃s1 s2 sT,op.op=.call {callee:=.builtin .copy,args:=#[s1,s2],argTypes:=#[dT,sT]}/\a.eval s1=.slice (so ⟨g,0,we⟩) dLen Ut/\a.eval s2=.slice (so ad) n mw:=by exact⟨_,_,_,rfl,rfl,rfl⟩):dK (XB P Fin d) fn ops (i::rest) Q a o w:=by
 obtain⟨s1,s2,sT,fD,q1,q2⟩:=fD;have cG:∀m,_/\_:=λm=>HE (P:=P) (w.at m) dT sT op.type elem g dLen Ut ad n mw sz cur t cs hu hs hg hn hl rM Xf h1;have pL:=size_setRow w g (cs++cur.toList.drop cs.length).toArray;refine WN (v:=goInt n) (w':=w.setRow g (cs++cur.toList.drop cs.length).toArray) ho hw hd (by rw[pL];exact af _) ⟨rfl,rfl⟩ (λm=>?_) (λm x hx=>?_) ?_
 ·have:=(cG m).1;unfold execOp;simp only[fD,resolve,invoke,builtin,Sem.run_bind,Sem.run_pure,Result.andThen_ok,List.map_toArray,aB,aJ,q1,q2,this];rfl
 ·have:=(cG m).2 x (by
   unfold execOp at hx;simp only[fD,resolve,invoke,builtin,Sem.events_bind,Sem.run_pure,Sem.events_pure,Result.evThen_ok,List.map_toArray,aB,aJ,q1,q2]at hx;rw[(cG m).1]at hx;simpa using hx)
  obtain⟨ad',h2,h3⟩:=this;rw[pK pL];obtain⟨loc,wt,sy⟩:=x;simp only at h2;subst h2;refine⟨ad',wt,sy,rfl,?_⟩;rcases h3 with h3|⟨h3,h4⟩
  ·rw[h3];exact .inl og
  ·rw[h4];exact hB h3
 ·rw[pK pL];exact k
end
section
variable {Fin:br}{d:Nat}{o:aL}{w:ae}{fn:FuncId}{Q:Exit->Act->aL->ae->Prop}{a:Act}{ops:Array Oper}{i:Nat}{rest:List Nat}{op:Oper}{B t n j:Nat}{f:Nat->Value}
def Rj{x:Value}(oB:o B)(cd:w.rowIs B t n f)(hj:j<n)(k:dK (XB ak Fin d) fn ops rest Q (a.put we undef) o (w.setCell ⟨B,j,we⟩ x))(ho:ops[i]?=so op:=by rfl)(hw:Region.wanted op (yielded ops a.tmps)=true:=by rfl)(hd:op.dst=none:=by rfl)(f2:∀wl:ae,wl.cell? ⟨B,j,we⟩=so (f j)->wl.frozen? ⟨B,j,we⟩=false->(execOp a.eval op).run ak wl=.ok .skip (wl.setCell ⟨B,j,we⟩ x):=by
   intro wl h8 h9;simp[go_sem,Act.eval,h8,h9])(f3:∀wl:ae,wl.cell? ⟨B,j,we⟩=so (f j)->wl.frozen? ⟨B,j,we⟩=false->∀x∈(execOp a.eval op).events ak wl #[],∃ad wt sy,x=⟨.cell ad,wt,sy⟩/\ad.block=B:=by
   intro wl h8 h9 x hx;simp[go_sem,sf,BJ,Act.eval,h8,h9]at hx;subst hx;exact⟨_,_,_,rfl,rfl⟩):dK (XB ak Fin d) fn ops (i::rest) Q a o w:=by
 have hz:(w.setCell ⟨B,j,we⟩ x).heap.size=w.heap.size:=by simp[World.setCell]
 have c:=cd.cell hj;have fz:=cd.frozen j;refine rA (w':=w.setCell ⟨B,j,we⟩ x) ho hw hd aa ⟨rfl,rfl⟩ (λm=>f2 (w.at m) c fz) (λm x hx=>?_) ?_
 ·obtain⟨ad,wt,sy,e,h⟩:=f3 (w.at m) c fz x hx;exact⟨ad,wt,sy,e,.inl (by rw[pK hz,h];exact oB)⟩
 ·rw[pK hz];exact k
def aeo{x y:Value}(oB:o B)(cd:w.rowIs B t n f)(hj:j+1<n)(k:dK (XB ak Fin d) fn ops rest Q (a.put we undef) o ((w.setCell ⟨B,j,we⟩ x).setCell ⟨B,j+1,we⟩ y))(ho:ops[i]?=so op:=by rfl)(hw:Region.wanted op (yielded ops a.tmps)=true:=by rfl)(hd:op.dst=none:=by rfl)(f2:∀wl:ae,wl.cell? ⟨B,j,we⟩=so (f j)->wl.frozen? ⟨B,j,we⟩=false->wl.cell? ⟨B,j+1,we⟩=so (f (j+1))->wl.frozen? ⟨B,j+1,we⟩=false->(execOp a.eval op).run ak wl=.ok .skip ((wl.setCell ⟨B,j,we⟩ x).setCell ⟨B,j+1,we⟩ y):=by
   intro wl h6 h7 h8 h9;simp[go_sem,Act.eval,h6,h7,h8,h9])(f3:∀wl:ae,wl.cell? ⟨B,j,we⟩=so (f j)->wl.frozen? ⟨B,j,we⟩=false->wl.cell? ⟨B,j+1,we⟩=so (f (j+1))->wl.frozen? ⟨B,j+1,we⟩=false->∀x∈(execOp a.eval op).events ak wl #[],∃ad wt sy,x=⟨.cell ad,wt,sy⟩/\ad.block=B:=by
   intro wl h6 h7 h8 h9 x hx;simp[go_sem,sf,BJ,Act.eval,h6,h7,h8,h9]at hx;rcases hx with rfl|rfl<;>exact⟨_,_,_,rfl,rfl⟩):dK (XB ak Fin d) fn ops (i::rest) Q a o w:=by
 have hz:((w.setCell ⟨B,j,we⟩ x).setCell ⟨B,j+1,we⟩ y).heap.size=w.heap.size:=by simp[World.setCell]
 have c0:=cd.cell (show j<n by omega);have z0:=cd.frozen j;have c1:=cd.cell hj;have z1:=cd.frozen (j+1);refine rA (w':=(w.setCell ⟨B,j,we⟩ x).setCell ⟨B,j+1,we⟩ y) ho hw hd aa ⟨rfl,rfl⟩ (λm=>f2 (w.at m) c0 z0 c1 z1) (λm x hx=>?_) ?_
 ·obtain⟨ad,wt,sy,e,h⟩:=f3 (w.at m) c0 z0 c1 z1 x hx;exact⟨ad,wt,sy,e,.inl (by rw[pK hz,h];exact oB)⟩
 ·rw[pK hz];exact k
def OX{x y z:Value}(oB:o B)(cd:w.rowIs B t n f)(hj:j+2<n)(k:dK (XB ak Fin d) fn ops rest Q (a.put we undef) o (((w.setCell ⟨B,j,we⟩ x).setCell ⟨B,j+1,we⟩ y).setCell ⟨B,j+2,we⟩ z))(ho:ops[i]?=so op:=by rfl)(hw:Region.wanted op (yielded ops a.tmps)=true:=by rfl)(hd:op.dst=none:=by rfl)(f2:∀wl:ae,wl.cell? ⟨B,j,we⟩=so (f j)->wl.frozen? ⟨B,j,we⟩=false->wl.cell? ⟨B,j+1,we⟩=so (f (j+1))->wl.frozen? ⟨B,j+1,we⟩=false->wl.cell? ⟨B,j+2,we⟩=so (f (j+2))->wl.frozen? ⟨B,j+2,we⟩=false->(execOp a.eval op).run ak wl=.ok .skip (((wl.setCell ⟨B,j,we⟩ x).setCell ⟨B,j+1,we⟩ y).setCell ⟨B,j+2,we⟩ z):=by
   intro wl h4 h5 h6 h7 h8 h9;simp[go_sem,Act.eval,h4,h5,h6,h7,h8,h9])(f3:∀wl:ae,wl.cell? ⟨B,j,we⟩=so (f j)->wl.frozen? ⟨B,j,we⟩=false->wl.cell? ⟨B,j+1,we⟩=so (f (j+1))->wl.frozen? ⟨B,j+1,we⟩=false->wl.cell? ⟨B,j+2,we⟩=so (f (j+2))->wl.frozen? ⟨B,j+2,we⟩=false->∀x∈(execOp a.eval op).events ak wl #[],∃ad wt sy,x=⟨.cell ad,wt,sy⟩/\ad.block=B:=by
   intro wl h4 h5 h6 h7 h8 h9 x hx;simp[go_sem,sf,BJ,Act.eval,h4,h5,h6,h7,h8,h9]at hx;rcases hx with rfl|rfl|rfl<;>exact⟨_,_,_,rfl,rfl⟩):dK (XB ak Fin d) fn ops (i::rest) Q a o w:=by
 have hz:(((w.setCell ⟨B,j,we⟩ x).setCell ⟨B,j+1,we⟩ y).setCell ⟨B,j+2,we⟩ z).heap.size=w.heap.size:=by simp[World.setCell]
 have c0:=cd.cell (show j<n by omega);have z0:=cd.frozen j;have c1:=cd.cell (show j+1<n by omega);have z1:=cd.frozen (j+1);have c2:=cd.cell hj;have z2:=cd.frozen (j+2);refine rA (w':=((w.setCell ⟨B,j,we⟩ x).setCell ⟨B,j+1,we⟩ y).setCell ⟨B,j+2,we⟩ z) ho hw hd aa ⟨rfl,rfl⟩ (λm=>f2 (w.at m) c0 z0 c1 z1 c2 z2) (λm x hx=>?_) ?_
 ·obtain⟨ad,wt,sy,e,h⟩:=f3 (w.at m) c0 z0 c1 z1 c2 z2 x hx;exact⟨ad,wt,sy,e,.inl (by rw[pK hz,h];exact oB)⟩
 ·rw[pK hz];exact k
end
def DS{o:aL}{w w':ae}(hF:bJ ak L0 o w)(hO:fl w w')(A6:∀b,w.heap.size<=b->b<w'.heap.size->∃t n f,w'.rowIs b t n f/\∀j,j<n->Cl ak L0 (Go.Ren.grow o w w') (f j)):bJ ak L0 (Go.Ren.grow o w w') w':=by
 refine⟨λb hb=>?_,λb hb=>.inl (hF.kz b hb),aS hF.size hO.size⟩;rcases hb with hb|⟨h1,h2⟩
 ·obtain⟨y,k1,k2,k3⟩:=hF.shut b hb;exact⟨y,(hO.same b (hF.lt hb)).trans k1,k2,λf hf=>k3 f (GJ (λ_ hb=>.inl hb) hf)⟩
 ·obtain⟨t,n,f,⟨c,hc,hs,hcf⟩,fG⟩:=A6 b h1 h2;refine⟨_,hc,rfl,λg hg=>?_⟩;simp only[obj,Obj.cells.injEq,and_true];apply fC;intro j;rw[aM];by_cases hj:j<n
  ·rw[hcf j hj,aK,fG j hj g hg]
  ·rw[bX aa];rfl
end
end Go.Proofs.Kz
