import Derived.Test.YtgjekaaknjgnmaaGreatDoorAp
set_option linter.all false
set_option maxHeartbeats 40000000
set_option maxRecDepth 200000
namespace Go.Proofs.Kz
open Go.Proofs.Tryz
open Go.Proofs.Tryz renaming prog → ar
open _root_.ByteArray renaming empty → aN
open Go Go.Ren Go.Conc Go.Proofs Go.ConcN
section
open Go.ChangeShapes Go.WideShapes Go.Deep Go.RowKit Go.ConcM
open YtgjekaaknjgnmaaGreatDoor
theorem zO(hb:xy 10 Tryz.f10)(os:Os)(started:os.Started)(H:Type)(enc:TypeId×Value->H)(F:Stop.Interp):
  ReturnsInLeavingWide Rows.watchfulRow.assume Tryz.checked os 10 .any (fun w args=>(Rows.watchfulSpec.pre enc ar Tryz.f10 [] false w args/\laidMetH ar Sn w)/\sizedMet enc ar Tryz.f10 (OpenSpec.ofChange Rows.watchfulSpec) false w args)
   ((OpenSpec.ofChange Rows.watchfulSpec).postWith enc ar Tryz.f10 F (outsideKept [.timePasses]) false true false) :=
 lS (C:=Tryz.checked) Sp started func10
  (ChangeSpec.FO (C:=Tryz.checked) (World.doorLaid ar 400 os) #[.slice none 0 0,.slice none 0 0] 8 rfl (World.shaped_of_RefB af af) af af af (Sq os _))
  (fun W base args ds gs before ow hW hwt hl se=>Sr func10 af params10 af rfl (fun _ _ _=>rfl) hb W base args ds gs before ow hW hwt hl se)
theorem Co(hb:xy 10 Tryz.f10):Rows.WatchfulSaid :=
 OpenClaim.holds_of_wide_leaving_time 10 Tryz.f10 rfl rfl rfl rfl rfl rfl rfl ⟨rfl,rfl,rfl,rfl,rfl⟩ rfl rfl rfl rfl rfl af func10 af
  (jr af) (by unfold Func.isWrapper;first|(rw[if_pos (by decide +kernel)];kernel_rfl)|(rw[if_neg (by decide +kernel)];exact⟨rfl,rfl⟩))
  (fun os started H enc _ F=>zO hb os started H enc F)
theorem Dm(hb:xy 10 Tryz.f10):Rows.WatchfulCardSaid :=
 OR .later [.data,.data,.data] true (true,"272f22f5bcccea6d7e0721f040c47d03f23f0294770f25dab8d2c470e10df7bb") false
  (Co hb) af watchful_row_tie rfl ⟨rfl,rfl⟩ af rfl
  (fun f fn hf pZ=>by
   obtain rfl:f=10:=aK ((show ar.funcNamed "kiln/kilnkeep.Watchful" = some 10 by kernel_rfl).symm.trans hf) |>.symm;obtain rfl:fn=Tryz.f10:=(aK (Tryz.func10.symm.trans pZ)).symm;exact⟨af,fun j t ht=>by
    rw[params10] at ht;have hm:t∈[25,26]:=by simpa using ew ht
    have gY:([25,26].all fun u=>!ar.wantsStandIn u)=true:=af;exact(show ar.wantsStandIn t=false by simpa using List.all_eq_true.1 gY t hm)⟩)
  af
end
end Go.Proofs.Kz
