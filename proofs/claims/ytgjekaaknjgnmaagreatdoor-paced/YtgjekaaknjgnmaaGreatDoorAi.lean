import Derived.Test.YtgjekaaknjgnmaaGreatDoorAh
set_option linter.all false
set_option maxHeartbeats 40000000
set_option maxRecDepth 200000
namespace Go.Proofs.Kz
open Go.Proofs.Tryz
open Go.Proofs.Tryz renaming prog → ar
open _root_.ByteArray renaming empty → aN
open Go Go.Ren Go.Conc Go.Proofs Go.ConcN
section
open Go.ChangeShapes Go.WideShapes Go.Deep Go.RowKit Go.ConcM
open YtgjekaaknjgnmaaGreatDoor
theorem aaU(hb:xy 11 Tryz.f11)(os:Os)(started:os.Started)(H:Type)(enc:TypeId×Value->H)(F:Stop.Interp):
  ReturnsInLeavingWide Rows.pacedRow.assume Tryz.checked os 11 .any (fun w args=>(Rows.pacedSpec.pre enc ar Tryz.f11 [] false w args/\laidMetH ar Sn w)/\sizedMet enc ar Tryz.f11 (OpenSpec.ofChange Rows.pacedSpec) false w args)
   ((OpenSpec.ofChange Rows.pacedSpec).postWith enc ar Tryz.f11 F (outsideKept [.timePasses]) false true false) :=
 lS (C:=Tryz.checked) Sp started func11
  (ChangeSpec.FO (C:=Tryz.checked) (World.doorLaid ar 400 os) #[.slice none 0 0,.slice none 0 0] 8 rfl (World.shaped_of_RefB af af) af af af (Sq os _))
  (fun W base args ds gs before ow hW hwt hl se=>Sr func11 af params11 af rfl (fun _ _ _=>rfl) hb W base args ds gs before ow hW hwt hl se)
theorem aa1(hb:xy 11 Tryz.f11):Rows.PacedSaid :=
 OpenClaim.holds_of_wide_leaving_time 11 Tryz.f11 rfl rfl rfl rfl rfl rfl rfl ⟨rfl,rfl,rfl,rfl,rfl⟩ rfl rfl rfl rfl rfl af func11 af
  (jr af) (by unfold Func.isWrapper;first|(rw[if_pos (by decide +kernel)];kernel_rfl)|(rw[if_neg (by decide +kernel)];exact⟨rfl,rfl⟩))
  (fun os started H enc _ F=>aaU hb os started H enc F)
theorem abe(hb:xy 11 Tryz.f11):Rows.PacedCardSaid :=
 OR .later [.data,.data,.data] true (true,"272f22f5bcccea6d7e0721f040c47d03f23f0294770f25dab8d2c470e10df7bb") false
  (aa1 hb) af paced_row_tie rfl ⟨rfl,rfl⟩ af rfl
  (fun f fn hf pZ=>by
   obtain rfl:f=11:=aK ((show ar.funcNamed "kiln/kilnkeep.Paced" = some 11 by kernel_rfl).symm.trans hf) |>.symm;obtain rfl:fn=Tryz.f11:=(aK (Tryz.func11.symm.trans pZ)).symm;exact⟨af,fun j t ht=>by
    rw[params11] at ht;have hm:t∈[25,26]:=by simpa using ew ht
    have gY:([25,26].all fun u=>!ar.wantsStandIn u)=true:=af;exact(show ar.wantsStandIn t=false by simpa using List.all_eq_true.1 gY t hm)⟩)
  af
end
end Go.Proofs.Kz
