import Derived.Test.YtgjekaaknjgnmaaGreatDoorAh
set_option linter.all false
set_option maxHeartbeats 40000000
set_option maxRecDepth 200000
namespace Go.Proofs.Kz
open Go.Proofs.Tryz
open Go.Proofs.Tryz renaming prog → au
open _root_.ByteArray renaming empty → aO
open Go Go.Ren Go.Conc Go.Proofs Go.ConcN
section
open Go.ChangeShapes Go.WideShapes Go.Deep Go.RowKit Go.ConcM
open YtgjekaaknjgnmaaGreatDoor
theorem Hp(hb:pU 8 Tryz.f8)(os:Os)(started:os.Started)(H:Type)(enc:TypeId×Value->H)(F:Stop.Interp):
  ReturnsInLeavingWide Rows.wholeRow.assume Tryz.checked os 8 .any (fun w args=>(Rows.wholeSpec.pre enc au Tryz.f8 [] false w args/\laidMetH au Ox w)/\sizedMet enc au Tryz.f8 (OpenSpec.ofChange Rows.wholeSpec) false w args)
   ((OpenSpec.ofChange Rows.wholeSpec).postWith enc au Tryz.f8 F (outsideKept [.timePasses]) false true false) :=
 ja (C:=Tryz.checked) Kt started func8
  (ChangeSpec.yQ (C:=Tryz.checked) (World.doorLaid au 400 os) #[.slice none 0 0,.slice none 0 0] 8 rfl (World.shaped_of_RefB ah ah) ah ah ah (Kv os _))
  (fun W base args ds gs before oB hW hwt hl tf=>Kw func8 ah params8 ah rfl (fun _ _ _=>rfl) hb W base args ds gs before oB hW hwt hl tf)
theorem KF(hb:pU 8 Tryz.f8):Rows.WholeSaid :=
 OpenClaim.holds_of_wide_leaving_time 8 Tryz.f8 rfl rfl rfl rfl rfl rfl rfl ⟨rfl,rfl,rfl,rfl,rfl⟩ rfl rfl rfl rfl rfl ah func8 ah
  (fo ah) (by unfold Func.isWrapper;first|(rw[if_pos (by decide +kernel)];kernel_rfl)|(rw[if_neg (by decide +kernel)];exact⟨rfl,rfl⟩))
  (fun os started H enc _ F=>Hp hb os started H enc F)
theorem aaV(hb:pU 8 Tryz.f8):Rows.WholeCardSaid :=
 FK .later [.data,.data,.data] true (true,"272f22f5bcccea6d7e0721f040c47d03f23f0294770f25dab8d2c470e10df7bb") false
  (KF hb) ah whole_row_tie rfl ⟨rfl,rfl⟩ ah rfl
  (fun f fn hf qC=>by
   obtain rfl:f=8:=aQ ((show au.funcNamed "kiln/kilnkeep.Whole" = some 8 by kernel_rfl).symm.trans hf) |>.symm;obtain rfl:fn=Tryz.f8:=(aQ (Tryz.func8.symm.trans qC)).symm;exact⟨ah,fun j t ht=>by
    rw[params8] at ht;have hm:t∈[25,26]:=by simpa using dW ht
    have iB:([25,26].all fun u=>!au.wantsStandIn u)=true:=ah;exact(show au.wantsStandIn t=false by simpa using List.all_eq_true.1 iB t hm)⟩)
  ah
end
end Go.Proofs.Kz
