import Derived.Test.YtkbinfhclaafhaaGreatDoorW18
import Derived.Test.YtkbinfhclaafhaaGreatDoorW19
import Derived.Test.YtkbinfhclaafhaaGreatDoorW20
import Derived.Deep.DeepHandedRow
namespace Go.Proofs.YtkbinfhclaafhaaGreatDoor
open Go.RowKit
open Go.Proofs.Tryz
set_option maxRecDepth 100000
set_option maxHeartbeats 32000000
set_option linter.all false
section
open Go.ChangeShapes Go.WideShapes Go.ChangeAt Go.RowKit Go.Deep Go.Lib
def ajQ(a:Os)(args:Array Value):laidMetH prog Rows.allUptoRow.laid ((G6<|E0<|World.doorLaid prog 200 a).forCall (λ_ _=>0) ⟨#[],args,[]⟩).memory:=at6 a args
def ajS(c:Os){H:Type}(a:TypeId×Value->H):(Rows.OpenSpec.upto Rows.allSpec).preRow a prog Tryz.f12 [] false Rows.allUptoRow.laid ((G6<|E0<|World.doorLaid prog 200 c).forCall (λ_ _=>0) ⟨#[],#[.slice none 0 0],[]⟩).memory #[.slice none 0 0]:=by
 have e:(DataW.whole a prog ((G6<|E0<|World.doorLaid prog 200 c).forCall (λ_ _=>0) ⟨#[],#[.slice none 0 0],[]⟩).memory Tryz.f12.params.toList (Rows.OpenSpec.upto Rows.allSpec).vars false #[Value.slice none 0 0].toList 8).map (λx=>(x.1,x.2.1))=
   some ([.nil],[]):=by kernel_rfl
 obtain⟨⟨f,g,h⟩,hx,b⟩:=yI.1 e;simp only[IQ]at b;obtain⟨rfl,rfl⟩:=b;exact OpenSpec.preRow_of_cond 8 hx (by kernel_rfl) (λk d=>by cases d;rfl) (by kernel_rfl)<|ajQ c _
def ajU(c:Os){H:Type}(b:TypeId×Value->H):∃(w:World)(a:Tape)(i:Input),w.os=c/\(w.forCall a i).Shaped prog/\i.vars=[]/\Input.okWide prog (w.forCall a i) .any w.1.size 12 i/\(Rows.OpenSpec.upto Rows.allSpec).preRow b prog Tryz.f12 [] false Rows.allUptoRow.laid (w.forCall a i).memory i.args/\({modest:=false}:Assume).holds prog (lone (Frame.enter prog 12 i.args .normal) []<|w.forCall a i):=by
 have d:Input.okWideB prog ((G6<|E0<|World.doorLaid prog 200 c).forCall (λ_ _=>0) ⟨#[],#[.slice none 0 0],[]⟩) 12 ⟨#[],#[.slice none 0 0],[]⟩=true:=by kernel_rfl
 exact⟨G6<|E0<|World.doorLaid prog 200 c,λ_ _=>0,⟨#[],#[.slice none 0 0],[]⟩,rfl,World.shaped_of_RefB (by kernel_rfl)<|by kernel_rfl,rfl,(Input.okWide_of_okWideB d).2,ajS c b,by simp only[Assume.holds];exact⟨by simp,by simp,λ_=>Modest.zero,by simp,by simp⟩⟩
def ajP(P:Os)(d:P.Started)(H:Type)(f:TypeId×Value->H)(F:Stop.Interp):ReturnsInHanded {} Tryz.checked P 12 .any ((Rows.OpenSpec.upto Rows.allSpec).preRow f prog Tryz.f12 [] false Rows.allUptoRow.laid) (((Rows.OpenSpec.upto Rows.allSpec).at F).post f prog Tryz.f12 false true false false):=by
 refine returnsInHanded_of_row (C:=Tryz.checked) (s:=Rows.OpenSpec.upto Rows.allSpec) own d (by kernel_rfl) func12 (ajU P f) ?_;intro W o args E V B n hW _ m Q D M _;have k:Rows.uptoSmall H (E++V)=true:=m _ rfl;have g:∀(j:Nat) t v,Tryz.f12.params[j]? =some t->args[j]? =some v->Value.okWide prog W .any o t v:=n;have i:=hW;obtain⟨p,q,R,hV,rfl,ad,ae⟩:=hW;have Y:DataW.TrodAll f prog W 0 (λ_=>true) true Tryz.f12.params.toList args.toList E p:=R;have z:(DataW.weightsEach prog (Tryz.f12.params.toList++(Rows.OpenSpec.upto Rows.allSpec).bare.plain.varTypes prog)<|E++V).all (·<=reachBytes)=true:=Q;rw[params12]at Y g z;obtain⟨v0,d0,rfl,rfl,X⟩:=trodAll_one Y;obtain⟨rfl,rfl⟩:=trodVars_none hV;obtain⟨aL,T,S,hE⟩:=al9 D;have J:=akL D;have Z:=aqH D;have hS:IY W aL T S:=⟨hE,J,apl M,Z,by rcases Z.sz with h|⟨_,h⟩<;>omega,atG D⟩
 clear R n Q m;simp only[mH]at i;obtain⟨ao,l,r,rfl⟩:=okWide_slice underlying22<|g 0 22 v0 rfl rfl;have I:=X;obtain⟨U,hf⟩:=X;have K:Rows.uptoBulk d0<=1048576:=by have h:Rows.uptoBulkAll ([d0]++[])<=1048576:=J3 k;simp only[mH,Rows.uptoBulkAll]at h;omega
 have A:Calls prog 12 #[.slice ao l r] W λe w'=>e= .returned (.bool true)/\Below W.1.size W w':=by rcases ap6 (by simpa [Value.cells]using hf) K with⟨ab,u,y⟩|⟨b,N,aa,u,O,y,hl,hO,hs,a,c,ps,hx,ac⟩;simp at y;obtain⟨rfl,rfl,rfl⟩:=y;exact ajO _ _ W;simp at y;obtain⟨rfl,rfl,rfl⟩:=y;have hd:d0= .slice a c:=congrArg Prod.fst hx;have w:=sized_slice z (j:=0) (t:=22) (e:=29) (elems:=a) (spare:=c) rfl (by rw[hd];rfl) underlying22;rw[akV]at w;have hn:l<=1000000000000000:=(by simp only[reachBytes]at w;omega);exact ajN O b N r l W aL T S hS hl hn hO hs
 refine A.mono λe W' ⟨he,w⟩=> ?_
 subst he;have G:((Rows.OpenSpec.upto Rows.allSpec).at F).fn H ([d0]++[])={results:=[.lit (.bool true)],args:=[d0]}:=rfl;have L:∀x∈p,x.block<W.1.size:=λx hx=>by simpa using i.lt x hx
 refine⟨_,rfl,_,_,_,[],p,[],i,?_,?_,?_,w.frame _,λh=>by cases h⟩;rw[G];exact trodAll_mk1<|shut_bool underlying4 true;rw[G];exact trodAll_mk1<|Below.trod laidOut (by kernel_rfl) (J3<|by kernel_rfl) I w L;rw[G];rfl
def ajT:Rows.AllUptoSaid:=
 OpenClaim.holds_of_cond 12 Tryz.f12 rfl rfl rfl rfl rfl rfl rfl ⟨rfl,rfl,rfl,rfl,rfl⟩ rfl rfl rfl rfl rfl (by kernel_rfl) func12 ajM
  (J3<|by kernel_rfl) (by unfold Func.isWrapper;first|(rw[aj<|by decide+kernel];kernel_rfl)|(rw[ai<|by decide+kernel];exact⟨rfl,rfl⟩))
  (λc a H b _ F=>by rw[OpenClaim.pre_eq_preRow];exact ajP c a H b F)
end
