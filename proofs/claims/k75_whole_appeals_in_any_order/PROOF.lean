import PyProof.Rows.All
import Wide.All
import OpenK.AllK
import Wide.FinOn
import Lean
import PyProof.EqAt
import PyProof.EqKinds
import PyProof.TupleCall
import PyProof.NeKinds
import PySem.Challenge.RW_hall_k75_whole_appeals_in_any_order
set_option Elab.async false
set_option linter.all false
set_option maxRecDepth 100000
set_option maxHeartbeats 4000000
set_option compiler.extract_closed false
open Lean in
local macro_rules|`(command|mutual $cs* end)=>do
 let cs:=cs.map fun c=>c.raw
 unless cs[0]!.isOfKind ``Parser.Command.where do Macro.throwUnsupported
 let ps:Array Name:=#[`ε,`ζ,`η,`θ,`ι,`ν]
 let ap:= ``Parser.Term.app
 let un:=fun(s:Syntax)=>if s.isOfKind `par then s[0] else s
 let more:=fun(f:Syntax)(as:Array Syntax)=>if as.isEmpty then f else if f.isOfKind ap then .node .none ap #[f[0],mkNullNode (f[1].getArgs++as)] else .node .none ap #[f,mkNullNode as]
 let put:=fun(b:Syntax)(as:Array Syntax)=>b.rewriteBottomUp fun s=>match s with
  |.ident _ _ n _=>match ps.idxOf? n with
   |some i=>.node .none `par #[as.getD i s]
   |none=>s
  |.node i k l=>
   if k==ap&&s[0].isOfKind `par then
    let f:=s[0][0]
    more (if f.isOfKind ``Parser.Term.paren then f[1] else f) (s[1].getArgs.map un)
   else .node i k (l.map un)
  |s=>s
 let ex:=fun(tb:Std.HashMap Name (Nat×Syntax))(c:Syntax)=>c.rewriteBottomUp fun s=>
  let spl:=fun(l:Array Syntax)(k:SyntaxNodeKind)=>if l.any (·.isOfKind `spl) then l.flatMap fun x=>if x.isOfKind `spl then if k==nullKind then x.getArgs else #[x[0]] else #[x] else l
  match s with
  |.ident _ _ n _=>match tb[n]? with
   |some (0,b)=>b
   |_=>s
  |.node i k l=>
   if k==ap then match s[0] with
    |.ident _ _ n _=>match tb[n]? with
     |some (m,b)=>let as:=s[1].getArgs;more (put b (as.extract 0 m)) (as.extract m as.size)
     |_=>s
    |f=>if f.isOfKind ap then more f s[1].getArgs else s
   else if k== ``Parser.Tactic.show&&s[1].isOfKind ``Parser.Term.byTactic then .node .none `spl s[1][1][0][0].getArgs
   else if k== ``Parser.Term.explicitBinder&&s[2].getNumArgs==0 then
    let as:=s[1].getArgs
    match s[1][0] with
    |.ident _ _ n _=>match tb[n]? with
     |some (_,b)=>.node .none `spl (put b (as.extract 1 as.size))[1].getArgs
     |_=>s
    |b=>if b.isOfKind ``Parser.Term.forall then .node .none `spl b[1].getArgs else s
   else if k== ``Parser.Term.paren&&s[1].isOfKind ``Parser.Term.typeAscription then s[1]
   else .node i k (spl l k)
  |s=>s
 let mut tb:Std.HashMap Name (Nat×Syntax):={}
 for a in cs[1]![1][3][0][0][0].getArgs do
  let b:=ex tb a[3]
  let b:=if b.isOfKind ``Parser.Term.paren&&b[1].isOfKind ``Parser.Term.byTactic then b[1] else b
  let mut n:=0
  for x in b.topDown do
   if ps.contains x.getId then n:=n+1
  tb:=tb.insert a[1][0][0].getId (n,b)
 let mut au:Array Syntax:=#[]
 let mut o:=#[]
 for c in cs.extract 2 cs.size do
  if c.isOfKind ``Parser.Command.print then o:=o.push (<-`(command|end $(⟨c[1]⟩):ident)).raw
  else if c.isOfKind ``Parser.Command.where then o:=o.push (<-`(command|end)).raw
  else
   let c:=ex tb c
   for b in c.topDown do
    if b.isOfKind ``Parser.Term.binderTactic&& !au.contains b[2] then
     au:=au.push b[2]
     o:=o.push (<-`(command|theorem $(mkIdent (.str (.mkSimple "_root_") s!"_a{au.size}")) (h:True:=by $(⟨b[2]⟩)):True:=h)).raw
   let v:=au
   o:=o.push (c.rewriteBottomUp fun d=>match d with
    |.atom _ v=>.atom .none v
    |.ident _ r n p=>.ident .none r n p
    |.node _ k l=>
     let d:=Syntax.node .none k l
     if k== ``Parser.Command.declaration&&(d[1].isOfKind ``Parser.Command.definition||d[1].isOfKind ``Parser.Command.abbrev)&&d[1][1][0].getId != `lw then d.setArg 0 (d[0].setArg 4 (mkNullNode #[.node .none ``Parser.Command.noncomputable #[mkAtom "noncomputable"]]))
     else if k== ``Parser.Term.explicitBinder&&d[3][0].isOfKind ``Parser.Term.binderTactic then
      match v.idxOf? d[3][0][2] with
      |some i=>(d.setArg 3 (mkNullNode #[])).setArg 2 (mkNullNode #[d[2][0],.node .none ap #[mkIdent ``autoParam,mkNullNode #[d[2][1],mkIdent (.str (.str (.mkSimple "_root_") s!"_a{i+1}") "_auto_1")]]])
      |none=>d
     else d
    |s=>s)
 return mkNullNode o
mutual
#where
def q
|Μ=>fun ε=>ζ|AL=>(ε:Int)|AW=>.ref ε|B4=>.int ε|ξ=>(by omega)|τ=>(by decide)|BG=>ε ->ζ ->Prop|ο=>List Str|DC=>ε[ζ]?=some η|ae=>ε P w K mg|C5=>ε X F0 H0 ζ η|Α=>fun ε ζ η=> ?_|A2=>Μ _ ε|Ο=>(ε:Rat)|ρ=>by omega|ψ=>List D|π=>∀(K:W.Frag)(c:Cls),_|BN=>.lst ε|H_=>ε b=some ζ|SD=>cC (B4 ε)|LJ=>Inv X pins σ ε ζ|Cl=>(by trivial)|B'=>DC ε i ζ|χ=>List V|VI=>ε ζ (aj η aq)|iA=>List (ε×ζ)|Ρ=>ε ->ζ ->η ->θ ->ι|Ev=>Option ε|Θ=>decide (ε)|Τ=>(cV 0)|DO=>ε ->Prop|D9=>(ε:Nat)|ω=>r.1|AA=>(ε ζ).map|AB=>by rw[ε];exact ζ|Φ=>(qv 0)|Χ=>if_neg ε|C6=>fun _=>ε|AD=>fun ε ζ=> ?_|AQ=>ε<=sizeLine|Ap=>if_pos ε|Dx=>ε a=some ζ|af=>LJ H ε|Ζ=>(cV 1)|Δ=>(qv 1)|FM=>ε K F0 H0 ζ|AF=>.ref a|B0=>by refine⟨ε,ζ,η⟩|DS=>cB ε ζ (SD η)|A3=>r.2.1|B8=>by obtain⟨ε,ζ⟩:=η θ|KE=>ε z E cx|AC=>fun z=>ε|E1=>.type ε|Ε=>af s|υ=>.no|Η=>(by simp)|Cn=>VI aj ε ζ|As=>by exact ε|D_=>aA ε (aA ζ aN)|AI=>if ε then ζ else η|Co=>ε x=some ζ|Υ=>ae ε base c|BO=>by refine⟨ε,ζ⟩|Β=>List Value|At=>by obtain⟨ε,ζ,η⟩:=θ ι|G_=>fun _ ε=>ζ|VM=>ε Γ (fun ζ Γ1=>η) E|B1=>C5 QE ε ζ|PR=>bR (A2 ε) ζ η|Bi=>by simpa using ε|Ι=>.non|AG=>List α|AM=>p.1|IR=>(AW f)|Cb=>⟨_,ε,ζ⟩|pd=>BG ε (DO ζ)|DD=>z6 (m:=ε)|D'=>some ε|Bn=>.pu (B4 ε)|FR=>Nat ->ε|AR=>mg ε =none|DZ=>ae dw base ε ζ η (θ c)|Κ=>by decide|BI=>(ε ζ).length|EA=>ε _ _ _ _|Ν=>List Addr|Ψ=>List Rat|LL=>ε=false|B5=>AL (D9 ε)|AJ=>.none|A4=>#[cF ε]|ET=>H_ ε o|VO=>C6 Ex|ML=>(match ε with | ζ=>η | _=>False)|PU=>fun ε H Q=>ζ|Ξ=>List Int|An=>by rw[if_neg ε]|AO6=>ε X.prog X.w|AS=>by obtain⟨ε,ζ,η⟩:=θ ι ν|AN=>by simpa using ε|AT=>List Nat|VQ=>Same F ε|Da=>(e::es)|SE=>fun Γ P E=>ε|AHV=>Hd.adr (ε K ζ η)|Cc=>show ε from ζ|PV=>by decide+kernel|Au=>List Key|PY=>(G_ _ rfl)|C7=>by exact ε|EB=>ε pins s σ H|yv=>#[ε (i:=ζ) nd rfl Cl η]|Ω=>fu K ε ζ η f fd|MM=>ε b=none|LM=>Ev Value|iE=>ε σ H fun ζ H1=>η|iF=>{cls:= ε,data:= ζ}|EU=>hName ε|A5=>List Rw|KF=>AA List.range ε|DE=>eval ε X.env|Db=>.inl ε|CL=>.inr ε|pf=>fun b ε e=>ζ|FS=>fun _ _ ε=>ζ|EI=>⟨F,Γ,_,R,h,ε⟩|ph=>ds.length=ε|A_=>by rw[ε] at this|AX=>by show B0 ε ζ ?_|BD=>by simp [ε]|AE=>List Expr|pj=>FM SR ε ζ σ η|BA=>by rw[<- ε];exact ζ|LN=>ε K c (fin Q) ζ VO|EJ=>aC ε ζ (bB η)|By=>i+1|F8=>aJ K F ε ζ|PZ=>fun _ _ _ h=>ε h|ah=>⟨ε,rfl⟩|SF=>(AO6 model)|KG=>fC ε ζ PY|yy=>iA ε V|IA=>upd H ε ζ|MO=>(model prog w)|AO7=>{s with ε:=ζ}|CA=>by refine⟨ε,ζ,η,θ⟩|SG=>.Name x ε|KI=>SE (VM ε ζ η)|AH=>by nofun|A8=>(cV 2)|C8=>fun ds P _=>ε|IB=>⟨ε,ζ,η,rfl,θ⟩|iN=>List (List ε)|BM=>LL (ε==(ζ :Str))|SH=>BG ε Hp|ai=>PU σ ε|SI=>ε X.K F0 H0 ζ|AK=>by have ε:=Hd.ix B ζ rfl|pk=>Nat ->ε ->ζ|EC=>yv gB ε ζ|AHW=>wpAny ε A ζ Q E s|BE=>(i+1)|AO=>∀{c:Cls}{ds P E}(h:ε c ds P E),_|FU=>fun _ ε=>ζ|CB=>Str ->LM|AU=>∀{K:W.Frag}{c:Cls}{ds Q Ex}(h:ε c ds Q Ex),_|y0=>(hr.mono τ)|AV=>⟨ε K c,ζ,fun ds Q Ex h=>η h⟩|C9=>p.2|AY=>by simp|Ct=>(AW a)|F9=>Dx H ε|BY=>ε (X:=X.wsh z)|E2=>if ε= ζ then η else θ|al=>B' ε x|A9=>z7 (α:=_)|BV=>by obtain⟨ε,ζ,rfl,η,θ⟩:=ι|LO=>.type ε|B9=>.int i|am=>ε X.prog X.w ζ η|B_=>fun h=>ε|y9=>Α ε s1 ζ|HA=>ε .leaf|CC=>(zN _)|Be=>P ε Γ1|AZ=>∀(_:Cls),_|VS=>by obtain⟨ε,rfl⟩:=ζ|BB=>(qv 2)
|Pc=>H_ ε u|HC=>by refine z6 (ε ζ)|FV=>(.dK kvs)|F_=>LN ε (aK ζ ds)|Pe=>AO7 heap ε|IC=>ae ε base ζ η θ|y_=>W.mg_of X G ε|BQ=>by exact .inl ε|iO=>ε ζ (hr.mono τ) rfl η|BFp=>ε (P:=ζ) (w:=w) (base:=base)|CM=>List Row|D1=>by rw[if_pos ε]|zC=>ε rows w|A0=>mg ε =some IR|AHX=>BFp ε l.prog|ED=>by rw[List.length_map]|pp=>by obtain⟨F,Γ,ε,R,h,k⟩:=ζ;exact η|IS=>∀b,ε ->ζ|A1=>_::_|AO8=>⟨f,fd,ε,hm,F.kp,F.binds ζ⟩|C3=>⟨ε,ζ,rfl,η,θ⟩|LP=>.builtin ε|HE=>.str ε|LS=>Α b ε ζ|LT=>PR ε ζ aW|VT=>dB ε y0 rfl ζ|B6=>AB ε ζ|BS=>.nil|MQ=>#[gJ ε]|A6=>by obtain⟨ε,ζ,η,θ⟩:=Hd.fun_at ι|A7=>by show B8 ε L Hd.seen_cons L|AAa=>iA Str ε|BC=>by unfold ε at h|EV=>Q (AW ε) ζ|VU=>pj ε ζ Γ|ar=>KG ε aW|LU=>aA ε aN|FX=>fun b hb=>ε|DF=>fun j=>ε|B2=>fun w=>ε|VW=>(by rcases zU.mp ε with ζ | η)|av=>(gH P w)|BF=>AO8 (iU F ε (PZ ζ) η) θ|BFq=>AW (AHV W.nsIn mainGlobals ε)|FY=>⟨ε,[]⟩|BH=>by cases h|Bz=>by exact .inr ε|CO=>i<n|AHY=>pk Nat ε|LV=>r.2.2|VX=>by exact False.elim ε|iP=>iO dB ε ζ|iS=>AQ (D9 ε)|CD=>by show BO ε ?_|zD=>.Call ε ζ [] pos|D3=>fun i=>ε|SK=>ε a=none|BU=>Ap rfl|AAb=>BG Hp VK|LW=>⟨_,ε,ζ,η⟩|E8=>starEach ε X.env|KK=>(a::bs)|DT=>VQ F'|E9=>(false,ε)::ζ|SL=>ai (iE ε ζ η)|E3=>(by rfl)|AAc=>.Attribute ε ζ η|EK=>by rw[ε];rfl|B3=>(KE ha)|pr=>fun b o ε ζ=> η|HG=>iA α (β×Int)|IT=>∀b∈ε,ζ|zI=>(bx _)|AHZ=>{ε with heap:=ζ,toks:=η}|BFr=>show(ε:ο).Nodup by show PV|E_=>Μ r ε|GA=>(ε ζ η).trans|GB=>Ο (AL ε)|MR=>(s1.heap.objs.size+1)|HH=>by refine DD ε ζ|Cf=>ah _|iX=>kW rows w|IU=>by show VS t ε|CF=>h.1|DH=>Μ z ε|pv=>C5 ε ζ t|EL=>(k+1)|E4=>AHW MO ε|IY=>VT ε (D_ ζ η)|AAd=>(BFq "Sitting")|De=>fun σ H Q ε=>ζ|zS=>.frz o ε|B7=>AHX ε c ζ (y_ η) θ|CH=>by cases this|LX=>pf o ε|SO=>ε (X:=X.wsh z) (ζ:=η)|VY=>List.getElem?_eq_getElem ε|KL=>by rw[ε ζ];exact η|CS=>AL k|HI=>.pu (BN ε)|HK=>DC ε j ζ|D6=>X.calm=true|Pf=>VI gZ ε ζ|aw=>SI SR ε ζ σ η|CI=>A4 (MQ ε)|VZ=>fun ε σ H ζ=>η|KM=>H ε=some ζ|FA=>AL i|Fc=>(SD 1)|EE=>Χ q|CU=>a::l|FB=>EJ ε [ζ,η] θ|AO9=>pd D D|LY=>aR K c.ak ε|V_=>AAc ε ζ apos|Pi=>AHZ s ε ζ|EF=>∀{K:W.Frag},_|KO=>z9 _ rfl|ia=>wpAny SF X.A ε ζ|CY=>by obtain⟨_,_,rfl⟩:=len2 hl;exact rfl|BFs=>backTo ε (starEach ζ X.env)|C_=>(cV 3)|EM=>Ap q|DU=>Str ->Rat|pz=>Cn Τ ε|HL=>Cb ε rfl|Nl=>ML d ε ζ|MS=>ML ds ε ζ|FC=>KF n|Ch=>ph 2|GE=>if ε then ζ else 0|C4=>by split at h|DI=>List Pt|EN=>(SG npos)|D7=>Array Value|ax=>EB ε _ I h|Pl=>⟨o,ε,ζ⟩|Do=>⟨ε,?_⟩|DJ=>Μ h ε|D4=>BG ε Shared|ay=>C5 QS ε ζ|DA=>α ->Rat|ib=>fun D Γ E=>ε|DB=>D ->AO9|DL=>VU F H|DM=>∀{K:W.Frag}{F:Hp},_|Po=>H ε=none|IZ=>B' Γ ε|DV=>Nat.zero_le _|ic=>Rep K F ε ζ|Nn=>∀b∈ε,ζ|Ff=>ε _ _ _|No=>.lst (ε ζ)|Pp=>Sz 4000 ε|WA=>ε (by simp [ζ])|ze=>pv QA ε|SS=>ε (aA ζ aN)|GG=>if ε=true then ζ else η|FD=>∀{ε :ζ},η ->θ|AAe=>s1.trans ε|D5=>(qv 3)|Fh=>X.mg ε=none|KP=>Ev Int|FE=>by have:=ε;omega|HP=>pf u ε|HQ=>by show CA ε ζ η ?_|Fk=>IB ε _ ζ η|AAf=>ε K ζ η =some none|MT=>Pe h'|Fm=>F8 ds vs|LZ=>⟨ε,rfl,ζ⟩|GH=>by obtain⟨ε,ζ,η⟩:=h|EW=>by rw[ε,ζ]|EG=>List Env|EX=>List T|EO=>AL n|Ic=>.lst xs|zg=>Co ε c|HR=>(zV.mp ε).1|AAg=>(EU 0)|Ps=>al X.N|FF=>Uq rows|p6=>Vals ε us|Pw=>bV ε (y9 ζ η)
|p9=>eval ε X.env|MU=>iy Γ σ b|a_=>A3∈ε|ID=>List Bd|E5=>.ref l|GI=>cB cO ε ζ|GL=>(n+1)|Lc=>(BN vs)|P1=>AL ε≠0|FG=>EA k.nx|zh=>IA ε (BN ζ)|ie=>DS cO ε 1|AAh=>o7 (A2 ε) rfl ζ η|WB=>(ε b hb).1|GM=>fD ε _ ζ η (bB θ) ι|Ll=>ε σ H1 fun ζ H2=>η|AHa=>ε=vs.length|FH=>ε ->Ρ ζ η θ ι ν|D8=>by by_cases q:ε|AO_=>by obtain⟨_,rfl⟩:=ε|HU=>⟨rfl,ε⟩|IE=>fun ε ζ η θ=> ?_|Nw=>by obtain rfl:=ε|MV=>fun i ε=>ζ|P3=>upd H1 ε ζ|MW=>by exact absurd ε ζ|P4=>AHY Int|AAi=>ε+1<cLine|WC=>BFs pos ε|AbQ=>k _ _ F H|AAj=>blk X sc N' ε|Id=>[AF]|GN=>by rename_i q|KS=>by rfl|AHb=>(s.heap.push ε).ζ|EH=>by exact h.elim|Iq=>fun ε ζ=> ?_|WE=>(AW C)|Lm=>.pu (HE ε)|KU=>DS bU ε ζ|AAk=>List (Option ε)|Fr=>MM H|P5=>gq (As ε)|MX=>iF (E1 ε) (.fields ζ)|Lo=>Ο ε/ Ο ζ|WF=>z8 _ e|AO'=>(gj rows w).ε|Lu=>∀r∈rows,ε|AAl=>(ns.map .int)|bE=>(X.wsh z)|N0=>aj ε aq|MY=>.free|EQ=>#[sU]|IF=>by rw[ε,ζ];exact η|N1=>H_ H ε|Fs=>by by_cases e:ε=ζ|Lv=>Cb rfl ε|N2=>(by rcases zT.mp ε with ζ | η)|L0=>dt rs ε|Ix=>SH St|WG=>am bN ε ζ|P6=>by show VW ε rfl ζ|ER=>by intro pins s σ H Q I h|p_=>SL ε x ζ|ST=>#[iP ε (D_ ζ η)]|WH=>ia ε ζ X.xe s|ES=>(.refl _)|GS=>(-1)|E6=>(cV 4)|KW=>by obtain⟨ε,ζ,η,θ⟩:=id ι|bP=>(a::cs)|AHc=>B1 ε te|SU=>fun Γ P _=>ε|Iy=>.bl _|EZ=>∀(c:Cls),_|MZ=>by rw[q] at e|L1=>by show HC ε ?_|Ee=>x::xs|HV=>pp P ε (EI ζ)|I0=>pd ψ ψ|GT=>by rw[ε] at ζ;cases η|WI=>dW Γ σ H b|AHd=>fun ds P=>ε|Eg=>by obtain⟨_,_,rfl,_⟩:=h;rfl|N3=>ε pins s1 σ H1|AAm=>.Call ε ζ [] η|WJ=>AbQ (Gr.refl sF) ε ζ|AAn=>DecidableEq ε|ii=>(ε).natAbs|Kb=>fun r=>ε|N4=>⟨r,ε,ζ⟩|ij=>by obtain⟨ε,ζ,rfl,η,θ,ι⟩:=ν|L4=>ε=some u|L5=>Μ j ε|IG=>AL 0|E7=>zN _|qA=>by show ε;omega|SV=>by rw[ε,ζ];rfl|I_=>P (B4 ε)|JA=>EA k|SW=>IS ε (ζ b=η b)|qB=>.ins C dx ε|FI=>∀{α:Type},_|GU=>show ε=ζ by omega|IH=>ic d v|zk=>ε ζ pins s σ|BFt=>AAh ε aU boot_len|zn=>(ε).any (·.1)=false|Mb=>(ε).length|JE=>∀p∈ε,ζ|Fu=>by rw[ε]|HZ=>List β|SY=>s1.heap.objs.size+1|Mc=>cB cM ε ζ|zo=>Apart σ ε ζ|FK=>(KE hb)|N9=>fun b ε q=>ζ|WN=>DS cO ε 0|WO=>LT mR ε|APA=>ε=pure false|SZ=>Pf jK ε|Sb=>ib (VM ε ζ η)|Sc=>L2.Cls K c.ak|qE=>SO ε i i|FL=>AD b hb|APB=>iM av P w K mg base ε ζ|qS=>.tr as (.ε ζ η)|ik=>if ε then ζ b else η|P7=>by obtain⟨ε,ζ,η,θ⟩:=h|AHe=>by cases z|WP=>by obtain⟨ε,ζ⟩:=η;exact θ|Md=>(by show PV)|Hb=>(qv 4)|Hc=>(ε ζ η).length|N_=>cB cN ε ζ|Se=>B' Γ1 ε|Sf=>Dx h.get? ε|Ki=>P (.bl ε)|WS=>(.dT kvs)|GV=>iN Str|JI=>(.tup xs)|qV=>sO X.K ε|qa=>(kW rows)|AAo=>KI te d ε|F6=>LS u e|L6=>(AAe s2)|Kj=>.pu (bO rows)|AAp=>BFt uE|F7=>by have s1:=uP|bS=>fun D σ H=>ε|Kk=>(ws.map (kW rows))|im=>⟨fun ε=>ζ,η⟩|AHf=>["self",ε]|P8=>(AW it)|Me=>ε (AB ζ η)|Si=>absurd ε (ζ η)|Sj=>C5 QN ε ζ|P9=>DO ψ|GW=>.str _|bc=>(match ε with | ζ=>η | _=>false)|io=>Γ.set i ε|Mm=>wpAny _ _ ε _|ip=>PR qt ε ζ|GY=>C7 h|WU=>(Db rfl)|Gc=>zG e|II=>iN α|bi=>.refl _|IJ=>β ->Rat|AAq=>ε K ζ η =some (D' θ)|AAr=>Rep K F' ε ζ|Go=>pd ψ D|iq=>∀b o,ε ->ζ|bo=>(ar Φ)|AHg=>iS 2|AHh=>IY ε Φ ζ|qc=>ε (t' :=s.toks)|AAs=>ε=Value.ref a|Sk=>D.nx σ ε|bv=>.obj C' fs ds|zt=>ε ζ ts vs bs|G0=>#[qw (vB ε)]|b9=>[a,b]|He=>fV (i:=0) (BFr ε) rfl Cl|qf=>.cell
|IL=>fun x=>ε|Hk=>⟨ε,ζ,rfl⟩|JJ=>by rw[show ε from ζ]|JO=>by obtain⟨ε,rfl,ζ⟩:=η|OA=>ε<sizeLine|Kt=>.ref p|IM=>.int _|ir=>(BN xs)|Mn=>(ε&&ζ)=true|JP=>Ρ ε ζ η (θ) ι|AHi=>Θ (ε K ζ=true)|L7=>C6 False|Sl=>.inl (Db ε)|i3=>upd H2 ε ζ|WV=>FR Nat|i4=>B5 (BI ε ζ)|Mo=>ET s.heap.get?|b_=>MM F|Kx=>yy Key|Sm=>al xs|OB=>(zC kW)|IN=>RelV y u|P_=>∀x∈ε,x∈ζ|Hm=>cR (nD e ε)|i5=>aB (ε c) (pz ζ)|qh=>fV (i:=ε) (BFr ζ) rfl Cl|My=>by refine DD ε (ζ ?_)|WZ=>rF X.env.scope x|Hn=>∀(te:aY),_|zw=>cQ s x|IO=>KI t ds ε|QP=>ε Γ1 (fun ζ Γ2=>η) E|AbR=>Ctx (X.wsh z) F0 H0 E|JS=>⟨ε,ζ,rfl,η⟩|IP=>by grind|IQ=>List Stmt|We=>(ε ζ).toArray|Wp=>Μ i ε|cE=>.int j|W_=>s.2.1|JU=>Ev Addr|M0=>P (BN ε)|K0=>(KE he)|QQ=>Cn Ζ ε|JY=>.tup xs|i6=>h∈s|Sn=>(zS FV)|i7=>ε I.hok e|AAt=>[.int ε,.int ζ]|Jn=>lZ fun ε _=>ζ|z0=>zh l ε|M3=>AHa ks.length|M_=>.leaf d|qi=>by by_cases hb:b=ε|i8=>AHd (MS [ε] ζ)|J_=>(by rcases ε with z | z)|AAu=>ε X pins σ Q|K_=>∀(K:W.Frag),_|AHj=>ε (fun b hb=>ζ) η|W'=>{ε with nx:=ζ,ct:=η,bk:=θ}|M'=>by obtain⟨ε,e⟩:=ζ|XA=>by cases ε|AAv=>(ε ζ).objs.size|AHk=>(List.replicate ε ζ).η|i9=>C5 QF ε ζ|AAw=>(BN [])|cK=>(D' Ct)|OC=>by obtain⟨F,Γ,P,R,h,k⟩:=ε|L8=>C8 (∃(ε:ζ) (η:θ),ι)|J'=>.pu (gl ε)|So=>cY i|i_=>(HA xs.map)|AAx=>D.nx (ε i ζ)|z_=>(ar Δ)|QU=>(ws.map .inr)|cS=>.int ε 0|Sr=>IT fp ε|qo=>by have:=ε;rwa [ζ] at this|qq=>.dic ks ε|Su=>(ε+ ζ).toNat|XB=>(0,60)|NA=>by refine z6 (ε ζ ?_)|i'=>ze Da|OE=>∀{rows:A5},_|jI=>nG hu|À=>zg X.env.cells.lookup|QY=>by refine bV ε (Α ζ η θ)|jS=>pr e n ε|KA=>e _ _ ?_|OF=>fun x y H Q=>ε|ja=>IC ε c.ak ζ η θ (ι c)|AHl=>zn (WC es)|XE=>fun p hp=>ε|BFu=>["_law_work","_law_hand",ε]|NB=>(fr t b).2|NC=>∀(X:Cx)(F0 H0:Hp),_|KB=>by subst hP hw hK|APD=>∀z E,AbR ->ε|BFv=>envOfC ε (bB ζ) s.heap.objs.size f|qr=>fun c=>ε|ND=>by obtain⟨ε,ζ,e⟩:=η|LA=>by unfold ε at e|OG=>AL 1|AHm=>BG Nat ε|LE=>.ref b|jb=>C5 QT ε ζ|Qb=>Α ε ζ e|cb=>LJ H' ε|AAy=>B' σ ε|cc=>Same F1 ε|q_=>PR qY ε ζ|rL=>rows[i]|LF=>ph 1|LG=>by refine z6 ?_|NE=>yy Au|jn=>fun i H=>ε|rS=>ε K F' H' ζ|NF=>(LU Φ)|LH=>RelV v u|Qr=>A.handled=none|AHn=>s.heap.get? ε=some o|Á=>zD (.Name ε p) ζ|OH=>by show IU rx|rV=>LX WF|rX=>c::post|AHo=>Co ε .local|jp=>SS AAp ε|Q1=>p6 xs|js=>AAi X.A.units|OI=>AAk Rat|L9=>AHc e|OK=>Str×Str|NG=>(z8 _ e)|XG=>ε _ _ _ _ ζ|AbS=>Γ1.set i (.tr ε ζ)|Â=>seqObj "list" ε ζ|ce=>k ε Γ1 F1 ζ|S_=>∃r∈rows,ε|TC=>fun b hb=>ε|L_=>by show At u rfl rx vals1 r|jv=>vN ε=some (ζ,η)|cf=>dg (dD ε)|XI=>show P1 ε by decide|re=>(ε b hb).2|AbT=>am ε X.K X.mg|OL=>(fr t b).1|NH=>attributeBase ε ζ X.env (p9 η)=DE θ|LI=>#[fV (i:=ε) nd rfl Cl]|AHp=>APB N qual (bB st) f cdv A|rg=>.leaf|MA=>fun ε=> ?_|Ã=>by rw[List.length_map,ε]|AHq=>⟨ε,ρ⟩|Q2=>by simp [ε,ζ]|AAz=>by simp at ε|rh=>Ε ->ε ->ζ|TD=>by simp [ε]|NI=>(ε ζ).symm|OM=>fun r ε=>ζ|TH=>Μ b ε|ON=>(cV 5)|ci=>DC ε q ζ|rq=>H_ ε ob|r6=>B' ε v|MB=>Ev V|Ä=>AB ε q|j_=>∀p∈ε,ζ|cn=>Str ->Int|j'=>b≠0|MC=>ps[i]|cq=>(D' v)|TK=>VQ F1|Q3=>yy κ|OO=>iN Key|TL=>LB rows|r8=>DZ ε 1 [ζ,η] θ|r9=>DZ ε 2 [ζ,η] θ|MD=>F_ ε 2|cr=>(zC mW)|NJ=>C3 ε vs ζ η|ME=>by obtain rfl:ε=ζ:=ρ|Q4=>b≠a|XL=>.tr as ε
|APE=>fV (i:=ε) nd rfl Cl|kA=>∀b o,ε ->ζ ->η|AHr=>j6 X (compareOp .ε) ζ|OP=>by show At ε ζ rfl zB.mp η|AHs=>iF (E1 "list") (.seq ε)|Å=>aJ X.K ε ζ vs|MG=>by obtain⟨x,H1,I1,r1,q1⟩:=ε|r_=>fun a b=>ε|AbU=>LW ε rfl rfl|Æ=>h0∈iX|cy=>Gr F H F' H'|AA_=>∀q∈qs,ε|Q_=>(Μ y (WA hb y))|OQ=>B1 a ta|cz=>∀b u,Pc ε ->ζ|APF=>Int.gcd μ d|AA'=>Binds K fd ps []|sA=>[.Call ε ζ [] η]|Ç=>TR K F H t|NL=>fun x y P=>ε|MH=>Θ (AAf W.nsIn mainGlobals ε)|NM=>EC ε #[bR (A2 ζ) η θ]|kB=>ε outer s H E|MI=>by have ε:AR ζ:=W.mg_none_of X G η|APG=>nJ ε (nJ ζ Ag)|ABG=>nO X pins ε b|NN=>(qE um hN hv hd hcd)|AHt=>s.heap.push ε|È=>Str.ofString ε|É=>.function|Ê=>fun Γ' =>ε|c0=>by obtain⟨o,ε,ζ⟩:=η|OR=>⟨o,ε⟩|c8=>by rw[ε] at ζ⊢;exact η|NO=>by exact⟨ε,ζ,η⟩|NR=>(cV 6)|RA=>(qv 6)|NS=>AL j|AHu=>.ref s.heap.objs.size|OS=>.int k|OT=>Χ Bool.false_ne_true|OU=>FR Rat|TM=>ET h.get?|sB=>ET h'.get?|Ë=>(model P w)|TN=>by refine z6 (ε ζ η ?_)|ABH=>a::bs|NU=>by intro _;rfl|RC=>EC ε (ST ζ η θ)|NV=>by show VX hq|OV=>P (qD ε)|XN=>l.length/2|c9=>(0,0)|TU=>Pw ε ζ hz1|NW=>P5 (vD (own:= ε) (N' := ζ) (by show η;symm_saturate) rfl θ #[ι,_] #[vC,_] #[ν,_])|Ì=>FU _ False|OW=>Pi h' tk|Í=>AAm ε ζ cpos|TZ=>AAn κ|RE=>fun r hr=>ε|Î=>(rC qs)|ABJ=>zo Γ ε|AHv=>(.ob C fs ts)|XT=>AAo (Nl ε ζ)|NX=>aX ε (aB (ζ c) η)|c_=>bw (dg ε)|XU=>∀s∈S,ε|kC=>(.dK (ks.zip vs))|NY=>(by rcases ε with h | h)|dA=>wpAny_field ε ζ (x:=η)|Na=>∀(I:Ε),_|APH=>(V_ e "values")|OX=>AAr d v|AHw=>fun σ H R=>(iE ε ζ η)|Ï=>nM a b=true|ABK=>by obtain⟨ε,ζ,rfl,η⟩:=lV θ|Nc=>by show AO_ (len1 hl);exact rfl|Tb=>Pm n p|AbV=>by obtain rfl:b=ε:=AN hb|Ð=>APA (swapsWith ε (some ζ) pos.line X.env)|Th=>cP 1 ε (iL ζ) AAg|Nd=>by show B8 ε M yX M|kD=>fun F0 H0=>(C7 ε)|BFw=>(AAj C s₀ H₀ fp)|ABL=>IsZip ε z TI TO ζ|Ñ=>Value ->ε|Tk=>.int|OY=>fun b=>ε|ABM=>Ne.symm ε|ABN=>(ε ζ).isSome|OZ=>(ε ζ).trans|dC=>(qv 5)|dE=>(AW I)|dL=>if_neg (ε)|sC=>LJ (IA ε ζ) η|Tl=>VI lN ε ζ|Tm=>by rw[ε];omega|Of=>by show ED;omega|On=>by show B8 ε ζ Hd.fun_of η|sD=>.Name y ε|Op=>by show BO ε (AD ζ η)|Os=>ws[i]|sK=>FR D|ABO=>FR Row|kF=>PE X (.ε ζ η pos) θ|Oy=>VQ H|AHx=>by show ε;decide|ABP=>z8 _ q|ABQ=>(zC gj)|XX=>FX ⟨ε,ζ⟩|To=>fun D Γ _=>ε|XY=>F8 xs vs|kG=>Q v H'|AHy=>ay (.Assign ε ζ pos) η|AbW=>(.own MR)|O0=>aD l f|RF=>by have hl:=rv.length|sL=>ε b o e n|kH=>ε b o e|ABR=>AO' length|O_=>p_ ta ε|sN=>-(2^62)|kK=>eE X (LP ε) ζ|PD=>oO (A2 ε) ζ η zI|PF=>VZ D ε (pp D2 ζ (EI η))|Ts=>(zD (SG p) Da)|Ò=>∀r∈rows,ε|Ó=>lO c.ak ε Τ|Ô=>wu ao ε Φ|PH=>t::ts|kL=>VI aB (ε c) ζ|PM=>BFu "_law_mark"|PP=>by refine ε (bV ζ (y9 η θ))|Tu=>(ε).up τ|Tx=>(cZ ns ε).fmod|kM=>ns.getD i 0|dP=>ε fun o e=>ζ|RH=>AbU KO|PQ=>RelV x v|dQ=>cF (As (gJ (As ε)))|dS=>∀(C:Addr),_|Ty=>(ofM rows m)|da=>(apos.endLine==cpos.line)=true|BFx=>k b (zW _ hb)|APJ=>⟨ε,iter,ifs,0⟩|sP=>∀(he:starEach Da X.env=E9 (DE e) (E8 es):=by rfl) (hpl:AHl:=by rfl),_|BFy=>∀(w:World) (K:W.Frag),_|AHz=>ms.Pairwise ε|T0=>.str|RI=>by refine .inr ε|RO=>by split at h1|dc=>AL APF|di=>H1 ε=none|RR=>.pu S|sQ=>.int LV|RS=>Lp lt p ε ζ=true|AbX=>iA ε Value|AH0=>bs.length - ε|RU=>Ap ξ
|ABS=>Same ε H'|dk=>.lst AAl|T1=>.str x|kN=>DS d8 ε ζ|RY=>(KE h)|Rc=>E1 "list"|sR=>σ.set i ε|Õ=>B5 Y.natAbs|ABT=>KF ε fun ζ=> η|T_=>fun b u ε ζ=>η|Ö=>gj rows w|ABU=>F9 u|AH1=>ε K F H H0|XZ=>by show D1 rfl|dl=>LT wj ε|dq=>AAa NameKind|T'=>(LU Δ)|APK=>(kW rows w).ε|Xs=>VY hi|kP=>v= AF|Re=>by have ε:ζ≠0:=AC η|Rl=>d::ds|UA=>∀{rows:HG},_|sT=>L2.upd H ε ζ|ABV=>.cons r ε|sd=>∀a∈as,ε|AH2=>Addr×Value|Rs=>FS _ False|R_=>oN P w H h|X0=>bS (iE ε ζ η)|kQ=>(j::cs)|Ø=>dH k X.A|AH3=>fun ε=>E Γ1 ζ|Ù=>(v9 st)|SA=>χ ->AAb|SB=>PE X e te|kR=>∀w∈ws,ε|AH4=>.tup (ε kV)|AbY=>⟨F1,Γ1,_,R1,ε,ζ⟩|ABW=>#[oO (A2 ε) ζ η zI]|kT=>APD (ε bE ζ (SI η t E))|ABX=>(ms.take i).flatten|ABY=>(AHh aL aW)|SC=>by obtain rfl:AAs u:=rx|X1=>(match ε with | ζ=>η | θ=>ι | _=>False)|AH5=>Int ->Int ->ε|ABZ=>IB ε H I ζ|AH6=>aJ K F' ε vs|AH7=>Dw (i:=ε) (m:=ζ)|dr=>fW rows x r|BFz=>fj 2 (aZ ε (aZ (EU ζ) eZ))|du=>∀{σ:St}{H:Hp},_|APM=>ε (aB (ζ c) (Cn η θ))|BF_=>∀{w:World}{K:W.Frag},_|APN=>(FM SR F H σ Γ)|BF'=>∀(BFy) (mg:CB) (base:Heap),_|AH8=>Hd.adr_of ε|UB=>nomatch e|X2=>st.1|kU=>fun p=>ε|UC=>by subst this|UD=>by obtain⟨ε,ζ,η⟩:=hz1|X9=>(by rcases ε with ζ | q)|X_=>by rw[ε,ζ] at this|APO=>by with_unfolding_all rfl|AbZ=>by obtain⟨_,rfl,_,ε⟩:=ζ|UE=>by apply List.ext_getElem|UF=>by kernel_rfl|APP=>List Keyword|UH=>List Slot|se=>Μ d ε|UI=>(cV 7)|UK=>(qv 7)|YA=>(AW s.heap.objs.size)|kX=>.ref C|ABa=>I.tok _|UM=>Χ ξ|ABb=>AQ kvs.length|ka=>.inr x|UN=>Em _ _|UO=>.bl b|Ú=>(AO6 oW)|Aba=>LL (ε==sysModules)|UP=>by have ε:ζ<s.heap.objs.size:=η|UQ=>yy Str|YE=>Array Nat|sf=>by unfold ε;grind|sg=>(LP id)|UR=>by intro pins s σ H D I h|si=>h'.get? ε=some o|Û=>b∈as|US=>by rw[ε];grind|kg=>KL cR ε ζ|UT=>by have hi' :i<ε:=ζ|Ü=>Pl e ε|AH9=>Po p|APQ=>Pp q|UU=>HP (AB ε ζ)|Ý=>a_ m|Þ=>(ie Τ)|UV=>∀(t:bK),_|BGA=>P3 s1.heap.objs.size ε|ß=>j6 X (binaryOp .ε) ζ|AH_=>iw K F H ε vs ζ|dy=>(.ow ds)|sj=>I (By)|UX=>r::rs|UY=>by show WP ε ζ η ⟨θ,ι⟩|AH'=>AHf "work"|UZ=>kZ K H a xs|Uf=>∀(i:Nat),_|U1=>∀(qs:Ψ),_|U2=>by show qi a|ki=>AHk ε ζ flatten|kl=>fun i j=> .int ε|Abb=>ε t1 t2 s.heap l1|U_=>by have ε:ζ:=fun b hb=>η|sv=>HA (dU ε ζ η θ).map|Abd=>Θ (Hd.isRef (W.findIn K ε ζ)=true)|ABc=>bc b ε ζ|ABd=>∀(P:Program) (w:World),_|d4=>B1 b tb|AIA=>(z.fdiv ε).fmod ζ|U'=>by show HQ (fun i Γ=>ε) ζ ?_|à=>i5 vH (SD ε)|Abe=>Hd.fnO K (AHV W.findIn ε ζ) η|VA=>f::fs|km=>VM t ds ε|AIB=>FU z AHe|APR=>aw F1 ε Γ1|YI=>∀(P:Program) (BF'),_|AIC=>pj F' H' Γ'|ko=>ns.length<=63|AIE=>AbT ε X.base ζ η θ|Abf=>AHi W.isFn (AW (AHV W.findIn ε ζ))|sw=>fun _ _ _ ε ζ=>η|VC=>by obtain⟨f0,f1,f2,f3,f4,f5⟩:=hf it Η|YN=>by show eO _ ε _|AIF=>ε ks es ep t|Abg=>∀C s₀ H₀ fp F0 H0,ε BFw F0 H0 ζ η|AIH=>ε (mg:=mg) (P:=l.prog) (w:=w) (base:=base)|AII=>Inhabited ε|kr=>.cons|ku=>[.ref ε]|YO=>fun k=>ε|YR=>s.heap.objs.size<=ε|APS=>by rw[List.getElem?_map,ε] at ζ|YU=>by rw[<- this]|YV=>List κ|ky=>by show An ε;exact ζ|ABe=>.fields ε|d5=>if_pos (ε ζ)|k6=>Μ w ε|d6=>List.getElem?_eq_getElem h|YY=>by rw[List.mem_singleton.mp ε]|Ya=>absurd (ε ζ) η|Yf=>Α h' ε ζ|Y1=>(s.heap.objs.size+1)|ABf=>(BN ds)
|k7=>I.hok ε _ ζ|d_=>(! ε)=true|k8=>C6 0|á=>Dx F ε|â=>Dx H1 ε|Y2=>.lst _|Y3=>.lst ts|eA=>P []|Y_=>by show B0 ε ?_ ζ|AIJ=>some qf|sx=>by show At ε ζ η (El (i:=θ) (n:=ι)) ν|AIK=>(List.nodup_cons.mp ε).1|ZA=>C7 n.elim|ABg=>MM H'|k9=>(CL w)|ZE=>ph 3|ZH=>by show A_ e|eB=>ah t|k_=>ah rfl|lI=>(oW P w)|ã=>h∈iX|eC=>E2 i ε ζ η|ZI=>by unfold ε;rw[ζ,η]|eD=>cY d|s0=>Pc H|Abh=>Pc h'.get?|s_=>by show HC ε (ζ ?_)|ZN=>F_ ε 3|ZO=>F_ ε 4|ABh=>by show BQ rfl|tF=>RelV x u|eI=>AHY Bool|tI=>.tr (a::ε) ζ|eJ=>SK H0|AIL=>by rw[ε];omega|APT=>VY hi'|ZT=>aB (ε c) (Cn ζ η)|ZU=>cR hb|ZY=>HR hi|ä=>iF (E1 "tuple") (.seq ε)|lL=>AO' map|APU=>∀a∈l,ε|lP=>lu rs|ABi=>N4 hr ε|ZZ=>(g i j)|APV=>(qB fs)|eL=>(c::ds)|AIM=>iq (ET ε) ζ|Zl=>by refine⟨ε,ζ,η,θ,ι,?_⟩|Zp=>Int.gcd t b|eP=>V ->χ ->AAb|eQ=>qD (v w)|lS=>i8 Ic ε|APW=>Ο s.2.2 - ε|Zs=>X.fn x=true|AIO=>FS q q|ABj=>E2 k' k ε ζ|Z3=>qo ε List.length_map|Z_=>AHo X.env.scope.names.lookup|APX=>(Rat.divInt t b).ε|lT=>fun j hj=>ε|lb=>cT (cB ε ζ η)|tJ=>∃t,u=ε|lc=>WJ E3 h|ABk=>WH ε (AAu EP)|ABl=>qN c p g fH ws br ε ζ|tN=>Option (List ε)|eR=>PI X tg ε ζ|eS=>∀{P:Program}(BF_),_|å=>a==b|ef=>∀z,ε (X.wsh z) ζ η|tP=>wpAny MO A ε ζ|æ=>(Same F H)|ç=>h0::hs|Z'=>AD p hp|AIP=>∃m',m' <m/\ε|ABm=>ε (aj ζ aq)|eg=>PE X a ta|AIQ=>aD S fun s=>(GE ε ζ)|aE=>k _ _ WU e|Abi=>(BGA AbW)|è=>by show AS v hv rv ε ζ η|lf=>gF xs ys|é=>N3 ε _ I1 q1|aI=>Cc (WG _ _ _ ε) ζ|AIS=>(AHp outer s H E).ε|AIT=>ε K sp vs H Q E|BGB=>qc I.turned (fun b o hb e=>ε) f0 f1 f3 f4 f5|aS=>by obtain⟨_,rfl,_⟩:=h;rfl|AIU=>by show AO_ b;exact⟨ε,ζ,η⟩|aT=>by show Nw b;exact⟨ε,ζ,η⟩|AIV=>(fs++ [f])|tS=>Ord lt n|APY=>∀x c,À ->ε|AIW=>(i3 acc AAw)|aa=>(lo+hi)/2|ac=>gG s o a|tT=>iF (E1 "dict") (.dict #[])|ad=>#[tO (aA ε aN)]|Abj=>ε tb rs fs ix|ê=>dH ε (A.deeper (BFv ζ η cdv))|eh=>h1.1|tj=>rL.1|APZ=>{ε with heap:=ζ}|tm=>⟨ε,h1,ζ⟩|ei=>by rw[List.map_map]|APa=>by rw[List.length_map] at ε|e9=>by subst e;exact ε|APb=>h'.get? ε=some ζ|APc=>bootBuiltins ε =some ζ|e_=>(ε ζ).Nodup|fA=>Μ o ε|Abk=>s.toks+1|lh=>s.heap.objs.size+1|fE=>(AW z)|ë=>(SD 0)|ì=>AQ xs.length|í=>.inr (CL ε)|fF=>(Nat.zero_le _)|fI=>Same ε H|fN=>by show B0 ε rfl ζ|li=>(D' 1)|fR=>FR Int|lj=>.bl true|ABn=>PU vs ε|APd=>EB h|fS=>yv HB ε ζ|fT=>by show AX _ ε|fb=>Array GenState|lm=>AHW M ε|tq=>AHW SF ε|AIX=>GB ε/ Ο ζ|Abl=>ε/ Ο s.length|ABo=>aA ε (D_ ζ η)|î=>AAa Addr|fc=>AAa Str|fe=>by intro pins s σ H R I h|ff=>by show VX q|ï=>SK F'|APe=>b∈bs|tw=>by show HH ε (ζ η θ ?_)|fg=>c::cs|ABp=>pd D ψ|ABq=>Co ε .cell|fh=>(ax ha)|fq=>LS u q|ft=>by have ε:ζ:=fun q=>η|ð=>(ie Ζ)|ABr=>AHb ε get?|tz=>by show L1 z7|t7=>bs.length<=1000|fz=>eE X (LO ε) ζ|f_=>qA AHg|AIY=>Dd (A2 ε) ζ η zI|APf=>zk ε pos|gE=>(SZ Τ)|ñ=>P d Γ|lr=>Sk H|t9=>(n,k)|t_=>Ç v as|APg=>Sem Value|ABs=>dX f hs|lx=>x≠ "__name__"|uA=>ε X.K H ζ ys|gI=>qq ts|AIZ=>q_ aW ε|ABt=>wpAny_call_entry ε ζ η ?_|ABu=>W.keepIn K IR=true|ò=>mZ ε i=some ζ|gL=>Gd ps|ly=>∀l:AG,ε|ó=>["hand","sheets"]|gN=>by show MZ;cases e|uB=>#[tO aN]|ô=>[.Subscript ε ζ pos']|APh=>k ε Γ2 F2 H2|AIa=>fun σ2 H2=>ε|gS=>Α r s' ε|l_=>KM l ir
|õ=>L2.Cls X.K C|gT=>AbY h1 ε|APi=>IC fO av k f fd ps (ε K sp)|ö=>APM bw ε ζ η|gc=>(I.ok.hd hc)|AIb=>Aba a|uC=>No qs.map qD|Abm=>ε (t' :=s1.toks) rV|ge=>Abd AAd ε|gf=>Abe AAd ε ζ|gg=>DX (top 71) ε|gi=>Abf AAd ε|l'=>ε Q I rx ry ζ|APj=>⟨ε,fun i H x H' =>ζ,η⟩|mB=>α×β×Int|gu=>pk AT Rat|uS=>ur K H ε (LO ζ)|mE=>EP X pins σ Q|gx=>[x,y]|mI=>[k1,k2]|gy=>∀(X:Cx),_|ABv=>aB (ε c) (aj ζ η)|g6=>by obtain⟨_,_,_,rfl,_⟩:=h;rfl|g9=>#[aA ε aN]|g_=>by obtain⟨_,_,_,rfl⟩:=vX hl;exact rfl|ABw=>(ε).all (Μ x ζ)|ABx=>ε X vs H Q|hG=>by show P6 hb hb|AIc=>sIx items.size 0 lo|hV=>⟨bi,ε,ζ,jS (by rw[e] at n;cases n)⟩|Abn=>upd ε MR (.ins C s1.heap.objs.size ζ)|ub=>(.ListComp elt [APJ tg] sc pos)|ABy=>∀(hN:Ps)(hv:WZ),_|hZ=>fun _ _ _ h=>ε h|ø=>by show AbZ k2 b;exact⟨ε,ζ,η⟩|APk=>∀F Γ P,APN ->(t Γ P E) ->(ε) ->ζ|AId=>⟨f,fd,ε,M,F.binds ζ⟩|h_=>∀x,foldedSetIterable ε X.env x=pure x|mM=>ε ->Bool|mP=>.next|ue=>by obtain⟨ε,e1⟩:=ζ|ù=>X.s₀.heap.objs.size<=ε|ui=>show ε from rfl|mS=>∀(ε:Addr) (ζ:η),θ|uj=>by rename_i ε;exact ζ|mT=>by rw[ε] at h;exact ζ|ú=>(by show APO)|ma=>AL qs.length|md=>if_neg h|APl=>Turn P w K ε|me=>by rw[decide_eq_false ε]|uk=>DO D|mh=>i<xs.length|ul=>Χ hb|AIe=>ε _ _ (ζ _ _ e)|mi=>FM Ec ε|mo=>.str z|mr=>AC ?_|mv=>AC (ε (z ▸ ζ))|û=>(a::rs)|AIf=>ε rows ω|mw=>by show An τ|ut=>KF GL|my=>(CL h)|m3=>fun ds P E=>ε|ü=>(SG pos)|ABz=>.pu (qD ε)|m4=>SH Bool|m_=>h∈hs|AIg=>Be d|AIh=>Pe (AHt ε)|uu=>show ε by omega|nB=>by show D1 (Bi ε)|AIi=>FX (WB ε)|nE=>(BFq "Scale")|uv=>(by simp;omega)|nI=>EK List.map_map|APm=>(mW rows)|AB_=>cR (nD q ε)|ý=>(pz Ζ)|nK=>(ax he)|nL=>GG (! ε) ζ η|nN=>∀h∈m,ε|nX=>#[qv 2]|APn=>absurd ε Η|nc=>Loc X.env.scope x|ng=>by refine bV ε (y9 ζ η)|AB'=>ε (Bi h)|þ=>SU (ε (ζ Γ) (fun η _=>θ) jG)|AIj=>Pv (By)|nk=>lR rs f|nr=>VZ Dn ε (pp D2 ζ (EI η))|ACG=>ε AM=some C9|nv=>Sf o|ny=>bN P w H h|n9=>pO K H a xs|ACH=>fun ε ζ P hp=> ?_|n_=>k' ::ks|oB=>dv t b|oC=>ws.map .inr|oP=>V ->V ->AAb|oQ=>AAx Γ1.set ε|u7=>cS 0|oS=>qv 0|oa=>by rw[ε] at h;cases h|og=>AHm G2|APo=>ε ζ rfl rfl rfl|om=>AHn S|APp=>(.tr KK t)|ÿ=>jd ds|oo=>by have ε:=lu rs|oq=>AHr ε (qV ζ)|Ā=>(AA_ APQ)|ox=>R.sl i _ e0|APq=>Ll ty y ε|APr=>Ð value ε|ACI=>Lo X b|ā=>D.nx (AbS ε ζ)|u8=>fun v s1 ε=>ζ|Ă=>codeAny ε ζ (.call η θ) ι ν|Abo=>B' ys y|oy=>by have e' :L4 ε:=e|ă=>AH6 ds|Ą=>mZ (ε ζ) η=some θ|u_=>by have:=ε;simpa using this|AIk=>Rep X.K ε d v|AIl=>APR H1|AIm=>KV kvs vs|oz=>∀(i j:Int),_|Abp=>AHj (zt ε f) BFx h|Abq=>W.instObj C ε|o4=>by have ε:=AH7 ζ η τ|Abr=>Θ (kv.1=k)|AIn=>∀x,x∈ε↔x∈ζ|ą=>.dic ε (ζ rg)|APs=>ε∈gk S n bs.reverse ζ|ACJ=>∀{l:AG},ε|o5=>∀(K:W.Frag),_|o6=>by have ev:=Ei ε|Ć=>iA Au AH2|AIo=>(vs++ [v])|ć=>[B9,.int j]|Ĉ=>(ig KK H)|APt=>some (.frz ε ζ)|AIp=>xu (D_ ε aW)|o_=>∀(hN:X.N.Nodup)(hi:Ps),_|pE=>KeyKind prog w κ|ĉ=>iD t ε it l i|AIq=>Abj (BT n A p d)|AIr=>E C dx H'|pM=>Array (Int×Value)|pS=>(env::outer)|vE=>cC (.str (Str.ofString ε))|APu=>s1.trans (s2.trans ε)|vF=>(p ω+q A3)|APv=>ε pins s2 σ H2|Abs=>aD ABQ ε/ Ο ABR|Ċ=>∀{ε:ζ} {vs:χ},η ->θ|pT=>(ip bo z_)|ċ=>ε* (x h - zw)|vS=>qr (iW A k c*ε)
|pV=>C' =C/\m∉fs/\ε|AIs=>ε ζ ao (hr.mono τ) η|AIt=>(rQ p s i)|Abt=>by show ij c vs ec hkl rs ε|pb=>zk (ε C s₀ H₀ fp yx yC (FY Ì) jG) Jd|APw=>.local|APx=>ε==NameKind.free|AIu=>fun(D9 ε)=>ζ|Č=>by obtain⟨rfl,ε⟩:=ζ|vT=>by obtain⟨ε,e2⟩:=ζ|APy=>rows.length<=ε|ACN=>⟨Κ,ε⟩|va=>(by rcases ε with rfl | ζ)|AIv=>by generalize Ο ε=ζ at*|vb=>by exact_mod_cast z|APz=>sF.trans ε|vc=>by trivial|č=>by rw[e]|ve=>wpAny_mono ε ζ η|vi=>List Bool|vj=>by cases rx;exact ε|vk=>(cV 8)|vn=>(qv 8)|ACO=>AL at_|vt=>(AW acc)|AIw=>ε (show ζ from η)|vv=>if_pos h|vx=>K.In h|vy=>(B4 i)|vz=>by rw[decide_eq_true ε]|Ď=>Ο (D9 ε)|AIx=>Ο LV|ď=>(j+1)|Đ=>(BN us)|AIy=>H_ H' ε|v4=>ε (i:=i)|AP0=>one=true|AP1=>v.scannable=true|AIz=>Θ Æ|đ=>DO G2|ACP=>by show Ã ε;omega|Ē=>Χ (AC ε)|v6=>.inl ⟨ε,ζ⟩|ē=>by rw[ε,ζ,η];rfl|v_=>j≠0|wE=>Co bootBuiltins ε|Ĕ=>PR mR ε ζ|AI0=>BG Hp (ε)|wP=>(Bi e)|ĕ=>(Bi h1)|wS=>Bn b|Ė=>by show An (Bi ε)|wT=>by show A_ z|wb=>by show AX ε rfl|wc=>BD gY|we=>.tup ds|ACQ=>SH It|ACR=>cols p|wf=>EC 2 ε|wn=>.exc _|wo=>.ptr _|ė=>(LO T)|ACS=>b≠X.env.locals|AP2=>EV s.heap.objs.size ε|AI1=>fun σ H R ε=>ζ|wp=>by show VX h1|wq=>h.get? ε=some o|ACT=>SK H|ww=>ε (i:=ζ) (j:=η)|ACU=>(zS u)|AI2=>eval ε env|Abu=>Int.gcd i j|wx=>.dic _ _|wy=>.iB _ _|AP3=>∀x∈ε,C x|w4=>congrArg ε e|Ę=>KL List.mem_singleton.mp ε ζ|w8=>HI AAl|w9=>cR (nD (ε b u e) ζ)|AP4=>KM ε (.own ζ)|w_=>BFs cpos ε|xA=>ε (t' :=tk)|ACV=>Po l|AI3=>L2.Cls K c.Scale|xB=>yw hu|xC=>R1.g.seq hq|xD=>LZ v ε|xE=>by show GH ε rfl ζ|ACW=>WB hn|xF=>α ->Bool|ACX=>AHb ε objs.size|xI=>by show At ε ζ rfl List.mem_iff_getElem.mp η|xL=>pr q n ε|AI4=>(.ow xs)|ACY=>Pi h' t'|AP5=>by obtain⟨vs,H1,I1,r1,q1⟩:=ε|AI5=>(l.map f)|ę=>fun a ha=>ε|xN=>k ε Η _ ζ|AI6=>(WO ABY)|AI7=>FS _ KS|xc=>im ε ζ (fun η=>θ)|ACZ=>(io υ)|ACa=>(pre++rX)|AI8=>Sl jJ|xh=>dX f S|Ě=>qD (v u)|AI9=>by rw[ε (Bi hi),ζ] at e|ACb=>jb ε tA|xi=>AAy o|xj=>by unfold ε;rw[ζ,η];rfl|ě=>re hn|xk=>ψ ->I0|Abv=>AHq ρ|Ĝ=>rh (t σ H Q) ε|xl=>.iB ks ts|xo=>ABJ a|AI_=>ε z E cx pins|xp=>Ñ κ|ACc=>by by_cases hi:i<ε|ĝ=>fun o e=>ε|AI'=>(Fl aW)|Abw=>Value.ref (SY)|Abx=>(.Name "set" p2)|xt=>Pv i σ H|AP6=>p7 ks k|AJA=>by rw[List.size_toArray,<- hl]|ACd=>AbX κ|xw=>ABV t|Ğ=>ABZ Iy ε|xx=>∀(K:W.Frag)(C:Addr),_|AP7=>∀u,ABU ->ε|BGC=>∀(ha:i') (hdb:BM x "__debug__":=by decide),_|xy=>⟨a,vs,ε,ζ,η,θ⟩|ACe=>fun m hm=>ε|ACf=>Vals xs its|ACg=>zO (mq (k:=ε) ζ) τ|Aby=>behindInMarks ε b=false|xz=>by show ij ε ζ η θ h h|ğ=>Sj e tn|x0=>by intro i h1 h2|ACh=>APY (c≠ε)|Abz=>by rw[List.length_zip,<- ε,Nat.min_self]|AP8=>(ε ζ k).isSome|x5=>∀{t b:Int}(h:j'),_|x6=>AIH ε c ζ ⟨AH8 η,θ,ι⟩ ν|AP9=>GA ε.2 b hb e|AJB=>eF (Cn ε Fc)|x_=>AH_ ts as|BGD=>C9= MY ->∃c,ε AM=some c|yA=>.ob C fs ts|BGE=>∀p,AH9 ->EV p ε|yB=>∀(hc:D6),_|AJC=>ε (ζ j default)|Ġ=>p a=true|yT=>ai (FM ε t E σ H Q)|yY=>je S h|ACi=>(A.take i).foldl|AP_=>ABN F b|ya=>#[ε ζ (aA η aN)]|ACj=>nW fs ts f=some ε|AJD=>{nx:=ε,rt:=ζ}|ġ=>by subst h1 h2|BGF=>by rw[ε] at z;cases z|Ģ=>AL (f j).den|ģ=>(h0::hs)|Ĥ=>Θ (key b=key a)|BGG=>(a::b::rest)|AJE=>BI ks.zip vs|Ab0=>AHV W.nsIn mainGlobals ε
|ACk=>ε (fun a ha=>ζ) η|ĥ=>by show VW ε q q|yb=>(l+r)/2|ye=>∀(hg:Gl X x)(hm:Fh x),_|ACl=>(jO S n)|AJF=>AHs ([]:Β).toArray|AP'=>DZ ε 3 ["one","other"] ζ|AQA=>∃o',H_ ε o'|Ab1=>∀{pins:c7}{σ:St},_|AJG=>lA X.N sc own caps X.env N'|Ab2=>(hi _ _ _ q)|ACm=>iG m (a i)|yi=>AIF (pZ knd kf led o)|yk=>by show APS APT hi|Ab3=>Inv X pins σ' H' s'|Ab4=>.bl (decide (ε))|Ħ=>KT H kvs xs|ACn=>Fk AHu ε (ζ _ (I.hok.fresh CC))|AQB=>∀{rows:HG}{ws:AG},_|AQC=>∃f fd,ε/\ζ/\η/\AA'|AQD=>sIx items.size items.size hi|AQE=>∃a,x= AF/\ ε/\ζ|ACo=>⟨BA e d0,BA e (d1 _ b1 b2)⟩|yn=>EB ε _ us Q I|AJH=>.ob C fs (m7 fs ts f ε)|yo=>∀(vs:χ) (H:Hp) (Q:VK) (E:XK),_|Ab5=>fun b o e n ε hx=> ?_|BGH=>⟨F1,Γ1,ε,R1,s1,r1,h1⟩|AQF=>ε=ps.length|ħ=>.NotIn|Ĩ=>[s1.heap.objs.size]|ACp=>if ε then none else ζ|AQG=>if ε then ζ else η++ [θ]|ĩ=>⟨_,ε⟩|Ī=>by obtain⟨o,ε,_⟩:=ζ|AJI=>by rw[List.length_map,ε,ζ,η]|ī=>#[Od]|Ĭ=>by obtain⟨ε,_,rfl⟩:=ζ|AJJ=>(by cases z)|ACq=>by obtain⟨ε,ζ,η⟩:=θ;exact ι|ĭ=>fun ε s' =>ζ|Į=>AL xs.length|AJK=>AL its.toArray.size|į=>AL q.den|İ=>(AW l)|ı=>Rat.inv_mul_cancel _ ε|Ĳ=>.int (f ε)|ĳ=>Ο 0|Ĵ=>(p+1)|ACr=>(cC Ι)|ĵ=>x.2.1|AJL=>(BN ts)|Ķ=>Ev D|ķ=>DO T|ĸ=>some b|AJM=>af s'|ACs=>(I.tok _)|Ĺ=>.lst ds|ĺ=>.lst ys|ACt=>.str ω|Ļ=>some []|ļ=>some v|ACu=>Cn A8 ε|AQH=>xs.getD i ε|Ľ=>B1 e ε|ľ=>fs[i]|AJN=>(List.range ε).ζ η|Ŀ=>BI ε f|ŀ=>(G_ _ False)|AJO=>fun i _=>ε|Ł=>fun i hi=>ε|ł=>Array DictEntry|ACv=>SH χ|Ń=>.kt _|ń=>F9 FV|Ņ=>F9 Lc|ņ=>B_ ?_|ACw=>(.bl false)|Ň=>.tup [.str c,ε]|ň=>by refine A9 ?_|ŉ=>(HE x)|AJP=>(ε rows ζ).length|AJQ=>AAa Value|ACx=>(j - 1)|Ŋ=>(hs.map .inr)|ACy=>(fH.map .inr)|AJR=>iP ε (D_ ζ η)|ŋ=>decide_eq_false q|Ō=>decide_eq_true q|ō=>SK F|AQI=>(bZ.mp ε).2|Ab6=>(yW rows)|AJS=>by show ED;omega|AJT=>HK ε (.pu (fP ζ))|AQJ=>FB ε "self" ζ η|AQK=>Q v H2|AQL=>HL KO|AQM=>d::post|Ŏ=>Ö≠ []|ACz=>ze [a]|AC_=>p6 vs|AQN=>absurd rfl ε|AJU=>decide_eq_true rfl|ŏ=>(N0 Ζ)|AC'=>FU _ rfl|ADG=>AQ ds.length/\ε|Ő=>lR rs (DF ε)|AQO=>(z7 ?_)|ő=>(.pu d)|Œ=>(p::cs)|œ=>(r::rs)|Ŕ=>k::ks|ŕ=>qJ ts|AJV=>E4 (pyNext ε)|Ab7=>ω∈ws|Ŗ=>(ps.map pD)|ŗ=>cb s'|Ř=>(jp Φ)|AJW=>n∈S|AJX=>(.bool true)|Ab8=>qS dic ks ε|ř=>fun w hw=>ε|Ś=>EJ [ε] [ζ] η|ś=>by show AbV it|ADH=>by show AbV s1.heap.objs.size|Ŝ=>fun x hx=>ε|ŝ=>sC s.heap.objs.size ε ζ|ADJ=>AHy ε value ζ|Ş=>["left","right"]|Ab9=>plainId_quiet ε _|AJY=>(AH0 EL)|Ab_=>Dx H' u|ADK=>DS pR ε 0|Ab'=>Co mg IR|ş=>APK length|Š=>R (ε K a) H1|ADL=>Sb tv d ε|š=>comb ks rs j|AQP=>(AH4 k.map)|AQQ=>fk S n bs k|Ţ=>K.In s.heap|ADM=>f A3|ADN=>yQ rows ws|ADP=>ii LV<2^100|ţ=>wG rows x h|BGI=>knd.is k v=true|AQR=>∀(ABd) (K:W.Frag) (mg:CB),_|AJZ=>yu X.K F' ε H' C dx x|AJa=>AllBare s'.gens|Ť=>standAt apos.atName|AJb=>X.pn++pins|BGJ=>["hand",ε,"sheets"]|ADQ=>AIK nd|AJc=>(hn a ha).2|AJd=>rD OB cr|ť=>∀{K:W.Frag}{F H:Hp},_|AQS=>iV t ε l xs|AQT=>(aJ K F ds vs)|Ŧ=>by show APa hl|ŧ=>b1++ (ε++b2)|AJe=>∀S∈Ss,ε|Ũ=>(ks.zip vs)|AcA=>by have:=ε;show A_ ζ;exact η|ũ=>AD r hr|ADR=>AI ε _ _|Ū=>Si ε yS _|ū=>Heap.SameBut ε s.heap h'|AcB=>(Μ s (APW (x W_)))|Ŭ=>Abm I1.kept|AcC=>#[Kr (i:=ε) (A2 ζ) η θ rfl Cl ι]
|ADS=>PE X b tb|AcD=>ε fun kv=>Abr|AQU=>tb s p|AQV=>Nn bs (Lg ε b)|AQW=>AAt 0 1|ŭ=>AAv (Abb ε) l2|AcE=>(qS iB ks i_)|AQX=>(Í APH [])|AcF=>⟨.int ε,H,ABa,ζ,q⟩|AQY=>fun i h h' st k=>ε|Ů=>by show if decide (ε)=true then _ else _|ů=>by show Abt (Jv e1 ε)|AQZ=>wpAny_holding (vs:= ε)|Ű=>by rw[List.append_nil] at hbs|ű=>by unfold cutD HT.sIx|AJf=>ε mainGlobals mg|AQa=>(ns.map V.int)|AQb=>ε (rs:=rs) (ζ:=η)|AJg=>AO7 toks Abk|Ų=>by show VS t' ry|ADT=>HK X.N y|ų=>Θ (AAf W.findIn AAd ε)|Ŵ=>∀ms:ε,ζ ->η ->P (ms.map θ)|ADU=>XG Fn.len hs|ADV=>GZ B q|AJh=>(.int i t)|ŵ=>by refine lZ (AD r hr)|AJi=>∀(BGC) (sP),_|ADW=>iF (E1 "list") (.seq its.toArray n)|AcG=>BGD env.cells.lookup|AcH=>.dict es ep|Ŷ=>fun i h st b hb=>ε|ŷ=>fun b hb u q=>(Ä ε)|BGK=>wpAny_callSpecial?_slot (name:=È "__next__") ε ζ η|ADX=>Nf (i:=ε) nd rfl rfl (own:= ζ) (N' := η)|AQc=>o.cls= E1 ε|ADY=>(match ε with | true=>ζ | false=>η)|Ÿ=>⟨XI ε,xV τ⟩|Ź=>by have hn:=pP|ź=>by subst r1 r2|Ż=>(Hd.recOf yg).ε|AQd=>b1++ (ε++b2)|ż=>by have gr:=Gr.laid (o:=ε) ζ η|AQe=>∀(hd:BM x "__debug__":=by decide)(hcd:BM x "__classdict__":=by decide),_|Ž=>by have ε:ζ:=fun i hi=>η|ADZ=>pr e ε ?_|ž=>AHX ε c ζ (y_ η) θ ι|AQf=>by rw[Around.under_plainId ε _]|AcI=>(Aq K F H Ex E)|AcJ=>APG (APE ε) (APE ζ)|AJj=>ha z E cx pos|AQg=>k ε Η o e|BGL=>fun v z=>(BGF d)|AcK=>(BFz AAg 1)|ſ=>by have line:iS ε:=Κ|ADa=>(Abn Abi [])|AJk=>APk ε (ζ t E σ H Q)|AAG=>by refine wpAny_passesOwn hp (bV ε ζ)|AJl=>(APf ha H _ I h)|AAH=>∀(w:World)(os:OsState),_|AAL=>holding [ov] (getMethod ov ε ζ)|AJm=>["self","work","sheet"]|AAP=>Value ->Value ->APg|AAQ=>(aJ K F ds)|BGM=>∃F2 Γ2,aw F2 H Γ2/\cc F2/\ε|BGN=>⟨ru,ps,ms.flatten,ε⟩|AAR=>by obtain⟨hq,hx⟩:=hg|AAS=>Ah rfl (APG (qh 0 ε) (qh 1 ζ))|ADb=>Array (Option Value)|AQh=>Kd e ds vs ε|AJn=>(AAj s3.heap.objs.size s3 AIW fp)|AAT=>∀{d:D}{v:V},_|AQi=>∀(i:Nat) x y,Sm ->Abo ->ε|AAV=>⟨ε,ζ,η,k.rt,k.rf,k.rT,k.rm⟩|AAX=>callWith pos f first ε ζ|AJo=>∃i j,x= B9/\y= cE/\ε|AAZ=>by have hu:(A.deeper (BFv ε ζ cdv)).units+21<cLine:=FE hr.units|AQj=>∀[AII β],_|ADc=>(match ε with | ζ=>η | none=>θ)|ADd=>by rw[List.length_map,ε,ζ]|ADe=>by injection ε with ζ _|AcL=>show¬(ε) from ζ|ADf=>⟨ε,AC ζ⟩|ADg=>by rintro⟨ε,ζ,rfl⟩|ADh=>Nat.ne_of_gt ε|ADi=>by show PV|BGO=>(by kernel_rfl)|ADj=>(by size_fits)|AJp=>h.get? ε=some ζ|AJq=>by rw[ε,<- ζ];exact η|ADk=>(cV 9)|ADl=>(qv 9)|ADm=>AL a|ADn=>AL b|ADo=>(AW S)|AcM=>(AW fa)|AQk=>zU.mp h|ADp=>(B4 0)|ADq=>BG χ ε|AQl=>.ref x|ADr=>.int a|ADs=>.int b|AcN=>(A2 (#[]:D7))|ADt=>Ο d|AQm=>(ε b hb).2.1|ADu=>LJ H1 ε|ADv=>B' ws ε|ADw=>Ev Expr|AcO=>i<es.size|ADx=>.inl i|ADy=>Dx H2 ε|ADz=>.inr w|AJr=>zU.mp z|AcP=>by show B8 ε ζ List.pairwise_cons.mp η|AD_=>some u|AD'=>Rp _ _|AJs=>(Bi h2)|AEH=>ms[i]|AQn=>(D' e)|AEI=>Bn z|AEJ=>Bn hands|AEM=>Bn works|AEO=>.bl false|AQo=>j<2^62|AJt=>B5 Abu|AQp=>x∈f|AQq=>(CL work)|AEP=>ph ps.length|AEQ=>.tup (AAt ε ζ)|AEU=>.tup (k.map fP)|AEV=>by show IU r;rfl|AEW=>by rw[Χ ε] at h|AEX=>by rw[Ap ε] at h|AEZ=>bO rows|AJu=>B_ (qD (ε h))|AEa=>by unfold ε;rw[ζ]|AEb=>(.bl true)|AJv=>Pc F1
|AEc=>(.tup ys)|AEd=>by show D1 hk|AEe=>AAa ο|AEf=>DF ?_|AJw=>FY Id|AEg=>by show VX hq'|AQr=>by have:=ε;omega|AEh=>(l.length - 1)/2|AEi=>0<ps.length|AJx=>by rw[ε];decide|AQs=>DH (WA ε z)|AEj=>De ε (HV ζ η)|AQt=>∀r∈rs,ε|AEk=>A i j|AEl=>.dik _ _|AEm=>(Jp w)|AEn=>HL _|AEo=>Co ε .free|AEp=>Pl ho ε|AEq=>b∉X.fs|AEr=>#[qv 0]|AEs=>#[qv 1]|AEt=>AHa fs.length|AEu=>by show MW rfl ε|AEv=>AAi A.units|AEw=>α ->D|AEx=>KU (à ε) ζ|AQu=>AAk FuncData|AEy=>∀(te:TE),_|AQv=>Q (B4 ε) H|AEz=>(xs.map .str)|AJy=>L5 (r j+ε)|AcQ=>(ε==Value.none)=true|AJz=>SV List.getElem?_map ε|AJ0=>fun x vs H Q=>ε|AE_=>LW _ rfl ε|AE'=>N_ (SD ε) ζ|AJ1=>Se (.tr as AHv)|AJ2=>(zD (V_ o m) Da)|AQw=>by simp only [ε];exact ζ|AcR=>DZ ε ζ ["some"] η|AQx=>dH k A|AQy=>(n,NameKind.cell)|AFG=>dg (gQ ε ζ)|AFH=>Sem Bool|AQz=>hix i hi|AFI=>w∈ws|AQ0=>(ps.map Cu)|AJ3=>i9 ε (lN ζ t)|AJ4=>Á ε [a]|AQ1=>(.tr KK tt)|AJ5=>e∈S|AFJ=>AAz e|AFK=>AAz h|AFL=>(Abw::us)|AcS=>rq s.heap.get?|AFM=>r6 vs|AJ6=>tn i s.heap|AQ2=>∀cs,P d ε|AFN=>∀i,CO ->ε|AJ7=>Cls K C|AFO=>R.sl i _ e|AFP=>by refine lZ (AD ε _)|AFQ=>c_ (ε dJ ζ)|AFR=>tY knd kf led ε|AFS=>ABL ε .ellipsis|AFT=>w::vs|AFU=>v::vs|AJ8=>(.Name "reversed" p2)|AJ9=>AHx AHg|AJ_=>fs c p|AQ3=>(Nn fp ABg)|AFV=>kK ε (uD X.K ζ)|AFW=>∀(a b:Rat),_|AQ4=>(Ó "marks")|AFX=>(Ô au)|AFY=>kL ε Τ|AFZ=>y::ys|AFa=>["row","right"]|AJ'=>(sR cq)|BGP=>D3 (ε i Value.none)|AFb=>Sb te d ε|AFc=>by show P7 ε rfl ζ h|AcT=>AAq W.findIn WE ε IR|AcU=>AAq W.findIn WE ε (LP ζ)|AFd=>by show Mm (ε>>=_) _ s|AFe=>fk S n bs EL|AFf=>BFz (EU ε) ζ|AQ5=>∀k,k<n ->ε|AFg=>(n - e)|AFh=>FC fun i=>ε|AQ6=>C8 (∃ε:ζ,ds= [η]/\θ/\ι)|AFi=>Ü BGL|AFj=>ß ε (qV ζ)|AQ7=>rS TR t'|AQ8=>.cons ε BS|AFk=>Ρ Ε ε ζ η (ABk θ)|AFl=>R1.sl i _ e2|AKB=>GM ε [ζ] [0] η [θ,ι]|AFm=>by refine⟨Abv,ε,ζ,?_,?_⟩|AFn=>QI X F0 H0 tg|AFo=>ABm ε Τ|AFp=>AIQ i6 ε|AFq=>yr (j:=1) rfl|AFr=>(backToKw pos (keywordEach [] X.env))|AQ9=>j::post|AKC=>APZ s1 ε|AFs=>(hu1 hu)|AFt=>APc ε (LO ζ)|AFu=>by refine z6 (wpAny_seqItems ε rfl ?_)|AKD=>AIY jI ε ζ|AFv=>mF ks k=true|AFw=>k a zY _ e3|AFx=>APj ε (H' =H/\ζ) η|AFy=>qj N d q|AFz=>AId (iU F ε (PZ ζ) η) θ|AKE=>as=ABH|BGQ=>env.scope.kind== É|AQ_=>dx≠x|AF_=>⟨#[c]⟩|AQ'=>(compareOp op)|AF'=>.dK kvs|AcV=>by rw[ε] at e;cases e|AGA=>∀(q:Rat),_|AGB=>(x::xs)|ARA=>PE X o td|AGC=>hN b (AC ε)|AKF=>VZ v Q ε|AGD=>by show MW (Cc (false=true) ε) zJ|AGF=>APr (.Subscript ε ζ pos')|AGG=>(sT a u)|BGR=>env.kindOf n==AIJ|AGH=>∀{P:Program}{w:World},_|AGI=>⟨f,hf,ε⟩|AGJ=>["place","row"]|ARB=>by simp [ε,List.find?_cons,ζ]|ARD=>ε dx=some (.xd ζ)|AGK=>iC (cT ε)|AKG=>(ε p hp).1|AGL=>FS e e|ARF=>KI ta d (Nl ε ζ)|AGM=>BY ε hu ζ η (KE θ)|AGN=>m5 fs xs ε =some ζ|BGS=>(AbS bP t')|ARG=>IsPair ε ζ x y|AGO=>mU Ss fs|ARH=>jv d ks xs|AKH=>ce _ H1 _ R1 s1 ε h1|ARI=>Aby op|AKI=>lB xs=some ns|AGP=>HD K F Jf ε ζ|AKJ=>(N9 u ABP)|AGQ=>∃W:AHY ε,(∃m,ζ)/\η|AGR=>by show N2 hx q q|AGS=>(yh own.length caps σ)|AGT=>⟨F1,Γ1,P,R1,q,ε⟩|ARJ=>Ab5 hb|AGU=>fun h hh=>ε|AGV=>by simp [gY] at h|AGW=>∀(hu:js),_|AGX=>∀(i:Int),_|ARK=>ε ζ (fun c η=>θ) fun c xs ι=>ν|AGY=>AD x hx
|AGZ=>by show AS ε ζ η θ r hr|AGa=>by have ε:ζ:=fun w hw=>η|AGb=>Ng (As (ε (by show ζ;symm_saturate) rfl η #[θ,_] #[vC,_] #[ι,_]))|AGc=>No bs.map bD|AGd=>(Iq x hx)|AGe=>by by_cases q:k' =k|AGf=>BGJ "hands"|ARL=>ε e0 e1 (Cc ζ η)|AcW=>uN rows ws m|AGg=>by show BV v us r1 r2 r|AGh=>Ω x qual st|AGi=>(ε prog w).is|AGj=>gR.d c S b|AGk=>qg S x h|AGl=>aR X.K C f|AKK=>BGN x|ARN=>∀ε Γ' F' H' ζ,Ρ AIC DT η θ ι|AGm=>APl tg ε [it] it (MV h ζ)|AKL=>(a::r).filter|AGn=>by obtain⟨h1,h2⟩:=ε|AGo=>∀F0 H0,ε|AGp=>by rw[IK e1,List.set_set] at ε|AGq=>(by first | show ABh | show Bz rfl)|ARO=>ABb/\ AIb/\ε|AGr=>by exact(Cc False r).elim|AKM=>∀{rs:CM},_|ARP=>#[qw (ε rfl rfl ζ η)]|AKN=>iA ο ψ|AGs=>AA Kf ω|AGt=>ε σ H1 Q|AGu=>by obtain⟨_,_,_,_,_,rfl,_⟩:=h;rfl|AcX=>ε (P.below ζ) (P.below η) θ ι|AGv=>hA _ _ h1|AKO=>Ek rows ms|AcY=>ae xH base ε ζ ["rows"] (η c)|AcZ=>⟨F,Γ,_,S,q,ε⟩|AGw=>FS h' h'.elim|AKP=>wpAny SF X.A ε Q E s|Aca=>FU w (XA w)|Acb=>(Dt a Ex)|AGx=>(assignEach ε X.env).map|AGy=>AI (b=a) ε ζ|Acd=>∀{a:Addr}{bs:Ν},_|AGz=>Dn lt p ε|AG0=>∀(t b:Int),_|AG1=>(dv t b).natAbs|BGT=>I.list (sF.seq hq)|BGU=>Ê (ε (Γ'.set i υ))|AG2=>by show c8 ε hp hp|AKQ=>(.str x t)|AKR=>AHw ta vs ε|AG3=>aw F H Γ|AG4=>P (d i j)|ARQ=>∃a ε,x= AF/\ζ/\η|ARR=>(s1.heap.push W.emptyDict).push|AKS=>I1.fpOk CC (I1.hok.fresh CC)|AKT=>by show HH (Ff setField) (wpAny_setField h1 h3 Η ?_)|ARS=>putK kvs k ε|AG5=>by have hl:Mb ε=ps.length:=ζ|AKU=>sp ds ε (AH3 C C)|ART=>(.Tuple elts x1 pt)|AG6=>fun h' eb=>(HU (BGB (eb b o hb e)))|AKV=>∀(Ab1){H:Hp}{s:Shared},_|AG7=>i6/\o∈s|AG8=>APd ε I Ab2|BGV=>Heap.get?_update_self _ ε (Obj.isFreed_of_fields ζ)|AG9=>by show B8 rfl rs Qs ε|AG_=>by have ε:=AHX ζ c η (y_ θ)|ARU=>∃σ' H',Ab3 /\ε|AG'=>∀P:P9,ε ->one (f ζ) P|AHA=>GA hs.2 b (zK (zM (zG e) ε))|AHB=>G2 ->BG (BG ε G2) XW|Ace=>(pick Str.empty ys is).map|Acf=>es[i].key|ARV=>fun t' Cx=>∀cs,E ε Cx.bare|AHC=>by obtain⟨Ss,F,p⟩:=ε|AKW=>["rule","marks","gap"]|AHD=>∃k as ks ε,ζ|AHE=>TE ->TE ->TE|ARW=>bD (Cr Î ε)|AHF=>Sat lt n ε Q|AHG=>.inr (.inl (mq τ))|AHI=>by show N2 hb hb hb|AKX=>IsPair ε TO a b|ARX=>E2 kv.1 k (kv.1,ε) kv|AHJ=>ε Ú a ws ep|AHK=>∀(R:DO χ) (v:V),_|AHL=>(.Tuple b9 k2 Mh)|ARZ=>ε K C f sp vs H Q E|AHM=>by obtain⟨d,d0,bd,hd⟩:=ε|Acg=>(ne b _ q AIB)|AHN=>(! t.plain&&Θ (es.size>1))|AHO=>by cases (Cc (u=Value.ref b) ry)|AHP=>V ->KP ->KP ->AAb|BGW=>∀{d:Int}{tb:P4}{rs:CM}{fs:ABO},_|BGX=>sp (bv::es) (E_ (P r Γ2)) fun Cx=>E Γ2 Cx|AKY=>by show KW oi h1 h2 h3 hit|AHQ=>by cases b<;>simp [gY] at h<;>simp [h]|BGY=>ae wX base ε outer s H|Ach=>(lM sc s.heap.objs.size X.env).ε|Aci=>MX "range" #[.int lo t,.int hi u,.int 1 v]|AKZ=>iV t1 s.heap l1 xs|BGZ=>∃N:Ix,(∀σ' H',N σ' H' ->AIP ε)/\ζ|AHR=>by obtain⟨a0,u0,rfl,h0⟩:=lV h|AKa=>iV t2 s.heap l2 ys|AHS=>[.Tuple [.Name x px,.Name y py] kt pt]|AHT=>by refine Qq hit hg O rfl ?_|BGa=>gR.look (c:=c) (S:=S) (b:=ε)|AHU=>by show BO ε (fun i H2 F2 s2 s3 _=>(im ζ η (AD d hd)))|AKb=>Nat.ne_of_gt ε|AKc=>xs.length=ε|AKd=>hacc.1|Acj=>by rw[List.length_cons,ε]|AKe=>by rw[ε,List.map_append]|ARa=>⟨#[],ε⟩
|AKf=>(by rcases ε with e | ζ)|AKg=>by rw[ε,List.getElem?_map] at ζ|AKh=>(by rcases ε with ζ | ⟨⟨xs,η⟩,θ⟩)|Ack=>s.heap.FunFrames ε ζ|AKi=>List.replicate ε ζ|AKj=>by exact_mod_cast ε|AKk=>List P2|AKl=>by obtain⟨_,_,_,ε⟩:=ζ;exact η|AKm=>(by simp only [List.size_toArray]<;>omega)|BGb=>by obtain⟨ε,_,_,_,e,_⟩:=ζ;exact η|ARb=>ε (List.range ζ)|AKn=>.pu S2|AKo=>.pu S3|AKp=>.pu S4|AKq=>.ref c|AKr=>Ο Y|AKs=>Ο Õ|ARc=>(bs.length+1)|Acl=>(SD 10)|AKt=>LJ (z0 ε) ζ|AKu=>B' kvs ε|AKv=>Nat.lt_or_ge i ε|AKw=>Ev FuncData|AKx=>Ev Rat|AKy=>DO XV|ARd=>Nat.le_succ _|AKz=>a.Perm b|AK0=>by rw[ε,ζ];omega|AK1=>Χ τ|AK2=>AQ ys.length|ARe=>Dx ε (Â ζ η)|AK3=>.str a|AK4=>.str b|AK5=>.str work|Acm=>(match d with | ε=>ζ | _=> η)|AK6=>(KE hi)|AK7=>some w|ARf=>aA ε (aA ζ (D_ η θ))|AK8=>As (dQ ε)|AK9=>(ε b hb).2.2|ARg=>show ε by simp|AK_=>by show At ε ζ η List.mem_flatten.mp θ|ARh=>(Bi hj)|AK'=>fun z E cx=>ε ζ|ALA=>Bn k|ALB=>Bn m|ALC=>Bn sz|ALD=>Bn way|ALE=>Bn most|ALG=>Bn (0+ FA)|Acn=>BI ε V.str|ALH=>B5 0|ALJ=>(zA.mp ε).1|ALK=>x∈g|ALN=>BD aJ|ALO=>BD gF|ALP=>a::b::t|ALQ=>a::dx::bs|ALR=>.tup _|ALS=>SH V|ARi=>ε ζ (List.mem_cons_of_mem _ η)|ALU=>Xo rows w|ARj=>fun z E cx=>Ko ε ζ|ALV=>F9 WS|ALW=>F9 APV|Aco=>(LO "StopIteration")|ARk=>IS Fr ε|ARl=>IS WI ε|ARm=>(LP "sorted")|ARn=>b≠s.heap.objs.size|ALX=>(r - 1)|ALY=>FX (.inl hb)|ALZ=>FY us|BGc=>Heap.get?_update_other _ _ ε|ALa=>by show CD rfl|ALb=>by show CD I1.kIn|Acp=>xs.length<=i|ALc=>ps.length - 1|ALd=>EK em|ALe=>IT ABH ε|Acq=>VU F' H|ALf=>ε+1<scanBound|ALg=>by rw[ε];simp|ALh=>De hq1 ε|ALi=>(zS WS)|ALj=>#[iP ε (ABo ζ η θ)]|ALk=>(ax ho)|ARo=>b∉ex|ALl=>b∉ch|ALm=>ay st ε|ALn=>IZ s|ARp=>IZ AcE|ALo=>LZ rfl ε|ALp=>∀h∈hs,ε|ALq=>∀h∈ç,ε|ALr=>zg env.cells.lookup|ALs=>by obtain⟨ε,H1,I1,ζ,q1⟩:=hz1|ARq=>a_ W|ALt=>absurd ε τ|ALu=>aD l fun a=>ε|ARr=>α ->β|ALv=>α ->Int|ALw=>by have hl:=kv.length|ALx=>Lm L|ALy=>.pu (bO A)|ALz=>IF List.getD_eq_getElem?_getD ε ζ|ARs=>N1 FV|AL0=>Lv ?_|ARt=>AHc o|AL1=>SU (P ε Γ)|AL2=>AAn α|ARu=>AQ xs.length/\ε|AL3=>qA (iS 1)|AL4=>(lt i j)|AL5=>ps[By]|AL6=>(b::t)|ARv=>lR rs g|AL7=>(WN Ζ)|Acr=>o0∈iX|ARw=>by show Abz ε;exact ζ|AL8=>i<=xs.length|ARx=>(.pu ABf)|AL9=>AHh ε Δ|AL_=>cY j<=9000|AL'=>(Wp kM)|AMA=>(List.length_filter_le _ _)|Acs=>Heap.ExtBut ε ζ h'|AMC=>by show OC hq1|AMD=>Sr (ABG H)|AME=>#[ε rfl Cl ζ η]|ARy=>rawInt 0|AMF=>AHm Heap|AMG=>AAy cK|ARz=>P ds Γ'|AMH=>by unfold ε;rw[ζ,η];grind|AR0=>(TC BFx)|AMI=>(cf aq)|AR1=>ε t1 t2 h l1|AMJ=>xs[j]?|Acu=>AHq (AIe s3 s2)|AMK=>(AF::us)|AR2=>W.isFn K IR=true|AR3=>AHs vs.toArray|AML=>by have hlen:AQ ε:=ζ|AMM=>∃c,x= .bl c/\ε|AR4=>w6 K C|AMN=>XT bv ε|AMO=>fun o ho=>ε|Acv=>(ABM hb)|AMP=>AHx (iS 1)|AR5=>fs s p|AR6=>(Ò (a_ U))|AMQ=>Rd H a FV|Acw=>by rw[List.length_map,<- hl]|AMR=>ABS H|AMS=>(2^105*27720)|AMT=>ε fun h=>qD (ζ h)|AMU=>cY (ε i j)|AMV=>by show P7 ε ζ rfl h|Acx=>kR (kY W (ε w) (ζ w))|AMW=>.bool false|AMX=>(.dK [])|AMY=>(se AIg)|AMZ=>cB bU (kN ε ζ) η|AMa=>DS cN ε 1|AR7=>vQ rows ws|AMb=>Sz 1900 q|AMc=>ABc ε å|AMd=>∀(t:bK)(E:XW),_|AR8=>sp vs H Q E|AMe=>(x,c)∈ε|AMf=>ABe vs
|AMg=>cB mC Τ ε|AMh=>PS X (.Assign ε ζ pos) η|AMi=>B1 (.Subscript ε ζ pos) η|AMj=>(AIL List.size_toArray)|AMk=>by obtain⟨its,rv,p,hz⟩:=I.list hq|AMl=>APX den|AMm=>Dm led t|AMn=>yr (j:=0) rfl|AMo=>ps[By].1|AR9=>fs.length<1000|AR_=>APb s.heap.objs.size ε|AMp=>aD rows (Kb ε)|AMq=>ABn (ABx ε)|AMr=>Abl (x o)|AMs=>ABq sc.names.lookup|Acy=>ABW jI ε aW|AMt=>∀(ta tb:TE),_|AMu=>∀(ta tb:aY),_|AMv=>ABv ε Τ ζ|AMw=>by refine ε ζ (List.map_congr_left η)|AMx=>by exact False.elim h|AMy=>AD q hq|AMz=>(IA a o)|AM0=>kZ K H p xs|AM1=>by rw[ε] at q;cases q|AM2=>[(f,v)]|Acz=>(Â #[] 0)|AR'=>Å F1 ds|ASA=>(hn a ha).1|ASB=>(AIp aW)|AM3=>(APu s3)|ASD=>APy 40|Ac0=>(APz gr.f)|ASE=>(R1.grow gr)|AM4=>s.heap.get? l=some ε|Ac1=>cx.px pins σ ε ζ|ASF=>(ts++ [t])|AM5=>AP2 (AIh ε)|Ac2=>by unfold ε;rw[ζ];grind|ASG=>pr hb e ε|AM6=>by show AP5 hz1|AM7=>⟨a,dx,vs,ε,ζ,η,θ⟩|AM8=>AHz (r_ Ï)|AM9=>kT PE e ε|AM_=>AP7 Ab_|AM'=>z8 _ (z8 _ ε)|ASI=>kZ K H1 a xs|ANA=>W i m σ H|Ac3=>Un (frs X.stack) [] ε ζ|ANB=>BGE (IA p ε)|ASJ=>kk d ε F' H' v ζ η rv hp|ANC=>ε fun a b=>Ï|BGd=>(ε (HT.sIx ζ 0 lo)).take|Ac4=>fnOf x qual (Hu st) Ù (bB st) ε ζ η|ANE=>fun vs H Q E=>(AIT ε)|ANI=>(false,DE ε)|ANJ=>fun c hc=>ε|ANK=>.any C|ANL=>by have ε:ζ=η:=Heap.size_push ..|ASK=>Q Ι (z0 ε)|ANM=>ε K c (Bo Q) (aK ζ ds) VO|ASL=>yW rows w ε|ANP=>LS o e|ANQ=>EV l (z0 ε)|Ac5=>P_ s hs|Ac6=>(Ab8 ts)|ANR=>y=kV k|ANS=>∀i j,CO ->ε|ANU=>AcA ε ζ this|ANV=>fun D0 Γ E=>ε|Ac7=>w∈ws↔S_ (ω=w)|ASM=>(I.freeC x c e)|ANW=>AcF ε Cf|ASN=>pI ks xs ε=some d|ASO=>BGK ε ζ (ABt η θ ι (ν _))|Ac8=>M6 xs ys h.2|ANX=>(.Compare a [op] [b] pos)|ANZ=>#[Vx (i:=0) ao ε ζ rfl Cl]|ANa=>k∈ks|ANb=>[topFrame z]|BGe=>[.Name x pos']|ANc=>fun q hq=>ε|ANd=>by have hlen:=r'.length|ANe=>∀f∈fs,ε|ANf=>ω - l.1|BGf=>by simp only [ε,Bool.and_eq_true,ζ] at h|ANg=>DC vs ε Value.none|Ac9=>DC ε l (.pu (fP k2))|ANh=>Cb ε (fun v z=>AHe)|ANi=>(ε ζ).congr (DF η)|Ac_=>PE X i ty|ANj=>(bZ.mp hr).1|ANk=>.int i _|Ac'=>∀j,uM (r j)|ANl=>Me if_neg ε Bool.false_ne_true|ANm=>fun ε ζ=>wpAny MO A η Q E θ|ANn=>ε X.K H a xs|ANo=>s3.seq (s2.seq hq)|BGg=>HT.sIx xs.length 0 lo|ANp=>eU.mp ((e ε).mp ζ)|AdA=>BGP vs.getD|ANq=>by obtain⟨z,hd,xs,rel,dd⟩:=i7 Kc|ANr=>by obtain⟨z,hd,vs,rel,dd⟩:=i7 EY|ASP=>fs.lookup f=some v|ANs=>.str x _|ANt=>by show è vI rs ε|ANu=>fun i j hij hj=>ε|ASQ=>rF X.env.scope y|ANv=>pW ε qx (N0 ζ)|ANw=>nP Γ σ ε a|ASR=>fun b u q n ε=>ζ|BGh=>(s.heap.update a (Obj.mapSeq (C6 #[]))).ε|ANx=>by obtain⟨u,hu,ru⟩:=ε|AdB=>oW X.prog X.w|BGi=>BGV ε (Obj.data_mapFields ζ _)|ANy=>ZipApart z TI TO i1 i2 l1 l2|BGj=>(fk S n bs k)|ASS=>BGY A|ANz=>BGa b|AN0=>(∃x∈ε,C x) ->AP3 ζ|AN1=>∀m∈ms,ε|AN2=>∀(s:Shared) (ε:ζ),η|AN3=>∀(hh:Qr),_|AN4=>∀(w:World),_|AN5=>by have key:=List.pairwise_iff_getElem.mp ε|AN6=>(ABX++m.take j)|ASU=>(AQD - AIc)|ASV=>setField ε ζ (rawInt η)|AN7=>by obtain⟨_,_,_,_,rfl,_⟩:=h;rfl|AN8=>ε σ H2 fun ζ H3=>η|AN9=>by show BO ε (FS h (PassesOwnAt.leavingOf h))|AN_=>E2 g f ε ζ|ASW=>IS MU (b_/\ε)|ASX=>HK ε (.tr [] (.kt k))|AdC=>Lu (wG rows x A3)|AN'=>by show Fs AM k|AOA=>by show P6 ha ha
|AOB=>IntsAre vs ns|AOC=>Un fs ex H ε h ζ|AOD=>cP 2 ε (ζ η) AcK|AdD=>i4 FC (D3 ε)|AOE=>(lO c.Scale "points" Τ)|AOF=>(wu bL aM Φ)|AOG=>[(false,DE ε)]|AOH=>(w.params.setOrder S ep)|AOI=>by intro _ h;cases h|ASY=>AHw te v ε|AOJ=>I 0 Γ|AOK=>AH1 pB s o|AOL=>(bs.getD k c9)|AOM=>fD X.N sc own caps X.env.scope N'|AON=>X.env.scope.names.lookup y=some APw|AdE=>1+ AIA 5 3|AdF=>AI MU none (ε b)|AOO=>∀{ds:ψ}{vs:χ},_|AOP=>ABw (backToKw cpos (keywordEach [] X.env)) (x.1).isSome|BGk=>(SW WI H2 H)|AdG=>(fun s o=>y s o - x o)|AOQ=>C5 uw body tb|ASa=>APs IG bs.length|AOS=>ε l its.toArray n ζ|AOT=>#[Ah rfl (AcJ ε ζ)]|AOV=>by show HH (setState S) (wpAny_setState_of hg O.dat O.fit ?_)|AOW=>fun xs ds P=>ε|BGl=>.builtin "type.__call__" ⟨ε,kw⟩|ASb=>je (ws.map qa) ε|AOX=>Lean rows ms x|AOY=>FD l AG (APU ε) ζ|AOZ=>by have I1:af MT:=BGB (AP9 sb)|ASc=>by obtain⟨its,rv,pl,hz⟩:=BGT|AdH=>Sz 4000 (fL (ε k))|AOa=>∀(X:Cx) (vs:χ) (H:Hp) (Q:VK),_|AOb=>fun ds Q _=>ε|ASd=>∃d:Int,d≠0/\ε/\ζ|AOc=>∀{st:Stmt}{f:Addr},_|AOd=>(iw K F H ts)|BGm=>HT.sIx xs.length xs.length hi|AOe=>gP kvs k=some v|ASe=>AIE ε C m k ps sp|AOf=>AQC (APi ε) Ab' ABu|AOg=>by obtain⟨hp,g,d,tk,os⟩:=s|ASf=>BGZ (W BE m' σ' H') (∀x H',ε i H x H' ->ζ)|AOh=>by obtain⟨f,fd,ε,ζ,η,θ⟩:=G.ex|AOi=>.pu (rR c ps)|AOj=>(zK (zG e))|AOk=>by obtain⟨a,_,rfl,_⟩:=r;rfl|AOl=>Low rs cs a ε|AdI=>(seqObj "tuple" vs.toArray 0)|ASg=>cX (fun d es=>s d*ε) ζ|AOm=>(AI (i<0) (-i) i)|AOn=>ε Fn hr hb cx|AOo=>#[UL (A2 ε) rfl cI boot_list ζ]|ASh=>∀{mg:CB}{base:Heap},_|AOp=>obs K=good w|AOq=>p_ td (AQE (PN H1 a) (APq ε))|AOr=>AcC ε Qk PySem.F.slot_list_append PySem.F.type_list_append ζ|AOs=>∀d v F' H',cy ->ε ->ζ ->kG|ASi=>ε ζ (fun _ q=>q) AIO|ASj=>(Heap.SameBut.update s.heap I _).ε|ASk=>IsPair ε TI (AW i1) (AW i2)|AOt=>∀σ H Q,t' σ H Q ->t σ H Q|AOu=>ê k qual st ->ε|ASl=>["row","lead","place","ahead"]|AOv=>by simp only [List.mem_cons,List.not_mem_nil,or_false,not_or]|AOw=>by obtain⟨⟨old,q⟩,st⟩:=q|AOx=>Binds X.K fd ps []|AOy=>Θ (ε+ ([]:APP).length+ (AI ([]:APP).isEmpty 0 1)<30)|AOz=>gB (i:=ε) nd rfl Cl (As ζ)|AO0=>by show ABK a1 u1 h1 h0|ASm=>qH s.heap d es ep|AO1=>by refine wpAny_Call_Name_kw (BY R7 I hg hm ?_ hdb)|AdJ=>∀(t:T) (v:V) (as:Ν),ε|AO2=>∀(ts:EX) (vs:χ) (as:Ν),ε|BGn=>hbody cdv A outer s|AO3=>FB ["one","other"] "one" "other" ε|AO4=>by obtain⟨o,e,c,d⟩:=st|ASn=>envOfC qual scope s.heap.objs.size f|BGo=>ds= [qD a,qD b]/\Pp a/\Pp b/\ε|ASo=>∀{S:Ξ}{n:Int}{bs:ID},_|AdK=>iM CX P w K mg base N qual scope f ε A|BGp=>∀c o,c≠z ->Ρ (c≠TO) (c≠i1) (c≠i2) (AHn c) ε|BGq=>h F1 ε z jG (Qj cx) pins s σ|ASp=>Pu (s:=MT) e c d τ ⟨ε,H,I1,ζ,η,θ,AIi hf⟩|AO5=>by refine bV (APo (Uc (E:=fun C dx H' =>AIr)) I (hx.imp (IE C dx H' z))) fun _ s'' z=>z|ASq=>by rw[List.map_cons,ε,ζ]|ASr=>by rw[List.getD_eq_getElem?_getD,ε]|ASs=>ns.length<ε|ASt=>⟨ε,trivial⟩|ASu=>by simp only [Array.length_toList] at ε|AdL=>by rw[List.getD_eq_getElem?_getD,ε,ζ,η]|ASv=>⟨We ε ζ⟩|ASw=>(by rcases ε with (ζ | ⟨o,η⟩) | θ)|BGr=>by simp only [ε,decide_eq_true_eq] at ζ|ASx=>by simpa [ε] using this
|ASy=>if h:ε then ζ else η|ASz=>by rintro _ ⟨ε,rfl⟩|AdM=>I.hok.fresh ε|AS0=>Hd.adr_of ε|AS1=>by ac_rfl|AS2=>by cases e|AS3=>List σ|AS4=>A.frames=some ε|AS5=>(cV 11)|AS6=>(cV 10)|AS7=>(qv 11)|AS8=>(qv 10)|AS9=>AL w|AS_=>AL items.size|AS'=>(AW l1)|ATA=>.ref _|ATB=>Ο z|ATC=>st.2.1|ATD=>H_ s.heap.get? ε|ATE=>Ρ ε as.Nodup ζ η θ|ATF=>Χ n|ATG=>Χ hv|AdN=>C6 none|ATI=>C6 rfl|ATJ=>AQ z.length|ATK=>.inl rfl|ATL=>Ap (by rw[ε])|BGs=>.lst (m.map fun o=>ε)|AdO=>.str A3|AdP=>(match ε with | some (some ζ)=>η | _=>θ)|ATM=>by show B8 ε ζ Prod.mk.inj η|ATN=>(KE hc)|ATO=>some a|ATP=>some (.ε _)|ATQ=>E1 "set"|AdQ=>List.map_congr_left fun ε ζ=>η|ATR=>Str ->D|BGt=>Str ->Ev NameKind|ATS=>assign ε X.env|ATU=>st.2.2|ATV=>by refine codeAny_mono ε ζ|ATW=>(Bi hu)|ATY=>(Bi hk)|ATZ=>Bn n|ATa=>Bn at_|ATb=>FR Ix|ATc=>EA setNext|ATd=>EA Heap.get?_update_ne|ATe=>K.lookup a|ATf=>Value.ref a|ATg=>ET X.s₀.heap.get?|ATh=>.Subscript ε ζ pos|BGu=>wpAny_loadPart' hl|ATi=>by rw[List.getElem?_map] at e|ATj=>KF bs.length|ATk=>BD q|ATl=>BD qG|ATm=>.tup ys|ATn=>by cases (Cc ε r);rfl|ATo=>getD_get? e|AdR=>vP rows w|ATp=>AT ->Rat|ATq=>F9 o|ATr=>BY Tf|ATs=>(HA ds.map)|ATt=>List.getElem?_eq_getElem ξ|ATu=>(.bl b)|ATv=>show ε by decide|AdS=>(.tup AQW)|ATw=>VT ε (LU ζ)|ATx=>AAa Stmt|ATy=>x::post|ATz=>(c - 1)|AT0=>ε (by injection z)|AT1=>B2 AIz|AT2=>(APK map .inr)|AT3=>A.in1.handled=none|AdT=>by show ε;omega|AT4=>(by show ED;omega)|AT5=>(Int.gcd_eq_zero_iff.mp ε).2|AT6=>ε+1<l.length|AdU=>(zS kC)|AT7=>VY hj|AT8=>aB (ε c) (QQ ζ)|BGv=>wpAny_loadPart' hb|AdV=>List.mem_singleton.mp hb|AT9=>Q v H1|AT_=>(ax hi)|AT'=>(Dc ε hb).1|AUA=>f≠ []|AUB=>IZ (.tr as AHv)|AUC=>No ε intD|AUD=>#[qv 3]|AUF=>(p9 iter)|AUG=>AD b q|AUH=>zR.mpr rfl|AdW=>AHb W.emptyDict ε|AUI=>Lm ru|AUJ=>Lu Ab7|AUK=>N1 AQP|AUL=>(Ace .str)|AdX=>Lv (z7 h)|AUM=>.obj C fs ds|AUN=>ii NB|AUO=>ii OL|AUP=>qs.length<=1000|AUQ=>SV List.take_add_one ε|AUR=>e _ _ h1|AUS=>congrArg ε f|AUT=>(iI qs)|AUU=>by refine List.map_congr_left (AD ε ζ)|BGw=>(.Name "range" p)|AUV=>by show AJA;exact ε|AdY=>AHf "points"|AUW=>(d::ds)|AdZ=>BA e h|AUY=>So<=9000|AUZ=>(pre++c::AQM)|AUa=>i4 ε D.str|AUb=>GM ε ["hand"] ζ η θ|AUc=>W.length<=12|AUd=>h i hi|AUe=>M0 (AA ε ζ η)|AUf=>(QQ A8)|AUg=>E4 (pyIter ε)|AUh=>(.dT (ks.zip vs))|AUi=>V ->AAb|AUj=>ns.length<64|AUk=>(ε :Str)∉fs|Ada=>(ps.map kq)|Adb=>AAv s1.heap.push ε|AUl=>BFu "_law_found"|AUm=>cf (N0 ε)|Adc=>aZ (EU ε) (aZ (EU ζ) eZ)|AUn=>own.length=n|AUo=>ψ ->tN ε|AUp=>ys[j]?|AUq=>Ä (AB_ hn)|AUr=>gY a b|Ade=>List.getElem?_append_right (Bi hi)|AUs=>List.getElem?_append_left (Bi hi)|AUt=>WJ E3 h.2|AUu=>ABG H'|AUv=>s.heap.IsList l ε|AUw=>qN c p g fH ws bs ε ζ|AUx=>Th ε Τ|AUy=>V.ref (SY)|AUz=>zW _ hb|AU0=>(sD py)|Adf=>(sD yJ)|AU1=>DD (Builtin.Tuple.tupleExact _)|AU2=>kF Subscript ε ζ η|AU3=>C3 ε _ AI8 ζ|AU4=>(Nn fp (ABG H))|AU5=>mF ks k|Adg=>[.Attribute ε ζ pos']|Adh=>(f j).num|AU6=>k ε Γ F2 H2|AU7=>Rd H a WS|AU8=>AHz (· <= ·)|AU9=>by unfold ε;rw[ζ,η];exact θ|AU_=>AbX Key|AU'=>Dx F' u|Adi=>Co mg WE|AVA=>(200*27720)|AVB=>p.lv L f
|AVC=>comb ms rs j|AVD=>AH5 D|AVE=>AH5 V|AVF=>cR hb2|AVG=>sf aD|Adj=>ns.getD j 0|AVH=>(x,NameKind.free)∈ε|Adk=>(Heap.SameBut.update ..)|Adl=>pre++post|Adm=>(Obj.mapSeq AcN)|AVI=>á (.frz ε (Fb a C))|Adn=>â APV|AVJ=>R1.sl i _ e0|Ado=>ä its.toArray|AVK=>ABi e|AVL=>AIM X.base.get? ε|AVM=>k b u q|AVN=>by refine⟨ε,fun i Γ=>ζ,η,?_,?_⟩|AVO=>APX num|AVP=>Uz X F0 H0 tg|AVQ=>tP (AI2 ε) ζ|BGx=>(aJ K F ds rest)|AVR=>zP _ q|AVS=>Q none MT|AVT=>í ξ|AVU=>∃v,ε/\IH|AVV=>Abl 1|AVW=>W.hasDictIn K C=true|AVX=>SL t vs ε|AVY=>(.BoolOp .And (b::rest) pos)|AVZ=>(.BoolOp .And BGG pos)|AVa=>(.BoolOp .Or (b::rest) pos)|AVb=>(.BoolOp .Or BGG pos)|AVc=>(AIZ AI6)|AVd=>p7 ks k=true|AVe=>ABW ε Δ aW|AVf=>eO one (ε f) P|AVg=>∀(ABy)(AQe),_|AVh=>AD q hq0|AVi=>aD m f|AVj=>ABz H|AVk=>pO K H p xs|Adp=>by rw[z,ε] at q;cases q|BGy=>ACG s.heap.get?|AVl=>P_ S U|Adq=>Å F ds|AVm=>ABT m j ε|AVn=>(Abq s1.heap.objs.size)|AVo=>ACJ (aD l (Μ a ε)=ζ)|AVp=>Abs AcB|AVq=>FZ xs.toList|AVr=>q∈ps|AVs=>a.num*b.den|Adr=>ε s.heap s'.heap|AVt=>(ω - l.1)|Ads=>typeLookup ε ζ =pure η|AVu=>rR c ps|Adt=>rR c p.ps|AVv=>HI (nms.map .str)|AVw=>HI (JG.map .str)|AVx=>l.getD (XN) 0|AVy=>by show AI9 ε List.getElem?_replicate|AVz=>by show BV a vs hq rs r1|Adu=>(AJB ë)|AV0=>["self","work","sheet",ε]|AV1=>APt o kC|AV2=>by show GN;rw[EE] at hp;exact hp|AV3=>by show GN;rw[EM] at hp;exact hp|AV4=>BGH d|AV5=>BGH ds|AV6=>frs X.stack|AV7=>a∈as|AV8=>OK ->Int|AV9=>ε r (pm.mem_iff.mp ζ)|AV_=>#[zns (kD ε)]|AV'=>AA fH.map (B2 ε)|AWA=>iY f f[i]|AWB=>(AQH Str.empty)|AWD=>ε/\ζ/\η/\OA ks.length/\θ|AWF=>pj F ε (io ζ)|AWG=>f.getD k 0|Adv=>s.heap.IsCell c v|AWH=>AQI hr|AWI=>by refine z6 (wpAny_newObj_type ?_ ε)|AWJ=>AQN z|AWK=>ε i ξ ξ|AWL=>(n,k)::r|AWM=>.dic _ ts|AWN=>W.plainGet K C ε=true|AWO=>cz h.get? Abh|AWP=>FG ε s1 h1|AWR=>["end","ahead","bound"]|AWS=>uc a1 b2|AWT=>rD (Kf w) (V w)|AWU=>by show sx ε ζ η (cZ ns θ) ι τ|AWV=>AQS s.heap|AWW=>PA X [a] ta|AWY=>ô EN k|AWa=>(AcD kvs.any)|AWb=>am oN H' h'|AWc=>(AQV 4000)|Adw=>AQZ [_]|AWd=>ε treeTable p w 11|AWe=>(AQd [c])|AWf=>APA (swapsWithSole ε ζ pos.line X.env)|Adx=>BGM (I i Γ2)|AWg=>AQh h4|AWh=>Gr F0 H0 F H|AWi=>l::r::t|AWj=>by rw[List.map_cons,List.map_cons]|AWk=>U.length<=4|AWl=>x h - zw|AWm=>by simp only [List.lookup_cons,hx]|AWn=>by show ε=ζ;grind|AWo=>pure (ForInStep.yield ε)|AWp=>(xs++ys)|AWq=>(as++cs)|AWr=>ht _ _ cx|AWs=>by refine wpAny_newObj_type ?_ ε|AWt=>aD s (B_ ε)|AWu=>(KG Δ AI')|AWv=>by have e:vo ε GS=some ζ:=η|AWw=>zO (Jb ?_) ε|BGz=>AcQ (Value.ref d)|Ady=>t D σ H|AWx=>IC fO av ε f fd ζ (nU K (η c))|AWy=>ε rfl rfl bh rfl|AWz=>Q2 gY (M5 xs)|AW0=>kA ε Mo sB|AW1=>kA ε ζ (AQA B.get?)|AW2=>(Γ1.set i ε).set|Adz=>AcT "__init__"|AW3=>CT fun i j=>(Θ ε)|AW4=>.ow (rows.map qM)|AW5=>Steps prog w A I|AW6=>(Mc (WN Τ) ð)|AW7=>by obtain⟨v,_,rfl,rfl,rfl⟩:=rs|Ad0=>(GI Ζ (cU fZ Fc))|Ad1=>(AAm Abx [a] pos2)|AW8=>AP8 gP kvs|AW9=>vR p fH ws bs|AW_=>(wY xs lo hi)|AW'=>Cj d d' =true|AXA=>(j_ ps (Dv 300 p))|Ad2=>(ε b u e).stay|AXB=>by show BV v r h1 h2 h|AXC=>Slot.tr ε (.dic ks ζ)|Ad3=>(∃k,BGI)/\AP1
|Ad4=>[qL S,xR bs]|AXD=>by show NA (dA hz rfl (.ref ε)) rfl|BG0=>(xU ws v br)|BG1=>Ach cells.lookup|AXF=>uw (kB (APB ε ζ (bB η) f cdv A)) F0 H1 (v9 θ) (ι K c)|AXG=>St ->AI0 ε|AXH=>fun f=>ABs|AXI=>fun s hs=>ε|AXJ=>(jN ps).2<=ε|AXK=>k*7 % ns.length|AXL=>.ext (B_ ε)|AXM=>(.exc C)|AXN=>zK (Nat.lt_succ_of_lt ε)|AXO=>Μ hb (AcV ε)|AXP=>Value.int i t|AXQ=>∀c∈cs,ε|AXR=>∃m,m<n/\ε|AXS=>Value.str x t|Ad5=>aR K C f|Ad6=>D.rt v H|AXT=>(Iq b hb)|AXU=>(List.range' ε n).map|AXV=>by by_cases q:A3=h|Ad7=>i4 l.map qD|AXW=>rS TR t v as|AXX=>by have ε:ABr ζ s.heap.objs.size=some η:=θ|AXY=>Ο (f h) - p.xf h|AXZ=>.cons _ t|AXa=>Qb x c|Ad8=>⟨Ab9 ε,codeAny_builtin ζ η⟩|AXb=>FG R2 ε (done _ ζ)|AXc=>ABL s.heap AJ|AXd=>jv S.marks ks ys|AXe=>p.mk' (K w) (V w)|AXf=>qF fun i j=> (Ab4 ε)|AXg=>by have ε:AIM s1.heap.get? ζ:=LX η|AXh=>AIX (-1) (D9 ε)|AXi=>ö Ie ε (Mc Þ ζ)|AXj=>ik APe H1 (F1 b)|AXk=>(start N vs)|AXl=>(fs.zip vs).lookup|AXm=>(qD (v w))|AXn=>bZ.mpr ⟨h1,h2⟩|AXo=>SE (t Γ (fun c Γ' =>ε) E)|AXp=>∀c∈cs,f c=0|AXq=>(rel.val k).mj|AXr=>C5 QG tg g|AXs=>by rw[e1,e2] at hd|AXt=>FM xq ε D2 D|AXu=>#[Jj ε (Fv aW) Ji]|AXv=>kZ K H a AQa|AXw=>I.cell x c e|AXx=>by have e:b=it:=AN hb|AXy=>call_meets ε (HL e) ζ (η _ _)|Ad9=>BGh push|AXz=>Qy (hu1 hu) ε Δ|AX0=>∀b ob,AcS ->rq h'.get?|Ad_=>kZ K F a vs|Ad'=>aw F' H' Γ'|AX1=>(Nn as (b_/\MM H0))|AX2=>∀(L:ο)(f:cn),_|AX3=>(.UnaryOp .Not a pos)|AX4=>ε P w outer H s E e s'|AX5=>AIw cR Q4 (AC ε)|AX6=>(BGl (kX::us))|AX7=>[Kj,XL (gM ABX x),ε,ζ,y4,y5]|AX8=>by show AS r hr e F.of S hS|AX9=>by have ε:(Abb Ql l2).get? ζ=some _:=z8 _ η|AX_=>by refine W.methodCall_KW (pl:=pl) (Pw ε u ζ) ht|AX'=>cand S n bs k BGj|AeA=>AIE fO (AO6 gH) k f fd ps ε|AYA=>BGp (si c)|AYC=>by refine S7 I1 (R1.g _ _ ea) hc hm (Qn Jl) ?_|AYD=>σ ->AG|AYE=>bs++cs|AYF=>x.2≠y.2|AYG=>U.length<60|AYH=>f j - f p/q p*q j|AYI=>by obtain⟨_,_,e,_⟩:=hS b z|AeB=>by cases n<;>simp [qG]|AYJ=>ElemsOf knd ε|BG2=>(Str.ofString "abcdefghijklmnopqrstuvwxyz").ε|AYK=>by exact Nat.le_add_right _ _|AYL=>(q::qs)|AYM=>BG Int Int|AYO=>Meets (ε (FY ζ)) η|AYP=>∀(K:W.Frag)(tl:TE),_|AYQ=>by subst z;rw[ε] at mu;exact ζ|AYR=>(i - j)|AYS=>(k - l)|AYT=>.inl (sF.seq hq)|AYU=>∀f∈fs,ε|AYV=>.inr (sI sF hq)|AYW=>Aj rows h|AYX=>ofM rows m|AYY=>B1 value tv|AYZ=>BI iH Î|AYa=>cutD (ε ζ) η none|AYb=>(z9 _ rfl)|AYc=>FS x x|AeC=>wF b (e - s)|AYd=>KI tn t ε|AYe=>.pu (xR bs)|AYf=>by have hr' :=jc.mp hr|AeD=>(rows++ [r])|AeE=>entryFor table ε =some ζ|AYg=>(zD (V_ o m) [])|AYh=>(List.nodup_cons.mp nd).2|BG3=>by have ε:ζ[j]=η:=by simpa [List.getElem?_eq_some_iff] using (zV.mp θ).2|AYi=>decide (ε)=false|BG4=>∀x∈a,x∉b|AYj=>Θ (A3=h)|AYk=>fs.filter (Μ f (! ε))++ [g]|AeF=>(.ob C [] [])|AYl=>AAf W.findIn WE ε|AYm=>R J H'|AYn=>by rw[ε] at ha;cases ha|AYo=>sz+ε* (AI AP0 1 0)|AeG=>AHb nT update|AYp=>I.base.there b o e hx|AYq=>.cons h r|AeH=>(fW rows x)|AYr=>by show GT ε hd hd|AYs=>by rw[EE,EE];exact ε|AYt=>by rw[EM,EM];exact ε|AYu=>(qB ((AIV).zip AIo))|AeI=>T.keep _ _ _ ε fun b hb o e=>ζ|AYv=>zK (Nat.lt_succ_self _)|AYw=>if_neg (Nat.lt_irrefl _)
|AYx=>by show M' t (Cc (tJ ε) r);cases e;rfl|AYy=>∀(K:W.Frag)(F0 H0:Hp),_|AYz=>(m.getD j default)|AY0=>by show My setsByText ZQ|AY1=>by obtain rfl:AAs v:=r1|AY2=>∀(I:Ε)(S:AJG),_|AY3=>Θ (Hd.isRef (W.nsIn K mainGlobals ε)=true)|AY4=>by show c0 p1 p2 ε|AY5=>by refine ε (tupleKind_room_in1 hu) ζ η θ ?_|AeJ=>(Ò (ii LV<2^40))|AY6=>len _ _ _ hs|AeK=>∃o,ε/\∀v,o.data≠ .cell v|AY7=>(yZ _ _ _ ?_)|AY8=>xs.length - 1 - i|AY9=>["hand","mark","self"]|AeL=>K.lookup f=some ⟨oc,od,ε,ζ⟩|AY_=>B1 (.Constant ε j pos) ζ|AY'=>(es.getD p (0,AJ)).2|AeM=>Lh rows ws ps|AZA=>by show s_ z6 wpAny_onRaise|AZB=>U i j hij ε|AZC=>∀b u,ε ->Pc ζ ->Abh|BG5=>h p (zW _ hp)|AZD=>∀{A:Around}{outer:EG},_|AZE=>∀{A:Around}{E:dG},_|AeN=>by rw[dL (AcL ε Bool.false_ne_true)]|AZF=>by rw[cR Acg];exact q|AZG=>by subst h;simp [aJ]|AZH=>by show VW hx e hx|AZI=>(j - i).toNat|AeO=>∀(C:Addr)(i:Nat),_|BG6=>ik MU H none|AZJ=>ik APe H (F b)|BG7=>ik MU H1 none|AeP=>(ACH w hw)|AZK=>by show AIv b.num y|AZL=>by generalize GB b.den=v at*|AZM=>by generalize GB a.den=u at*|AZN=>lent I R|AZO=>σ ->α ->Rat|AZP=>∀{f:Addr}{fd:FuncData},_|AeQ=>["self","work","hand","mark"]|AZQ=>(L2.upd F a Lc)|AZR=>(L2.upd F' acc Lc)|AZS=>(BGc (ABM ε)).trans|AZT=>AQJ AH' "work" ε|AZV=>h _ (I.tok _)|AZW=>[.str AM,.str C9]|AZX=>AQY (dP st.at (AQg it))|AeR=>iD t1 s.heap i1 l1 k1|AeS=>iD t2 s.heap i2 l2 k2|AZY=>by obtain⟨a,vs,h0,h1,h2⟩:=h|AZZ=>#[aA (ε ζ) aN]|AZa=>L.back R' s'|AZb=>by have hlt:=zG e|AZc=>lt ε (p.getD ζ 0)|AZd=>gF xs ys=true|AZe=>by show AcP p1 p2 ε|AZf=>by exact ε (n:=ζ) τ τ|AZg=>B5 (sIx n 0 lo)|AZh=>#[Nk rfl rfl fM ε]|AZi=>∀(td ty:TE),_|AeT=>E2 ε p 1 0|AZj=>LW _ _ rfl|AeU=>by refine z6 (wpAny_typeNameOfWhole_keyiter hit.typeIs AQO)|AZk=>pN n m a|AZl=>(SQ r ta tb)|AeV=>I.laid (a:=s.heap.objs.size) (o:= ε)|AZm=>fun u=>ε (Kf u) (V u)|BG8=>I.un (h' :=s.heap) (t' :=ε)|AZn=>(Yt b o e hx)|AZo=>Y5 ε (PZ Y7) AI7|AZp=>Inv bE pins σ H s|AZq=>cP 1 ε (iL (dg ζ)) AAg|AZr=>AI_ ho s σ H (fun v H1=>∃F1 Γ1 d,AIl/\TK/\AIk F1/\ ε) I (EI ζ)|BG9=>(List.zipWith (fun k' y=>(ABj v y)) ks vs)|AZs=>by have ne:∀b u,s0 ->ε ->ζ:=η|AZt=>by have n:=V3 (t:=t) h|AeW=>sZ p.hs p.x|AeX=>(lQ val i)|AZu=>Z2 (d:=ε) (MV hi ζ)|AZv=>zt VP hA n h|AZw=>qd H F' a|AZx=>FM ε t E σ H R|AZy=>∀{i:Nat}{x:Str},_|AZz=>.ow (AA (KF k) nm .str)|AZ0=>AHy BGe e (ε i ζ)|AeY=>by rw[typeLookup_type,builtinLookup_eq_fast];kernel_rfl|AZ1=>by obtain⟨rfl,Jl,q⟩:=q|AZ2=>rQ p s i|AZ3=>∀h',ε ->s.heap.UpToSlots h' ->Q () MT|AZ4=>∀(qs:Ψ)(bs:ID),_|AZ5=>∀{n:Nat}{f:sK},_|BG_=>by show BGf gY decide_eq_true_eq|BG'=>∃S' ∈ε,AIn S S'|AeZ=>AI1 hq2 (by obtain⟨F,Γ,P,S,q,k⟩:=hq2;exact AcZ ε)|Aea=>APv ho x y v u|AZ6=>∀{σ:St}{Γ:G2},_|AZ7=>jE (K w) A3|Aeb=>g x σ H' (AIa (tb (W' D N N D.nx) σ2 H2))|Aec=>Mn (APx k0&&BGQ) BGR|Aed=>∀{X:Cx}{F0 H0:Hp}{e:Expr},_|AZ8=>C8 (∃a b:Rat,BGo ε)|AZ9=>⟨x,F',hE,gr,xr⟩|AZ_=>by have cx:Ctx (AIS wsh (FY (AIS xe))) F0 H (A2 Ex):=ε|BHB=>(.xe as C fs ts)|AZ'=>∀(t1 t2:Bool)(h:Heap)(l1 l2:Addr),_|Aee=>ε=operate ζ (getItem η θ)|BHC=>Ý ->∀h∈AIf kW,h∈m|Aef=>(AM,C9,m p)
|AaA=>(by rcases hq with hq | hq)|Aeg=>nH rows ws m ε j*AJC x m.getD|AaB=>by rw[hl] at st hx|AaC=>by simp only [List.mem_cons,List.not_mem_nil,or_false] at ε|AaD=>YM (A2 ε) (C6 KS)|AaE=>(PL I.hok eb)|AaF=>∀{elts:AE}{x1},_|BHD=>(fun f vs=>PySem.call f vs)|AaG=>∀[TZ](val:FR κ),_|AaH=>ε H2 (s2.trans s3)|AaI=>stepK K r w|AaJ=>ε ζ es1 (SetTable.grown es1.size)|AaK=>Jt F ε (sw _ h (ζ h)) η|AaL=>ε K c (Ds a Q) (startM ζ APp ds) Acb|Aeh=>fun _ Γ E=>(km ε)|AaM=>JA R1 s1 q|AaN=>∀{t1 t2:Bool},_|AaO=>ε S es.size ep o|AaP=>Zg I S e|AaQ=>T.obj _ _ ε b hb|AaR=>∀(hs:ο)(x:DU),_|BHF=>stS c p g fH|AaS=>QP t es BGX|Aei=>(Wp (Sum.inr (xs.getD i Str.empty):Key))|BHG=>by (obtain⟨_,_,z,_⟩:=r';cases z)|AaT=>⟨0,0,0,0⟩|BHH=>(sp ds P Ex)|AaU=>nC.some_of (v:=v) (o:=ε)|AaV=>by show [D.lst _,D.int (ε+ (0+ FA))]=_;rw[GU (ζ+ (0+ FA)) (B5 (η+i))]|AaW=>JA _ R1 s1 E3 q|AaX=>Ai ε I (fst ζ) η S n ep|AaY=>Abg QE elt te|AaZ=>Abg QG tg g|Aaa=>Abg M9 ifs tc|Aab=>⟨r,ps,ms.flatten,x⟩|Aac=>by show AIU (EA .ε) (EA .ζ) (EA .η)|Aad=>by show AIU (.ε _ _ k1 hu0) (.ζ _ _ k1 hu0) (.η _ _ k1 hu0)|Aae=>by show ø (.ε _ _ k2 hu0) (.ζ _ _ k2 hu0) (.η _ _ k2 hu0)|Aaf=>∀(O:tS)(P:Tb),_|Aag=>by show OH;exact ε a t' b t|Aah=>μ*d.fdiv dc|Aai=>dt rs (cols p)|BHJ=>⟨_,rfl,ε,_,AQL,ζ,?_⟩|Aaj=>fun t ds P _=>ε|Aak=>∃a kvs,v= AF/\ε/\ ζ|Aej=>(MV v (∃h:AcO,v=Acf))|Aal=>GA far b (Qa hT hdT q n)|Aek=>∀(EF){F H:Hp}{σ:St},_|Ael=>∀(BGW){ix:WV}(h:AIq),_|Aem=>obs (cut s.heap n)|Aen=>∀{n p:Nat}{A:P4},_|Aam=>∀{l:AG} {P:P9},(APU ε) ->ζ ->eO one AI5 P|Aeo=>CE outer P w H s Q u s'|Aan=>by refine AcX Qt ξ ξ (P.ne ξ ξ ξ) ?_|Aao=>by obtain⟨ws,kv,hd⟩:=Z6 I hq Nz|Aap=>by obtain⟨b1,b2,b3,b4⟩:=ε|Aaq=>by exact Lv (main _ _ τ τ)|Aar=>ε X.prog X.w s.heap.objs.size ns|Aas=>.ask i j k|Aat=>wpAny Ë X.A (pyNext P8) ε E s|Aau=>(∀d,ε≠ M_)/\∀k,ζ≠ .kt k|BHK=>LW (BGi ho hd) ((Obj.cls_mapFields ..).trans hc) ε|BHL=>BGn H E hr F0|Aav=>ω=w/\A3=h|Aaw=>⟨F4,Γ4,R4,s2.trans (s3.trans s4),q⟩|Aep=>cP n caps ti g|Aeq=>AAq nsIn mainGlobals x IR|Aax=>⟨F1,ju Γ,_,L.R,q,ε⟩|Aay=>by obtain⟨z,its,n,r,e⟩:=ε|Aaz=>by show ABK a2 u2 h2 h1|Aa0=>qH h d es ep|Aa1=>["spot","row","place","ahead","lead"]|Aa2=>nextT k s d tb|Aa3=>by exact iw.there ts vs bs h a ha|Aa4=>by intro i x y h1 h2|BHM=>(zQ _ (Yx hb e))|Aa5=>L.thaw n0 I' sm e1 e2|Aa6=>∀{ks:ε} {xs:ψ} {vs:χ},ζ|Aa7=>["hands","sheets","lefts","rights","numbers"]|Aer=>BGd ε xs.length (BGm - BGg)|Aa8=>ay (.For tg ε body [] pos) (ζ η g tb)|Aa9=>APh d v R2 L6 r p|Aa_=>by obtain⟨fa,fd,Fn,hm,hb⟩:=G.ex|Aa'=>(match k with | ka=>x | .inl _=>Str.empty)|AbA=>[z,TI,TO,i1,i2]|Aes=>["_law_way","_law_w","_law_h","_law_hands","_law_cell_here"]|AbB=>Cds (Ig m.length) m x|AbC=>∀{K:W.Frag}{c:Cls}(Acd){t ds Q Ex}(h:ε c t ds Q Ex),_|AbD=>ai (Yv ta tb (fun i j H2=>ε) σ H)
|AbE=>∀(hline:da:=by rfl)
 (he2:starEach (sA APH [] cpos) X.env=E9 (DE AQX) (E8 []):=by rfl),_
|BHN=>∀(q:Nat) w p,ci ws w ->ci ps p ->ε|BHP=>AbT ε X.base x k ps sp|AbF=>∀{A:P4}{d:Int}{tb:P4}{rs:CM}{fs:ABO}{ix:WV},_|AbG=>kg (ne c _ z Aca) z|AbH=>∀{xs:χ} {us:Β} (ε:Nat),Q1 ->ζ|AbI=>∀{ds:ψ} {vs:χ} (ε:Nat),Fm ->F8 ζ η|AbJ=>by show QY (BGq H1 H1 (fun v H' =>ABS H1 /\∃H2,BGk/\ (SW (¬WI) H2 H')/\AQK) ε ζ) u s2 η|AbK=>(SO um i j NP hv2 hd2 Ba)|AbL=>by refine Td lk hcd S (fun vs H Q E hq1=> ?_) ε|Aet=>["self","rows","rule","gap","scale","bounds"]|AbM=>["part","head","row","lead","place","ahead"]|BHQ=>C8 (∃(S:Ξ) (n:Int) (bs:ID),ε)|AbN=>qD (mV qa Ab6 ws h)|AbO=>by have:=AQb V9 cs ε (ks:=ks) (ss:=rs) (r:=ζ) fun s hs=>hs|AbP=>hE x C dx F' H' z1 R'.gr (xr.back R.gr.h)|Aeu=>.FunctionDef|Aev=>(GP L (ε w hw)).1|Aew=>["sheet"]|Aex=>if ε then ζ else none|Aey=>by rw[List.length_append,ε,ζ]|Aez=>by rw[List.getElem?_map,ε]|Ae0=>by rw[ε,Int.toNat_natCast]|Ae1=>by rw[ε,ζ,η,θ,List.getD_eq_getElem?_getD,ι]|Ae2=>by rw[List.map_cons]|Ae3=>by rw[List.length_append]|Ae4=>by rw[List.nodup_append]|Ae5=>ε<=fs.flatten.length|Ae6=>by simp only [List.length_map] at ε|Ae7=>Int.gcd_dvd_left ..|Ae8=>Int.gcd_dvd_right ..|Ae9=>show ε by show AJS|Ae_=>by simp only [List.lookup_cons,ε] at ζ|Ae'=>Int.mul_ne_zero ε ζ|AfA=>List.mem_of_mem_take ε|AfB=>by injection ε|AfC=>List Obj|AfD=>List L2.Key|AfE=>(by grind)|AfF=>by rw[ε] at h1;exact ζ|AfG=>AL sN|AfH=>decide_eq_false h|AfI=>I.list h|AfJ=>List.drop_eq_getElem_cons h|AfK=>List.mem_iff_getElem.mp h|AfL=>Nat.mul_le_mul_right _ ε|AfM=>fs.lookup ε=none|AfN=>.ref s1.heap.objs.size|AfO=>.ref acc|AfP=>.int (lo+i)|AfQ=>(A2 none)|AfR=>Ο AQU|AfS=>(BN ys)|AfT=>(BN xs.reverse)|AfU=>by have ε:=List.mem_range.mp ζ|AfV=>List.take_append_drop i ε|AfW=>Θ Ý|AfX=>Θ ã|AfY=>DO Addr|AfZ=>DO Heap|Afa=>Nat.lt_succ_self _|Afb=>SeqAt.EqAt.same _|Afc=>Int.le_refl _|Afd=>i<ns.length|Afe=>AB beq_eq_false_iff_ne ε|Afg=>by unfold ε;omega|Afh=>by simp;omega|Afi=>by show An ξ;omega|Afj=>AQ items.size|Afk=>by rw[e];rfl|Afl=>by subst r;rfl|Afm=>af ACY|Afn=>.inr work|Afo=>.inr A3|Afp=>.inr tj|Afq=>(KE h1)|Afr=>(KE hk)|Afs=>some dy|Aft=>IsTup.new _ _|Afu=>List.length_filter_le _ _|Afv=>show ε by omega|Afw=>Bn LV|Afx=>j<xs.length|BHR=>(List.of_mem_zip ε).1|Afy=>C7 k_|Afz=>by rw[Int.natAbs_mul] at e|Af0=>(Db hy)|Af1=>(CL rfl)|Af2=>(CL hy)|Af3=>(CL A3)|Af4=>by have ε:=Heap.get?_update_self ζ η rfl|Af5=>SH KP|Af6=>by rw[List.pairwise_cons] at h|Af7=>.none_bool _|Af8=>.bool_none _|Af9=>mg ε=some AcM|Af_=>by unfold ε;show XZ|Af'=>Be (jD xs ys)|AgA=>decide_eq_false ξ|AgB=>List.drop_eq_getElem_cons ξ|AgC=>.bl (AI neg (! ε) ζ)|AgD=>by show HC wpAny_attempt ε|AgE=>by refine wpAny_truthy_bool ?_|AgF=>by refine Calls.spliced_cons ?_|AgG=>AO8 (Gf F ε (PZ ζ) η) θ|AgH=>by (show MW ε zJ)|AgI=>(LU BB)|AgJ=>B2 AJd|AgK=>(L.map .inr)|AgL=>o.dict=none|AgM=>b∈X.fs|AgN=>ns.length<=n|AgO=>GB qs.length|AgP=>.none_int _ _|AgQ=>.none_str _ _|AgR=>.bool_bool _ _|AgS=>.int_none _ _|AgT=>.str_none _ _|AgU=>LX (kH ε).1|AgV=>HI BG0|AgW=>#[iP ε NF]|AgX=>Nat.lt_or_ge j ε|AgY=>(ms.map .int)
|AgZ=>(l.map .int)|Aga=>rel.val k|Agb=>Pl ε O.ex.1|Agc=>D4 Unit|Agd=>D4 Result|Age=>ze b9|Agf=>(AAe gr.f)|Agg=>(AAe sF)|Agh=>FE AQz|Agi=>zg BG1|Agj=>aD l (Μ a ε)|Agk=>by have hl:=r.length|Agl=>ε ζ a its.toArray|Agm=>Lm ω|Agn=>Lm A3|Ago=>Lu BHC|Agp=>zx.up τ|Agq=>.ow (ABT ε j ζ)|Agr=>WH ε (G_ s' ζ)|Ags=>Kb sQ|Agt=>SV List.getD_eq_getElem?_getD ε|Agu=>rows.take t|Agv=>rows.drop t|Agw=>List.nodup_cons.mpr ⟨ε,ζ⟩|Agx=>k<ns.length|Agy=>fun z E cx=>Ko (ε ζ) η|Agz=>(z8 _ e1)|Ag0=>(WN Τ)|Ag1=>(WO Φ)|Ag2=>(SZ A8)|Ag3=>Gl X "range"|Ag4=>Se Ac6|Ag5=>Ki true|Ag6=>(hf b hb)|Ag7=>(.ptr a::ds)|Ag8=>qc I.laid|Ag9=>OA kvs.length|Ag_=>(pre++AQ9)|Ag'=>(pre++d::rX)|AhA=>fH.map .inr|AhB=>by show At u rfl rx vals1 r1|AhC=>qs.length<=12|AhD=>(gq uB)|AhE=>i7 zxi|AhF=>Gr F H F' H3|AhG=>(by rcases AQk with ε | h)|AhH=>P [.int e]|AhI=>pA x=true|AhJ=>XE BG5|AhK=>(cZ ns ε).fdiv|AhL=>(KK).Nodup|AhM=>(bP).Nodup|AhN=>(TD hh)|AhO=>TH (E2 b a ε ζ)|AhP=>r6 its|AhQ=>D0.nx Γ|AhR=>["hand","group"]|AhS=>EJ ε ["rows"] ζ|AhT=>.iB ks xs|AhU=>by have hi:i<vs.length:=ε|AhV=>by have hi:i<Γ.length:=ε|AhW=>XU Ac5|AhX=>wpAny_execs_nil ⟨ε,ζ,η,θ⟩|AhY=>BA Array.getElem?_toList ε|AhZ=>fun h' hs' =>ε|Aha=>Int.lt_or_le 0 ε|Ahb=>sL I.base.keep|Ahc=>sL I.base.free|Ahd=>(Ó "sheets")|Ahe=>(Ô aH)|Ahf=>Array.getElem?_eq_getElem hi|Ahg=>L.map fun h=> ε|Ahh=>(zW _ hx)|Ahi=>KM p ir|Ahj=>.seq items n|Ahk=>Cls X.K C|Ahl=>IC fO av EL f fd ps (ε K sp)|Ahm=>AH5 Int|Ahn=>T s.heap|Aho=>(EK q)|Ahp=>.bool true|Ahq=>(.dK (Ce kvs k))|Ahr=>X.env.cells.lookup y=some ε|Ahs=>by exact Nat.lt_succ_self _|Aht=>by have:=ε;simpa using this.symm|Ahu=>xs.getD j 0|Ahv=>Ff .bool_str|Ahw=>Ff .str_bool
|Ahx=>∀(ha:i')
 (hst:starEach Da X.env=E9 (DE e) (E8 es):=by rfl),_
|Ahy=>KV kvs ws|BHS=>wpAny_truthy_bool ⟨ε,ζ,η⟩|Ahz=>rv.up s1|Ah0=>seqIndex_neg ξ ε|Ah1=>by show ky Bool.false_ne_true ε|Ah2=>(e - AQQ)|Ah3=>ws.filter fun w=>ε|Ah4=>(AIL List.length_take)|Ah5=>L0 ACa*f j|Ah6=>ABi rfl|Ah7=>(é hi)|Ah8=>c<s.heap.objs.size|Ah9=>A.units<cLine|Ah_=>aD rows (E_ (ε*dr))|Ah'=>rows.filter fun r=>ε|AiA=>Heap.ExtBut ε s.heap h'|AiB=>r1.up s2|AiC=>o.data= AcH|AiD=>z.natAbs<=B|AiE=>by rw[z,ε] at e;cases e|AiF=>∀(ha:ACb a),_|AiG=>∀(ha:PT X a tA),_|AiH=>Dx s.heap.get? o|AiI=>FS h h|AiJ=>(KU Τ 3)|AiK=>AB' List.getElem?_eq_none|AiL=>(vs= ku q)|AiM=>Abp iw.move|AiN=>Abp iw.rep|AiO=>Abp iw.repN|AiP=>(Abq dx)|AiQ=>Abs (E_ AIx)|AiR=>fun e=>kf e.2|AiS=>(AF::vs)|AiT=>AIC ->DT ->ε ->ζ|AiU=>ACX Aci|AiV=>by show ACc ds.length|AiW=>(gF xs ys)|AiX=>pO K H1 a xs|AiY=>W 0 m σ H|AiZ=>BGE (zh p ε)|Aia=>ACj (.iB ks ε)|Aib=>ps.map Cu|BHT=>AQF vs.length|Aic=>∀w,Ac7|Aid=>by show AJI List.length_map ε ζ|Aie=>o=some v|Aif=>o=some Ct|Aig=>(vs++ws)|Aih=>(vs++Py)|Aii=>PU _ (Q ε H)|Aij=>pj F ε ACZ|Aik=>(B6 z (yS _))|Ail=>p.getD k 0|Aim=>AJV dE|Ain=>.iB _ ts|Aio=>cz s.heap.get? Abh|Aip=>∀i,i<m.length ->ε|Aiq=>AA ε r (i:: ·)|Air=>["end","found","bound"]|Ais=>uc a2 b2|Ait=>zs4 (t:=ε) (b:=ζ)|Aiu=>rD (K w) (V w)|Aiv=>(gP kvs k)|Aiw=>PA X b9 ta|Aix=>am oN H' s'.heap|Aiy=>Ea R1.g ec|BHV=>AJf base.Ns|Aiz=>nF f v (ε::r)|BHW=>iD t1 ε i1 l1 (k1+1)|Ai0=>iD t2 ε i2 l2 (k2+1)|Ai1=>AQc "tuple"|Ai2=>by by_cases q:ω=w<;>simp [q]|Ai3=>(N*M)^rs.length|Ai4=>(startM N.length APp ds)|Ai5=>ws.map v|Ai6=>B.Perm A|Ai7=>ms.Perm ns|Ai8=>s'.os=s.os|BHX=>(FS q ABP)|Ai9=>⟨0,ε,AY⟩|Ai_=>by rw[List.zip_cons_cons,List.find?_cons]|Ai'=>by rw[List.zip_cons_cons,List.lookup_cons]|AjA=>1<ps.length|AjB=>By<ps.length|AjC=>ds.length - BE|AjD=>(.dT [])|AjE=>(.leaf d)|AjF=>(AQr a.den_pos)|AjG=>.dik ks xs|AjH=>AQt Ac'|AjI=>(GI Τ Ζ)|AjJ=>PA X es t|AjK=>PA X Da t|AjL=>N_ Fc (KU ε 3)|AjM=>(∃xs,IZ AI4)/\ε|AjN=>AHi ε (Ab0 "Sitting")|AjO=>AHi ε (Ab0 "Scale")|AjP=>(.dic ks i_)|AjQ=>(k,x)::r|BHY=>(SI MJ t E)|AjR=>X.xe e s'|AjS=>dg (ε dJ (aB (ζ c) ý))|AjT=>.none_tuple k2 hu0|AjU=>.none_list k2 hu0|AjV=>.tuple_none k1 hu0|AjW=>.list_none k1 hu0|AjX=>by obtain⟨its,r',pl,hz⟩:=I.list hq|AjY=>by obtain⟨its,r',pl,hz⟩:=I.tuple hq|AjZ=>.bool_tuple _ k2 hu0|Aja=>.bool_list _ k2 hu0|Ajb=>.tuple_bool _ k1 hu0|Ajc=>.list_bool _ k1 hu0|Ajd=>(AQ8 rfl)|Aje=>tm x h2|Ajf=>bt.lead (N:=16)|Ajg=>bt.small (N:=16)|Ajh=>(S0 w os)|Aji=>ā as (AJH ε)|Ajj=>AIs Jm ε Φ|BHZ=>cX (fun ε ds=>ζ*L0 (j::ds)) cs|Ajk=>jn (F9 Sn/\i<kvs.length)|Ajl=>jn (F9 Sn/\kvs.length<=i)|Ajm=>(AI AP_ (F b) BG6)|Ajn=>(AI AP_ (F b) BG7)|Ajo=>(by rcases Nat.lt_or_gt_of_ne ε with q | q)|Ajp=>(by rcases Rat.mul_eq_zero.mp ε with q | q)|BHa=>(Sum.inl a:Key)=ε b|BHb=>(Sum.inr a:Key)=ε b|Ajq=>.tuple_list k1 k2 hu0|Ajr=>.list_tuple k1 k2 hu0|Ajs=>BGU D.bk|Ajt=>BGU D.ct|Aju=>ARU (ε σ' H')|Ajv=>W.KasT α|Ajw=>t.dummies= #[]|Ajx=>by show Acj Nat.add_mul|Ajy=>qs.length<=61|Ajz=>Ack X.base ε|Aj0=>(List.range ε).all|Aj1=>Ο (AL ε)|Aj2=>(ns.getD i 0)
|Aj3=>(cellsFrom ε ζ η).lookup|Aj4=>BI rO ns|Aj5=>Acn ys.map|Aj6=>by intro pins s σ H Q I hw|Aj7=>VU F' H'|Aj8=>by have ε:ζ=η:=by rw[Heap.size_push,θ]|Aj9=>E4 (call (LO ε) ζ)|Aj_=>by show ED;have:=ε;omega|Aj'=>(P3 a Sn)|AkA=>Lo Y (AL AdE)|AkB=>(WO (dl RA))|AkC=>iq Mo sB|AkD=>by obtain⟨its,rv,pl,hz⟩:=I1.list hq|AkE=>by rw[List.getElem?_set_self ε] at e2|AkF=>TR.rep s1 t v as|AkG=>Acy Φ|AkH=>(jt F0 F')|AkI=>dY m.length (L5 ε)=ζ|AkJ=>(cB Bj AQ4 Ζ)|AkK=>AJT Γ1 k|AkL=>(stepV V1 r ω)|AkM=>Ac9 Γ1|AkN=>by show B8 h1 h2 zA.mp ε|AkO=>TR.there t v as ε|AkP=>by show BO Acu (Α y H' z)|AkQ=>Gr F Ĉ F' H'|AkR=>(Γ.set i (.tr bP t'))|AkS=>AdD ACm|AkT=>by show c0 e1 r (R.sl ε s e)|AkU=>(hg x).mpr (Db ε)|AkV=>(stepK K1 r ω)|AkW=>(AdF F')|AkX=>fun _ _ _ _ _ ε=>ζ|AkY=>AdJ ((sd ε) ->t_ ->ζ)|AkZ=>Slot.pu (BN AAl)|Aka=>sc.kind= É|Akb=>⟨uq,mk,ε⟩|Akc=>by show BGr Bool.and_eq_true ε|Akd=>(ks.map kV)|Ake=>(s2.trans s3)|Akf=>.int (f w)|Akg=>∀(K:W.Frag)(ta:TA),_|Akh=>B' bs b|Aki=>(acc++its)|Akj=>AD k hk|Akk=>Same H H1|Akl=>BGs (qD (fQ Kk h o))|Akm=>∃t,uw (kB AHp) F0 ε ζ η/\θ|Akn=>(G_ z AHe)|Ako=>xs.all pA=true|Akp=>by refine PyProof.Rows.callWith_type1 ε ζ rfl|Akq=>F8 es us|Akr=>Sz 1900 m|Aks=>(ws++ [w])|Akt=>D2.nx (Γ1.set i ε)|BHc=>(ar (qv 12))|Aku=>FM SR F H ε (io ζ)|Akv=>i.natAbs<2^k|Akw=>FB ε "some" "bounds" ζ|Akx=>(by show AHg;decide)|Aky=>wpAny SF X.A (ε ζ) (AAu η) X.xe s|Akz=>(QJ a b)|Ak0=>by show Nw (List.eq_nil_of_length_eq_zero ε)|Ak1=>GA Dj.2 _ ε|BHd=>∀j,f j=a j+g j|Ak2=>qA (iS 3)|Ak3=>List.getElem?_append_right (Nat.le_refl _)|Ak4=>We is.map AdA|Ak5=>i9 e tf|Ak6=>OF (AJo (AQv ε))|Ak7=>by show AA ε ζ _=_;rw[η];rfl|Ak8=>(j_ names AcG)|Ak9=>(kB (AdK cdv))|Ak_=>cY (g j)|Ak'=>(gK QU k9)|AlA=>D3 (A i n)|AlB=>(sd (ï/\ACT))|AlC=>kU (D.int (m p))|AlD=>k7 p hk|AlE=>(pH t i)|AlF=>by have ε:0<ζ:=List.length_pos_iff.mpr η|AlG=>lt i j=true|AlH=>∀(i:Nat)(te:aY),_|BHe=>(vs= AQl::rest)|AlI=>dt û kQ|AlJ=>AP4 dx a|BHf=>∀{E:dG}{s:Shared},_|AlK=>(rv.up s2).up|AlL=>.ob _ _ ts|AlM=>∀(K:W.Frag)(H:Hp)(a:Addr)(xs:χ),_|AlN=>by show Nw (Zn rs hns)|AlO=>RC ε aL Φ (AIZ dC)|AlP=>(Gb X.prog X.w q ns)|AlQ=>by rw[List.nodup_cons,List.nodup_cons] at nd|AlR=>SW (¬WI) H1 H|AlS=>aD rows (E_ (x A3))=0|AlT=>(k a zY).o|BHg=>(A.foldl stepK K w)|BHh=>FM SR F' H' σ' Γ'|AlU=>(pF Τ (oR Fc) pC)|AlV=>Al s.heap x dx C mA|AlW=>∀(t:bK)(g:rG)(tb:aF),_|AlX=>ε=AIX ζ (AL (a.den*b.den))|AlY=>fun w hw q=>ε|AlZ=>BG2 cps.toList|Ala=>dH k (A.deeper ε)|Alb=>(cB g ta tb)|Alc=>APv ε _ I2 q2|Ald=>by obtain rfl:os' =s.os:=hm.os|Ale=>(∀k,AdH qs.take)|Alf=>rk S bs i|Alh=>#[Df (YT ε (YS ζ))]|Ali=>kF Constant ε j (tC ζ)|Alj=>(XO a C (D' dx))|Alk=>(wW h H).get?|Alm=>by obtain⟨t,ht,hq⟩:=BHL|Aln=>.inl (IB _ kk (Ea R2.g ec) ε)|Alo=>(Zy t1 ε l1).objs.size|Alp=>⟨F2,Gr.refl s3,rv.up s2⟩|Alq=>ε t es (knd.hash k) x|Alr=>by refine Call_ (Er I hg hm ε (PyProof.Rows.callWith_type1 (TU AJl us) hs rfl))|Als=>(pick Ι vs is)|BHi=>ε /\tn i s'.heap/\ AQ3/\W i ζ η H'|Alu=>CX outer H s E|Alv=>C8 (∃qs:Ψ,ds= [uC]/\ε/\ Ā/\ζ)|Alw=>Hd.cB pg|Alx=>r.inj r'
|BHj=>(iX,lL fun r=> sQ)|Aly=>by rw[Rat.intCast_mul,Rat.intCast_mul]|Alz=>Æ/\Acr|Al0=>AHo sc.names.lookup\/ε|Al1=>⟨vw,hd⟩|Al2=>⟨BA (lu r1) ε,XE ζ⟩|Al3=>x A3 - x' A3|BHk=>["_law_sitting","_law_some"]|Al4=>let ⟨o,ho,r⟩:=x;Pl (ε o ho) r|Al5=>by wp_walk using BGu,BGv|Al6=>l.length % 2|Al7=>by dsimp only at e1 e2|Al8=>by show JJ (ε=ζ) rfl;constructor<;>grind|Al9=>ε own.length caps ζ|Al_=>l.most=some n|Al'=>env.frame=some L|AmA=>(tupleKind ε).is|AmB=>∀(hu:X.A.units+21<cLine),_|AmC=>(p::ACR)|AmD=>∀H1,VQ H1 ->ε|AmE=>s2.trans (s3.trans ε)|AmF=>B' ds d|AmG=>(Int×Str×ο)|AmH=>iA TE TE|AmI=>AD j hj|AmJ=>AD i hi|AmK=>AD h hh|AmL=>AD c hc|AmM=>by obtain⟨_,_,_,_,_,_,rfl,_⟩:=h;rfl|AmN=>Heap.get?_update_other _ _ Acv|AmO=>AC (ε q z.symm)|AmP=>Sz 1900 x|AmQ=>ps.map fun p=>ε|AmR=>wpAny SF X.A ε Q|AmS=>S.filter fun e=>ε|AmT=>ws.map fun u=>ε|AmU=>AO7 drawn d|AmV=>KI tk kd ε|AmW=>.pu (qL S)|BHl=>AHW Ë (pyIter P8)|AmX=>by show c∈ε;simp|AmY=>(B6 e True.intro)|AmZ=>by obtain rfl:d' =ε:=hm.drawn|Ama=>absurd rfl h|BHm=>D3 (F i (as i))|Amb=>(lD.mp hr).2|Amc=>(Heap.SameBut.update _ I _)|Amd=>(EB h _ I hw)|Ame=>.seq items2 n2|Amf=>EW (cR ne) jJ|Amg=>zQ _ (zR.mpr ε)|Amh=>R2.sl i _ e2|Ami=>Wh rows x m|Amj=>(ε _ z).2.1 rfl|Amk=>by by_cases hb2:b=s1.heap.objs.size|Aml=>(qB (fs.zip vs))|Amm=>gX X.K g|BHn=>min v.toNat n|Amn=>(ip z_ bo)|Amo=>.dic (gK ks ε) (sv ks xs ζ d)|Amp=>(y,k)::r|Amq=>(gZ g t)|Amr=>AAv s2.heap.push AJF|Ams=>k b ob q|Amt=>by cases h;subst r;rfl|Amu=>jn (∃xs,ε/\Acp)|Amv=>Ctx X F0 H0 E|Amw=>QI X F0 H0 ART|Amx=>ψ ->pd (ε) XV|Amy=>AHr ε (J8 fun i j=> (Ab4 ζ))|Amz=>Ê (AAx Γ'.set υ)|Am0=>RE (by(cases (hr)))|Am1=>dA hos hds ε|Am2=>call sg (ε::us)|Am3=>(h2 a h).2|Am4=>["some","ahead","bound"]|Am5=>["start","end","bound"]|Am6=>RV (H x)|Am7=>mF ks AQq=true|Am8=>by refine ε (wpAny_pyIter_list pl.isList ?_)|Am9=>uc b1 a2|Am_=>(List.replicate n XB)|Am'=>(p.getD m 0)|AnA=>∀(n:Nat)(f:WV),_|AnB=>ki k.toNat xs|BHo=>(by rw[isSubtype_type];kernel_rfl)|AnC=>(ABl Kf V)|AnD=>∀{rs:CM}{cs:AT},_|AnE=>.bl (decide (x= ε))|AnF=>by refine z6 (seqEpoch_at (n:=ea) ε rfl ?_)|AnG=>(E_ (g r*g r))|AnH=>∀{k:Nat}{A:Around},_|BHp=>Jq prog w A E|BHq=>s1.heap.push (MX ε #[AF])|BHr=>newExc Aco []|AnI=>(Zf I S)|AnJ=>(pw 4000 τ)|AnK=>by show VW hb e hb|AnL=>(hi - lo).toNat|AnM=>(Mc (WN Ζ) Þ)|AnN=>(AI neg (! AP6) AP6)|AnO=>ċ (x h - zw)|AnP=>ACN (ACg ε τ)|AnQ=>h.Ns1 dx mA|AnR=>(l.map f).sum|AnS=>lZ fun r hr=>ε|AnT=>∀(h:Heap)(H:Hp),_|AnU=>vJ F H b|AnV=>(z8 _ (z9 _ rfl))|BHs=>Un (frs outer) [] H ε|AnW=>SE (ta Γ (fun d Γ' =>ε) E)|BHt=>fun ys hy=>(AB (ε hy hq) hx)|AnX=>AQ7 Ct bP|AnY=>sL I.base.slot hb hx|AnZ=>∀(K:Frag)(a:Addr),_|BHu=>AJN h.objs.size ε (fun a=>ζ)|Ana=>∀{x qual:Str},_|Anb=>AJR ε Φ Δ|Anc=>by show GH hl hb h|Ane=>qG n d d'|Anf=>AJe (BG' HW)|Ang=>APA (swapsWith ε none pos.line X.env)|Anh=>k b o (AQs hc) e|Ani=>AQi (qG n x y)|Anj=>IsPart vl lo|Ank=>IsPart vu hi|Anl=>e=x\/AP4 e x|Anm=>by show JO c q1 q1|Ann=>∀(hc:õ)(hr:Ø),_|Ano=>∀(rows:A5)(w:Str),_|Anp=>∀(rows:HG)(w:α),_
|Anq=>AcU "__setattr__" "object.__setattr__"|Anr=>∀(ks:OO)(k:Au),_|Ans=>APn (Cc (b∈ ([]:Ν)) ε)|Ant=>cX (fun c ds=>ε*L0 ds) cs|Anu=>∀(cj:AR "range")(aU:AR "len"),_|Anv=>(AI Û (H' b) (F' b))|Anw=>(AI Û (H1 b) (F1 b))|Anx=>∀(ao:Sc)(au:LY "marks"),_|BHv=>Co H (XO x C none)|Anz=>fs.Pairwise (r_ BG4)|An0=>(σ[j]?).join|An1=>∀as,ε ζ (Γ1.set i BHB) jG|An2=>(a.free c ob q n hx)|An3=>χ ->χ ->χ|An4=>AL (BI ns.map D.int)|An5=>zU.mp (I.stkSub b ε)|An6=>KD (zpy rs ε)|An7=>(Ls w hw).2|An8=>(.Tuple elts x1 pos)|An9=>E4 (ε (AW x) name ζ)|An_=>ay (.Return AQn pos) ε|An'=>FD qs Ψ (AA_ ε) ζ|AoA=>Gr F1 H1 F' H'|AoB=>ne b _ q AIB|AoC=>∀{hs:ο}{h:Str},_|AoD=>Acx K V|AoE=>⟨y,H2,I2,ε,q2⟩|AoF=>.cons (Cc (RelV ε (Value.ref ζ)) rfl) r|AoG=>⟨AHu,_,I2,rfl,ε,ζ,η⟩|AoH=>by unfold dY;rw[ih];grind|AoI=>(kS hl1 hs1.extBut D.l1z)|AoJ=>Ac2 aD (ε (l:=l))|AoK=>AJD (C6 (Q Ι)) Q|AoL=>∀(cD:Υ zc8)(ao:Sc),_|AoM=>∀(u:FF)(L:TL),_|AoN=>tI as (ABl qa APm)|AoO=>We ps.map (AIu p (rawInt p))|AoP=>by show tw (specialOf _ _) wpAny_specialOf hT2 ε|AoQ=>∀(G:BHP ε)(hr:Ø)(hg:Gl X x)(AJi),_|AoR=>BindsTo s fd (FY [u]) [(x,u)]|AoS=>∀k v,BGI ->kf v=k|AoT=>.tr (b::bs') (qN c p' g vW ws br qa APm)|AoU=>by obtain⟨z,its,n,r,hl,e⟩:=I.lstM hH|AoV=>by by_cases hk:(k==NameKind.free)=true|AoW=>zx0 (kD (jp ε))|AoX=>List.mem_range.mp (a1.mem_iff.mp hi)|AoY=>fL (both.map f)|AoZ=>∀{pins:c7}(du),_|Aoa=>∀(K:Ks)(V:Vs),_|Aob=>R'.sl 0 _ e0|Aoc=>⟨_,_,_,_,ε,ζ⟩|Aod=>yN l r x|Aoe=>by have hlk:es.size=ε:=AN O.key.length_eq|BHw=>W.codeIn K cdv qual=true|Aof=>by show OP w hw hq|Aog=>XX (WB k) (re h)|Aoh=>X0 tv y (Ll ta x ε)|Aoi=>is.map fun i=>ε i Ι|Aoj=>Vals (ns.map Tk) its|Aok=>ε=decide (a=b)|Aol=>(vals.map kf).Perm ks|Aom=>∀o u,X.H₀ b≠APt o u|Aon=>by show QY (é ho) u s2 hz2|Aoo=>∀{α:Type}{one:ABp},_|Aop=>Ρ kP ε M3 (R vs) (ζ F ks R v)|Aoq=>IE a ha b hb|Aor=>⟨E1 t,_,.seq xs _,_⟩|Aos=>{nx:=L7,rt:=L7,rT:=ε}|Aot=>fun σ H=>(BGM (I BE Γ2))|Aou=>Rv ε (zL τ (pw 4000 τ)) τ|Aov=>.inl (zO (mq (k:=ε) ξ) τ)|Aow=>uO p (ε ω) ζ (η ω)|Aox=>(Nat.le_of_eq (Heap.size_push _ _))|BHx=>W.mroIn K C (LO ε)=some true|Aoy=>Su 1 (Tx 54 3)|Aoz=>∀(te:aY)(tl th:Ft),_|Ao0=>by have h1:=Aw a.den b.den;have:=ha.2;have:=hb.2;omega|Ao1=>by have hr:JE r AcG:=fun p hp=>hh p (zW _ hp)|Ao2=>∀{S:II}{hs:AG}(ns:XU s.Nodup)(nh:hs.Nodup),_|BHy=>absurd (zG e) (yS _)|BHz=>∀w' s',AJM ->ε ->Q w' s'|BH0=>BindsTo s fd args (ε us)|Ao3=>(Μ Γ' (tb (W' D0 sj sj D0.nx) Γ' E))|BH1=>IC fO av k f fd ps (ε K C fl sp)|Ao4=>by obtain⟨h',g',d',tk',os'⟩:=s'|Ao5=>fun a ha b hb n e=>ε|Ao6=>∀(p:lU)(L:ο)(f:cn),_|Ao7=>BHK (by rw[Obj.data_mapFields hd];simp [rawInt])|Ao8=>(match t with | false=>ε | true=>ζ)|Ao9=>MM F'/\ig KK H b=none|Ao_=>∃u,APb e u|Ao'=>["other","hand","sheets"]|ApA=>["end","some","rests"]|ApB=>[ε,qD w,qD m]|ApC=>∀{xs ys:ψ},ε|ApD=>YZ sF rs|ApE=>(l.Pairwise fun a b=>a.1≠b.1)|ApF=>lM sc ε X.env|ApG=>b_/\MM H0/\ABJ b|ApH=>(fun x1 x2=>x1++x2)|ApI=>zx2 (fp:= ε) (its:= ζ)|ApJ=>(.Name y np::e::es)|ApK=>I.tuple (sI sF ε)|ApL=>.pu (vQ Ty ws)|ApM=>(.dik ks (j7 ts))|ApN=>Q (.int ε s.toks) AJg
|ApO=>zM ε (Nat.pow_le_pow_right τ ζ)|ApP=>sY qs bs=true|ApQ=>ε (iI qs) qs.length ζ η|ApR=>IB ε H1 I1 q1|ApS=>kr ε (.cons ζ BS)|ApT=>ai (∃F0 H0,FM ε t jG σ H Q)|ApU=>Pe (s.heap.push (Jp w))|ApV=>by obtain rfl:g' =s.gens:=hm.gens|BH2=>(Aj rows h).map|ApW=>{s with heap:=ε,drawn:=d}|ApX=>g ε σ H (AIa (tb (W' D AIj AIj D.nx) σ2 H2))|BH3=>SL ty y (Ll td x ε)|ApY=>r∈ε↔r∈rows/\ζ|ApZ=>jt F0 F b|Apa=>∃ks xs,ARH/\ε|Apb=>∃cs t',DC Γ 0 (.tr bP t')/\ε|Apc=>fun l2 ms hl2 ε ζ=> ?_|Apd=>∃es,o.data= AcH|BH4=>Lu (wG rows x' A3)|Ape=>(ps++ [(ACI,H)]).map|Apf=>by show N2 hf hf hf|Apg=>tb Γ' P E|Aph=>(AAj s.heap.objs.size s H fp)|Api=>SW (b∉ε) F' F|Apj=>nM (hdS a) (hdS b)=true|Apk=>by have ε:ps.length=es.size:=AN hps.length_eq|Apl=>p.mk' (K1 w) (V1 w)|Apm=>Su FA (AL m*1)|Apn=>XE (APn (Cc (p∈ ([]:c7)) hp))|Apo=>APD (ε (X.wsh z) tg e (SI ζ t E))|Apq=>by show ND ok ov st|Aps=>∀(x:Option (Option Value)),_|Apt=>jn (∃xs x,ε/\Sm)|Apu=>beq_eq_false_iff_ne.mpr (Ne.symm (zK ε))|Apv=>Kp (Qe (Fe ε))|BH5=>(letOwnedTupleGo tg P8 u)|Apw=>∀l,ACV ->EV l ε|Apx=>zxw O P hk U|Apy=>(x - l.1)* (r.2 - l.2)|Apz=>∀(dS)(i:Nat)(f:Str),_|BH6=>∀(own:Nat)(caps:AT),_|Ap0=>⟨R'.gr.h,H2,e1,e2,ε⟩|Ap1=>by show BG_;rw[CF,Ac8]|Ap2=>ABc (.ε ks' ys) (Θ (ks=ks')&&lf)|Ap3=>AHj (zt ε f) (k b (zW _ (zW _ hb))) h|Ap4=>(kI h1 hs1.extBut D.i1z)|Ap5=>rule i j t t'|Ap6=>cX (fun d es=>ε*h es) cs|Ap7=>aD m (f a)|Ap8=>sp [bv] (E_ (Be r)) (AH3 Cx Cx)|BH7=>⟨E1 "tuple",Ob,ε,Oc⟩|Ap9=>am gH X.stack H s ε e s'|Ap_=>Ċ ds ψ Fm ε|Ap'=>ACe (hg m hm).ε|AqA=>(items.toList.drop (sIx items.size 0 lo)).take|BH8=>W.fnOf x qual (Hu st) Ù (bB st) ε kV doc|AqB=>⟨hlen,_,e,hrv,ε⟩|AqC=>AQG ε ks ks k|BH9=>[.str (Str.ofString "newhanda"),.str (Str.ofString "newhandb")]|AqD=>∀ds Q Ex,sp ds Q Ex ->t ε (jh N ds) VO|AqE=>∀(h:Heap)(v:Value)(ε:ζ),_|BH_=>(gM (ws.take i) v)|AqF=>AQ5 (∀j,(ε k j).natAbs<=ζ)|AqG=>by rw[q] at h;cases h;rw[ε r q];rfl|AqH=>Sq t1 K H a xs|AqI=>Sq t2 K H b ys|AqJ=>þ te ε d (ζ/\ñ)|AqK=>⟨o,es,ε,h2,h3,h4⟩|AqL=>ARO (∃vs,AIm/\h.DictOf lI a vs)|AqM=>ARP Nk fM (D_ Φ ε)|AqN=>by have h1:dt (f::rs) kQ=f j*L0 cs:=zsy z|AqO=>st (I.hok b u q)|AqP=>(by rcases mf f hf with hf | rfl)|AqQ=>by obtain⟨o,n,e,_⟩:=pl|AqR=>(X.wsh ⟨xe,z.pn++pins⟩)|AqS=>BGb b h (Cb _ e)|AqT=>(relabel sc X.env).names.lookup|AqU=>by show BV l xs hq q q1|AqV=>∀x y c,ε ->ζ ->x=y|AqW=>ε Γ F1 H σ R (s.trans s1) h|AqX=>by refine z6 (wpAny_field he hd h1 ?_)|AqY=>∀{H:Hp}{a b:Addr},_|AqZ=>by refine wpAny_Call_Name_kw (Er I hg hm hb ?_ τ τ)|Aqa=>PassesOwn SF X.A X.env X.xe|Aqb=>cX (fun x es=>g x (c::d::es)) post|Aqc=>∃a bs tt,Se AQ1/\sp tt ds (fun t' d=>(AQ2 BGS)) (ARV BGS)|Aqd=>0::qs.map fun m=>(AL (iY qs m))|Aqe=>fun b ob eb=>yI b ob (ε b ob eb)|Aqf=>∀{xs:χ} {us:Β},ε|Aqg=>∃(its:Β) (n:Nat),ε|Aqh=>∀(names:dq) (cs:î),ε|Aqi=>(by rcases ε with z | ⟨z1,z2,z3⟩)|Aqj=>(revObj l (AJK - 1))|Aqk=>(relayAll t2 es1 (SetTable.grown es1.size))|Aql=>xR (List.replicate n XB)|Aqm=>⟨F2,Γ2,_,R2,h2,ε⟩|Aqn=>(rD (K' w) (V' w))|Aqo=>by show At u hu ru rv.get hx
|Aqp=>(AI (k=f) ((k,v)::r) ((k,x)::nF f v r))|Aqq=>#[o7 (A2 Zb) rfl pK boot_abs ε]|Aqr=>∀(AQj)(AQB){m:HZ}(L:AcW),_|Aqs=>∀b xs,N1 JI ->AIy JI|Aqt=>∃i j,x= B9/\y= cE/\C i j/\ε|Aqu=>∃f∈fs,dX f ε=true/\AQp|Aqv=>h b (zW a hb)|Aqw=>ce _ _ l2 _ R3 s1 q1 q2 q3 (ε ms)|Aqx=>(by simp only [Rep] at r;subst r;cases d' <;>simp only [Rep] at r' <;>first | (cases hf;done) | (cases r';done) | (cases r';exact Jc _) | show BHG)|Aqy=>(Acm B9 (ARW i.toNat) Ι)|Aqz=>by obtain⟨xs,hq,hx⟩:=hg|Aq0=>by obtain⟨n1,n2,n3⟩:=nd|Aq1=>(by (repeat (any_goals (first | assumption | wp_step))))|Aq2=>∀(q:Rat)(l:Ψ),_|Aq3=>Itz K t1 t2 a|Aq4=>wB K H2 y k|Aq5=>Calls.callWith_builtin rfl (PySem.evalArgs_none ?_)|BH'=>gY (bO rows) AAw|Aq6=>(BHF ws ε V).pl|Aq7=>(hm b _ q (AC z))|Aq8=>IT ch ((b∈X.ex\/ù b)/\ACS/\ (ACh b)/\JE AJb (AM≠b))|Aq9=>∀{rs:CM} {cs:AT},ε ->ζ|Aq_=>∀j,ZB M (r j)|Aq'=>∃its:Β,ACf/\ε/\ì|ArA=>ip ε (SS (Zi (A2 yic) rfl uQ boot_int) ζ)|ArB=>[È "newhanda",Str.ofString "newhandb"]|ArC=>∀(OE){r:Rw}{w:Str},_|ArD=>∀(NC)(tg e:Expr)(t:bK),_|ArE=>by show ABK a3 u3 h3 h2|ArF=>Ml ha hb I h|ArG=>Sq t X.K H a ε|ArH=>(by refine DD (firstArgMember _ _) (wpAny_of_eq (a:=Value.none) (by first | rfl | (simp only [firstArgMember];rfl)) ?_))|ArI=>wpAny_isInstance (T:= "StopIteration") (b:=true)|ArJ=>(putK kvs k v).length|ArK=>fun x lo hi H Q=>ε|ArL=>BY Te (ε hc) hg hm hb|ArM=>∀{m n:Nat}{a b:Rat}(ha:Sz m a)(hb:Sz n b),_|BIA=>⟨s',o,q,p1,hb⟩|BIC=>fQ Kk (m.getD i default) ε|ArN=>by obtain⟨I,i0,turn,done⟩:=h1|ArO=>["rows","rights","table","ahead","place"]|ArP=>∀(AQR) (base:Heap) (C:Addr) (m:Str) (k:Nat) (ps:ο) (sp:ε),_|ArQ=>hq ds Pd Ex hsp|ArR=>nC (fs.lookup f) (mA f)|ArS=>by refine DD (newFields _ _) (wpAny_newObj_type (A9 (BHJ "set_iterator" rN.lookup)))|ArT=>AQ6 ns Ξ dk ko ε|ArU=>AHj (ε f t v bs) (k b (zP _ hb)) h1|ArV=>AHj (ε f ts us cs) (k b (zQ _ hb)) h2|ArW=>∀{ta:TA}{p pos:Pos},_|ArX=>ε (knd:=AdB) (kvs:=ws) (ep:=ep)|ArY=>s.heap.IsSliceOf sl vl vu AJ|BID=>∀(tb:aF)(D0:oZ)(E:XW)(Γ:G2),_|ArZ=>(I.ok.cab x c hfn hc)|Ara=>∀(K:W.Frag)(F H:Hp),_|Arb=>by obtain⟨b,_,_,rfl,e,_⟩:=h;cases (e);rfl|Arc=>Ac1 Γ1 F1 H1 s1 e s'|Ard=>Ρ AQ_ (Co H' (XO x C (D' dx))) (ARD H' ε) (∀b,b≠x ->b≠dx ->H' b=ζ b) (Q Ι H')|BIF=>(Ac4 AJ AJ AJ AJ none AJ AJ)|Arf=>by refine Z4 ε fun i x u e1 e2=> ?_|Arh=>[E1 "ValueError",E1 "Exception",E1 "BaseException",E1 "object"]|BIH=>⟨F1,Γ1,R1,bi,i0⟩|Ari=>by obtain⟨xs,x,hq,hx⟩:=hg|Arj=>∀C s₀ H₀ fp,ε BFw ζ η|Ark=>(sliceBounds lo hi none n)|Arl=>I.step (g' :=s.gens) (d' :=s.drawn) (ch:= ε) ζ (η) (θ) ι|Arm=>(.Slice lo hi none p2)|Arn=>comb (rs.map k8) rs j|Aro=>(f AJh (.int j u))|Arp=>sN<=i/\i<2^62/\ sN<=j/\AQo|BII=>r= .ok (.ret AJX)/\OldK s₁.heap s'.heap/\s'.os=s₁.os/\AJa|Arq=>∃f fd,APi ε/\Meth K C m f/\AA'|Ars=>mV k AdG S h=ε|BIJ=>by show KW oj g1 g2 g3 hit2|Art=>WalkO q loose ε ζ l.row.toRowW d [] BHD|Aru=>∀(a:Addr)(o:Obj)(kvs:Kx),_|Arv=>gP (ks.zip vs) k=some v|Arw=>Ai h I fst i S n ep|Arx=>by have Dj:Heap.SameBut ε h1 h2:=sb|Ary=>∀(aP:Υ RB)(ao:Sc)(au:LY "marks")(aH:LY "sheets"),_
|Arz=>by have hlz:AJE=ε:=by rw[List.length_zip,hkl,Nat.min_self]|Ar0=>(Cc (gG (Slot.ow ds) cK a) rfl)|Ar1=>∀Γ F' H σ,Acq ->DT ->ε Γ ->ζ|BIK=>∀r,r∈rows↔r∈tu|Ar2=>by obtain⟨e,n,ne,nf,d⟩:=I.pin p hp|BIL=>entryFor_alias (id' := ε) BGO rfl Md BGO|BIM=>Ρ BGx (sp ds Pd Ex) ((ε)) AcI (ARZ ζ)|Ar3=>∀F ds P Ex,FH æ AQT BHH ε AcI (AIT ζ)|Ar4=>["some","bounds","found","bound","rests","steps"]|BIN=>∃F2 Γ2 es,aw F2 H2 Γ2/\ε/\Å F2 es/\ζ|BIO=>y s h - cQ (k s) (y s)|Ar5=>(by rcases hc with rfl | rfl | rfl | rfl | rfl)|Ar6=>by show AS hT hN hsm TJ I1 (Db ⟨kvs,ε⟩)|Ar7=>∀(bA:Υ zd8)(gW:Υ zjt)(aV:Υ Ry)(bI:Υ zcu)(d9:Υ zfg)(gh:Υ zju)(bT:Υ zcq)(fG:Υ zgr)(aL:Υ O8)(fM:AR "zip")(bh:AR "sorted")(aU:AR "len")(jw:AR "set")(ao:Sc),_|Ar8=>AAo (QP tl l (th Γ2 (fun u Γ3=>(Nl ε ζ)) E))|Ar9=>ε (ns s hS) nh (sub s hS)|Ar_=>wg ds g tb D0 E Γ1|Ar'=>by refine W.callWith_K (first:= Id) (h₀:=X.base) I.ok.mod.Hv hm.kp ε hst hpl|AsA=>Walks.list (toI (I.ok.hd hc)) s.heap.objs.size p (zK Qi) its.toArray|AsB=>ε Γ F' H' σ (R.unbase g) s h|AsC=>∀(aV:Υ Ry)(gU:Υ zj2)(dF:Υ XH)(aP:Υ RB)(cA:Υ zdg)(ql:Υ zyt)(bh:AR "sorted")(cI:AR "list")(ao:Sc)(bL:AI3)(bJ:LY "rule")(bQ:LY "gap")(bC:LY "scale")(aO:LY "kept_leanings")(aH:LY "sheets")(au:LY "marks")(aQ:LY "kept_borders")(aM:aR K c.Scale "points"),_|BIQ=>wpAny_mono (zyu (I:=I) hh hQ ε) (FS q q.elim) AIO|AsD=>∀(oF:Υ zyd)(jU:Υ zp0)(gO:Υ zkp)(aU:AR "len"),_|AsE=>⟨F2,Γ2,es,R2,s2,r2,h2⟩|AsF=>by obtain⟨j,h1,h2,h3,h4,h5⟩:=zya he|BIR=>∃as ws ps x y z,Lh (rows.take ε) ws ps/\Γ= [Kj,XL (.dic QU AQ0),x,y,z]|AsG=>qN c p g fH ws bs K V|AsH=>by ·obtain⟨F,ds,P',Ex,_,rs,hs,_⟩:=hq1;rw[<- lP];exact ε|AsI=>by have st:∀{u:HO} {b:Addr},WG H s.heap b u ->WG ε s.heap b u:=fun k=>(ARK k.stay (fun _ _ _ z=>z) z ζ z η)|AsJ=>by refine BG8 s.toks ⟨fun _ _ q _ _ _=>q,fun _ ob q _ _ _=>⟨ob.slots,q⟩,fun b ob q n _=> ?_,fun b ob q _=>⟨ob,q⟩,LS xs q,fun b ob u q=> ?_,N9 ps (Do #[])⟩ ε|AsK=>ε aV bI d9 gh bT fG aL fM bh aU jw ao|BIS=>Nat.lt_succ_of_lt ε|BIU=>Nat.le_succ_of_le ε|BIV=>ε s1.heap.objs.size|BIW=>["_law_script"]|BIY=>by rw[List.pairwise_iff_getElem]|BIZ=>by simp only [ε,decide_eq_true_eq]|BIa=>by simp only [List.length_map]|BIb=>by apply Array.toList_inj.mp|BIc=>by split<;>omega|BId=>by split<;>decide|BIe=>(by assumption)|BIf=>(by rw[List.size_toArray]<;>omega)|BIg=>rows.length+1|BIh=>AL ps.length|BIi=>Int.neg_dvd.mpr (ε)|BIj=>List.zip_append h|BIk=>Nat.min_eq_left h|BIl=>(B4 ns.sum)|BIm=>Rat.mul_inv_cancel _ ε|BIn=>Ο s.length|BIo=>(rows.length+1)|BIp=>BN (HA (xU ws v ε).map)|BIq=>List.Perm.refl _|BIr=>Int.natCast_nonneg _|BIs=>D9 sizeLine|BIt=>AB List.length_append ε|BIu=>AQ its.size|BIv=>AQ ns.length|BIw=>of_decide_eq_true z|BIx=>Int.natAbs_eq_zero.mp z|BIy=>(Nat.le_refl _)|BIz=>(Nat.le_succ _)|BI0=>(ItemsOf.nil _)|BI1=>P xs.reverse|BI2=>List.pairwise_singleton _ _|BI3=>(G_ _ True)|BI4=>C7 (ZB.zero _)|BI5=>decide_eq_true hl|BI6=>("self" :Str)|BI7=>BD Rat.intCast_mul|BI8=>BD Rat.intCast_sub|BI9=>decide_eq_false e|BI_=>(LO "type")|BI'=>(LO "dict")|BJA=>(LO "list_reverseiterator")
|BJB=>(HA xs'.map)|BJC=>decide_eq_true ξ|BJD=>List.set_eq_of_length_le ξ|BJE=>Int.natAbs_of_nonneg ξ|BJF=>sc.names.lookup x|BJG=>by refine Calls.spliced_nil ?_|BJH=>(LP "object.__class__")|BJI=>B6 Heap.size_push ε|BJJ=>Int.mul_nonpos_of_nonneg_of_nonpos ε h|BJK=>Rat.num_divInt_den q|BJL=>vs.length<=i|BJM=>EK List.map_append|BJN=>EK List.any_map|BJO=>GB both.length|BJP=>(AL 12).toNat|BJQ=>IntMulOk i j|BJR=>KL beq_false_of_ne ε ζ|BJS=>List.map_congr_left fun ε _=>ζ|BJT=>List.filter_congr fun ε _=>ζ|BJU=>subscriptTail_builtinR (x:=ε)|BJV=>IF List.length_map ε ζ|BJW=>N1 (BN zs)|BJX=>FU _ trivial|BJY=>fs.length<=1000|BJZ=>rows.length<=1000|BJa=>(both.map f)|BJb=>(L5 (Aeg i))|BJc=>SV List.length_append ε|BJd=>I_ xs.length|BJe=>I_ ks.length|BJf=>ε (List.mem_cons_of_mem _ ζ)|BJg=>Hc List.replicate ε ζ|BJh=>i<=ds.length|BJi=>i<=t.place.toList.length|BJj=>by rwa [List.take_length] at this|BJk=>decide_eq_true h2|BJl=>of_decide_eq_true h2|BJm=>Paired.length r|BJn=>vs.length<64|BJo=>ps.length<64|BJp=>ws.length<64|BJq=>i9 (.BinOp a ε b pos) ζ|BJr=>by rw[List.getD_eq_getElem?_getD,ε] at e|BJs=>(.tr KK AHv)|BJt=>(sc.names.map (·.1)).Nodup|BJu=>by show Ã List.take_length|BJv=>by show Ã List.length_range|BJw=>List.range_succ (n:=ε)|BJx=>["hand","mark"]|BJy=>EJ ε ["_law_script"] ζ|BJz=>(behindTheImports p)|BJ0=>Tm List.length_reverse|BJ1=>Tm pm.length_eq|BJ2=>(kH I.ok.Io)|BJ3=>(f j).den_pos|BJ4=>List.getElem?_set_self hi|BJ5=>List.getElem?_set_ne hj|BJ6=>(AH4 ks.map)|BJ7=>Array.getElem?_eq_getElem hlt|BJ8=>(.dK (ARS v))|BJ9=>scope.names.lookup y=some ε|BJ_=>AllBare s.gens|BJ'=>B.StaysIn h'|BKB=>(x,NameKind.cell)∈ε|BKC=>xs.toList[k]|BKD=>Vals xs its.toList|AsL=>by obtain⟨its,rv,p,hz⟩:=I.tuple hq|AsM=>by rw[List.getElem?_map] at e1|AsN=>W.plainOver K C=true|AsO=>W.makesIn K C=true|AsP=>Si ε Nat.not_lt_zero _|AsQ=>(.BoolOp .And [a] pos)|AsR=>(.BoolOp .Or [a] pos)|AsS=>Abm I2.kept|AsT=>.pay C fs ts|AsU=>d.params.defaults= []|AsV=>X.env.scope.kind== É|AsW=>(binaryOp op)|AsX=>(s.heap.objs.size+2)|AsY=>Dx K.lookup o|AsZ=>(Â vs.toArray 0)|Asa=>(Â vals.toArray 0)|Asb=>(qS iB ks us)|Asc=>(Í (V_ e "items") [])|Asd=>(Abq s.heap.objs.size)|Ase=>X.env.kindOf n==AIJ|Asf=>(vE "middle")|Asg=>FZ t.place.toList|Ash=>(Ad7 - 1).fdiv|Asi=>by rw[List.getElem?_zipWith] at hd|Asj=>["spot","row"]|Asl=>(R2.grow gr)|Asm=>(.ref MR::vs)|Asn=>Ď both.length|Aso=>ACP hms.length_eq|Asp=>ACP List.length_range|Asq=>(match ε[i]? with | some ζ=>η | _=>θ)|Asr=>u=Value.bool b|Ass=>l.getD (XN - 1) 0|Ast=>(AbS bP (AJH t'))|Asu=>fun h' eb=>(HU (Zt (t' :=s.toks) (fp:= ε) I ζ hf))|Asv=>by show HH (setEpoch S) (ε hg O.dat O.fit ?_)|Asw=>(yh own caps σ)|Asx=>AQF ws.length|Asy=>by rw[List.getElem?_map] at hi|Asz=>Nat.le_mul_of_pos_right _ ξ|As0=>Int.fmod_eq_emod_of_nonneg _ ξ|As1=>Co s.heap.get? o|As2=>(LT qt Δ)|As3=>(B6 z List.mem_cons_self)|As4=>h'.IsCell c v|As5=>TU (EB AJj (fun vs H1=>∃F1 Γ1 ds,AIl/\TK/\AR'/\AKU ε) I (EI ζ)) us|As6=>by show AQf PyProof.Rows.F.plain_set_update_loop
|As7=>by show AQf PySem.F.plain_proto_collect|As8=>by show AQf PySem.F.plain_list_iadd|As9=>#[zy3 (i:=0) ao ε ζ rfl Cl]|As_=>rows.map (·.1)|As'=>by simp only [Int.toNat_natCast,hx]|AtA=>(.dT (ARS v))|AtB=>(s.heap.objs.size+4)|AtC=>(GI Τ A8)|AtD=>(MV v (r6 vals))|AtE=>(AJ4 "enumerate")|AtF=>∀j,j<xs.length ->ε|AtG=>(E_ (vF*dr))|AtH=>∀{i:Nat}(h:i<l.length),_|AtI=>(j_ ps (Dv 4000 p))|AtJ=>AKP (p9 ü)|AtK=>nH rows ws m ε m.length|AtL=>l.Pairwise R|AtM=>s₁.gens= #[]|AtN=>(kH I.ok.bs).1|AtO=>a<h.objs.size|AtP=>(s.heap.push tT)|AtQ=>congrArg ε (List.map_congr_left ζ)|AtR=>("self" ::ps)|AtS=>by rw[List.getElem?_eq_getElem hi]|AtT=>by rw[List.length_eraseIdx_of_lt hi]|AtU=>AB (List.mem_singleton.mp h) ε|AtV=>AC (ε (List.map_eq_nil_iff.mp z))|AtW=>(ns.getD i Str.empty)|AtX=>(jc.mp h1).1|AtY=>Vals ys its'|AtZ=>(SS (BFt ydk) Φ)|Ata=>by show ED;simp;omega|Atb=>Mn (! ε) (Builtin.List.listTooLong (ζ))|Atc=>by obtain⟨its,rv,pl,hz⟩:=I.list hq|Atd=>g d (c::post)|Ate=>(.cons rfl r)|Atf=>TR.repN s1 t v as|Atg=>uS Ct "dict"|Ath=>uS Ct "list"|Ati=>(.ok (.ret (.bool (nM x y))))|Atj=>Good i (as i)|Atk=>(Γ2.set i (.tr bP t'))|Atl=>hc.keeps keep|Atm=>R1.g.trans sH|Atn=>ks.length=rs.length|Ato=>IF List.length_map ε ζ|Atp=>fun m=>xs[i+m]?|Atq=>c<=qs.length|Atr=>ws.length<=rows.length|Ats=>its.toArray.size*k.toNat|Atu=>(Slot.pu (.ptr a))|Atv=>(Slot.pu (.ptr p))|Atw=>Int.fmod_eq_emod_of_nonneg _ τ|Atx=>(s.heap.objs.size+3)|Aty=>by refine wpAny_isTrue_Compare1 (bV ε (u8 ζ η)) θ|Atz=>(KG BB Hb)|At0=>(Pf rA Τ)|At1=>(.ob C AIV ASF)|At2=>(.ob C AIV (ts++ [M_]))|At3=>(GI A8 E6)|At4=>told.map .str|At5=>Sr (b<s.heap.objs.size)|At6=>kl (i.fmod j)|At7=>kl (i.fdiv j)|At8=>fun b ob q _ _ _=>ε|At9=>mids (xP qs)|At_=>AQ (xs.length+ys.length)|At'=>AQ (xs.length+zs.length)|AuA=>ARB valueAt e'|AuB=>ARB atKey e'|AuC=>ARG h' s.heap.objs.size|AuD=>fun c ds=>ε*L0 ds|AuE=>(AAc EN f Ju)|AuF=>ε it d BE es.size ep|AuG=>∀{K:W.Frag}{F0 H0 F H:Hp},_|AuH=>AeE ε Builtin.«dict_keyiterator.__iter__»|AuI=>∀(hbase:NH e "items" e e:=by rfl)(hline:da:=by rfl),_|AuJ=>(Cc (s.heap.IsTuple a its.toArray) p)|AuK=>(zph f y fs)|AuL=>(.BinOp a op b pos)|AuM=>(dU ks vs k v)|AuN=>(lC ks vs k v)|AuO=>(List.zipWith g as bs)|AuP=>l.take (cnt q l)|AuQ=>l.drop (cnt q l)|AuR=>l' (EB ho _ _ u w) ε|AuS=>(Hw lo n).go i H/\ε|AuT=>∀(k:Nat) (h:k<xs.length),ε ->ζ|AuU=>∀(k:Nat) (h:k<xs.toList.length),ε ->ζ|AuV=>Aer xs.drop|AuW=>∀(X:Cx),Ρ (X.prog=P) (X.w=w) (X.K=K) D6 ε|AuX=>cs.Pairwise (· <= ·)|AuY=>s1.heap.objs.size+4|AuZ=>["part","head"]|Aua=>["group","hands"]|Aub=>by simp only [q,decide_false]|Auc=>by rw[List.map_cons,List.sum_cons,ε,ζ]|Aud=>(Int.toNat CS)|Aue=>PySem.Slot "set_iterator" ε ζ|Auf=>cR (Nat.ne_of_lt ε)|Auh=>List.length_pos_iff.mpr (ε ζ zY)|Aui=>BG World Heap|Auj=>BG V Value|Auk=>by rw[List.drop_eq_getElem_cons hi']|Aul=>(bs.getD i false)|Aum=>BI told.map D.str|Aun=>by show AS v h1 h2 wv r hr;exact⟨v,ε,ζ⟩|Auo=>(.tup [kV k,v])|Aup=>(B6 Qp ARd)|Auq=>(B6 P.size hm)|Aur=>g5.get? c=some o|Aus=>(bw (cC ACw))
|Aut=>by show AQ ε;show ED;omega|Auu=>KU (N_ ε ζ) 2147483647|Auv=>(fun b o hb e=> ?_)|Auw=>(fun b z=>(APn z))|Aux=>by refine codeAny_builtin PyProof.Rows.F.entry_set_update_loop ?_|Auy=>i4 L.map qM|Auz=>(Á "zip" b9)|Au0=>(j_ ex BGy)|Au1=>by funext j;unfold comb;grind|Au2=>List.map_congr_left fun i hi=>ε|Au3=>(Tl rB Ζ)|Au4=>Prod.ext e1 e2|Au5=>k= ! xs.isEmpty|Au6=>ą QU (AA ws.map ε)|Au7=>s.heap.Ns X.env.locals m|Au8=>#[yd4 (i:=1) rfl Cl]|Au9=>bindArgs (ε pm an cdv ct) ζ=pure η|Au_=>v= Ι/\EV MR H'|Au'=>(DS cM Ζ 7919)|AvA=>Jn w (by by_cases q:ε<;>simp [q])|AvB=>(Om qs).mem_iff.mp|AvC=>BHa Sum.inl|AvD=>BHb Sum.inr|AvE=>ARb is.Perm vs.length|AvF=>by subst hb;rw[jJ] at e;cases e;exact ε|AvG=>SS (AIs Jm ε Δ) Φ|AvH=>(AJy (comb ks ss j))|AvI=>by show AdL List.getD_eq_getElem?_getD Xs ε|AvJ=>(fun p q=>(XA q))|AvK=>(z7 (z7 AdX))|AvL=>(l.map fun x=>D.bl (f x))|AvM=>l.any fun s=>AeC|AvN=>R0.sl j s' q|AvO=>Vals (xs.map V.str) vs|AvP=>Ĝ (WH (isTrue e X.env ε) (AAu TP))|AvQ=>(AI (i=p) _ _)|AvR=>(∀i,i∈ms↔i∈ns)|AvS=>PySem.Within mA (fs.map (·.1))|AvT=>seqIndex? i xs.length=some ε|AvU=>∀(K:W.Frag) (F H H0:Hp),_|AvV=>(Itv K a xs)|AvW=>(stepK K r ω)|AvX=>(IY iJ z_ bo)|AvY=>LZ [] (DF (sf comb))|AvZ=>AHk n (XB:Bd) reverse|Ava=>∀(t:Bool)(h:Heap),_|Avb=>BHq "dict_items"|Avc=>(zL (uu (b.natAbs<=3)) τ)|Avd=>∀(Fn:AeA (pQ X.K sp))(hr:Ø),_|Ave=>ACk (TR.move f t v as) (k a ha).2 r|Avf=>(.IfExp c a b pos)|Avg=>BHx "object"|Avh=>∀(dS)(m:Str)(sp:cH)(te:aY)(t:bK),_|Avi=>BHz (RelV v w')|Avj=>⟨xs.length,AY,DV,h0⟩|Avk=>by show L_;cases rx;show ASc;show RF|Avl=>(.nt as c t)|Avm=>(.fresh 0 0 (mD w))|Avn=>codeAny MO A (.builtin ε ζ) η s|Avo=>(Itk a o kvs bs)|Avp=>fun c o hb e=>Dj.extBut c o Q_ ε|Avq=>wpAny SF X.A (pyIter v) (ε X pins σ tg R)|Avr=>(HA (lC ks xs mI d).map)|Avs=>zo9 R1 hJ hx ha h1 ε|Avt=>∀(YI) (x:Str) (C:Addr) (fl:Str) (k:Nat) (ps:ο) (sp:cH),_|Avu=>⟨.str p.r,g,Adt,AeW,ą ACy ε,ζ⟩|Avv=>BIL "dict_keyiterator.__iter__"|Avw=>BIQ (ASj extBut)|Avx=>w.params.followText "set-order"|Avy=>B.StaysIn s'.heap|Avz=>s2.heap.push AJF|Av0=>Kp (oO (A2 Nh) ε ζ ú)|Av1=>raiseNew (<- BHr)|Av2=>unsupported "internal:set_iterator"|Av3=>zo2 O.tok.ZK|Av4=>pre.getLast hne|Av5=>u=Value.none|Av6=>h'.objs.size=lh|Av7=>(Sum.inr:Str ->Key)|Av8=>FF ->BHN (p=BHj)|Av9=>items.size+items2.size|Av_=>its.toArray.size+its2.toArray.size|Av'=>(ws[k1],pe[k2])|AwA=>(kH I.ok.bs).2|AwB=>by rw[List.length_append,List.length_singleton]|AwC=>A.length<=100|AwD=>So+cY j<=100000000|AwE=>s.heap.objs.size<h'.objs.size|AwF=>⟨AC (by(cases z)),ε⟩|AwG=>⟨Ab9 PySem.F.plain_extend_loop,ε⟩|AwH=>by have f3:=AutoSeq1.sub_list_list|AwI=>qs.length - c|AwJ=>295*ks.flatten.length|AwK=>["_law_work","_law_hand"]|AwL=>[SY,s1.heap.objs.size]|AwM=>by simp only [List.getElem_map,List.getElem_range]|AwN=>by rw[List.any_cons,List.any_cons,ε,ζ]|AwO=>by rw[List.replicate_succ,List.replicate_succ,ε,ζ]|AwP=>by unfold cY Builtin.Int.intBits|AwQ=>by replace ε:ABL ζ (rawInt g5.objs.size):=η|AwR=>by rw[<- ε,List.flatten_append,List.nodup_append] at ζ
|AwS=>(compareOp op')|AwT=>by show MZ;cases t<;>(cases e;exact B_ h)|AwU=>by rw[<- e,Int.natAbs_mul];exact ε|AwV=>ET s₁.heap.get? ->ε ->ζ|AwW=>X.env.frame=some X.env.locals|AwX=>oe.dict=some dx|AwY=>scope.names.lookup y.1=some ε|AwZ=>(Μ f (! ABs))|Awa=>yr (AJz d6)|Awb=>.ref (AAv (AR1 ε) l2)|Awc=>(BN (xU ws v bs))|Awd=>by have z:=Int.dvd_gcd_mul_iff_dvd_mul.mpr ε|Awe=>by have p:=List.nodup_append.mp ε|Awf=>LJ (zh s.heap.objs.size ε) ζ|Awg=>D9 (t.place[i]+1)|Awh=>AA l.filter p|Awi=>AA hs.map (AJu x)|Awj=>AA ws.take i|Awk=>AQ (xs.length*k.toNat)|Awl=>by obtain⟨_,_,_,_,_,_,_,_,_,_,rfl,_⟩:=h;rfl|Awm=>Dx s₁.heap.get? AR3|Awn=>.lst (m.map fun h=>ε)|Awo=>.lst ([ε]++hs.map fun h=> ζ)|Awp=>∃ob,ε/\ob.dict=none|Awq=>(.Name "self" px)|Awr=>(true==true)|Aws=>(x.cps.toList==y.cps.toList)|Awt=>(rb.getD i c9)|Awu=>(m.getD i default)|Awv=>Co vN (ks,xs)|Aww=>B1 ü (cV i)|Awx=>Bn (num j)|Awy=>BI ps.map pD|Awz=>BI gs.map hdS|Aw0=>w.params.followText "set-order" =true|Aw1=>PE X value tv|Aw2=>B5 (GE AP0 1)|Aw3=>(Array.getElem?_eq_some_iff.mp h3).1|Aw4=>Cc (WG H s.heap b FV) ε|Aw5=>(8* (AI (d_ BH') OG 0))|Aw6=>(b.num*a.den)|Aw7=>(Nat.mul_le_mul_right _ h12)|Aw8=>(⟨#[ch]⟩:Str)|Aw9=>h a List.mem_cons_self|Aw_=>by obtain⟨_,_,_,_,rfl⟩:=XD hl;exact rfl|Aw'=>(gR.fs++ [("kept_borders" :Str)])|AxA=>Pe (pushCells (s.heap.push tT) ε)|AxB=>(LT ylj aW)|AxC=>(B6 hk (Cb I' q))|AxD=>(B6 List.append_nil hl)|AxE=>(B6 Xl AJU)|AxF=>FX (by cases hb)|AxG=>s.TypeIs v T|AxH=>qD (X (m.idxOf h))|AxI=>by have e' :ε=ζ:=by exact_mod_cast e.symm|AxJ=>D ->Option (ε×ψ)|AxK=>by rw[ε,List.length_cons,List.length_cons];omega|AxL=>w.params.followText "set-order" =false|AxM=>∀x∈Adl,f x=0|AxN=>HI (hs.map fun h=> ε)|AxO=>(Pf zzz Τ)|AxP=>[.str h,.int (f h)]|AxQ=>Do (BA r.length z)|AxR=>Θ (a.1<b.1)|AxS=>No ps.map pD|AxT=>AAf W.takerIn C ε|AxU=>EW e2 Array.append_assoc|AxV=>sub _ ((e _).mpr ε)|AxW=>(zh acc [])|AxX=>HU (AB e lc)|AxY=>(wW s₁.heap H)|AxZ=>List.replicate n XB|Axa=>by rw[size_push',Heap.size_update];exact ε|Axb=>I_ (nZ bs m)|Axc=>(qB (nF f y fs))|Axd=>Fu (ε j (List.mem_range.mp hj))|Axe=>V ->V ->Bool|Axf=>by rw[List.mem_append,List.mem_singleton]|Axg=>by rw[ε b (B_ (hb (List.mem_append_right _ h))),ζ]|Axh=>Sf (iF AJ (ABe ps))|Axi=>(zD (V_ (SG np) m) Da)|Axj=>Me Dr List.length_map ε|Axk=>Sj value tn|Axl=>AAq W.specialIn ε ζ (LP η)|Axm=>zt iw.rep sF|Axn=>by refine call_reversed_list pl.isList ?_|Axo=>E4 (Builtin.SmallTypes.nextOf P8)|Axp=>AHk ε its flatten.toArray|Axq=>i9 ub (Aep tc te)|Axr=>k1.2.2 b o q|Axs=>AAx Γ.set (qS iB ε (HA (uJ ks xs ζ).map))|Axt=>∀(OE)(u:FF)(w:Str),_|Axu=>S_ (AIn ε (AIf vP))|Axv=>(TD (I.ok.hd hc))|Axw=>AHr ε (fun x y H Q=>y= Ι/\ζ)|Axx=>cz H' (AQA B.get?)|Axy=>Ê (AIP (W m' Γ'))|Axz=>SetTable.below xs j|Ax0=>comprehension ε sc X.env ζ|Ax1=>e (h1.trans z)|Ax2=>Ο (AJP Aj h)*f h|Ax3=>tn 0 s2.heap|Ax4=>ABN kvs.lookup k|Ax5=>(fun v _=>v= lj)|Ax6=>dL (AJx hh)|Ax7=>rS pB H0 s o|Ax8=>Hd.fnO K (AHV W.nsIn mainGlobals ε) ζ|Ax9=>ε b o (DJ (WA hb h)) e|Ax_=>D3 (bs.getD i false)
|Ax'=>SW (¬WI) H2 H'|AyA=>kU (Aef:Rw)|AyB=>by show X_ List.Nodup List.pairwise_map|AyC=>(SetTable.below xs j)|AyD=>(cB bU Τ Ζ)|AyE=>C9= qf ->AM≠x|AyF=>I1.kept (t' :=s1.toks) kp|AyG=>yu K F H H' C dx x|AyH=>(.ListComp elt [APJ target] scope pos)|AyI=>s.heap.get? p=some ADW|AyJ=>d5 h1.symm.trans e|AyK=>cB mC A8 (cB bU ε C_)|AyL=>#[gq #[zze (kD ε)]]|AyM=>isIn m b=false|AyN=>He ["sheet","hand"]|AyO=>lT (k j (zW _ hj))|AyP=>eR iter wi|AyQ=>AIQ (h∈k s) BIO|AyR=>Inv X pins AJ' H s'|AyS=>by subst e;rw[Rat.div_mul_cancel hp];grind|AyT=>iF (E1 "list") (.seq its'.toArray n')|AyU=>h s (zW _ hs)|AyV=>h b (zW _ hb)|AyW=>h u (zW _ hu)|AyX=>⟨_,rfl,nd,ε,rt⟩|AyY=>ò z.cps.toList c|AyZ=>ly (ε (l.map f)=l.map ζ)|Aya=>∀{A:Around}{s:Shared},_|Ayb=>h b (List.mem_cons_of_mem _ hb)|Ayc=>[W.topFrame Hd.z]|Ayd=>by refine Calls.callWith_builtin ε (Calls.evalArgs_plain ζ)|Aye=>release [v,ov,iv] []|Ayf=>(.List es pos)|Ayg=>(Array.perm_iff_toList_perm.mp ε).trans P|Ayh=>(kvs.map fun kv=>(ARX y))|Ayi=>∀{X:Cx}(AKV){h' :Heap}{t' :Nat},_|Ayj=>APu (gr.f.trans (s4.trans ε))|Ayk=>Abs (Μ s (APW (x' W_)))|Ayl=>AIs (z0y (i:=0)) ε rfl|Aym=>pure (none:LM)|Ayn=>ASL o - x o|Ayo=>DI ->Rat ->Rat|Ayp=>(by rw[VY hq,e])|Ayq=>(qD (x' m[j]))|Ayr=>GA far a (ABM hne)|Ays=>(AAm BGw [a] pc)|Ayt=>(.Tuple es x1 tp)|Ayu=>AP8 atKey xs|Ayv=>(.Subscript EN k pos')|Ayw=>AP' "plus" Ov|Ayx=>AP' "minus" JB|Ayy=>AP' "times" Wk|Ayz=>AP' "over" Q6|Ay0=>⟨F1,Γ1,D2,R1,q,k.mono s1⟩|Ay1=>I ts.length Γ1|Ay2=>s.TypeIs Ct "dict"|Ay3=>ε AeD w=ζ++ (AI (ω=w) [A3] [])|Ay4=>DY X body tb|Ay5=>FD is AT (∀i∈is,ε) ζ|Ay6=>∀i j,i<m ->j<m ->ε ->i=j|Ay7=>a.there c ob q hx|Ay8=>gD ks xs k=some d|Ay9=>∀{pins:c7}{s:Shared},_|Ay_=>by have I1:af MT:=I.kept (t' :=s.toks) ε|Ay'=>kY W (K w) (V w)|AzA=>fun Γ=>(BIR BE)|AzB=>lQ Aei xs.length|AzC=>pure (some true)|AzD=>(cB fY Ad0 Τ)|AzE=>B5 (sIx n n hi)|AzF=>z62 rfl rfl cI rfl|AzG=>AcU "__class__" "object.__class__"|AzH=>fun u=>ε (K' u) (V' u)|AzI=>aD l (Μ a ((f a+d a)* (f a+d a)))=ε|AzJ=>AKD BB (Ĕ ε D5)|AzK=>AKF (∃a xs,v= AF/\ε/\xs.length=n/\t xs σ H Q)|AzL=>(g k*f j - f k*g j).fdiv|AzM=>GA far b (AC (Adp hB))|AzN=>Option (Shared×Thread)|AzO=>Slot.tr ε (.iB ks i_)|AzP=>(Gh X.prog X.w q xs)|AzQ=>fun q=>Pm n q/\Up lt q n|AzR=>⟨k,h,AJU⟩|AzS=>by rw[List.map_cons,List.map_cons,List.map_cons,ε,ζ]|AzT=>Ord lt vs.length|AzU=>by simp [sliceBounds,HT.sIx]|AzV=>(zT.mp hp).elim|AzW=>(u.fdiv 2).fmod|AzX=>zU.mp ((h ε).mpr zY)|AzY=>r=none/\af s1|AzZ=>(.Tuple es k pos)|Aza=>HI (fs.map gl)|Azb=>Pi (AHt Aci) tk|Azc=>Pi (AHt Ado) s.toks|Azd=>N9 ps (ARa (by rw[ε,q];simp))|Aze=>(Wp (bs.getD i false))|Azf=>∀(cJ:Υ zdp)(ao:Sc),_|Azg=>tI as (ABl K1 V1)|Azh=>ADX ε ["hand"] ó|Azi=>∀{H:Hp}{a:Addr}{kvs:Kx},_|Azj=>(ps++ [([],[])])|Azk=>ASW (∃u,AJv/\LDn u)|Azl=>cX (fun x ds=>g x (a::ds)) ε|Azm=>ASg (h (c::es)) ds|Azn=>.tr (b::bs') (qN c p' g vW ws br K2 V2)|Azo=>D.tup [qD (ACI),qD H]|Azp=>BI ε qs=qs.length|Azq=>fun o=> !(Θ (q<o))|Azr=>⟨s,zW _ hs,z⟩|Azs=>Jb (j:=27720)|Azt=>AH1 SlO ds o
|Azu=>ε ζ f2 hd (Array.getElem?_eq_some_iff.mp h1).1|Azv=>(ACi stepK Kf)|Azw=>(ACi stepV V)|Azx=>(ms.take BE).flatten|Azy=>BG (CB) Heap|Azz=>C5 Um es gs|Az0=>I.pins_of fun p hp=>ε|Az1=>(same u n).1|Az2=>Bn (X+1+ AIA 15 7)|Az3=>by refine z6b PySem.F.slot_dict_getitem.lookup hs ε|Az4=>(HA (AA ms.map gl))|Az5=>LW rfl ρ ρ|Az6=>Fk E5 (ydn I2 d) ε|Az7=>WJ (hd i j F) hp|Az8=>bV h1 (Α itv s2 h2)|Az9=>∀(F:Ω "__init__" "Scale.__init__" RL),_|Az_=>∀(F:Ω "__init__" "Sitting.__init__" J0),_|Az'=>Adb (MX "dict_values" #[AF])|A0G=>storeSet a es1 t2|A0H=>T_ e n ?_|A0I=>lb (pG true) (WN (cV 12)) ε|A0J=>(rH env scope.names [])|A0K=>(rH X.env sc.names [])|A0L=>k1 c o Q_ Q_|A0M=>Adr (BHs H')|A0N=>gj rows w= []|A0O=>ML Γ1[i]? (some AI4) (g xs ds fun ys=>ε)|A0P=>∀{fd:FuncData}{x:Str},_|A0Q=>(fun j hj P hP=> ?_)|A0R=>(fun i hi P hP=> ?_)|A0S=>To (tb D Γ fun Γ1 Cv=>∃C fs ts,ε)|A0T=>(xK c.ak "table" (yG (Ij c)) ON)|A0U=>APh _ R2 L6 hp|A0V=>APh b R2 L6 p|A0W=>(zt9 bA.mt ao y0 dC)|A0X=>(z0s bA ao y0 dC)|A0Y=>ASV dE 1 (FA+1)|A0Z=>∀(rows:A5)(ws:ο),_|A0a=>oO (A2 yfj) BHc ε ú|A0b=>r8 "under" "one" "other" GD|A0c=>r8 "divisor" "one" "other" Q5|A0d=>AHw tl x (∃a,x= AF/\ ((ε)\/ (ζ)))|A0e=>∀(AeO)(f:Str)(te:aY),_|A0f=>ne c _ z (FS w (XA w))|A0g=>(List.zipWith (r_ (D.bl (g a b))) as bs)|A0h=>∀{i j:Int}(h1:So<=4000)(h2:cY j<=4000),_|A0i=>∀{i j:Int}(h1:So<=8000)(h2:cY j<=8000),_|A0j=>(Hw lo n).stop i H/\lr|A0k=>∀(X:Cx),Ρ (X.prog=P) (X.w=w) (X.K=K) (cm X) ε
|A0l=>by
 obtain⟨its,r,pl,hz⟩:=I.list hq;refine ε (Am x) pl.isList (fun w hw=>Tt rx fx r fs w (Bi hw)) (Ğ ?_)
 rw[ARg (its.toArray.any (Am x)=its.any (Am x)),Tr r fs]
 exact q
|A0m=>if x<ω then ε else ζ (r::t) x|A0n=>by rw[List.getElem?_append_right (by show Acw;omega),List.getElem?_replicate,ε]|A0o=>⟨Abk,EW List.size_toArray ε⟩|A0p=>by rw[Ade,List.getElem?_map,List.length_replicate] at ε|A0q=>IntsAre its ns|A0r=>tn BE s2.heap|A0s=>u=Value.type n|A0t=>(by simpa [Rat.not_lt] using q)|A0u=>Ab7/\ARq/\ADP|A0v=>∀(rs:A5){k:Nat}(h:k<=rs.length),_|A0w=>H' acc=some Lc|A0x=>by obtain⟨_,_,_,_,_,_,_,_,_,_,_,_,_,_,_,_,_,_,_,_,h⟩:=h;exact h.elim|A0y=>t.slot j= .empty|A0z=>wpAny_Name (ε fin) hd|A0_=>UnR X ε (rU fun i=> .int ζ)|A0'=>Α ws ps B|A1G=>LJ ε (AHZ s1 h' tk)|A1H=>(∀v∈vals,Ad3)|A1I=>∃k,k<n/\r=iW A k|A1J=>(hμ r hr).1|A1K=>(same u n).2|A1L=>(AKL fun b=>Ĥ)|A1M=>iE ta x (Ll tb y ε)|A1N=>ks.any fun k' =>(Θ (k' =k))|A1O=>(B6 I.ok.glob (I.mod.glob.keeps I.bk))|A1P=>∀(hit:s.heap.IsKeyIter it d i es.size ep)(hm:ASm),_|A1Q=>FB ó "hand" "sheets" ε|A1R=>ib (te Γ (fun d _=>ε) E)|A1S=>by refine DD (runValue _) (wpAny_runValue ε)|A1T=>∀h∈L,(f h).natAbs<2^100|A1U=>R.put i ε (FU h h.elim)|A1V=>AQ (xs.length+ys.length)/\ε|A1W=>fun r s' =>r=w/\mE r s'|A1X=>z8u r _ _ hr|A1Y=>Hc p.lv L f|A1Z=>ds= ć/\I_ (Int.gcd i j)|A1a=>IO (MS [Ic] (Be ε))|A1b=>JS r hr rfl|A1c=>∀(NC)(es:AE)(t:bK),_|A1d=>⟨_,get?_update_seq ε (A2 ζ)⟩|A1e=>(Í (V_ EN name) Da)|A1f=>∃sl,H_ h'.get? {o with slots:=sl}|A1g=>∀{kindOf:BGt}{x:Str},_|A1h=>⟨r,h1,h2,h3⟩|A1i=>∀(sc:Scope)(x:Str),_|A1j=>∀i,s<=i ->i<s+n ->ε|A1k=>zO (mq (k:=1) τ) ξ|A1l=>-(2^64)<i/\i<2^64|A1m=>vo xs.length k=some j|A1n=>(r=sX\/r=Ox)|A1o=>∀(t:bK) (E:XW) (σ:St) (H:Hp) (Q:ACv),_|A1p=>APs AQQ (AH0 k)|A1q=>⟨IM,H,ε,Cf,lc⟩|A1r=>Ē (q (NI List.mem_singleton.mp z))|A1s=>∀a vs,kP ->ε ->R vs ->ζ|A1t=>cx.pX pins σ Γ F|A1u=>∀{x y:Rat}(h1:uM x)(h2:uM y),_|A1v=>by have e:ε (BI ζ η)=θ:=EW List.length_map List.take_length|A1w=>by rw[Χ e,Χ (DH (e (h1.trans z)))]|A1x=>V4 (t:=z) (b:=27720)|A1y=>["some","bounds","backward","lists"]|A1z=>Ln (G.sr m hm)|A1_=>∀{rows:A5}(L:TL),_|A1'=>p'.mk' L f=p.mk' L f|A2G=>ARe ((ε AdI).push Acz).get? #[] ζ|A2H=>zx9 I S hk e|A2I=>AI (ε<0) (Su ζ (AL l.length)) (min (η).toNat l.length)|A2J=>by have hb:(g==k)=true:=beq_iff_eq.mpr h;simp only [List.lookup,hb,ε]|A2K=>∀i j,i<j ->j<r ->ε|A2L=>ASd (eD<=1200) (∀h,ε)|A2M=>holding [v] (eval ε X.env)|A2N=>P ABf (Γ.set i ARx)|A2O=>Ad8 PySem.F.plain_list_iadd PySem.F.entry_list_iadd ?_|A2P=>x= AF/\Adn/\AJ7/\Ad5/\ASP/\ε|A2Q=>ASf (ε K a).yld Aeb|A2R=>Aeh (ADG (sp ds ε (AH3 Cx Cx)))|A2S=>97+ ((num at_+ ε*Im (Θ (ACO=ACO)&& ! one)).fmod 26).toNat|A2T=>∀{ps:DI} {x:Rat},ε|A2U=>ε I.ok.kind hk hc hcell|A2V=>(hd j hj hj)|A2W=>Qo lt (W.kas_sort vs.length)|A2X=>#[xu (D_ (PR wj Φ BB) (PR wj Δ BB))]|A2Y=>(((Adk).extBut.push _).push _)|A2Z=>ε (ps.map kq) (kq q)|A2a=>AHd (X1 ds [Ic] ε [JY] ζ)|A2b=>L8 rows A5 U ο ε|A2c=>∀(bh:AR "sorted")(jw:AR "set"),_|A2d=>∀(C:Addr) (fs:ο) (ts:EX),_|A2e=>by show AS f hf sub p.sub S hS|A2f=>ε (MX (U6 t1) #[.ref l1,u7])|A2g=>gR.d c S (some (Ii bs))|A2h=>by show KW o ho hc hd hit2|A2i=>fun h' Tv hs=>h _ ?_|A2j=>∀(i:Nat)(tk tv:aY),_
|A2k=>by have hlt2:s.heap.objs.size<=l:=zO (Nat.le_of_lt ε) ζ|A2l=>Gg ⟨P,a1,qA (r<=n),a3⟩|A2m=>∀vs H Q E,AR8 ->BHT|A2n=>∀{ds:ψ} {vs:χ} {ns:ε},Fm ->ζ ->vs=ns.map η|A2o=>∀(FI){l:AG}{i:Nat}{d:α}(h:i<l.length),_|A2p=>k b u (hb b n) q|A2q=>∀(lo hi:KP)(n:Nat),_|A2r=>BH3 (ARQ o (oY H2 a y o) ε)|A2s=>∀b o u,N1 ACU ->AIy ACU|A2t=>jb (.Compare a [ε] [b] pos) (lb (Jw ζ) ta tb)|A2u=>∀(BH6)(ti:bK)(g:rG),_|A2v=>BH7 (.seq #[AJ] dn)|A2w=>∀(names:dq) (n:Nat) (acc:î),ε|A2x=>p.mk' BHg (A.foldl stepV V w)|A2y=>by have vw:(s1.heap.push (MX "dict_values" #[AF])).IsValuesView s1.heap.objs.size a:=RH|A2z=>Hd.adr (W.nsIn K mainGlobals ε)|A2_=>h1.imp (sw _ q (z09 q))|A2'=>N' =own++caps.map fun j=>N.getD j ""|A3G=>(AI a 1 0)==b|A3H=>(hz i him).2|A3I=>if c then a else b|A3J=>⟨w,hw,q⟩|A3K=>⟨z.1,ht _ _ z.2.1,z.2.2⟩|A3L=>⟨ACW,ě,ARL ε (gG ζ cK b) hb⟩|A3M=>by rw[tk,List.filter_append,List.flatten_append]|A3N=>xs[k1]?=none\/ys[k2]?=none|A3O=>∃q,Dx h'.get? q|A3P=>⟨WB hnc,AQm hnc⟩|A3Q=>of_decide_eq_true e ▸ h|A3R=>r j*L0 cs - BHZ d (r d)|A3S=>f p*HM.dt rs cs|A3T=>[.inr AM,.inr C9]|A3U=>[B9,cE,OS]|A3V=>[ACt,AdO,sQ]|A3W=>∀{cs:AT},cX (fun c ds=>ε) cs=ζ|A3X=>by simp only [q,decide_false,Bool.false_or]|A3Y=>by simp only [bne_self_eq_false,Bool.false_eq_true,if_false]|A3Z=>(2^63 - 1)/8|A3a=>by case ε=>subst r;show IU rv;exact eB|A3b=>nx k % l.length|A3c=>by rw[List.length_zip,<- hkl,Nat.min_self] at ε|A3d=>SetTable.below t.place slot|A3e=>ε a _ o kvs ep ⟨es,h3⟩|A3f=>(Sum Int Str)|A3g=>Β ->Β ->Β|A3h=>j<ts.length ->I j Γ1 ->ε|A3i=>AJ6 ->EV it s ->BHl|A3j=>ARG h' TO ->BHW h' ->ε|A3k=>ε ->G2 ->BG (đ) XW|A3l=>by show Abz HN;exact hl|A3m=>(fun y hy=>k y (zW _ hy))|A3n=>backTo cpos (starEach ε X.env)= ζ|A3o=>∀(i j l:Nat)(tv:aY),_|A3p=>I1.fpOk hb2 (I1.hok.fresh ε)|A3q=>∀{xs:χ}{us:Β}(h:Q1),_|A3r=>oN P w H' s'.heap|A3s=>(AeG s.heap.objs.size Adm).ε|A3t=>DC Γ' x (Slot.tr (b::cs') (BN us'))|A3u=>DC nms v ω|A3v=>V5 (mq (k:=4000) ε) τ|A3w=>.int (V ω h)|A3x=>Α p hp z|A3y=>(BN (Dq.set j (BN us')))|A3z=>ds.length=n/\gs ds Γ Q E|A3_=>(sF.trans (Dl.trans gr.f))|A3'=>(Gz (xO (Bh c.ak "table" (Ij c) ON)))|A4G=>(Cr (rC qs))|A4H=>Θ (AAq W.findIn ε "__setattr__" (LP "object.__setattr__"))|A4I=>.inl ⟨rfl,vs,Sl h1⟩|A4J=>aJ K F0 ds vs|A4K=>ε fun v hv=>ADQ (BHR hv)|A4L=>∃w,LD w/\H_ F0 w|A4M=>∃f,Aeq/\ε K f x=some g|A4N=>(Cn Acl (DS ji Acl 12))|A4O=>by by_cases hl:xs.length=ys.length|A4P=>show splitId ε =some (ζ,η) by show PV|A4Q=>by simp at h1 h2;show ġ;show AeB|A4R=>zvv F Good ε (AD as has)|A4S=>by show(yh own.length caps σ).length=N'.length|A4T=>ε ->AIk F ->Rep X.K F d' v ->gY d d' =true|A4U=>PE X Ts (Pz r t)|A4V=>(.dK ((ks++ [kk]).zip AIo))|A4W=>(.xd (fs.zip vs))|A4X=>(ws.map fun u=>Ě)|A4Y=>.tup [.str w,eQ,.int (nZ bs (v w))]|A4Z=>ε (prog:=X.prog) (w:=X.w)|A4a=>Pe (AdW push (W.instObj C s.heap.objs.size))|A4b=>fun b z=>(Si z Tc b)|A4c=>typeOf sg=pure (LO "method_descriptor")|A4d=>k _ _ (zdt rs ε) h.2|A4e=>FX (by simp at hb;simp [hb])|A4f=>(.While c body [] pos)|A4g=>(I.hok b _ e1)|A4h=>ne g (zW _ hg)
|A4i=>es.toList.map (·.key)=ε Value.ref|A4j=>SO ylv T "list"|A4k=>KL IK e1 q|A4l=>Θ (q - m<w)|A4m=>ib ((∃as ts,IZ (.tr as AJL))/\ε)|A4n=>GG (iR K C C1) ε (iR K C C2=true/\ζ)|A4o=>aj Ζ (aj C_ (aj Adu (ACu ε)))
|A4p=>by
 show ĥ q
 ·show MW q hc
 ·exact ε
|A4q=>zO (zpl xs lo hi) hz|A4r=>(MV j (Θ (kM>Adj)))|A4s=>IC fO CX k f fd ps ε|A4t=>∀A' :Around,A'.handled=none ->ε|A4u=>SU (∃as fs ts d,ε/\ζ/\ñ)|A4v=>AHd (MS ć (I_ (AI ε j i)))|A4w=>(AAm BGw b9 pc)|A4x=>(∀a,Good i a ->P [F i a])|A4y=>rM AeX (val i)|A4z=>(jE (Kf ω) A3).map|A4_=>cX (fun d ds=>ε) cs|A4'=>Sf (W.methodObj IR (AW ε))|A5G=>Sj (.Dict [] [] pos) ε|A5H=>by have hsz:its.toArray.size=ns.length:=AN ε|A5I=>Q (B4 ((m*m).fmod 2147483629))|A5J=>IL (VR x/\E Γ x)|A5K=>by show My (newList []) wpAny_newObj_type|A5L=>∀s∈ws.map (kW rows),ε|A5M=>p'.mk' (K2 w) (V2 w)|A5N=>wB X.K H y k|A5O=>XE ⟨Tu (AKG C.sz),Tu (C.sz p hp).2⟩|A5P=>(Α s6 I6 hz1)|A5Q=>pZ knd kf true o|A5R=>rh Ady (WH (ε st X.env) (SP X pins D))|A5S=>(TH (ik Û H' (F' b)))|A5T=>∀{prog:Program}{w:World}{A:Around},_|A5U=>decide_eq_false (Μ q (nomatch q))|A5V=>(cutD xs l u)|A5W=>OV (Lo i j)|A5X=>AA H b (.frz (ob b))|A5Y=>by rw[List.getElem?_set_ne (Ne.symm hj)] at e2|A5Z=>oe.cls=cls/\oe.dict=ε/\ ζ|A5a=>∀{P:Program}{w:World}{H:Hp}(h:Heap)(hb:sysModules<h.objs.size),_|A5b=>I.kIn a o hk|A5c=>(AI (j<0) (-j) j)|A5d=>(sd (ï/\eJ/\zo Γ' a))|A5e=>Pz (ε K g) (FM MJ t E) σ H Q|A5f=>∀i h,tn i h ->Sr (AeK TM)|A5g=>ki ε [D.tup (AAt 0 60)]|A5h=>kl (i^j.toNat)|A5i=>Aea Q I2 rx ry q|A5j=>(k6 (GE ã (F w)))|A5k=>∀{n:Nat}{f:sK}{i:Nat}(h:CO),_|A5l=>ä (We ps.map (AIu i (rawInt i)))|A5m=>fin s.heap s.drawn ε []|A5n=>ZS m (zyz l)|A5o=>(.Subscript EN Adf pos2)|A5p=>lm (storeName X.env x u)|A5q=>tq (getItem Ct u)|A5r=>SL t xs (ARu (∀p,di p ->EV p (P3 p ε)))|A5s=>vR p' vW ws br|A5t=>Fk ε I2 (q _ (I1.hok.fresh CC))|A5u=>Mod X.K X.mg X.base|A5v=>BY ε K0 hbase hline|A5w=>∀(K:W.Frag)(Cd:Addr)(i:Nat)(tb th:aF),_|A5x=>APq (ARQ v (oY H2 a y cq) ε)|A5y=>u_ (h ε ď ξ ARh)|A5z=>SeqAt.EqAt A s u v ε|A5_=>wpAny Ë X.A BH5 (G_ s2 (∃x H',cb s2/\tF/\J.yld i H x H' /\ε/\ζ)) E η|A5'=>by rw[List.zip_cons_cons,List.map_cons,AB' ε]|A6G=>by simp [qD,pY,jd]|A6H=>∀{kvs:NE}{xs:Ć},_|A6I=>D.lst (hs.map .str++ BH9)|A6J=>V ->V ->V ->pd Hp Hp|A6K=>nP Γ1 σ i b|A6L=>DZ "is_scale" 3 ["points"] Ww|A6M=>DZ "mean_mark" 3 ["sheet"] W6|A6N=>DZ "ends" 3 ["marks"] WL|A6O=>DZ "_law_scale_points" 3 ["_law_script"] Xh|A6P=>AHz (r_ (ltP a b=true))|A6Q=>APh d v R2 L6 rv hp|A6R=>∀(AQB)(u:FF)(nw:ws.Nodup),_|A6S=>∀(AQB){m:HZ}(L:AcW),_|A6T=>⟨ε,_,c,hv,AB Array.toArray_toList hg⟩|A6U=>fun d ds e=>h d eL uv|A6V=>Adh*μ.fdiv Ģ|A6W=>(z7r ξ q hq)|A6X=>(AI (v<0) (max (v+ EO) 0) (min v EO))|A6Y=>IE x c e z|A6Z=>ADJ (Adg EN f) (ε C i f ζ)|A6a=>∀(AQR) (base:Heap) (k:Nat) (f:Addr) (fd:FuncData),_|A6b=>(AcD (ks.zip vs).any)|A6c=>∀{one:ABp}{f g:sK},_|A6d=>∀{rs:CM}{f g:Row},_|A6e=>by have hbs:=hb (AKC (ARR (W.instObj C s1.heap.objs.size))) ε ζ η|A6f=>w∈ BH2 (E_ ω)|A6g=>["some","order","part","place"]|A6h=>AJq List.append_nil r.length ADU|A6i=>qD (eC 0 (ASb o) (BIC o))|A6j=>Ln (sr f hf)|A6k=>h w' _ ACs o9|A6l=>E2 A3 h ADM 0|A6m=>∀b ps,N1 (.LR ps) ->∃more,H_ H' (.LR (ps++more))|A6n=>W.item i s _ _|A6o=>∀(ho:ef j6 AQ' (qV g))(ha:OQ)(hb:d4)(hm:ARI),_
|A6p=>AJ0 (∃l xs,x= E5/\vs= []/\l_/\ASK ε)|A6q=>AcR "total" 4 Ow|A6r=>AcR "mean" 5 Q7|A6s=>AcR "rising" 2 Q8|A6t=>(.dic ks (HA (AA ts.map Cq)))|A6u=>∀(i x:Nat)(tb:aF),_|A6v=>ja Az "must_have" 1 AH' Rh|A6w=>ja Az "mark" 2 AH' Ri|A6x=>ja Az "grade" 3 AH' Xf|A6y=>∀(EF){F0 H:Hp}{N:ο},_|A6z=>by have n1:di MR:=I1.hok.fresh (Nat.le_succ _)|A6_=>∀(X:Cx) (o:Expr) (m:Str) (apos:Pos),_|A6'=>tc Γ2 (fun w Γ3=>g' y w fun d=>P d Γ3) E|A7G=>AcY "by_work" 1 OJ|A7H=>AcY "groups" 3 W3|A7I=>AcY "leanings" 8 W9|A7J=>aC N ps scope|A7K=>(x.above y c (PySem.mem_of_lookup h))|A7L=>(h.push (MX "list_iterator" #[Kt,ARy])).ε|A7M=>qD (je Kk h)|A7N=>∃d,ò xs d/\P d|A7O=>EJ ["table","place",ε,ζ] ["table","place",η] θ|A7P=>ARl (∃kvs,ARs/\H_ H1 (.frz (ob b) FV))|A7Q=>(qy (cT (ADK Τ)) (GI Ζ (cU fZ Τ)) ACr)|A7R=>∀(X:Cx)(id:String)(r:eP),_|A7S=>∀(K_) (F H H0:Hp) (as:Ν),_|A7T=>(∀b,b_ ->¬MU ->MM F1)|A7U=>tq (compareOp ε u Ct)|A7V=>ASJ Γ1 ASE Ac0|A7W=>AJD (C6 (Pd Ι)) Pd|A7X=>compPost SF X.A X.xe use|A7Y=>(hg x).mpr (CL ⟨f,hf,q,ε⟩)|A7Z=>Y9 A s v u (gY d d')|A7a=>(fun C dx H' =>∃x F',E Γ x/\cy /\AJZ H)|A7b=>∀(ASo)(h0:IG∈S)(hn:AJW),_|A7c=>Bool×AQu×AQu|A7d=>ADY ε (rule "set.scan.the-table-gave-way") (pure ())|A7e=>{o with data:= .set es' (ep+1) t'}|A7f=>AdQ v hv (e v hv ε)|A7g=>Bn (6* (Õ+1)+ AIA 105 3)|A7h=>DZ "_law_marked" 1 Aes Xa|A7i=>DZ "without" 1 ASl Wn|A7j=>(rel.val k).getD rd|A7k=>oY.k (k:=kk) ea|A7l=>by rw[yeo rv hv];exact wpAny_truthy_bool ε|A7m=>Fn.run X.A X.stack s H|A7n=>∀{ns:Ξ} {its:Β},ε ->ζ|A7o=>∀as:FR α,ε ->P (ζ BHm)|A7p=>DZ "least_number" 1 ["rule"] Wu|A7q=>DZ "middle" 1 ["order"] Wt|A7r=>L8 bs OI m Rat ε|A7s=>NM 3 qY aW (WO (dl ε))|A7t=>∃u,us= [u]/\tF|A7u=>∃l,v= E5/\∃is,ε|A7v=>∀(n:Nat)(g:rG)(BID),_|A7w=>R.less e e1 ε j BIA|A7x=>(Á "list" (sA APH [] cpos))|A7y=>(Á "list" (sA AJ8 [a] pos2))|A7z=>DZ "rests_behind" 4 ["some","bounds"] WM|A7_=>DZ "greatest_cuts" 5 ["some","bounds"] WQ|A7'=>(AQw Rep (NJ l1 h1 q1))|A8G=>To (tb D Γ fun Γ1 Cv=>∃C,Cv.cls=C/\AR4/\iR K C Cd=true/\ε)|A8H=>FD cs AT (∀c ds,ds.length+1=cs.length ->ε) ζ|A8I=>SR K F1 H F1 H σ (gb Γ)|A8J=>SR K F1 H1 F1 H1 σ (ju Γ)|A8K=>FJ K x ε st f fd (AW T)|A8L=>AeI ε (ζ (b,o) (zQ _ BHM)).1|A8M=>D.int (fk S n bs ε)|A8N=>∀(hu:js)(ha:OQ)(hb:d4)(hs:CW b:=by exact AC'),_|A8O=>∀{K:Frag}{x:Str}{st:Stmt}(h:ε K x=ex x x st),_|A8P=>∀{K:Frag}{x:Str}{g:FuncData}(h:ε K x=some g),_|A8Q=>(fore treeTable topGo p w os)|A8R=>(Hd.fore treeTable W.topGo pg w os)|A8S=>∀(Aek){Γ:G2}{as:Ν},_|A8T=>∀(Aen)(BGW){ix:WV}(h:AIq),_|A8U=>ĉ h ->Acs c h ->it≠c ->ĉ h'|A8V=>iV t h l ws ->Acs c h ->l≠c ->iV t h' l ws
|A8W=>by
 obtain⟨its,rv,p,hz⟩:=I1.list hq;refine wpAny_pyIter_list p.isList ?_;refine ε;show ADH
 exact AKS
|A8X=>(match r with | .pl d=>ε | .nt c t=>ζ)|A8Y=>∀b o,Ρ TM Fr ε ARo ζ|A8Z=>show(B5 (pH t ε)).toNat=pH t ζ from Int.toNat_natCast _|A8a=>fun pre c d post=>ε|A8b=>setField dE 2 AJ|A8c=>AH1 SlT as t o|A8d=>∀{α:Type}[AII α]{one:ABp}{f:sK},_|A8e=>zpv (k:=ε) (ks:=ks)|A8f=>hq H1 (s1.trans s2)|A8g=>(Γ'.set x Slot.no).set|A8h=>(.ob C2 fs2 ts2)|A8i=>P (pN n m (Wl k s a))|A8j=>ih fun u hu=>(ARi e u hu)|A8k=>(Zu (hf c hc) (zK (ε c hc))).1|A8l=>EA hQ R'.gr E3 q|A8m=>.tr [] (.kt (kq q))|A8n=>IE s us X hl|A8o=>IE h' tk hS hold|A8p=>∀base:Heap,K.In base ->BHV ->ε|A8q=>JE sc.names (C9= MY ->ε AM=some qf\/ζ AM=some MY)|A8r=>AAx Γ2.set (qS dic (gK ks ε) (sv ks xs ζ d))|A8s=>∀{kvs:Q3}{vs:ACd}(r:AIm)(k:κ),_|A8t=>Un fs ex H H|A8u=>(AI (a<0) (-a) a)|A8v=>BHS H1 I1 q|A8w=>lS (∃bs,tV xs=some bs/\P (.bl (ε id)))|A8x=>APZ s3 (s3.heap.push (MX "slice" #[vl,vu,AJ]))|A8y=>fore treeTable topGo p w|A8z=>fun hz=>(AKH (ε hq rs hz))|A8_=>∀{op:CmpOp}{r:R2}(ho:j6 X AQ' r)(ha:eg)(hb:ADS)(hm:ARI),_|A8'=>∀{x y:V}{u:Value},_|A9G=>ARF T1 (QP tb d' (ML d' (.str y) ε))|A9H=>ARL R1.wrT (gG (Slot.tr (a::dx::bs) AHv) cK a) zY|A9I=>∀(N:ο) (sc:Scope) (own:ο) (caps:AT),_|A9J=>∀(G:ASe ε)(hc:õ)(hr:Ø)(ho:ARt),_|A9K=>ARj (BY ε hg hm B3 hs) (AeZ ζ)|A9L=>∀{x:V}{u:Value}(r:tF),_|A9M=>∃as fs ts,AJ1/\f∉fs/\AR9/\CZ AIV=true/\ε|A9N=>⟨o,(I.hok _ _ hq).1,hex,hdt⟩|A9O=>∀{a b:Expr}{ta:TA},_|A9P=>Ą ut f GS (f n)|A9Q=>Ads ė "__getitem__" (D' sg)|A9R=>tM.k (k:=kk) ea (ARw hkl hl)|A9S=>(fun a ha u hu=>mine a u ha hu)|A9T=>∀{ds:ψ} {vs:χ},Fm ->ds.all Eh=true ->ε|A9U=>fun w' s3 I3 o9 =>⟨v,H2,I3,o9,q2⟩|A9V=>∀(sp:Sp)(Py:χ)(E:XK)(t:TA),_|A9W=>(TH (φ (key b)*g b))|A9X=>NL (X1 y Ι ε (.bl d) (ML x (.bl c) (Ki ζ)))|A9Y=>(ABT bs.length k (qL (rk ACl bs.reverse AJY)))|A9Z=>∃ms:Ψ,ms.length=rs.length/\∀j,ε|A9a=>(Abn (upd F' s1.heap.objs.size AbW) [(fl,v)])|A9b=>Ą ps.map pD ε (pD (jN ps))|A9c=>BHu filterMap (ACp (a=L\/ ε) (AA h.get? a fun o=>(a,o)))|A9d=>ARF (.exc C0) ((w6 K C0/\Fo K C0)/\Be ε)|A9e=>∀(AKM){cs:AT}{a f g:Row}(hf:BHd)(hg:ARv),_|A9f=>∀(EF){F:Hp}{d:D}{v:V}(h:IH),_|A9g=>rv.get (i:=i) (x:= ε) (ē List.getElem?_map List.getD_eq_getElem?_getD Xs)|A9h=>(hch c z).2.2.1 x c e rfl|A9i=>(cW g g' ta tb tc)|A9j=>(names.map fun t9=>if (APx k&&BGQ&&BGR) then AQy else t9).lookup|A9k=>(TC (Ę hb ⟨R.g.free hq,R.gr.h.free hq,R.apart hq⟩))|A9l=>⟨z,H3,I3,r3,k,e,q3⟩
|A9m=>by
 show Ė hn
 have e:dv i j=AJt:=by unfold dv;show An hn
 exact⟨ACo,ACo,AJ9,AdZ⟩
|A9n=>⟨s,hs,z1,z2⟩|A9o=>⟨cs,t',e0,q⟩|A9p=>by rw[List.getElem?_append_left (by show Acw;exact hi),List.getElem?_map,ε]|A9q=>DC Γ' 0 (.pu (.ptr a))/\Q d|A9r=>fun l hl=>k _ _ l rs hl h|A9s=>fun obj s₁=>obj= AHu/\s₁=ε|A9t=>⟨fun d z=>AJJ,fun k z=>AJJ⟩|A9u=>(AIx - x A3) - aD (gj rows ω) AcB/ Ο (AJP gj ω)|A9v=>by simp only [List.zipIdx_cons,List.zipIdx_nil,List.forIn_cons,List.forIn_nil]|A9w=>∀(f m:Nat),1<=m ->m+f<=n ->ε ->ζ|A9x=>by simp only [List.filter_cons,q,ε,ζ,η,List.flatten_nil,List.append_nil]|A9y=>bN P w H (h.push tT) h.objs.size ε|A9z=>by rw[ui (LL (! ε&&ζ)),OT];show My (pure _) A9|A9_=>ε NN B3 hbase hfew|A9'=>Pz (ε (X.wsh z)) BHY|A_A=>ex d.1 d.1 d.2|A_B=>hQ h' s.toks (ASG ε)|A_C=>putSet_of es' t' hd|A_D=>iW A (ix i) c|A_E=>ε (Μ s Aem) good 40000|A_F=>∀(ev:AdC)(ev' :BH4),_|A_G=>(dW Γ σ H)|A_H=>z0u ε K0 (KE hl) (KE hh)|A_I=>aD ģ (je S)|A_J=>if_pos (zzt C.gd C.len)|A_K=>∀{kindOf:BGt}{x:Str}{v:Value},_|A_L=>fO l.prog w K mg|A_M=>ε _ _ e' (n1 b n hb)|A_N=>(ε (b,o) (zQ _ BHM)).2.1|A_O=>ztd hl _ fun i a b z1 z2=>by simp only [z1,z2]|A_P=>(hnc b hc).2.2 i (own b hb)|A_Q=>Θ (W.plainGet K (Ab0 ε) Str.empty=true)|A_R=>AM=q.1/\KM q.2.1 (AH4 (AM).map)/\RelV C9 q.2.2|A_S=>lC Ada (ps.map ε) (kq q) ζ|A_T=>ia (call IR ε) (EP bE pins σ Q) z.xe s|A_U=>k≠0/\k.natAbs<1073741824/\Builtin.Range.small i j k=true/\Builtin.Range.rangeSize i j k=EO/\ε|A_V=>∀{vl vu:Value}{lo hi:KP},_|A_W=>2^ (max (cY i) (cY j))|A_X=>PIg X tg iter wi|A_Y=>(.Compare a [op,op'] [b,c] pos)|A_Z=>z47 (fun r:mB=>ε) AeH ζ rows.length rows η θ|A_a=>hQ d v F' H' gr rv q|A_b=>Pe ((Ad9 AdI).push Acz)|A_c=>∀h' e,ε ->(∃o,si e/\AQc "StopIteration") ->E (AW e) MT|A_d=>GB (6* (Õ+1)+ AIA 105 3)|A_e=>E4 (setNext S slot given ε)|A_f=>(fun b u e n=> ?_)|A_g=>∀(EF){c:Cls}{Q:uk},_|A_h=>pushCells_keeps _ _ b o NG|A_j=>yu X.K F' H1 H' C' J9 x|A_l=>ay (.Assign [.Name y py] ub spos) ε|A_m=>LZ (A k j) (hA k hk j)|A_o=>FH AQx ASS (BH0 ps.zip) AC_ ε ζ|A_p=>ε vs (s3.seq (s2.seq hq))|A_q=>aD l fun a=>(GE Ġ (f a))|A_r=>∀x:Str,lx ->mb x=bootBuiltins x|A_s=>s.1=ω/\W_=A3|A_t=>by have ε:(A.take BE).foldl ζ η=θ:=SV snoc List.foldl_append|A_u=>Ki (bs.any (WT w m))|A_v=>∃xs:ο,ds=xs.map T0/\ε<1000/\ζ|A_w=>DZ "whole_row" 2 ["row"] Wm|A_x=>(bw (eF (Cn (cB d8 Τ A8) (cB d8 Ζ A8))))|A_y=>∀{X:Cx}{F0 H0:Hp},_|A_z=>AAt (AL (BI qs.map qD)) 1|A_0=>W' D N N D.nx|A_3=>VI aB (Cm c.Scale "points" (Oz c)) ε|A_4=>OF (S5 x y=true/\ε)|A_5=>⟨_,es',ep',hL,r'⟩|A_6=>NH o m o o|A_7=>r8 "_law_names" "_law_cell_here" "_law_many" Rb|A_8=>r8 "_law_cell" "_law_script" "_law_k" vH|A_9=>r8 "meet" "group" "hands" Ra|A__=>r8 "sheets_with" "hand" "sheets" Lj|A_'=>r8 "is_within" "step" "bound" Q9|A'A=>r8 "_law_divisor" "_law_one" "_law_other" Xc|A'B=>r9 "climbs" "left" "right" Wv|A'C=>r9 "joined" "found" "hands" W0|A'D=>r9 "fraction" "top" "bottom" Ie|A'E=>r9 "led" "table" "place" Wr|A'F=>r9 "number_from" "least" "marks" WK|A'G=>r9 "_law_low" "_law_top" "_law_bottom" Rf|A'H=>r9 "_law_turned" "_law_script" "_law_some" Xi|A'I=>r9 "grade_borders" "some" "mark" WX
|A'J=>∀q,di q ->EV q (P3 q ε)|A'K=>DZ "solved" 3 ["rows","rights"] Ws|A'L=>DZ "reach" 3 ["some","bounds"] OD|A'M=>DZ "borders_borders" 3 ["marks","counts"] WW|A'N=>∀{H:Hp}{kvs:NE}{xs:Ć}(r:Ħ),_|A'O=>Mn (B5 AIc==0&&OG==1) (ASU==items.size)|A'P=>dP (X2).at (hk I Η o e)|A'Q=>∀(dS)(f:Str)(ta tv:TE),_|A'R=>yeb u nw cw h|A'S=>far b _ (Qa he hd q n) k|A'T=>∀kvs,u≠ .dK kvs|A'U=>∀F ds P,JP æ AQT (g ds P) ε (ζ K g vs H Q)|A'V=>Ai s.heap I fst i S n ep|A'W=>Gg ⟨ρ,h4,fun j a b=>h5 j ξ b⟩|A'X=>∀(eS){tg:Expr}(a it:Addr),_|A'Y=>z8a h1 hr hg h2|A'Z=>ja Az "leaning" 1 (AHf "hand") Xe|A'a=>ja Az "reckoned" 7 AJm Rj|A'b=>∀(K:W.Frag)(n:Nat)(t:Iu),_|A'c=>∀(K:W.Frag)(ta:TE)(f:Str),_|A'd=>k a zY _ (ε f g AR0 h)|A'e=>APj (AJO CO) (H' =H/\x= ε) (AJO (n<=i))|A'f=>Un (frs X.stack) ch H H'|A'g=>∀(ABy)(NP:ADT)(hv2:ASQ),_|A'h=>o.data= .set es ep t|A'i=>z9s (cs:=ε) wr (N:=N)|A'j=>z7n bz bX' bb ξ|A'k=>Inv bE pins σ ε s1|A'l=>∀(i:Nat) x Γ,al ds ->I i Γ ->g x Γ ε E|A'm=>∀(X:Cx)(tg iter:Expr)(wi:TI),_|A'n=>holding [v,ov,iv] (setItem ov iv v)|A'o=>vS (AI (c<p) (- AJ_) (AeT c))|A'p=>by rw[Me List.getElem?_append_right B.len (Nat.le_refl _)] at h2|A'q=>∀(K:W.Frag)(td ty:TE),_|A'r=>BY Yy cx.po hc ε (KE hg)|A's=>(Á "sum" (sA APH [] cpos))|A't=>ĝ (hm.heap S o hw e)|A'u=>⟨x,H1,I1,r1,q1⟩|A'v=>∃m xs ys,n=m+1/\d= ε/\d' = ζ/\AQi (qG m x y)|A'w=>APd v u Q I r (EA hi q)|A'x=>qg (S.map k) x h|A'y=>ADL ((∃as t,Se (.tr as t))/\QP tk kd ε)|A'z=>∀d v F' H,Gr F0 H0 F' H ->ε ->ζ d ->Ad6|A'0=>sp AeF ds (fun t' _=>(Be t')) (FU Cx (E Γ1 Cx))|A'1=>(fun C dx H' =>∃Γ' F' x,Ad' /\DT /\AJZ H/\ (x.bare=x\/ARk (zo Γ' b))/\E Γ' x)|A'2=>(nF f v fs).map (·.1)|A'3=>XY ->F8 (List.zipWith (fun k' y=>(ABj d y)) ks xs) BG9|A'4=>∀(m:Nat) (u:OU),(dY m (qr (- u c)))= - dY m u|A'5=>h kV doc pm an|A'6=>h ms x fH ws|A'7=>key j i hj hi|A'8=>∀{kvs:Q3}{vs:ACd}(r:AIm)(k:κ){y:V}{u:Value}(ry:IN),_|A'9=>∀{x qual:Str}{st:Stmt},_|A'_=>DZ "cuts" 6 ["marks","bounds"] WR|BAI=>AJ3 (Á "sorted" (sA Abx [a] pos2)) ε|BAJ=>AKB ó "sheet" ε "sheet" "hand"|BAK=>z6x L x hi i0|BAM=>z5y (Y:=Y) (e:=1)|BAO=>dg (Tl KJ (dg (cP 3 [] (iL Ζ) (fj 3 (aZ AAg (Adc 1 2))) dJ ε)))|BAQ=>∀x c v,À ->Adv ->ε|BAS=>(AI (v<0) (Su v EO) BHn)|BAV=>B1 Ts (aB (Cm C fl sp) t)|BAW=>C8 (∃(bs:OI) (w m:Rat),ε)|BAY=>ASR z (by rw[z,e] at q;cases q;exact n _ rfl)|BAZ=>fs AIt j - fs AIt p/AR5*fs s j|BAa=>z8x ε h (kn I sF r rv) (kn I sF r' ru)|BAb=>Fn.run X.A X.stack s1 H1|BAc=>(U i ACx q' ξ)|BAd=>(mV qa Ab6 ws h)|BAe=>List.lookup x ((AI Aec AQy (n,k0))::_)=_|BAf=>DZ "excess" 5 ["hand","sheets"] W7|BAg=>DZ "group_leanings" 7 ["hands","sheets"] W8|BAh=>by have hez:e≠z:=fun x=>by subst x;rw[ε] at hoe;cases hoe;simp at hce|BAi=>LZ u (ASp x ru (HU (BHt ε)) st')|BAj=>z07 I S ε i x v h1 h2|BAk=>ja Gq "renewed" 8 AJm Rk|BAl=>ja Gq "appeal" 9 AeQ Rm|BAm=>ja yL "table" 4 ["self"] Ij|BAn=>ja yL "sheet_copy" 2 AH' Xg|BAo=>DZ "_law_rows" 2 ["_law_script","_law_hands","_law_works"] Xb|BAp=>DZ "_law_appeals" 2 ["_law_script","_law_rows_here","_law_people"] Xj
|BAq=>ML Γ1[i]? (some (.tr as AJL)) (OA ts.length/\ε)|BAr=>¬(a.1=b.1/\a.2.1=b.2.1)|BAs=>AJk (ARN d v ε (P d Γ') kG) ζ|BAt=>AJk (ARN ds vs ε ARz (Q vs H')) ζ|BAu=>(AQw Rep ⟨l2,us,č,h2,q2⟩)|BAv=>FJ K "worth" "worth" JZ f fd (AW ug)|BAw=>AH1 SlX as C fs ts o|BAx=>Hd.fore treeTable W.topGo pg w os|BAy=>fun i a b h1 h2=>ε BE a b ĕ AJs|BAz=>DZ "share" 5 ["hand","other","sheets"] W4|BA_=>DZ "shares" 6 ["hand","hands","sheets"] W5|BA'=>∀(Aed){tn:lY}(he:ğ),_|BBG=>∀{A B:Nat}{p q:Rat}(h1:GZ A p)(h2:ADV),_|BBH=>∀{A B:Nat}{x y:Rat}(h1:ZB A x)(h2:ZB B y),_|BBJ=>BHQ (ds= ε/\t7/\Last S n/\AJW/\ ASa/\ζ)|BBK=>BHQ (ds= Ad4/\t7/\Last S n/\M0 ε)|BBL=>(atKey xs k).map (·.2)|BBM=>AH1 SlN as c t o|BBN=>(k a zY _ e3)|BBP=>(O7 H hA ll.1 zl)|BBQ=>(Du k p a i)|BBR=>∀{CX:CV}{P:Program}(BF_)(ASh),_|BBS=>Ky.extBut _ _ ε (ζ _ _ c4 (hs3.extBut _ _ c2 (hs2.extBut _ _ c3 (hs1.extBut _ _ c1 η))))|BBT=>aD hs (qg S x)|BBV=>∃od,ε/\∀name,W.lookIn name od=some (mA name)|BBW=>(h r zY c).mul|BBX=>B1 AJ2 (nR C m sp te t)|BBZ=>∀{rows:HG}{x x' :IJ},_|BBa=>∀(DM){a:Addr}{vs:χ}{xs:ψ}(hq:Ad_)(rs:XY)(hz:AQ vs.length),_|BBb=>∃p ys,xs= [Kt]/\ (uA kZ p\/uA pO p)/\ε|BBc=>ds= [.str h,ε,AR7]/\TL/\ADN/\ζ|BBd=>∀{A:Around}{C:Addr}{us:Β}{kw:AJQ},_|BBe=>∀(OE){ws:ο}{ps:AKN}(B:AeM)(u:FF),_|BBf=>OF (∃p xs i v,x= Kt/\y= B9/\ε/\ò xs v/\Q v H)|BBg=>∀(UA){x:IJ}(ev:AdC),_|BBh=>by show YN (cutD (m.map D.str) li none)|BBi=>AdP (nsIn K mainGlobals x) IR (ε K f x) none|BBj=>∀{binds:AJQ} {m:CB},(∀v,(x,v)∉binds) ->ε kindOf binds m x=m x|BBk=>ACn (I.laid (t' :=s.toks) (o:= ε) (N9 ob ABP) CC ?_) q|BBl=>by show BO ⟨vs,v,ε,hv⟩ (Α x H' y);show Č y y;have:=ζ;show A_ hv;show CH;exact η|BBm=>Sat lt n ε (Kb (Pm n r.2/\1<=ω/\ω<=n/\Up lt r.2 ω))|BBn=>Eh x=true/\xs.all Eh=true/\Ki (AI neg (! inD x xs) (inD x xs))|BBo=>∀a vs bs,FH kP AKE ε M3 (R vs bs) ζ|BBp=>∀(X:Cx)(pins:c7)(σ:St)(tg:Expr)(R:ACQ)(itv:Value)(s2:Shared),_|BBq=>⟨ARJ,ARJ,I.base.free,ADZ hx,I.base.tups,I.base.oX,I.base.rE⟩|BBr=>∀(K_) (F0 H0:Hp) (t:bK) (E:XW) (σ:St) (H:Hp) (R:ACQ),_|BBt=>⟨Gr.refl s2,IF ε List.length_map R.len,Qb i s,fun i j a hz=>by obtain⟨s,o,e,_,h⟩:=hz;exact Si h (Fq i s o a) e⟩|BBu=>(zy1 hn hg k ξ).2|BBv=>⟨hS,BGb o hS (OR e),fun h1 h2 q st=>ε ζ⟩|BBw=>show Iw 10 12 from ⟨Κ,Κ,Κ⟩|BBx=>∀j∈caps,j<N.length/\sc.names.lookup (N.getD j "")=some MY|BBy=>fQ S h o*x o|BBz=>∃l b xs zs,x= E5/\ε|BB_=>∃i vs σ' H',BHi (Inv AJn [] σ' H' s') ε vs|BB'=>∀(d:D) (v:V),pY d ->IH ->OX|BCG=>∀(ds:ψ) (vs:χ),ÿ ->Fm ->ă|BCH=>∀(rows:A5) (U:ο),FH ASD ε AR6 FF AeJ ζ|BCI=>["self","work","hand","mark","sheet"]|BCK=>["hand","other","sheets","both","through_works"]|BCL=>["found","hands","apart","together","group"]|BCM=>Ud K F H H' dx fs ts|BCN=>∀(hu:js)(ho:ARA)(hi:Ac_)(hs:CW i),_
|BCO=>∀(hTI:ASk s.heap)(hTO:AKX s.heap)
 (h1:AeR) (h2:AeS) (hl1:AKZ) (hl2:AKa),_
|BCP=>(Z sh BH_ ms x)|BCQ=>∀{M:Model}{A:Around}(BHf),_|BCR=>∀{E:dG}{pins:c7}{s:Shared}{σ:St}{H:Hp}{x:Str}{u:Value}{pos:Pos}{Q:dG}(I:Ε),_|BCS=>zh2 (scope:=sc) (env:=X.env)|BCT=>(rk ACl bs.reverse AJY).contains (n - e)|BCU=>∀{p:lU}(O:p.Ok){L:ο}{f:cn}(S:yR L f),_|BCV=>.pu (xR (List.replicate n XB))|BCW=>zsp (g:=ε) (μ r) (lT ζ)
|BCX=>by
 show AKY;show AKT
 have hit2:=hit.Nr (rawInt ε);show BIJ;show HH (Ff setField) (wpAny_setField g1 g3 Η ?_)
 exact ζ
|BCY=>#[z6z #[Jm cG ao y0 Φ T']]|BCZ=>Ρ TB Program World Nat (Ρ LM Nat Shared Thread ε)|BCa=>ydp R1 h1.2 (k.mono s1)|BCb=>(∀t∈ts,∃ks us,t= qq us)|BCc=>mV qa (yW rows) ws ε|BCd=>BHp vs (Nu xs) ε oneType'|BCe=>AC (c4 y a ha' z.symm)|BCf=>(ε (u:= ζ) (hn a zY).1 (hn a zY).2.1 (hn a zY).2.2).frzM|BCg=>ae Ni base "worth" 6 AKW (Rg c)|BCh=>ae NT base "_law_done" 10 BHk (O2 c)|BCi=>BY Yy cx.po hc (ε ζ) (KE hg)|BCj=>BGy/\Po AM/\AM≠X.env.locals/\AM∉X.fs/\∀v,(C9).data≠ .cell v|BCk=>gY (qD a) (qD b)|BCl=>(ts.set q (.dic (gK NK k2) (sv NK xs k2 d)))|BCm=>(AQU*tb AIt j - tb AIt p*tb s j).fdiv d|BCn=>(kY.fold G ε w hw).nd|BCo=>∀(EF){F0 H0 F H:Hp}{σ:St}{Γ:G2}(R:DL),_|BCp=>∀(EF){F F' :Hp}(e:DT),_|BCq=>∀{i:Nat} {e:Int},ε ->AJ5|BCr=>p_ to (YF K T x H1/\ε)|BCs=>⟨F5,Γ5,R5,s2.trans (gr.f.trans (s4.trans s5)),q⟩|BCt=>APo ε AJn (hc _ _) i [] s5|BCu=>by refine W.callWith_K0 (first:= Id) I1.kIn hm.kp ?_|BCv=>∀{α β:Type}(f:ARr),_|BCw=>∀{w h:Str}(hh:ã),_|BCx=>∀(K:Frag)(f:Addr)(qual:Str),_|BCy=>∀i v,ε ->knd.is (val i) v=true/\AP1|BCz=>⟨F1,ds,_,R1.g,r1,h1,ε⟩|BC_=>(hs3.extBut _ _ D.TOz.symm (hs2.extBut _ _ D.i1z.symm hz1))|BC'=>∀{k:Nat}{A:Around}(r:AQx),_
|BDG=>by
 rw[ul] at e';split at e'
 ·show uj hm (hn b (zW _ hm)).2
 ·show GT n e' e'
|BDH=>cY (ε)<=max (cY i) (cY j)+1|BDI=>k l _ (AdM hlt2) hms (zt1 a2)|BDJ=>z4c rs _ pre post rfl|BDK=>(ABT ARc j (qL (gk S n bs.reverse (AH0 j))))|BDL=>∀(jR:Υ zqp)(qP:AR "tuple")(bL:AI3)(aM:aR K c.Scale "points"),_|BDM=>DZ "cleared" 2 ["table","place","ahead"] Wo|BDN=>DZ "reached" 2 ["some","ahead","bound"] WD|BDO=>∀(EF){F:Hp}{a:Addr}{o:Obj}{ks:Au}{vs:χ}{xs:ψ}(e:á AdU)(hkl:M3)(rs:XY)(hz:AQ AJE),_|BDP=>fore treeTable topGo p w os|BDQ=>Dy (Li rows) (k6 ε) AeP ?_|BDR=>N3 AJj (fun vs H2=>(BIN (cc F2) BGX)) I1 (AbY q ε)
|BDS=>by
 have:x≠n:=by rintro rfl;exact h v zY
 simp [this]
|BDT=>∀{X:Cx}{pins:c7}(du){s:Shared}{a:Addr},_|BDU=>∀(hA:∀ds vs,ÿ ->Fm ->ă),_|BDV=>AKR (∃a xs,vs= Id/\ASI/\ (ì ->ε))|BDW=>envOfC qual scope s.heap.objs.size f cd
|BDX=>by
 refine ASi (Ad2 I.hok) (fun c v hc q=>k c v ?_ q);show J_ hc
 ·rw[z];exact RZ b u e
 ·exact ε
|BDY=>AA ks.zip vs (Μ kv (ARX v))=ks.zip BG9|BDZ=>∀i h h',tn i h ->(Nn fp (∀o,TM ->sB)) ->tn i h'|BDa=>⟨_,_,_,rfl,rfl,rfl,hc⟩|BDb=>ASY (∃a o kvs,v= AF/\â Sn/\ (ABb ->R (ε a o kvs) H1))|BDc=>⟨boot_heap w.params,Array.mk [],boot_drawn,boot_toks,os⟩|BDd=>fun a ha b hb e=>ε (by rw[AdV] at e;exact e ▸ ha)|BDe=>∀{K:Frag}{f:Addr}{x qual:Str}{st:Stmt}(h:ε K f qual=some BIF),_|BDf=>ACk (TR.move ε t0 v a1) (k a (TD ha)) q1|BDg=>tY knd kf (mD w) h' s.heap.objs.size (lQ val items.size)|BDh=>Ă Ë callerA AcM AJw (OM s' BII) s₁|BDi=>WH (p9 a) (fun v s₁=>ia (p9 b) (fun u s₂=>ε X.xe s₂) X.xe s₁)|BDj=>BHN (Mb AM=Mb C9/\(AM).Nodup/\Mb AM<=rows.length/\∀h,h∈AM↔h∈AdR)|BDk=>⟨i,sl,o,q,e1,hb⟩|BDl=>hb wh pins s1 σ H1 Q I1 q1|BDm=>∀(ws:ο)(v:DU)(bs:OI),_|BDn=>by have hl:es.size=bs.length:=by rw[<- Array.length_toList,<- List.length_map (f:=(·.key)),hes,List.length_map]|BDo=>h2.imp id fun⟨a,o,b,c⟩=>⟨a,o,ρ,c⟩|BDp=>jD (FC f) (FC g)=FC (D3 (.tup [f i,g i]))|BDq=>∀x rest F ds Pd Ex,JP BHe (BHv) æ (F x=none) (BIM ε ζ)|BDr=>∃f fd,BH1 ε/\Adz/\AR2/\Vh K C/\Adi/\AA'|BDs=>∀{rows tu :A5}{ms JD :GV}(h:AKO)(h' :Ek tu JD)(e:BIK),_|BDt=>kk t Γ1 F' H' v as (R1.grow gr) Ac0 nd (ę ⟨ASA,R1.gr.h.free AJc,R1.apart AJc⟩) rt hp
|BDu=>∀(hc:D6)(hg:Gl X "sorted")(hm:Fh "sorted")(hg2:Gl X "set")(hm2:Fh "set")(ha:ACz)(hb:APc "sorted" ARm:=by show PV)
 (he:starEach [a] X.env=E9 (DE a) (E8 []):=by rfl) (he2:starEach (sA Abx [a] pos2) X.env=E9 (DE Ad1) (E8 []):=by rfl),_
|BDv=>["rows","found","hands","sheets","hand","leaning"]|BDw=>⟨ε,ndc,fun x hx y hy e=>dis x hx (e ▸ hy)⟩|BDx=>fun c ob q n hc hx=>ε|BDy=>∃k as ks xs d,ASX Γ/\ARp/\ASN k/\ε|BDz=>R1.put i (s:= ε) ⟨v,rfl,nd,XX ACW (AQm hn),r1⟩ fun a ha=>(hn a ha).2.2|BD_=>ε c o (I.cne x c e) hc RX ho ASM|BD'=>.of_wp fun prog w A R s h=>ε
|BEG=>by
 show AeU;show TN wpAny_fieldsOf ho hd;have hown:Builtin.Dict_items.ownsTuple "dict_keyiterator" =false:=Κ
 show Mm (ADR BGz) _ s;show AeN BGz;show tz;show TN wpAny_dictEntries hod hdd;show An Η
 show tz;show TN wpAny_dictEpoch hod hdd;show An Η
 refine z7 ?_
|BEJ=>by
 intro hi;show X9 (zU.mp ((h i).ε (zW _ hi))) rfl
 ·have:=ζ i hi;omega
 ·exact q
|BEK=>by
 show ue sl ε
 obtain⟨_,o2,e2,nf⟩:=I.ok.funs.mem hf;rw[e] at e2;cases e2;obtain⟨sl',e3⟩:=up b _ e1 nf;exact ζ
|BEM=>ε (vU a1 b2) (vU b1 a2)|BEO=>∀(kvs:Q3)(k:κ)(v:V),_|BEQ=>∀(hu:js)(hi:Ac_)(ho:ARA),_|BER=>∀(lt:eI)(p:YE)(r:Nat),_|BES=>∀(he:L9)(hl:C5 QO lo tl)(hh:C5 QO hi th),_|BEU=>ε q loose (importedModules p.main.body) Xt true s|BEV=>yv z3g ε #[iO z8z bI (aA Δ (ARf D5 ASB BB Hb))]|BEW=>Ac3 Abi ADa (s1.heap.push W.emptyDict) (ARR ε)|BEY=>C8 (∃(rows:A5) (ws:ο) (h:Str),ε)|BEZ=>(a k k*a i j - a i k*a k j).fdiv p|BEa=>ok.has x (S.free (x,MY) (mem_of_lookup hk) rfl)|BEb=>(sortedHeap h a vs out).get?|BEc=>fun j y v' e1 e2 e3=> ?_|BEd=>fun s' acc c' hm hS' hacc=> ?_|BEe=>IC Az c.Scale "scaled" 5 (AHf "x") (Wy c)|BEf=>IC N6 "Sitting" c.ak 9 Aet (Ik c)|BEg=>z.sameBut hs (cne y c e)|BEh=>vM (z1d B.nd l1 l2 (by rw[l1',l2',z]))|BEi=>DZ "exchanged" 1 ["table","place","spot"] Wq|BEj=>DZ "between" 4 ["left","right","x"] Wx|BEk=>Ui K g x y H Q|BEl=>∀v σ H Q,t' v σ H Q ->t v σ H Q|BEm=>ε (ASn cd).kindOf (ps.zip us) AdN|BEn=>lS (∃ns m,AKI/\m∈ns/\ (∀i∈ns,ε)/\I_ m)|BEo=>∀d z F' H',cy ->AAr d z ->P d ->Q z H'|BEp=>FM Og F H σ Γ F1 H1|BEr=>BGK hT F.slot_zip_next (wpAny_call_entry F.slot_zip_next hT F.entry_zip_next (ε ζ η θ) (F.args_zip_next_1 _))|BEs=>ε (xs:=vs) (fun i σ H=>Adx) BIH (fun i σ H _ hz=>ζ) (body ds vs rs I turn) ?_|BEt=>by refine DD (holding _ _) (Adw (wpAny_call_entry slot_list_sort (HL hoL) entry_list_sort ε (args_list_sort _)))|BEu=>(by simp only [Rep] at r;obtain⟨a,vs,rfl,h1,_⟩:=r;cases d' <;>simp only [Rep] at r' <;>first | (cases hf;done) | (cases r';done) | (obtain⟨_,_,z,h2,_⟩:=r';cases z;exact(zu4 I ε ζ).elim))|BEv=>C8 (∃(ns:Ξ) (f m:Nat),ds= [dk,.int f,.int m]/\ko/\f<100/\m<=ε/\ζ)|BEw=>∀Γ' F' H' σ',BHh ->DT ->P Γ' ->Q σ' H'|BEx=>W.kas_kind (T:= ε) h2 (Iq v hv) τ τ hQ|BEy=>Ă Ë (A.mark (some ε)) IR args (OM s' (∃u,r= .ok (.ret u)/\Aeo)) s|BEz=>by have u1:Ac3 H1 Abi s1.heap (s1.heap.push W.emptyDict):=Un.laid AKJ ε ζ|BE_=>TrY h B e cls dd fl|BE'=>∀(l b:Addr)(items items2:D7)(n n2:Nat)(dd dd2:JU)(sl sl2:ADb)(x y:Str)(t u:Tok)(h1:DC items 0 AKQ)(h2:DC items2 0 (.str y u))(hxy:x≠y),_|BFG=>∀{l r:Pt}(h:l.1<ω)(h2:l.2<=r.2),_|BFH=>wpAny_Dict_empty (ACn (qc (AeV (.ε [])) BHX CC (ζ s.heap I.big)) h)|BFI=>{s with heap:=h',drawn:=d,toks:=tk}|BFJ=>["enumerate","zip","dict_itemiterator","dict_reverseitemiterator","odict_iterator","itertools.zip_longest","itertools.pairwise"]|BFK=>["_law_sitting","_law_some","_law_told","_law_work","_law_hand","_law_mark","_law_found"]|BFL=>∃l xs ws F Pd ds,v= E5/\H2 l=some (BN ws)/\VQ H2/\aJ X.K F xs ws/\Adq/\g xs ds Pd/\∀ys us,aJ X.K F ys us ->Pd ys ->Q Ι (i3 l Đ)|BFM=>∃h' tk acc c',r= .ok (.ret YA)/\s' =OW/\ (kA ARn (ET (ABr jM)) sB)/\AR_ ε/\ItemsOf Aej acc es.size|BFN=>by cases h;show BV l1 vs h1 q1 r;show BV l2 us h2 q2 r';cases rv;cases ru;obtain⟨is1,p1,ε,_⟩:=ζ|BFO=>IC Mk2 "Scale" c.Scale "points" 4 AdY (Oz c)|BFP=>(by rcases h with ⟨_,z⟩ | ⟨_,z⟩ | ⟨_,z⟩ | ⟨_,_,_,z,_⟩ | ⟨_,z⟩<;>cases z)|BFQ=>putK (ks.zip vs) k v=(ε ks k).zip ζ|BFR=>(g4 ε (fun a ha=>k a (by rcases zT.mp ha with z | z<;>simp [z])) r)
|BFS=>fd=BH8 ε pm an cdv ct/\AeL (.func fd) osl/\BHw|BFT=>by refine zwo he I h (Α v H1 hq) hbase hline|BFU=>by refine z6 (ASO hit2.typeIs F.slot_tuple_iterator_next F.slot_tuple_iterator_next hit2.typeIs F.entry_tuple_iterator_next F.args_tuple_iterator_next_1)|BFV=>(qN c AKK AdS fH ws bs qa APm)|BFW=>∀{n p M N:Nat}{A:P4}(Ael),_|BFX=>(kI (kI (kI h2 hs1.extBut D.i2z) hs2.extBut D.i12.symm) hs3.extBut D.TOi2.symm)|BFY=>(kS (kS (kS hl2 hs1.extBut D.l2z) hs2.extBut D.l2i1) hs3.extBut D.l2TO)|BFZ=>∀o i,Aee (subscripted b false o i) [o,i] o i|BFa=>AQG ε (List.zipWith (fun k' y=>(ABj x y)) ks xs) xs x
|BFb=>(by
 rw[show its.toArray.size=bs.length by simp [hl],ε]
 refine Zm (s:=s) (v:= .bl (ζ id)) I (LX (kp b o (DH ?_) NG)) rfl (AbQ (Gr.refl sF) E3 h)
 rcases AJr with rfl | z
 ·exact BHy
 ·cases z)
|BFc=>fun y=>z (by show p.mk' (stepK K1 r w) (stepV V1 r w)=_;rw[(off w e).1,(off w e).2];exact y)|BFd=>g x Γ0 (Μ Γ1 (tc Γ1 (fun b Γ2=>(GG b ε eA)) jG)) jG|BFe=>(W.fnOf name qual params body scope dV kV doc pm an cdv ct)|BFf=>ACq m' l w3 hz ⟨m',l,F3,Γ3,R3,s1.trans (s2.trans s3),w3⟩|BFg=>by refine wpAny_call (zy8 (f:=f) I1.kIn M.makes M.init (beq_iff_eq.mp M.fn) ?_)
|BFh=>by
 have e2:HK ys ys[j]:=BD g2'
 show AS w1 f1 m1 vI q1 e1;show AS w2 f2 m2 vI q2 e2;show At z1 c1 b1 p1.get f1
|BFi=>by
 simp only [sliceBounds,HT.sIx,Option.getD_none,show OG>0 by decide,if_true]
 by_cases h:i<0
 ·simp only [h,if_true]<;>omega
 ·simp only [h,if_false]<;>omega
|BFj=>(.of (owner:= "set_iterator") (n:= ε) (AeY) Md Md Md (by first | show BQ Md | show Bz Md) BHo)|BFk=>ε dF aP cA ql bh cI ao bL bJ bQ bC aO aH au aQ aM
|BFl=>by
 show At z2 c2 b2 p2.get f2;show BG3 y1 is1.toArray z1 c1
 show BG3 y2 is2.toArray z2 c2
 simp only [e1,e2];rw[y1,y2];exact ε
|BFm=>staticsOk (importedModules p.main.body) (boot_heap w.params) s.heap&&namesBound p s.heap&&gensDone s&&laidKept (boot_heap w.params) s.heap|BFn=>(ih A.in1 _ _ w1 w2 z1 z2 (AdT (AAi (A.units+1+n))) (hc j _ _ e1 e2) m1 m2 b1 b2).ε|BFo=>AJp C (excClassObj nm qn C N bs bm hdct sn sub ab col dd k0 k1 k2 k3 k5 "ValueError.__new__")
theorem aac{α:Type _}{a:α}{P:Prop}(e:none=some a):P:=UB
theorem aad{α:Type _}{a:α}{P:Prop}(e:SK some):P:=UB
theorem aae{P:Prop}(e:LL true):P:=UB
theorem aaf{P:Prop}(e:false=true):P:=UB
theorem aag{α:Type _}{a:α}{l:AG}{P:Prop}(e: []=CU):P:=UB
theorem aah{α:Type _}{a:α}{l:AG}{P:Prop}(e:CU= []):P:=UB
theorem aai{α:Type _}{a:α}{P:Prop}(e:a∈ ([]:AG)):P:=UB
local macro_rules|`(tactic|omega)=>`(tactic|first|lia|omega (splitDisjunctions:=true))
local macro_rules|`(tactic|cases $e:ident)=>`(tactic|first|subst $e|exact aac $e|exact aad $e|exact aaf $e|exact aae $e|exact aah $e|exact aag $e|exact aai $e|exact False.elim $e|(have hx:=Option.some.inj $e;subst hx)|(have hx:=List.cons.inj $e;obtain⟨rfl,rfl⟩:=hx)|(have hx:=Prod.mk.inj $e;obtain⟨rfl,rfl⟩:=hx)|(have hx:=Prod.mk.inj (Option.some.inj $e);obtain⟨rfl,rfl⟩:=hx)|cases ($e))
local macro_rules|`(tactic|show $t)=>`(tactic|refine(?_: $t))
abbrev dG:=BG PySem.Value PySem.Shared
abbrev c7:=iA PySem.Addr PySem.Obj
section
open PySem PySem.Spec PyProof.Rows
abbrev z6:= @wpAny_bind
abbrev z7:= @wpAny_pure
abbrev z8:= @Heap.get?_push_of_some
abbrev z9:= @Heap.get?_push_size
abbrev zZ:= @List.getElem?_eq_getElem
abbrev zY:= @List.mem_cons_self
abbrev zW:= @List.mem_cons_of_mem
abbrev zV:= @List.getElem?_eq_some_iff
abbrev zU:= @List.mem_cons
abbrev zT:= @List.mem_append
abbrev zR:= @List.mem_singleton
abbrev zQ:= @List.mem_append_right
abbrev zP:= @List.mem_append_left
abbrev zO:= @Nat.le_trans
abbrev zN:= @Nat.le_refl
abbrev zM:= @Nat.lt_of_lt_of_le
abbrev zL:= @Nat.lt_of_le_of_lt
abbrev zK:= @Nat.ne_of_lt
abbrev zJ:= @Bool.false_ne_true
abbrev zG:= @Heap.lt_size
abbrev zF:= @Option.some.inj
abbrev zE:= @Option.map_eq_some_iff
abbrev zB:= @List.mem_map
abbrev zA:= @List.mem_filter
abbrev yZ:= @Heap.get?_push_ne
abbrev yX:= @List.cons.inj
abbrev yV:= @List.mem_of_getElem?
abbrev yU:= @List.getElem_mem
abbrev yS:= @Nat.lt_irrefl
#where
namespace L2
open PySem PySem.Spec PyProof.Rows
def DX(s:Stmt)(j:Nat):Stmt:=match s with
 | Ff (EA (.ClassDef _ _ _ body))=>body.getD j (.Pass AaT)
 | _=> .Pass AaT
def Hu(s:Stmt):Arguments:=match s with
 | EA (Aeu _ a _ _) _ _=>a
 | _=>{posonlyargs:= [],args:= [],vararg:=none,kwonlyargs:= [],kw_defaults:= [],kwarg:=none,defaults:= []}
def v9(s:Stmt):IQ:=match s with
 | EA (Aeu _ _ b _) _ _=>b
 | _=> []
def bB(s:Stmt):Scope:=match s with
 | EA .FunctionDef _ _ sc _ _ _=>sc
 | _=>{kind:= É,names:= [],isGenerator:=false,isCoroutine:=false}
#print L2
namespace L3
open PySem PySem.W PyProof.Rows L2
abbrev LQ:Β:= Arh
def RD(xx):Bool:=bc (K.lookup C) (some ⟨E1 "type",_,.cls cd,sl⟩) (match cd.mro,sl.toList with
  | .ref C' ::bm,[_,_,_,_,some (LP n),_]=>C' ==C&&n== "ValueError.__new__" && ! cd.hasDel&&W.tailIn K LQ bm
  | _,_=>false)
def iR(K:W.Frag)(C D:Addr):Bool:=bc (K.lookup C) (some (LW _ (.cls cd) _)) (cd.mro.contains (AW D))
def ac9(xx):Bool:=bc (K.lookup C) (some ⟨E1 "type",_,.cls cd,_⟩) (bc cd.mro (.ref C' ::_) (C' ==C))
def isV(o:Ev W.CFound)(s:String):Bool:=bc o (some (.val (LP t))) (t==s)
#print L3
namespace Hd
open PySem PySem.W PySem.Calls PyProof.Rows L2 L3
noncomputable section
def Eo:pk AfC Frag
 | _,[]=> []
 | i,o::r=>ADY o.isFreed (Eo BE r) ((i,o)::Eo BE r)
def cut(h:Heap)(_:Nat):Frag:=Eo 0 h.objs.toList
def treeOf:AfC ->Nat ->BT ->BT
 | [],_,t=>t
 | o::r,i,t=>treeOf r BE (t.ins i o)
abbrev ann:LM:=some (AW 6)
abbrev z:Pos:=AaT
def env(p:Program):Env:={scope:=p.main.scope,locals:=mainNs,globals:=mainNs,cells:= [],code:= .ref 13,frame:=some 14}
def cB(p:Program):Code:= .body (behindTheImports p) (env p)
def S0(AAH):Shared:=BDc
def Sa(x:AzN)(w:World)(os:OsState):Shared:=ADc x (some y) y.1 (S0 w os)
def Ta(s:Shared):SharedT:=⟨treeOf s.heap.objs.toList 0 BS,15,s.heap.life,s.gens,s.drawn,s.toks,s.os⟩
abbrev TB:=String ->Ev Builtin
abbrev GoT:=BCZ AzN
abbrev aaj:=FH TB Program World Nat LM (Ρ Nat Nat SharedT Thread (Option (Flow×SharedT×Code×Pos)))
abbrev aak:=BCZ (Ev Shared)
def fore(tb:TB)(GO:GoT)(p:Program)(AAH):Shared:=Sa (GO tb p w 11 ann 12 Ajh (topStub p)) w os
def shot{α:Type}(tb:TB)(GO:GoT)(RUN:aaj)(TOP:aak)(EXS:IQ ->Env ->Sem Flow)(p:Program)(obs:Shared ->α)(AAH):Option ((Flow×Code)×α):=
 (RUN tb p w 11 ann 1 30000 (Ta (fore tb GO p w os)) ⟨(EXS BJz (env p)).wrap doneF deadEnd id id,cB p,z,ANb⟩).bind (IL ((TOP tb p w 11 ann 2 (ĵ).abs ⟨doneF .next,x.2.2.1,x.2.2.2,ANb⟩).map fun s=>((x.1,x.2.2.1),obs s)))
def rest{α:Type}(SEEN:Program ->ο ->Ρ ο (Shared ->Bool) Bool Shared α)(p q:Program)(loose:ο)(Xt:mM Shared){β:Type}(obs:Frag ->β)(n:Nat)(w:World)(s:Shared):Bool×α×β:=
 (BFm,BEU SEEN,Aem)
def adr(Aps):Addr:=AdP x IR f 0
def isRef(Aps):Bool:=bc x (some (some (AW _))) true
def allB:mM vi
 | []=>true
 | b::l=>ADY b (allB l) false
def nth(l:vi)(i:Nat):Bool:=match l,i with
 | [],_=>true
 | b::_,0=>b
 | _::l,By=>nth l i
def bare(fd:FuncData):FuncData:={fd with kwdefaults:= AJ,doc:= AJ,pyModule:= AJ,annotations:=none,code:= AJ,closureTuple:= AJ}
def fnO(BCx):AKw:=match K.lookup f with
 | some (LW _ (.func fd) _)=>(ADY (codeIn K fd.code qual&&keepIn K IR) (some (bare fd)) none)
 | _=>none
def RG(K:Frag)(v:Value):Bool:=bc v (.ref T) (bc (K.lookup T) (some Aor) (t== "tuple" &&(bc xs.toList [AJ] true)))
def fnD(BCx):AKw:=(fnO K f qual).bind fun fd=>(ADY (RG K fd.defaults) (some {fd with defaults:= AJ}) none)
def RJ(K:Frag)(x:Str):AKw:=BBi fnO
def fnM(K:Frag)(x:Str):AKw:=BBi fnD
abbrev ex(x qual:Str)(st:Stmt):AKw:=some BIF
abbrev d(x:Str)(s:Stmt):Str×Stmt:=(x,s)
def seen(K:Frag)(ds:ATx):AQu:=ds.map fun d=>RJ K d.1
def due(ds:ATx):AQu:=ds.map fun d=>A_A
def recOf(s:Stmt):DefRec:=match s with
 | Aeu n a b _ _ _ sc _ _ ps=>⟨n,a,b,sc,ps⟩
 | _=>⟨Str.empty,Hu s,[],bB s,z⟩
def ada(Aps):KP:=AdP x (.int i _) (some i) none
def Ak:Β ->tN A3f
 | []=>Ļ
 | ANk::r=>AA Ak r (.inl i:: ·)
 | ANs::r=>AA Ak r (.inr x:: ·)
 | _=>none
def adb(AnZ):tN A3f:=match ATe with
 | some Aor=>E2 t "tuple" (Ak xs.toList) none
 | _=>none
def ade(b:Bool)(w:World):World:={w with params:={w.params with followText:=Kb (if r== "special-get-raises" then b else w.params.followText r)}}
def JX:Β ->tN Str
 | []=>Ļ
 | ANs::r=>AA JX r (x:: ·)
 | _=>none
def tupS(AnZ):tN Str:=match ATe with
 | some Aor=>E2 t "tuple" (JX xs.toList) none
 | _=>none
def RK(K:Frag):List DictEntry ->tN AmG
 | []=>Ļ
 | ⟨h,ANs,LE⟩::r=>(tupS K b).bind fun t=>(RK K r).map ((h,x,t):: ·)
 | _=>none
def adf(AnZ):tN AmG:=match ATe with
 | some ⟨E1 t,none,.dict es _,sl⟩=>Aex (t= "dict" &&sl.isEmpty) (RK K es.toList)
 | _=>none
def pN(w:World)(kvs:AEe):tN AmG:=some (kvs.map (kU (hashStr w AM,AM,C9)))
#where
#print Hd
local macro_rules | `(tactic| nofun)=> `(tactic| exact ⟨rfl,rfl,rfl,by decide+kernel,rfl,by decide+kernel,by decide+kernel⟩)
namespace Lw
open PySem PySem.Spec PyProof.Rows L2 L3
def top(Uf):Stmt:=PySem.Challenge.pw_hall_k75_whole_appeals_in_any_order.main.body.getD i (.Pass AaT)
abbrev zct:Stmt:=gg 3
abbrev zfp:Stmt:=gg 4
abbrev zyk:Stmt:=top 18
abbrev zev:Stmt:=top 25
abbrev ze2:Stmt:=gg 5
abbrev X8:Stmt:=gg 2
abbrev zjr:Stmt:=top 76
abbrev zmp:Stmt:=top 73
abbrev zhc:Stmt:=top 77
abbrev zl3:Stmt:=top 78
abbrev zs7:Stmt:=top 58
abbrev Yb:Stmt:=top 57
abbrev RL:Stmt:=DX (top 60) 0
abbrev Yc:Stmt:=top 32
abbrev Yd:Stmt:=top 31
abbrev zpo:Stmt:=top 28
abbrev zud:Stmt:=top 30
abbrev zp6:Stmt:=top 12
abbrev Ye:Stmt:=top 35
abbrev Yg:Stmt:=top 39
abbrev Yh:Stmt:=top 38
abbrev zmn:Stmt:=top 13
abbrev zj3:Stmt:=top 37
abbrev yh8:Stmt:=top 36
abbrev RM:Stmt:=top 34
abbrev Yi:Stmt:=top 43
abbrev zj0:Stmt:=top 66
abbrev RP:Stmt:=top 65
abbrev z5f:Stmt:=top 14
abbrev zxv:Stmt:=top 19
abbrev Yj:Stmt:=top 45
abbrev Yk:Stmt:=top 44
abbrev zxq:Stmt:=top 15
abbrev zjh:Stmt:=top 47
abbrev Yl:Stmt:=top 46
abbrev Pr:Stmt:=top 42
abbrev Ym:Stmt:=top 41
abbrev zxo:Stmt:=top 16
abbrev z3f:Stmt:=top 17
abbrev zo7:Stmt:=top 59
abbrev zfq:Stmt:=DX (top 60) 1
abbrev zdk:Stmt:=gg 6
abbrev zff:Stmt:=top 51
abbrev z7c:Stmt:=top 20
abbrev zsi:Stmt:=top 52
abbrev Yn:Stmt:=top 21
abbrev JZ:Stmt:=top 50
abbrev Yo:Stmt:=gg 1
abbrev Yp:Stmt:=top 23
abbrev Yq:Stmt:=top 63
abbrev Yr:Stmt:=top 62
abbrev zx4:Stmt:=top 64
abbrev Ys:Stmt:=top 69
abbrev RQ:Stmt:=top 68
abbrev z7i:Stmt:=top 67
abbrev J0:Stmt:=gg 0
abbrev RT:Stmt:=top 80
abbrev zck:Stmt:=gg 11
abbrev J1:Stmt:=gg 12
abbrev J2:Stmt:=gg 8
abbrev J3:Stmt:=top 82
abbrev zgh:Stmt:=top 74
abbrev zpa:Stmt:=top 75
abbrev zc6:Stmt:=top 79
abbrev zie:Stmt:=top 81
abbrev yg:Stmt:=top 83
def ds:ATx:= [Hd.d "under" zyk,Hd.d "_law_names" zjr,Hd.d "_law_cell" zmp,Hd.d "_law_marked" zhc,Hd.d "_law_rows" zl3,Hd.d "climbs" zs7,Hd.d "is_scale" Yb,Hd.d "meet" Yc,Hd.d "joined" Yd,Hd.d "by_work" zpo,Hd.d "groups" zud,Hd.d "divisor" zp6,Hd.d "whole_row" Ye,Hd.d "without" Yg,Hd.d "cleared" Yh,Hd.d "fraction" zmn,Hd.d "exchanged" zj3,Hd.d "led" yh8,Hd.d "solved" RM,Hd.d "sheets_with" Yi,Hd.d "is_within" zj0,Hd.d "reached" RP,Hd.d "plus" z5f,Hd.d "total" zxv,Hd.d "share" Yj,Hd.d "shares" Yk,Hd.d "minus" zxq,Hd.d "mean_mark" zjh,Hd.d "excess" Yl,Hd.d "group_leanings" Pr,Hd.d "leanings" Ym,Hd.d "times" zxo,Hd.d "over" z3f,Hd.d "between" zo7,Hd.d "least_number" zff,Hd.d "mean" z7c,Hd.d "middle" zsi,Hd.d "rising" Yn,Hd.d "number_from" Yq,Hd.d "ends" Yr,Hd.d "reach" zx4,Hd.d "rests_behind" Ys,Hd.d "greatest_cuts" RQ,Hd.d "cuts" z7i,Hd.d "_law_appeals" RT,Hd.d "_law_done" J3,Hd.d "_law_divisor" zgh,Hd.d "_law_low" zpa,Hd.d "_law_scale_points" zc6,Hd.d "_law_turned" zie,Hd.d "law" yg]
def fts(o5):vi:= [
 AY3 "Sitting",
 AY3 "Scale",
 A_Q "Sitting",
 AjN W.hasDictIn,
 AjN W.plainOver,
 A4H AAd,
 AjN W.makesIn,
 AHi W.keepIn AAd,
 A_Q "Scale",
 AjO W.hasDictIn,
 AjO W.plainOver,
 A4H nE,
 AjO W.makesIn,
 AHi W.keepIn nE,
 ų "marks",
 ų "kept_borders",
 Θ (AAf W.findIn nE "points"),
 ų "kept_leanings",
 ų "scale",
 ų "rule",
 ų "gap",
 ų "sheets",
 ge "must_have",
 gi "must_have",
 ge "mark",
 gi "mark",
 ge "grade",
 gi "grade",
 ge "table",
 gi "table",
 Abd nE "__init__",
 Abf nE "__init__",
 Abd nE "scaled",
 Abf nE "scaled",
 ge "leaning",
 gi "leaning",
 ge "reckoned",
 gi "reckoned",
 ge "__init__",
 gi "__init__",
 ge "sheet_copy",
 gi "sheet_copy",
 ge "renewed",
 gi "renewed",
 ge "appeal",
 gi "appeal",
 AY3 "grade_borders",
 AY3 "borders_borders",
 MH "enumerate",
 MH "len",
 MH "sorted",
 MH "range",
 MH "int",
 MH "all",
 MH "zip",
 MH "tuple",
 MH "any",
 MH "list",
 MH "set",
 MH "abs",
 MH "sum",
 MH "reversed",
 MH "max",
 MH "dict"]
def obs(o5):A7c:=(Hd.allB (fts K),
 Hd.seen K ds,[gf "must_have" "Sitting.must_have",
  gf "mark" "Sitting.mark",
  Ax8 "grade_borders" "grade",
  gf "grade" "Sitting.grade",
  gf "table" "Sitting.table",
  Abe nE "__init__" "Scale.__init__",
  Abe nE "scaled" "Scale.scaled",
  gf "leaning" "Sitting.leaning",
  Hd.fnM K "worth",
  gf "reckoned" "Sitting.reckoned",
  Ax8 "borders_borders" "borders",
  gf "__init__" "Sitting.__init__",
  gf "sheet_copy" "Sitting.sheet_copy",
  gf "renewed" "Sitting.renewed",
  gf "appeal" "Sitting.appeal"])
def good(AN4):A7c:=(true,Hd.due ds,
 [Hd.ex "must_have" "Sitting.must_have" zct,
  Hd.ex "mark" "Sitting.mark" zfp,
  Hd.ex "grade" "grade" zev,
  Hd.ex "grade" "Sitting.grade" ze2,
  Hd.ex "table" "Sitting.table" X8,
  Hd.ex "__init__" "Scale.__init__" RL,
  Hd.ex "scaled" "Scale.scaled" zfq,
  Hd.ex "leaning" "Sitting.leaning" zdk,
  Hd.ex "worth" "worth" JZ,
  Hd.ex "reckoned" "Sitting.reckoned" Yo,
  Hd.ex "borders" "borders" Yp,
  Hd.ex "__init__" "Sitting.__init__" J0,
  Hd.ex "sheet_copy" "Sitting.sheet_copy" zck,
  Hd.ex "renewed" "Sitting.renewed" J1,
  Hd.ex "appeal" "Sitting.appeal" J2])
abbrev pg:Program:=PySem.Challenge.pw_hall_k75_whole_appeals_in_any_order
abbrev lw:W.OpenLaw:=PySem.Challenge.rw_hall_k75_whole_appeals_in_any_order
abbrev vw:Program:=W.view pg [83]
def loose:ο:=pg.boundNames.filter fun x=>x != "law"
theorem hd_e:W.opening pg=W.plainProg pg.main.scope.names:=UF
theorem hd_f(s:Shared):PySem.fenceModules? pg s=some s:=UF
theorem hd_A(AAH):W.topGo treeTable pg w 11 Hd.ann 12 (Hd.S0 w os) (W.topStub pg)=some (BAx,⟨denote treeTable (Hd.cB pg),Alw,Hd.z,Ayc⟩):=by
 rw[PySem.W.Fast.te15667345088766844465,PySem.W.Fast.te11892475500146522536,PySem.W.Fast.te14364793385576792824];kernel_rfl
theorem hd_B(AAH):W.segRun treeTable pg w 11 Hd.ann 1 1 A8R (W.blockOf (W.behindTheImports pg) (Hd.env pg) (Hd.cB pg) Hd.z Ayc)=some (mP,BAx,Alw,Hd.z):=by
 rw[PySem.W.Fast.te15667345088766844465,PySem.W.Fast.te14374325043358763698,PySem.W.Fast.te14364793385576792824];kernel_rfl
theorem hd_C(AAH):(Hd.Ta A8R).abs=Hd.fore treeTable W.topGo pg w os:=by
 rw[PySem.W.Fast.te15667345088766844465,PySem.W.Fast.te14364793385576792824];kernel_rfl
theorem hd_D(AAH):Hd.shot treeTable W.topGo W.segRunT W.topRun execs pg (Hd.rest W.openSeen pg vw loose (A2 true) obs 1500 w) w os=some ((mP,Alw),(true,W.openGood vw loose,good w)):=by
 rw[PySem.W.Fast.te15667345088766844465,PySem.W.Fast.te10110043849684766642,PySem.W.Fast.te14082659384304107361,PySem.W.Fast.te12563942051412417395,PySem.W.Fast.te4187177175401517315,PySem.W.Fast.te14364793385576792824];kernel_rfl
theorem hd_s:lw.row.wellSaid=true:=UF
theorem hd_said:lw.wellSaid=true:=by
 unfold W.OpenLaw.wellSaid;rw[hd_s]
 kernel_rfl
theorem hd_ok:Mn (W.chainsOk vw&&W.opensWell lw.row.prog) (W.frees lw.row.toRowW&&lw.row.within.isEmpty):=UF
theorem hd_bare:lw.row.prog.bare:=⟨rfl,rfl,rfl,rfl,rfl,ADi⟩
theorem hd_d:W.defOf vw lw.row.name=some (Hd.recOf yg,[]):=UF
theorem hd_p:lw.row.prog.theDef lw.row.name=some (Ż params,Ż body,Ż scope):=UF
theorem hd_k:W.kwWritten? (Ż params.kwonlyargs) (Ż params.kw_defaults)=some []:=UF
theorem hd_n:Ż name= "law" :=UF
theorem hd_z:Ż params.defaults= []:=UF
#print Lw
namespace L2
open PySem PySem.Spec PyProof.Rows
abbrev Key:=Sum Int Str
def uh:Key ->Value ->Bool
 | .inl k,v=>Value.isInt k v
 | ka,v=>Value.isStrOf x v
def aal(AN4):Key ->Int
 | .inl k=>hashInt k
 | ka=>hashStr w x
theorem BZ:∀{k:Key} {v:Value},uh k v=true ->(∃i t,k=Sum.inl i/\v=AXP)\/ (∃x t,k=Sum.inr x/\v=AXS)
 | ADx,v,h=>by
  show M' t (Value.isInt_shape (k:=i) (v:=v) h);exact .inl (JS i t e)
 | ka,v,h=>by
  show M' t (Value.isStrOf_shape (x:=x) (v:=v) h);exact .inr (JS x t e)
theorem z8h(i:Int)(t:Tok):uh (Db i) AJh=true:=Q2 uh Value.isInt
theorem z6a(x:Str)(t:Tok):uh (CL x) AKQ=true:=Q2 uh Value.isStrOf
theorem yln(a b:Int):decide (AvC)=(a==b):=by
 show Fs a b
 ·subst e;simp
 ·show ft h (¬AvC) (e (Sum.inl.inj q));rw[AfH];exact NI beq_eq_false_iff_ne.mpr e
theorem yjm(a b:Str):Aok (Θ AvD):=by
 show Fs a b
 ·subst e;simp
 ·show ft h (¬AvD) (e (Sum.inr.inj q));rw[AfH,BI9]
theorem yjh(a:Int)(b:Str):AYi (BHa Sum.inr):=A5U
theorem ykj(a:Str)(b:Int):AYi (BHb Sum.inl):=A5U
def oW(prog:Program)(w:World):PySem.KeyKind prog w Key where
 is:=uh
 hash:=aal w
 inj:=fun v a b ha hb=>by
  rcases BZ ha with ⟨i,t,rfl,rfl⟩ | ⟨x,t,rfl,rfl⟩
  ·rcases BZ hb with ⟨j,u,rfl,e⟩ | ⟨y,u,rfl,e⟩
   ·show ADe e e1;rw[e1]
   ·exact UB
  ·rcases BZ hb with ⟨j,u,rfl,e⟩ | ⟨y,u,rfl,e⟩
   ·exact UB
   ·show ADe e e1;rw[e1]
 byValue:=fun k v h=>by
  rcases BZ h with ⟨i,t,rfl,rfl⟩ | ⟨x,t,rfl,rfl⟩<;>rfl
 pyHash:=fun hv h=>by
  rcases BZ hv with ⟨i,t,rfl,rfl⟩ | ⟨x,t,rfl,rfl⟩
  ·exact wpAny_pyHash_int h
  ·exact wpAny_pyHash_str h
 eqBool:=fun hu hv h=>by
  rcases BZ hu with ⟨i,t,rfl,rfl⟩ | ⟨x,t,rfl,rfl⟩
  ·rcases BZ hv with ⟨j,u,rfl,rfl⟩ | ⟨y,u,rfl,rfl⟩
   ·show mT yln (wpAny_eqBool_int h)
   ·show mT yjh (XG (SeqAt.EqAt.int_str i t y u) h)
  ·rcases BZ hv with ⟨j,u,rfl,rfl⟩ | ⟨y,u,rfl,rfl⟩
   ·show mT ykj (XG (SeqAt.EqAt.str_int x t j u) h)
   ·show mT yjm (wpAny_eqBool_str h)
 «strs»:=fun k x t v h=>by
  rcases BZ h with ⟨i,u,rfl,e⟩ | ⟨y,u,rfl,e⟩
  ·exact UB
  ·show ADe e e1;subst e1;cases v<;>rfl
theorem zyy(prog:Program)(w:World)(i:Int)(t:Tok):AGi oW (Db i) AJh=true:=z8h i t
theorem zpg(prog:Program)(w:World)(x:Str)(t:Tok):AGi oW (CL x) AKQ=true:=z6a x t
inductive V where
 | non | bl (b:Bool) | int (AGX) | str (x:Str) | J4 (b:Array UInt8) | flt (b:UInt64) | ref (a:Addr) | ty (n:String)
 deriving DecidableEq
def RelV:Auj
 | Ι,u=>Av5
 | UO,u=>Asr
 | B9,u=>tJ AXP
 | T1,u=>tJ AXS
 | .J4 b,u=>tJ (Value.bytes b t)
 | .flt b,u=>tJ (Value.float b t)
 | AF,u=>AAs u
 | .ty n,u=>A0s
abbrev Vals:ADq Β:=Paired RelV
theorem Vals.length{xs:χ}{us:Β}(r:Q1):AKc us.length:=BJm
theorem Vals.get:∀{xs:χ} {us:Β} {i:Nat} {x:V},Q1 ->Sm ->∃u,B' us u/\tF
 | _,_,_,_,BS,e=>AFJ
 | _,_,0,_,ABV _,e=>by simp at e;subst e;exact Lv r
 | _,_,By,x,AXZ,e=>by
  show AS u h1 h2 (Vals.get (i:=i) (x:=x)) t wP
  exact⟨u,AN h1,h2⟩
theorem Vals.set(A9L):AbH i (Vals (xs.set i x) (us.set i u))
 | _,_,_,BS=> BS
 | _,_,0,AXZ=> xw
 | _,_,By,.cons q t=> .cons q (Vals.set r i t)
theorem Vals.append:∀{xs ys:χ} {us ws:Β},Q1 ->Vals ys ws ->Vals AWp (us++ws)
 | _,_,_,_,BS,s=>s
 | _,_,_,_,xw,s=> ABV (Vals.append t s)
theorem Vals.take:AbH n (Vals (xs.take n) (us.take n))
 | _,_,0,_=> BS
 | _,_,_+1,BS=> BS
 | _,_,n+1,xw=> ABV (Vals.take n t)
theorem Vals.drop:AbH n (Vals (xs.drop n) (us.drop n))
 | _,_,0,r=>r
 | _,_,_+1,BS=> BS
 | _,_,n+1,AXZ=>Vals.drop n t
def nC:BG MB LM
 | ļ,AD_=>LH
 | none,none=>True
 | _,_=>False
def KV{κ:Type}:BG Q3 ACd:=Paired fun(p:κ×V) (q:κ×Value)=>AM=q.1/\RelV C9 q.2
def kV:Key ->V
 | ADx=> B9
 | ka=> T1
inductive HO where
 | lst (xs:χ)
 | tup (xs:χ)
 | dK (kvs:Kx) | dT (kvs:NE)
 | set (S:mM Int) (n:Nat)
 | ins (C dx:Addr) (fs:UQ)
 | own (x:Addr)
 | xd (fs:UQ)
 | met (f x:Addr)
 | rng (lo hi:Int)
 | frz (o:Obj) (u:HO)
 | LR (ps:D7)
 | ext (φ:AfZ)
abbrev Hp:=Addr ->Ev HO
def upd(H:Hp)(a:Addr)(o:HO):Hp:=OY (E2 b a (some o) (H b))
theorem jJ{H:Hp}{a:Addr}{o:HO}:upd H a o a=some o:=Af_ upd
theorem cR(AqY){o:HO}(h:Q4):upd H a o b=H b:=AEa upd md
theorem ymh(AqY){o u:HO}(h:ATq)(h' :s0)(d:o≠u):a≠b:=by
 intro e;subst e;rw[h] at h';exact d (zF h')
theorem nD{H:Hp}{a b:Addr}{o:HO}(h:ATq)(h' :Fr):a≠b:=by
 intro e;subst e;rw[h] at h';cases h'
section
variable(P:Program)(w:World)
def bN(H:Hp)(h:Heap)(a:Addr):DO HO
 | Ic=>ARu (Aqg (ACf/\Sf ADW))
 | JY=>ARu (∃its:Β,ACf/\Agl IsTup h)
 | AF'=>AqL
 | .dT kvs=>ARO (∃xs:Ć,
   Paired (fun(p:Au×V) (q:Au×AH2)=>A_R) kvs xs/\
   ∃o es ep,nv/\o.ExactDict/\o.data= AcH/\es.toList=xs.map (entryOfKey (tupleKind lI))/\ (xs.map (·.1)).Nodup)
 | .set S n=>h.SetOf (intKind P w) a S n
 | .ins C dx fs=>AlJ/\BJY/\dx≠a/\Sf AiP/\
   ∃mA,AnQ/\ (∀f,ArR)/\AvS
 | .own _=>∃o,nv
 | .xd fs=>∃mA,h.Ns1 a mA/\∀f,ArR
 | .rng lo hi=>∃t u v,Sf Aci
 | .frz o u=>nv/\bN H h a u
 | .LR ps=>Axh
 | .met f x=>A4' x
 | .ext φ=>φ h/\ (∃o,nv)/\∀h1 h2:Heap,φ h1 ->(∀o,Dx h1.get? o ->Dx h2.get? o) ->φ h2
def oN(H:Hp)(h:Heap):Prop:=∀a o,ATq ->ny a o
#where
section
variable{P:Program}{w:World}{H H' :Hp}{h h' :Heap}{a:Addr}{o:HO}
theorem bN.lt(x:ny a o):AtO:=by
 cases o with
 | lst xs=>obtain⟨_,_,_,_,e⟩:=x;exact Gc
 | tup xs=>show AKl p x p.lt
 | dK kvs=>obtain⟨_,_,_,_,o,_,_,e,_⟩:=x;exact Gc
 | dT kvs=>obtain⟨_,_,_,_,o,_,_,e,_⟩:=x;exact Gc
 | set S n=>obtain⟨o,_,_,_,e,_⟩:=x;exact Gc
 | ins C dx fs=>obtain⟨_,_,_,e,_⟩:=x;exact Gc
 | own y=>obtain⟨_,e⟩:=x;exact Gc
 | xd fs=>obtain⟨_,⟨_,_,_,e,_⟩,_⟩:=x;exact Gc
 | rng lo hi=>obtain⟨_,_,_,e⟩:=x;exact Gc
 | frz ob u=>obtain⟨e,_⟩:=x;exact Gc
 | LR ps=>exact AIw zG (Sf _) x
 | met f y=>exact AIw zG (Sf _) x
 | ext φ=>obtain⟨_,⟨_,e⟩,_⟩:=x;exact Gc
theorem Paired.mapP{α β:Type}{F G:BG α β}:∀{l₁:AG} {l₂:HZ},Paired F l₁ l₂ ->(∀a b,F a b ->G a b) ->Paired G l₁ l₂
 | _,_,BS,_=> BS
 | _,_,xw,f=> .cons (f _ _ r) (Paired.mapP t f)
theorem bN.stay(x:ny a o)(k:AZC (b=a\/N1 (.own a)) h.get?)
  (ho:IS (N1 (.own a)) (AIy (.own a))) (ht:Aqs):bN P w H' h' a o:=by
 induction o with
 | lst xs=>show Aay x;exact⟨z,its,n,r,aE⟩
 | tup xs=>obtain⟨z,its,r,ob,e,c⟩:=x;exact⟨z,its,r,ob,aE,c⟩
 | dK kvs=>obtain⟨z,y,vs,r,ob,es,ep,e,c⟩:=x;exact⟨z,y,vs,r,ob,es,ep,aE,c⟩
 | dT kvs=>
  obtain⟨z,y,xs,r,ob,es,ep,e,c⟩:=x;exact⟨z,y,xs,Paired.mapP r fun p q z=>A3K,ob,es,ep,aE,c⟩
 | set S n=>obtain⟨ob,es,ep,t,e,c⟩:=x;exact⟨ob,es,ep,t,aE,c⟩
 | ins C dx fs=>
  obtain⟨d,z,ne,e,mA,⟨od,es,ep,e2,c⟩,r⟩:=x;exact⟨ho _ d,z,ne,aE,mA,⟨od,es,ep,k _ _ (CL d) e2,c⟩,r⟩
 | own y=>show UY ob e x ob aE
 | xd fs=>obtain⟨mA,⟨od,es,ep,e,c⟩,r⟩:=x;exact⟨mA,⟨od,es,ep,aE,c⟩,r⟩
 | rng lo hi=>obtain⟨t,u,v,e⟩:=x;exact⟨t,u,v,aE⟩
 | frz ob u ih=>show UY e q x aE (ih q)
 | LR ps=>
  have e:Axh:=x;exact k a _ WU e
 | met f y=>
  have e:A4' y:=x;exact k a _ WU e
 | ext φ=>obtain⟨p,⟨o,e⟩,st⟩:=x;exact⟨st _ _ p fun o q=>k _ _ WU q,OR aE,st⟩
theorem oN.lt(x:R_)(e:ATq):AtO:=(x a o e).lt
theorem oN.fresh(x:R_)(e:h.objs.size<=a):ACT:=by
 cases q:H a with
 | none=>rfl
 | some u=>exact Ū (zM (x.lt q) e)
theorem oN.kept(x:R_)(k:AWO):oN P w H h' :=fun a o e=>
 (ASi (x a o e).stay (fun b u _ q=>AVM))
theorem oN.laid(x:R_)(k:AWO)(hp:h.objs.size<=a)(new:bN P w AMz h' a o):oN P w AMz h' :=HP (by
 have hn:=x.fresh hp;show U2
 ·show AvF new
 ·rw[ZU] at e;exact ARK (Ad2 x) (fun c v _ q=>k c v q) q AUq q AUq)
#where
def Rd(H:Hp)(a:Addr)(u:HO):Prop:=ABU\/∃o,F9 ACU
theorem Rd.ok(AGH){H:Hp}{h:Heap}{a:Addr}{u:HO}(r:Rd H a u)(x:R_):ny a u:=by
 rcases r with r | ⟨o,r⟩
 ·exact x a u r
 ·obtain⟨_,q⟩:=x a _ r;exact q
def RV:DO (Ev HO)
 | some (BN _)=>True
 | ATP dK=>True
 | ATP dT=>True
 | some (.set _ _)=>True
 | some (.ins _ _ _)=>True
 | ATP ext=>True
 | ATP xd=>True
 | _=>False
section
variable{P:Program}{w:World}{H:Hp}{h h' :Heap}{x e:Addr}{o' :HO}
theorem oN.write(ok:R_)(mu:Am6)(he:Anl)(k:AZC (b≠e) h.get?)(heo:Ao_)
  (new:bN P w (IA x o') h' x o'):oN P w (IA x o') h' :=N9 u (by
 have RW:∀c y,AP4 c y ->c≠x:=fun c y r z=>(AYQ r mu)
 have aam:∀c xs,KM c JI ->c≠x:=fun c xs r z=>(AYQ r mu)
 show qi x
 ·subst hb;rw[jJ] at q;cases q;exact new
 ·rw[ZU] at q;by_cases hbe:b=e
  ·have q' :N1 (.own x):=by
    show J_ he
    ·exact Ya hbe.trans z hb
    ·rw[hbe];exact z
   rw[q] at q';cases q';obtain⟨v,hv⟩:=heo;exact⟨v,AB hbe hv⟩
  ·refine ARK (ok b u q).stay (fun c v hc r=>k c v ?_ r) r (kg (RW c b r) r) r (kg (aam c xs r) r)
   show va hc hc
   ·exact hbe
   ·rintro rfl;show J_ he
    ·exact RW c b hc z
    ·rw[hc] at z;cases z;exact hb rfl)
#where
structure Un (fs ex:Ν) (H H' :Hp) (h h' :Heap):Prop where
 keep:A8Y (b∉fs) sB
 slot:A8Y (b∈fs) A1f
 free:iq TM (Fr ->ARo ->ABg)
 there:kA TM ARo (AQA h'.get?)
 tups:Aqs
 oX:A2s
 rE:A6m
section
variable{fs fs' ex ex' :Ν}{H H1 H2:Hp}{h h1 h2 h' :Heap}{a x e:Addr}{o:HO}
theorem Un.any(u:AOC H1 h1){b:Addr}{ob:Obj}(q:rq h.get?)(n:Fr)(hx:ARo):∃sl,H_ h1.get? {ob with slots:=sl}:=by
 by_cases hb:b∈fs
 ·exact u.slot b ob q n hb hx
 ·exact⟨ob.slots,u.keep b ob q n hb hx⟩
theorem Un.trans(a:AOC H1 h1)(b:Un fs ex H1 H2 h1 h2):AOC H2 h2 where
 keep:=BDx (b.keep c ob (a.keep c ob q n hc hx) An2 hc hx)
 slot:=BDx (by
  show ue sl (a.slot c ob q n hc hx);show vT sl' (b.slot c _ e1 An2 hc hx);exact⟨sl',e2⟩)
 free:=fun c ob q n hx=>by
  show ue o' Ay7;exact b.free c o' e1 An2 hx
 there:=fun c ob q hx=>by
  show ue o' Ay7;exact b.there c o' e1 hx
 tups:=fun c xs q=>b.tups c xs (a.tups c xs q)
 oX:=fun c ob xs q=>b.oX c ob xs (a.oX c ob xs q)
 rE:=fun c ps q=>by
  show ue m1 (a.rE c ps q);show vT m2 (b.rE c _ e1);exact⟨m1++m2,AxU⟩
theorem Un.kept(k:AWO):A8t h h' :=
 ⟨At8 Ams,At8 ⟨ob.slots,Ams⟩,sw n _ n,fun b ob q _=>⟨ob,Ams⟩,AIO,fun _ _ _ q=>q,fun _ ps q=>(ARa (ALg q))⟩
theorem Un.refl:A8t h h:=Un.kept AIO
theorem Un.laid(k:AWO)(hp:h.objs.size<=a)(hn:ACT):AOC AMz h' where
 keep:=fun b u q _ _ _=>AVM
 slot:=fun b u q _ _ _=>⟨u.slots,AVM⟩
 free:=ASR _ (AB (Auf (Nat.lt_of_lt_of_le (Heap.lt_size q) hp)) n)
 there:=T_ q _ ⟨u,AVM⟩
 tups:=N9 xs AUq
 oX:=T_ xs q AUq
 rE:=Azd (AB_ hn)
theorem Un.write(mu:Am6)(he:Anl)(k:AZC (b≠e) h.get?)(heo:Ao_):AOC (IA x o) h' :=by
 have hx:ARk (b≠x):=fun b n z=>(AYQ n mu)
 have hb:ARk (b≠e):=fun b n z=>by
  subst z;rcases he with r | r
  ·exact hx b n r
  ·show GT n r r
 have hm:∀b u,s0 ->¬RV (some u) ->b≠x:=fun b u q nm z=>(AYQ q (nm mu))
 refine⟨fun b u q n _ _=>A2p,fun b u q n _ _=>⟨u.slots,A2p⟩,ASR _ (AB (cR (hx b n)) n),T_ q _ ?_,
  N9 xs (kg Aq7 q),T_ xs q (kg Aq7 q),Azd (cR Aq7)⟩
 by_cases hbe:b=e
 ·subst hbe;exact heo
 ·exact⟨u,k b u hbe q⟩
#where
def Ep(AnT):Ν:=BHu filter (ABN H a)
def wW(AnT):Heap:=W.hideAll h (Ep h H)
theorem z44(AnT):(wW h H).objs.size=h.objs.size:=W.hideAll_size _ _
theorem ya0{h:Heap}{H:Hp}{b:Addr}{o:Obj}(e:TM)(n:Fr):ET Alk:=
 W.hideAll_get _ e fun hm=>by
  have q:ABN H b=true:=(zA.mp hm).2;rw[n] at q;simp at q
theorem yet{h:Heap}{H:Hp}{b:Addr}{o:Obj}(e:ET Alk):TM/\Fr:=by
 have e' :TM:=W.of_hideAll (Ep h H) e;show CD e';cases q:H b with
 | none=>rfl
 | some x=>
  have hm:b∈Ep h H:=zA.mpr ⟨List.mem_range.mpr (zG e'),ATk⟩
  have z:MM Alk:=W.hideAll_none (Ep h H) hm;rw[z] at e;cases e
def yg3(g h:Heap)(L:Addr):c7:=A9c (ABN g.get? a=true)
def rest(g h:Heap)(L d:Addr):c7:=(yg3 g h L).filter fun p=>(Θ (AM≠d))
structure Mod (K:W.Frag) (mg:CB) (base:Heap):Prop where
 Hv:K.In base
 glob:BHV
 blt:∃mb,base.Ns builtinsNs mb/\A_r
 nolimit:base.NoLimit
structure Cx where
 prog:Program
 w:World
 K:W.Frag
 mg:CB
 base:Heap
 A:Around
 N:ο
 s₀:Shared
 H₀:Hp
 env:Env
 outer:EG
 stack:EG
 ex:Ν
 fn:Str ->Bool
 calm:Bool
 pn:c7
 xe:dG
def frs(l:EG):Ν:=l.filterMap (·.frame)
abbrev Cx.fs(gy):Ν:=frs X.outer
def rF(A1i):Prop:=Al0 (AMs\/AEo sc.names.lookup)
def Loc(A1i):Prop:=Al0 AMs
def Look(env:Env)(h:Heap)(m:CB)(x:Str)(u:Value):Prop:=
 (AHo env.kindOf/\Co m u)\/ ((ABq env.kindOf\/AEo env.kindOf)/\∃c,ALr/\h.IsCell c (some u))
structure Cx.Ok (gy):Prop where
 mod:A5u
 kind:X.env.scope.kind= É
 glob:X.env.globals=mainGlobals
 blt:X.env.builtins=builtinsNs
 above:ù X.env.locals
 inj:AqV À (Ahr c)
 has:∀x,(ABq X.env.kindOf\/AEo X.env.kindOf) ->∃c,À
 cab:∀x c,Zs ->À ->ù c
 hd:D6 ->X.A.handled=none
 frames:X.A.frames=some X.stack
 stk:X.stack=X.outer\/ (X.stack=X.env::X.outer/\AwW)
 exf:IT X.ex (ACS/\ACh b)
 bs:AVL (ATg/\MM X.H₀)
 J5:X.base.objs.size<=X.s₀.heap.objs.size
 Io:AVL (b∉X.ex)
 Ip:IT X.ex AEq
 funs:X.s₀.heap.FunFrames X.base X.outer
 Ma:IT X.fs (MM X.H₀)
structure Inv (X:Cx) (pins:c7) (σ:AAk V) (H:Hp) (s:Shared):Prop where
 ok:X.Ok
 os:s.os=X.s₀.os
 bare:BJ_
 base:Un X.fs X.ex X.H₀ H X.s₀.heap s.heap
 loc:∃m,Au7/\∀(i:Nat) (x:Str) (v:V),Ps ->AAy cq ->WZ ->∃u,LH/\Look X.env s.heap m x u
 cell:APY (∃v,Adv)
 free:Po X.env.locals
 freeC:APY (Po c)
 pin:JE AJb BCj
 hok:am oN H s.heap
 len:σ.length=X.N.length
section
variable{X:Cx}{pins:c7}{σ:AAk V}{H H' :Hp}{s:Shared}{h' :Heap}
theorem Cx.Ok.nofr(ok:X.Ok){b:Addr}{o:Obj}(e:ET X.base.get?):AEq:=fun hb=>by
 have:=(ok.funs.mem hb).1;show ZH;show CH
theorem Inv.bs(Na):AVL (Mo/\Fr):=LX ⟨I.base.keep b o AtN AwA (I.ok.nofr e) BJ2,I.base.free b o AtN AwA BJ2⟩
theorem Inv.bk(Na):AVL Mo:=AgU I.bs
theorem Inv.mod(Na):A5u:=I.ok.mod
theorem Inv.kIn(Na):X.K.In s.heap:=I.ok.mod.Hv.keeps I.bk
theorem Inv.lt(Na):X.env.locals<s.heap.objs.size:=let ⟨_,hn,_⟩:=I.loc;hn.lt
theorem Inv.sz(Na):ù s.heap.objs.size:=zO I.ok.above (Nat.le_of_lt I.lt)
theorem Inv.nofs(I:Ε){a:Addr}(h:YR a):a∉X.fs:=fun hb=>by
 obtain⟨_,o,ho,_⟩:=I.ok.funs.mem hb;exact Ū (zM (zG ho) (zO I.sz h))
theorem Inv.cne(Na):ACh X.env.locals:=fun x c e z=>by
 obtain⟨v,o,ho,hd⟩:=AXw;obtain⟨m,⟨o',es,ep,ho',hd',_⟩,_⟩:=I.loc;rw[z,ho'] at ho;cases ho;rw[hd'] at hd;cases hd
theorem Inv.funs(Na):Ajz X.outer:=by
 have all:∀(l:EG),(Nn (frs l) AgM) ->X.s₀.heap.FunFrames X.base l ->Ajz l:=by
  intro l;induction l with
  | nil=>intro _ _;trivial
  | cons env r ih=>
   intro hs hl;obtain⟨hk,⟨L,o,hf,hn,ho,hd⟩,hr⟩:=hl;have hL:L∈X.fs:=hs L (AU9 frs List.filterMap_cons hf zY)
   show M' sl (I.base.slot L o ho (I.ok.Ma L hL) hL (AC (I.ok.Ip L z hL)));exact⟨hk,⟨L,_,hf,hn,e,hd⟩,AHj ih (hs b (AU9 frs List.filterMap_cons hf AUz)) hr⟩
 exact all X.outer (fun _ hb=>hb) I.ok.funs
theorem Inv.stack(Na):Ajz X.stack:=by
 rcases I.ok.stk with e | ⟨e,hf⟩
 ·rw[e];exact I.funs
 ·rw[e];obtain⟨m,hn,_⟩:=I.loc;refine kr (by rw[I.ok.kind];decide) hf hn ?_ I.funs
  exact Heap.get?_none_of_le (zO I.ok.J5 I.ok.above)
theorem Inv.stkSub(Na):IT AV6 (b∈X.env.locals::X.fs):=FX (by
 rcases I.ok.stk with e | ⟨e,hf⟩
 ·rw[e] at hb;exact AUz
 ·rw[e] at hb;unfold frs at hb;rw[List.filterMap_cons,hf] at hb;exact hb)
theorem Inv.stkFree(Na):IT AV6 Fr:=FX (by
 show AKf (An5 hb) hb
 ·rw[e];exact I.free
 ·obtain⟨_,o,ho,_⟩:=I.ok.funs.mem hb;exact I.base.free b o ho (I.ok.Ma b hb) (AC (I.ok.Ip b z hb)))
theorem Inv.step{g' :fb}{t' :Nat}{d' :Drawn}{ch:Ν}(I:Ε)
  (hch:Aq8)
  (keep:iq ACS (Ρ AEq ALl Mo Fr sB))
  (slot:iq ACS (Ρ AgM ALl Mo Fr A1f)) (free:iq ALl (Mo ->Fr ->ABg))
  (there:kA ALl Mo (AQA h'.get?))
  (tups:Aqs) (oX:A2s) (rE:A6m)
  (ns:∀m,Au7 ->h'.Ns X.env.locals m) (hok:AWb) (hg:AllBare g'):
  cb {s with heap:=h',gens:=g',drawn:=d',toks:=t'}:=by
 have neL:AIM X.s₀.heap.get? ACS:=LX (zK (zM (zG e) I.ok.above));have Yt:kA ATg (b∉X.ex) ALl:=fun b o e hx hb=>by
  show J_ (WB hch)
  ·exact hx z
  ·exact Ū (zM (zG e) z)
 have cellK:APY (∀v,Adv ->As4):=fun x c e v (AEp hd)=>by
  have RX:c∉ch:=AC A9h;by_cases hc:c∈X.fs
  ·show WP sl q (BD_ slot) (Cb q hd)
  ·exact Pl (BD_ keep) hd
 refine⟨I.ok,I.os,hg,⟨ARJ,ARJ,fun b o e n hx=> ?_,ADZ hx,pf xs (tups b xs (I.base.tups b xs e)),pr xs e (oX b o xs (I.base.oX b o xs e)),LS ps e⟩,?_,AXa,?_,AXa,Z',hok,I.len⟩
 ·exact keep b o (kH neL) hb AZn (Ahb hb hx) (Ahc hx)
 ·show ue sl AnY;show vT sl' (slot b _ (kH neL) hb AZn e1 (Ahc hx));exact⟨sl',e2⟩
 ·show WP o' e1 AYp (free b o' AZn e1 (Ahc hx))
 ·show WP o' e1 AYp (there b o' AZn e1)
 ·show ue m1 (I.base.rE b ps e);show vT m2 (rE b _ e1);exact⟨m1++m2,AxU⟩
 ·obtain⟨m,hn,hl⟩:=I.loc;show B0 m (ns m hn) (fun i x v e1 e2 e3=> ?_);show AS u r l (hl i x v e1) e2 e3;show AX u r;rcases l with l | ⟨k,c,e,z⟩
  ·show BQ l
  ·show Bz ⟨k,c,e,cellK x c e _ z⟩
 ·show UY v z AXw v (cellK x c e v z)
 ·obtain⟨m,⟨o,_,_,ho,_⟩,_⟩:=I.loc;exact free _ o (DH (Amj hch)) ho I.free
 ·obtain⟨v,o,ho,hd⟩:=AXw;exact free c o (DH A9h) ho ASM
 ·show Ar2;have RX:AM∉ch:=AC ((hch AM z).2.2.2 p hp rfl);exact⟨keep AM C9 ne nf RX e n,free AM C9 RX e n,ne,nf,d⟩
theorem Inv.un{t' :Nat}(I:Ε)(u:Un X.fs [] H H' s.heap h')(hok:AWb):cb ACY:=by
 obtain⟨m,⟨o,es,ep,ho,r⟩,_⟩:=id I.loc;obtain⟨sl,hL⟩:=u.any ho I.free Η
 exact Arl [] (G_ z (nomatch z)) (fun b o _ hb _ e n=>sL u.keep hb Η) (fun b o _ hb _ e n=>sL u.slot hb Η) (fun b o _ e n=>u.free b o e n Η) (fun b o _ e=>u.there b o e Η) u.tups u.oX u.rE (fun m' hm=>by
  obtain⟨o',es',ep',ho',r'⟩:=hm;rw[ho] at ho';cases ho';exact A_5) hok I.bare
theorem Inv.call{g' :fb}{t' :Nat}{d' :Drawn}{ch:Ν}(I:Ε)(u:A'f s.heap h')(hok:AWb)(hg:AllBare g')
  (hch:Aq8):
  cb {s with heap:=h',gens:=g',drawn:=d',toks:=t'}:=by
 obtain⟨m,⟨o,es,ep,ho,r⟩,_⟩:=id I.loc;obtain⟨sl,hL⟩:=u.any ho I.free (AC (Amj hch));exact I.step (ch:=ch) hch (fun b o hL hb hc e n=>sL u.keep (DH ((zU.mp (I.stkSub b z)).elim hL hb)) hc) (fun b o _ _ hc e n=>u.any e n hc) (fun b o hc e n=>u.free b o e n hc) (fun b o hc e=>u.there b o e hc) u.tups u.oX u.rE (fun m' hm=>by
  obtain⟨o',es',ep',ho',r'⟩:=hm;rw[ho] at ho';cases ho';exact A_5) hok hg
theorem Inv.turned{t' :Nat}{it:Addr}(I:Ε)(k:AW0 (b≠it))(hn:Po it)(hL:it≠X.env.locals)
  (h1:it∈X.ex\/ù it) (h2:ACh it) (h3:JE AJb (AM≠it)):Afm:=by
 have RZ:cz H (b≠it):=T_ e z (AiE hn)
 refine Arl [it] AXT (fun b o _ _ hc e _=>Anh) (fun b o _ _ hc e _=>⟨o.slots,Anh⟩) (sw _ n n)
  (fun b o hc e=>(OR Anh)) (AGL) (fun _ _ _ e=>e) (pf ps (ARa (by rw[e];simp))) (Iq m hm) (F6) I.bare
 ·show AXx
  subst e;exact⟨h1,hL,h2,h3⟩
 ·obtain⟨o,es,ep,ho,r⟩:=hm;exact⟨o,es,ep,k _ o (Ne.symm hL) ho,r⟩
 ·show BDX (RZ c _ z)
theorem Inv.tok(I:Ε)(t:Nat):af (AO7 toks t):=BG8 t Un.refl I.hok
theorem Inv.kept{t' :Nat}(I:Ε)(k:Aio):Afm:=I.un (Un.kept k) (I.hok.kept k)
theorem Inv.laid{a:Addr}{o:HO}{t' :Nat}(I:Ε)(k:Aio)(hp:YR a)(new:WG AMz h' a o):
  sC a o ACY:=I.un (Un.laid k hp (AdM hp)) (I.hok.laid k hp new)
theorem Inv.write{x e:Addr}{o:HO}{t' :Nat}(I:Ε)(mu:Am6)(he:Anl)(k:AZC (b≠e) s.heap.get?)(heo:Ao_)
  (new:WG (IA x o) h' x o):sC x o ACY:=I.un (Un.write mu he k heo) (I.hok.write mu he k heo new)
theorem Inv.pins_of{sG :c7}(I:Ε)(h:JE sG BCj):Inv X sG σ H s:=
 ⟨I.ok,I.os,I.bare,I.base,I.loc,I.cell,I.free,I.freeC,XE (AzV (DH (I.pin p (zP _ z))) (h p)),I.hok,I.len⟩
theorem z0a{N:ο}(hN:N.Nodup){i j:Nat}{x:Str}(a:al N)(b:HK N x):i=j:=by
 show B8 h1 e1 zV.mp a;show vT h2 (zV.mp b);exact(List.getElem_inj hN).mp (e1.trans e2.symm)
theorem zpk{M:Model}(AZE)(AZy){v:V}{u:Value}{Q:D4 Unit}(I:Ε)(o_)(hx:nc)(r:LH)
  (h:∀s',AyR ->(∃a,Heap.SameBut a s.heap s'.heap/\ (a=X.env.locals\/Co X.env.cells.lookup a)) ->Q () s') (hf:Zs\/Z_:=by first | show ABh | show Bz rfl | assumption):A5p:=by
 show At m hn hl id I.loc;have hcls:(X.env.scope.kind== .class || (X.env.scope.kind== .module&&X.env.locals !=X.env.globals))=false:=EK I.ok.kind
 have hiσ:i<σ.length:=AB I.len ZY
 have cne:=I.cne;have tracked:∀{a:Addr} {h' :Heap},(∃o,AiH/\ACT) ->ū a ->am oN H h' :=fun{a h'} ha hs b ob e=>by
  obtain⟨_,_,hfree⟩:=ha;refine ASi (I.hok b ob e).stay (fun c w' hc q=>GA hs.2 c ?_ q);rintro rfl;show va hc hc
  ·rw[hfree] at e;cases e
  ·show GT hfree hc hc
 rcases hx with hk | hk
 ·refine wpAny_storeName_local hk hn (Α h' hn' hs) hcls;obtain⟨oL,_,_,hoL,_⟩:=id hn;refine h _ ⟨I.ok,I.os,I.bare,BBq,Cb hn' BEc,Qb y c,I.free,I.freeC,Z',tracked ⟨oL,hoL,I.free⟩ hs,AN I.len⟩ (Cb hs ATK)
  ·exact AHA I.ok.above (Ahb hb hx)
  ·show UY sl e1 AnY sl (AHA I.ok.above e1)
  ·show UY o' e1 AYp o' (AHA I.ok.above e1)
  ·by_cases hj:j=i
   ·subst hj;rw[hi] at e1;cases e1;show AkE hiσ;cases e2;exact⟨u,r,v6 hk AY⟩
   ·show A5Y;show AS u' r' q (hl j y v' e1) e2 e3;show AX u' r';rcases q with ⟨k,e⟩ | ⟨k,c,e,z⟩
    ·refine .inl (Do k);have:y≠x:=fun e=>hj (z0a hN e1 (e ▸ hi));simp [this,e]
    ·show Bz ⟨k,c,e,BEg⟩
  ·show UY w' z (I.cell y c e) w' BEg
  ·show Ar2;exact⟨GA hs.2 AM ne e,n,ne,nf,d⟩
 ·have hfn:Zs:=by
   show J_ hf
   ·exact z
   ·show GT z hk hk
  obtain⟨c,hc⟩:=I.ok.has x (Db hk);obtain⟨w',z⟩:=I.cell x c hc;refine wpAny_storeName_cell I.ok.kind hk hc z (Α h' hc' hs);obtain⟨oc,hoc,aan⟩:=id z;refine h MT ⟨I.ok,I.os,I.bare,BBq,⟨m,hn.sameBut hs (Ne.symm (cne x c hc)),BEc⟩,Qb y c',I.free,I.freeC,Z',tracked ⟨oc,hoc,I.freeC x c hc⟩ hs,AN I.len⟩ ⟨c,hs,.inr hc⟩
  ·exact AHA ArZ (Ahb hb hx)
  ·show UY sl e1 AnY sl (AHA ArZ e1)
  ·show UY o' e1 AYp o' (AHA ArZ e1)
  ·by_cases hj:j=i
   ·subst hj;rw[hi] at e1;cases e1;show AkE hiσ;cases e2;exact⟨u,r,.inr ⟨.inl hk,c,hc,hc'⟩⟩
   ·show A5Y;show AS u' r' q (hl j y v' e1) e2 e3;show AX u' r';rcases q with q | ⟨k,c',e,z'⟩
    ·show BQ q
    ·show RI ⟨k,c',e,z'.sameBut hs ?_⟩;rintro rfl;exact hj (z0a hN e1 (I.ok.inj _ _ _ e hc ▸ hi))
  ·by_cases hcc:c' =c
   ·subst hcc;exact ĩ hc'
   ·show WP w2 z2 (I.cell y c' e) ⟨w2,z2.sameBut hs hcc⟩
  ·show Ar2;refine⟨GA hs.2 AM ?_ e,n,ne,nf,d⟩;intro q;rw[q,hoc] at e;have q' :oc=C9:=zF e;exact d w' (BA q' aan)
theorem Yu{M:Model}(AZE)(AZy){v:V}{u:Value}{Q:D4 Unit}(I:Ε)(o_)(hx:nc)(r:LH)
  (h:∀s',AyR ->Q () s') (hf:Zs\/Z_:=by first | show ABh | show Bz rfl | assumption):A5p:=
 zpk I hN hi hx r (fun s' I' _=>h s' I') hf
theorem Inv.call'{s' :Shared}{ch:Ν}(I:Ε)(ho:Ai8)(u:Adr A'f)(hok:Aix)(hg:AJa)
  (hch:Aq8):ŗ :=by
 obtain⟨h',g',d',t',o'⟩:=s';have e:o' =s.os:=ho;subst e;exact I.call (g' :=g') (t' :=t') (d' :=d') u hok hg hch
#where
abbrev XK:=Ñ (SH JU)
abbrev St:=AAk V
abbrev VK:=ALS
abbrev TE:=St ->AAb
abbrev TT:=AXG m4
abbrev TA:=AXG ACv
structure Ends where
 nx:Ix
 rt:VK
 bk:Ix:=Ì
 ct:Ix:=Ì
abbrev TS:=Ends ->Ix
inductive EP (X:Cx) (pins:c7) (σ:St) (Q:VK) (u:Value) (s' :Shared):Prop
 | mk:∀v H',(Inv X pins σ H' s') ->(RelV v u) ->(Q v H') ->mE u s'
def TP(X:Cx)(pins:c7)(σ:St)(Q:m4)(b:Bool)(s' :Shared):Prop:=∃H',ŗ /\Q b H'
inductive AP (X:Cx) (pins:c7) (σ:St) (Q:ACv) (us:Β) (s' :Shared):Prop
 | mk:∀vs H',(Inv X pins σ H' s') ->(Vals vs us) ->(Q vs H') ->AP X pins σ Q us s'
def SP(X:Cx)(pins:c7)(D:Ends)(f:Flow)(s' :Shared):Prop:=
 match f with
 | mP=>Aju D.nx
 | .brk=>Aju D.bk
 | .cont=>Aju D.ct
 | .ret u=>∃v σ' H',Ab3 /\LH/\D.rt v H'
def PE(X:Cx)(e:Expr)(t:TE):Prop:=
 ∀(pins:c7) (s:Shared) (σ:St) (H:Hp) (Q:VK),Ĝ (ABk (p9 e))
def PT(X:Cx)(e:Expr)(t:TT):Prop:=
 ∀(pins:c7) (s:Shared) (σ:St) (H:Hp) (Q:m4),AvP (p9 e)
def PW(X:Cx)(e:Expr)(t:TT):Prop:=
 ∀(whole:APg) (pins:c7) (s:Shared) (σ:St) (H:Hp) (Q:m4),AvP whole
theorem PW.pt{X:Cx}{e:Expr}{t:TT}(h:PW X e t):PT X e t:=h _
def PA(X:Cx)(es:AE)(t:TA):Prop:=
 ∀(pos:Pos) (pins:c7) (s:Shared) (σ:St) (H:Hp) (Q:ACv),Ĝ (Aky spliced (WC es) AP)
def PS(X:Cx)(st:Stmt)(t:TS):Prop:=
 ∀(pins:c7) (s:Shared) (σ:St) (H:Hp) (D:Ends),A5R exec
def DY(X:Cx)(st:IQ)(t:TS):Prop:=
 ∀(pins:c7) (s:Shared) (σ:St) (H:Hp) (D:Ends),A5R execs
theorem bV(FI){t:Sem α}{Q Q' :D4 α}(BCQ)(h:lm t)(hQ:∀a s,Q a s ->Q' a s):wpAny M A t Q' E s:=wpAny_mono h hQ AYc
section
variable{X:Cx}
def Mf(Uf):TE:=ai (∃v,AAy cq/\Q v H)
def tC(v:V):TE:=PU _ (Q v H)
theorem um{i:Nat}{x:Str}{pos:Pos}(AVg):PE X ü (Mf i):=by
 show ER;show GH v e h;obtain⟨m,hn,hl⟩:=I.loc;show AS u r l (hl i x v hN) e hv;have fin:mE u s:=⟨v,H,I,r,h⟩;rcases l with ⟨hk,hm⟩ | ⟨hk,c,hc,hcell⟩
 ·exact A0z (wpAny_loadName_local I.ok.kind hk hn hm)
 ·rcases hk with hk | hk
  ·exact A0z (A2U wpAny_loadName_cell)
  ·exact wpAny_Name (A2U wpAny_loadName_free fin hcd) hd
theorem yj6{i j pos}:Ali vy vy:=fun _ _ _ H _ I h=>wpAny_Constant_int ⟨B9,H,ABa,Cf,h⟩
theorem ymk{b j pos}:Ali (.bool b) ATu:=fun _ _ _ H _ I h=>Constant_bool (ABZ UO h)
theorem yi3{j pos}:kF Constant AJ j (tC .non):=fun _ _ _ H _ I h=>Constant_none (ABZ Ι h)
theorem yi1{x j pos}:Ali ŉ ŉ:=fun _ _ _ H _ I h=>Calls.Constant_str ⟨T1,H,ABa,Cf,h⟩
def Gl(X:Cx)(x:Str):Prop:=Co X.env.kindOf .globalImplicit
theorem R7(BCR)(hg:Gl X x)(hm:Co X.mg u)(h:Q u s)
  (hd:BM x "__debug__":=by decide):AtJ:=
 Calls.Name_function_global I.ok.kind hg (Calls.loadGlobal_global A1O hm h) hd
theorem Er(BCR)(ye)(hv:wE u)(h:Q u s)
  (hn:lx :=by decide) (hd:BM x "__debug__":=by decide):AtJ:=ACq mb h1 h2 I.mod.blt (Calls.Name_function_global I.ok.kind hg (Calls.loadGlobal_builtin A1O hm (B6 I.ok.blt (h1.keeps I.bk)) (GA h2 x hn hv) h) hd)
def Yv(ta tb:TE)(k:Int ->SH Int):Ix:=fun σ H=>(A1M (AJo (k i j H2)))
def adg(AMt):TE:=AbD (Q (B4 (i+j)) H2)
def adh(AMt):TE:=AbD (Q (B4 AYR) H2)
def adi(AMt):TE:=AbD ((A1l)/\Q (B4 (i*j)) H2)
variable{a b:Expr}{ta tb:TE}{pos:Pos}
def PC(X:Cx)(op:CmpOp)(a b:Expr)(t:TE):Prop:=
 ∀(pins:c7) (s:Shared) (σ:St) (H:Hp) (Q:VK),Ĝ (BDi (ia (compareOp op v u) (AAu EP)))
def CT(p:AH5 Bool)(ta tb:TE):TE:=AbD (Q (.bl (p i j)) H2)
abbrev tLt:AHE:=AW3 (i<j)
abbrev tLe:AHE:=AW3 (i<=j)
abbrev tGt:AHE:=AW3 (j<i)
abbrev tGe:AHE:=AW3 (j<=i)
abbrev adk:AHE:=CT fun i j=>(Θ (i=j))
abbrev adl:AHE:=CT fun i j=> !(Θ (i=j))
def adn(ta:TE):TE:=O_ (Q (AnE Ι) H1)
def acn(ta:TE):TE:=O_ (Q (.bl (!(Θ (x= Ι)))) H1)
def tB(t:TE):TT:=p_ t (AMM (Q c H1))
theorem z7o{op:CmpOp}{t:TE}(h:PC X op a b t)(h1:ARI:=by first | exact R8 _ τ τ | rfl):PT X ANX (tB t):=by
 show Aj6;show Aty Amd h1 (bV h1 fun u s2 h2=>bV h2 (Α c s3 hz1)) h1;show MG hz1;show JO d q q1;cases r1;exact A8v
theorem yl5{e:Expr}{t:TE}(h:PE X e t)(he:∀whole,isTrue e X.env whole=(do let v<- whole;standAt e.pos;holding [v] (truthy v)):=by show NU):PT X e (tB t):=by
 show Aj6;refine isTrue_plain (TU Amd v) (he _);show MG hz1;show JO d q q1;cases r1;exact A8v
variable{tA Ir :TT}{rest:AE}
def aao(t u:TT):TT:=SL t c (GG c (AGt u) (Q false H1))
def tOr(t u:TT):TT:=SL t c (GG c (Q true H1) (AGt u))
def aap(t:TT):TT:=SL t c (Q (! c) H1)
theorem yfl(AiG):PW X AsQ tA:=by
 intro wh pins s σ H Q I h;show PP isTrue_and (EB ha Q I h) c e;cases c with
 | true=>exact isTrue_and_nil e
 | false=>exact e
theorem yi7(AiG):PW X AsR tA:=by
 intro wh pins s σ H Q I h;show PP isTrue_or (EB ha Q I h) c e;cases c with
 | false=>exact isTrue_or_nil e
 | true=>exact e
theorem yl8(ha:PT X a tA)(hb:PW X AVY Ir):PW X AVZ (aao tA Ir):=by
 intro wh pins s σ H Q I h;show PP isTrue_and fh c hz1;show UD H1 I1 q1;cases c with
 | true=>exact BDl
 | false=>show NO H1 I1 q1
theorem ym9(ha:PT X a tA)(hb:PW X AVa Ir):PW X AVb (tOr tA Ir):=by
 intro wh pins s σ H Q I h;show PP isTrue_or fh c hz1;show UD H1 I1 q1;cases c with
 | true=>show NO H1 I1 q1
 | false=>exact BDl
theorem yko(AiG):PT X AX3 (aap tA):=by
 show ER;exact isTrue_not (EB ha (fun c H1=>Q (! c) H1) I h)
def R9(AMt):TE:=O_ (AMM (GG c (AGt tb) (Q ACw H1)))
def aaq(AMt):TE:=O_ (AMM (GG c (Q AEb H1) (AGt tb)))
def Sd(ta:TE):TE:=O_ (AMM (Q (.bl (! c)) H1))
theorem yl2{op}{t:TE}(h:PE X a t):kF BoolOp op [a] t:=fun pins s σ H Q I hw=>BoolOp_one (APd Q I hw)
theorem yk8(ha:eg)(hb:PE X AVY tb):PE X AVZ (R9 ta tb):=by
 show ER;show PP BoolOp_and fh v yq;show MG yq;show Anm;cases r1;show AgE;cases c with
 | true=>exact N3 hb Q I1 q1
 | false=>exact ApR AEO
theorem ymg(ha:eg)(hb:PE X AVa tb):PE X AVb (aaq ta tb):=by
 show ER;show PP BoolOp_or fh v hq8;show MG hq8;show Anm;cases r1;show AgE;cases c with
 | false=>exact N3 hb Q I1 q1
 | true=>exact ApR lj
theorem yi8(ha:eg):PE X AX3 (Sd ta):=by
 show ER;show PP UnaryOp_ fh v Sg;show MG Sg;show Anm;cases r1;exact not_of (wpAny_truthy_bool (ApR (.bl (! c))))
def tIf(t:TT)(ta tb:TE):TE:=SL t c (GG c (AGt ta) (AGt tb))
theorem yba{c:Expr}(hc:PT X c tA)(ha:eg)(hb:ADS):PE X Avf (tIf tA ta tb):=by
 show ER;show PP wpAny_IfExp (ax hc) d hz1;show UD H1 I1 q1;cases d with
 | true=>exact N3 ha Q I1 q1
 | false=>exact N3 hb Q I1 q1
#where
def kZ(AlM):Prop:=
 Rd H a ir\/
  ∃(o:Obj) (its:D7) (n:Nat),AsY/\o.cls= Rc /\AgL/\o.data= .seq its n/\BIu/\BKD
def pO(AlM):Prop:=
 Rd H a JI\/
  ∃(o:Obj) (its:D7) (n:Nat),AsY/\Ai1 /\o.data= .seq its n/\BIu/\BKD
def aar:Ñ MB
 | AJ=>some Ι
 | .bool b=>some ATu
 | ANk=>some vy
 | ANs=>some ŉ
 | .bytes b _=>some (.J4 b)
 | .float b _=>some (.flt b)
 | AF=>some Ct
 | E1 n=>some (.ty n)
 | _=>none
theorem RelV.abs(A9L):aar u=some x:=by
 cases x with
 | non=>cases r;rfl
 | bl _=>cases r;rfl
 | int _=>show AEV
 | str _=>show AEV
 | J4 _=>show AEV
 | flt _=>show AEV
 | ref _=>cases r;rfl
 | ty _=>cases r;rfl
theorem RelV.inj(A8')(r:tF)(q:IN):x=y:=zF (r.abs.symm.trans q.abs)
theorem Vals.inj:∀{xs ys:χ} {us:Β},Q1 ->p6 ys ->xs=ys
 | _,_,_,BS,BS=>rfl
 | _,_,_,xw,.cons r' t' =>EW Alx (Vals.inj t t')
section
variable{X:Cx}{pins:c7}{σ:St}{H:Hp}{s:Shared}{a:Addr}{xs ys:χ}
theorem Inv.list(I:Ε)(h:ANn kZ):Aq' (Agl PlainL s.heap):=by
 rcases h with h | ⟨o,its,n,hk,hc,hd,hs,hz,r⟩
 ·show Aay (h.ok I.hok);exact⟨its,r,⟨_,n,e,rfl,rfl,rfl⟩,z⟩
 ·show HQ its.toList r ⟨o,n,A5b,hc,hd,AN hs⟩
  have e:=r.length;show ASu e;omega
theorem Inv.tuple(I:Ε)(h:ANn pO):Aq' (Agl IsTup s.heap):=by
 rcases h with h | ⟨o,its,n,hk,hc,hs,hz,r⟩
 ·obtain⟨z,its,r,p⟩:=h.ok I.hok;exact⟨its,r,p,z⟩
 ·show HQ its.toList r ⟨o,A5b,hc,n,AN hs⟩
  have e:=r.length;show ASu e;omega
theorem Inv.list_inj(I:Ε)(h:ANn kZ)(h' :uA kZ a):xs=ys:=by
 obtain⟨its,r,⟨o,n,e,_,_,d⟩,_⟩:=AfI;obtain⟨its',r',⟨o',n',e',_,_,d'⟩,_⟩:=I.list h';rw[e] at e';cases e';rw[d] at d';show ADe d' d1;have:its=its' :=AN (congrArg Array.toList d1)
 show UC;exact Alx
theorem Inv.tuple_inj(I:Ε)(h:ANn pO)(h' :uA pO a):xs=ys:=by
 obtain⟨its,r,⟨o,e,_,n,d⟩,_⟩:=I.tuple h;obtain⟨its',r',⟨o',e',_,n',d'⟩,_⟩:=I.tuple h';rw[e] at e';cases e';rw[d] at d';show ADe d' d1;have:its=its' :=AN (congrArg Array.toList d1)
 show UC;exact Alx
#where
abbrev Cx.wish(X:Cx)(E:dG):Cx:={X with xe:=E}
abbrev Cx.nox(gy):Cx:=X.wish fun _ _=>False
section
variable{X:Cx}{pins:c7}{σ:St}{H:Hp}{s:Shared}{E:dG}
#where
section
variable{X:Cx}{st:Stmt}{rest:IQ}{t u:TS}{e:Expr}{te:TE}{pos:Pos}
def Sh:TS:=bS lr
def aas(t u:TS):TS:=bS (t {D with nx:=u D} σ H)
theorem yim:DY X [] Sh:=fun _ _ σ H _ I h=>(AhX σ H I h)
theorem zzx(h1:PS X st t)(h2:DY X rest u):DY X (st::rest) (aas t u):=by
 show UR;show PP wpAny_execs_cons (EB h1 {D with nx:=u D} I h) f q;cases f with
 | next=>
  obtain⟨σ',H',I',q⟩:=q;exact h2 pins s1 σ' H' D I' q
 | ret v=>exact q
 | brk=>exact q
 | cont=>exact q
theorem z82(h1:PS X st t):DY X [st] t:=by
 show UR;show PP wpAny_execs_cons (EB h1 D I h) f q;cases f with
 | next=>exact wpAny_execs_nil q
 | ret v=>exact q
 | brk=>exact q
 | cont=>exact q
def aat:TS:=bS (D.bk σ H)
def aco:TS:=bS (D.ct σ H)
theorem Inv.quiet(AoZ){s:Shared}(I:Ε):interactive X.env=false:=Q2 interactive I.ok.kind
def Sv(AEy):TS:=X0 te _ (Sk H1)
theorem z6k(he:SB)(hs:Ang e:=by rfl):PS X (.Expr e pos) (Sv te):=by
 show UR;exact wpAny_Expr_any (bV nK (u8 Es (by show MG Es;exact⟨σ,H1,I1,q1⟩))) I.quiet hs
def aau(AEy):TS:=bS (te σ H D.rt)
theorem z40(he:SB):PS X (.Return AQn pos) (aau te):=by
 show UR;exact wpAny_Return_some (bV nK (u8 Et (by show MG Et;exact⟨x,σ,H1,I1,r1,q1⟩)))
def acp:TS:=fun D _ H=>D.rt Ι H
def aav(c:TT)(t u:TS):TS:=X0 c b (GG b (t D σ H1) (u D σ H1))
theorem ymr{c:Expr}{a b:IQ}{tc:TT}(hc:PT X c tc)(ha:DY X a t)(hb:DY X b u):PS X (.If c a b pos) (aav tc t u):=by
 show UR;show PP wpAny_If (ax hc) d hz1;show UD H1 I1 q1;cases d with
 | true=>exact N3 ha D I1 q1
 | false=>exact N3 hb D I1 q1
def aaw:TS:=Rs
#where
abbrev TG:=V ->St ->AI0 Ix
abbrev Iu:=χ ->St ->AI0 Ix
def PG(X:Cx)(target:Expr)(t:TG):Prop:=
 ∀(pins:c7) (s:Shared) (σ:St) (H:Hp) (v:V) (u:Value) (Q:Ix),Ε ->LH ->t v σ H Q ->
  Agr (assign target X.env u) (ARU (Q σ' H'))
def Mg(X:Cx)(ts:AE)(t:Iu):Prop:=
 ∀(pins:c7) (s:Shared) (σ:St) (H:Hp) (vs:χ) (us:Β) (Q:Ix),Ε ->AC_ ->t vs σ H Q ->
  Agr (assignInOrder ((assignEach ts X.env).map (·.2)) us) (ARU (Q σ' H'))
abbrev Iv:=A6J
def Sw(X:Cx)(t:Iv):Prop:=
 ∀(pins:c7) (s:Shared) (σ:St) (H:Hp) (o i v:V) (ov iv u:Value) (Q:DO Hp),FH Ε (RelV o ov) (RelV i iv) LH (t o i v H Q) (Agr (setItem ov iv u) (∃H',ŗ /\Q H'))
abbrev Yw:=oP
def PIp(X:Cx)(op:Operator)(t:Yw):Prop:=
 ∀(pins:c7) (s:Shared) (σ:St) (H:Hp) (x y:V) (v u:Value) (Q:VK),AFk PQ IN (t x y H Q) (inplaceOp op v u)
section
variable{X:Cx}{pos:Pos}
def J6(Uf):TG:=AKF (Q AJ' H)
theorem yhl(AZy)(o_)(hx:nc)(hf:Zs\/Z_:=by first | show ABh | show Bz rfl | assumption):PG X ü (J6 i):=by
 intro pins s σ H v u Q I r h;exact wpAny_assign_Name (Yu I hN hi hx r (fun s' I' =>(LW H I' h)) hf)
def aax:Iu:=VZ vs Q (vs= []/\Q σ H)
def Sx(t:TG)(u:Iu):Iu:=VZ vs Q (∃v r,vs=v::r/\t v σ H fun σ' H' =>u r σ' H' Q)
theorem yhe:Mg X [] aax:=by
 intro pins s σ H vs us Q I r h;obtain⟨e,h⟩:=h;subst e;cases r;exact assignInOrder_nil ⟨σ,H,I,h⟩
theorem ya7{e:Expr}{es:AE}{t:TG}{u:Iu}(h1:PG X e t)(h2:Mg X es u)
  (hs:AGx Da (·.2)=ATS e::AGx es (·.2):=by rfl):Mg X Da (Sx t u):=by
 intro pins s σ H vs us Q I r h;show P7 v vr e1 h;subst e1;cases r with
 | cons r rr=>
  rw[hs];show PP assignInOrder_cons (EB h1 _ _ _ I r h) _ hz1;obtain⟨σ1,H1,I1,q1⟩:=hz1;exact h2 pins s1 σ1 H1 _ _ Q I1 rr q1
def aay(A'b):TG:=AzK n9
theorem yji{es:AE}{k:Nat}{t:Iu}{n:Nat}(hc:D6)(h:Mg X es t)
  (hn:Hc assignEach es X.env=n:=by rfl) (hst:(assignEach es X.env).findIdx? (·.1)=none:=by rfl):PG X AzZ (aay X.K n t):=by
 intro pins s σ H v u Q I r hw;obtain⟨a,xs,e1,hq,hl,hw⟩:=hw;subst e1;cases r;obtain⟨its,rv,ht,hz⟩:=I.tuple hq;refine assign_Tuple_tuple gc ht (by simp [hn,<- hl,rv.length]) hst (AD h' hx)
 show Ay_ (LX (hx b o AOj e));exact h pins _ σ H xs _ Q I1 (Bi rv) hw
def fY(to ti:TE)(t:Iv):TG:=AKF (iE to o (Ll ti i (t o i v H2 fun H3=>Q σ H3)))
theorem ykn{o i:Expr}{to ti:TE}{t:Iv}(ho:PE X o to)(hi:PE X i ti)(hs:Sw X t)
  (ha:∀v,assign (ATh o i) X.env v=(do
   let ov<- A2M o
   let iv<- holding [v,ov] (eval i X.env)
   standAt pos
   A'n
   Aye):=by show NU):PG X (ATh o i) (fY to ti t):=by
 intro pins s σ H v u Q I r h;rw[ha];show HC wpAny_holding (Pw ALk ov Eu);show MG Eu;show HC wpAny_holding (bV Ah7 (Α iv s2 Ew));obtain⟨y,H2,I2,r2,q2⟩:=Ew;show HC wpAny_standAt (z6 (wpAny_holding (bV (APv hs x y v ov iv u _ I2 r1 r2 r q2) (Α _ s3 hz1))));show UD H3 I3 q3;exact wpAny_release ⟨σ,H3,I3,q3⟩
def Sy(te:TE)(g:TG):TS:=X0 te x (g x σ H1 D.nx)
theorem ykf{tg e:Expr}{te:TE}{g:TG}(he:SB)(hg:PG X tg g)(hs:AWf [tg] e:=by rfl)(hw:swappedStores [tg] e X.env=pure none:=by rfl)
  (h1:AGx [tg] (·.2)= [ATS tg]:=by rfl):AMh [tg] e (Sy te g):=by
 show UR;refine wpAny_Assign_stores (TU nK v) hs hw;show MG hz1;rw[h1];exact bV (N3 hg x v _ I1 r1 q1) fun _ s2 q=>q
theorem SJ{i:Nat}{x:Str}{e:Expr}{te:TE}{pos' :Pos}(o_)(hx:nc)(he:SB)(hs:Ð e (SG pos'):=by rfl)(hf:Zs\/Z_:=by first | show ABh | show Bz rfl | assumption):
  AMh BGe e (Sy te (J6 i)):=by
 show UR;refine wpAny_Assign_Name (TU nK v) hs;obtain⟨y,H1,I1,r1,q1⟩:=hz1;exact Yu I1 hN hi hx r1 (fun s2 I2=>(LW H1 I2 q1)) hf
def aaz(i j:Nat)(ta:TA):TS:=X0 ta vs (∃v w,vs= [v,w]/\D.nx ((σ.set i cq).set j (D' w)) H1)
theorem yj1{i j:Nat}{x y:Str}(A9O){px py pt:Pos}{kt k2 Mh}(hc:D6)(hN:X.N.Nodup)(hi:Ps)(hj:ADT)(hij:i≠j)
  (hx:Z_) (hy:AON) (ha:Aiw)
  (hw:swappedStores AHS AHL X.env=pure (D' gx))
  (hs:AWf AHS AHL:=by rfl):
  AMh AHS AHL (aaz i j ta):=by
 show UR;rw[exec_Assign_arm];show L1 wpAny_standAt;rw[hs];show tz;show mw
 show HC Tuple_ (Pw (ha _ pins s σ H _ I h) us aaA);show AP5 aaA;obtain⟨v,w,e1,q1⟩:=q1;subst e1;obtain⟨u1,u2,rfl,rv,o9⟩:∃u1 u2,us= [u1,u2]/\RelV v u1/\RelV w u2:=by
  cases r1 with
  | cons p q=>
   cases q with
   | cons p' q' =>
    cases q';exact C3 _ _ p p'
 show AWs (by show AQ 2;decide)
 have I2:ADu (AKC (s1.heap.push (ä [u1,u2].toArray))):=Ŭ;rw[hw];show tz;show ia (do rule "assign.swapped-stores";let items<- unpackItems (AW s1.heap.objs.size) 2 none;assignInOrder [fun v=>bindName X.env y v,fun v=>bindName X.env x v] items.reverse;pure Flow.next) _ _ _;show HC wpAny_rule (z6 (unpackItems_tuple (items:= #[u1,u2]) (I.ok.hd hc) (IsTup.new s1.heap _) (AD h' hx')));have I3:=I2.kept (h' :=h') (t' :=s1.toks) (LX (hx' b o AOj e));show HC assignInOrder_cons (wpAny_bindName (Yu I3 hN hj Af0 o9 (Iq s2 I4) Af2));refine assignInOrder_cons (wpAny_bindName (Yu I4 hN hi (Db hx) rv (fun s3 I5=>assignInOrder_nil (z7 ?_)) (CL hx)));rw[List.set_comm _ _ (ABM hij)] at I5;exact LW H1 I5 q1
def ado(i:Nat)(te:TE)(ti:Yw):TS:=bS (∃x,AAy (D' x)/\iE te y (ti x y H1 fun z H2=>D.nx (sR (D' z)) H2))
def acq(to ti te:TE)(aaB:oP)(tip:Yw)(aaC:Iv):TS:=X0 to o (Ll ti i (aaB o i H2 fun x H3=>te σ H3 fun y H4=>tip x y H4 fun z H5=>aaC o i z H5 fun H6=>(Sk H6)))
def adp(X:Cx)(t:oP):Prop:=
 ∀(pins:c7) (s:Shared) (σ:St) (H:Hp) (o i:V) (ov iv:Value) (Q:VK),AFk (RelV o ov) (RelV i iv) (t o i H Q) (getItem ov iv)
def ipI(f:Ahm):Yw:=Ak6 (f i j)
#where
section
variable{X:Cx}{pos:Pos}
def Mi(c:TT)(tb:TS):TS:=bS (∃W:ATb,(∃m,W m σ H)/\∀m σ H,W m σ H ->
 iE c b (GG b (BGZ (W m' σ' H') (tb A_0 σ H1)) (Sk H1)))
theorem ybg{c:Expr}{body:IQ}{tc:TT}{tb:TS}(hp:Aqa)(hc:PT X c tc)(hb:Ay4):PS X A4f (Mi tc tb):=by
 show UR;obtain⟨W,⟨m0,w0⟩,turn⟩:=h;refine wpAny_While (codeAny_whileLoop (ĭ n (ARU (W n σ' H'))) ?_ m0 ⟨σ,H,I,w0⟩);rintro n s1 ⟨σ1,H1,I1,w1⟩;show AAG (hc pins s1 σ1 H1 _ I1 (turn n σ1 H1 w1)) (LS s2 hz1);show UD H2 I2 q2;cases b with
 | true=>
  obtain⟨N,hN,q2⟩:=q2;show XZ;show AAG (hb pins s2 σ1 H2 _ I2 q2) (Α f s3 q3);cases f with
  | next=>
   obtain⟨σ3,H3,I3,n3⟩:=q3;obtain⟨m',hm,w3⟩:=hN σ3 H3 n3;exact⟨m',hm,σ3,H3,I3,w3⟩
  | cont=>
   obtain⟨σ3,H3,I3,n3⟩:=q3;obtain⟨m',hm,w3⟩:=hN σ3 H3 n3;exact⟨m',hm,σ3,H3,I3,w3⟩
  | brk=>exact q3
  | ret v=>exact q3
 | false=>
  show Ah1 (AhX σ1 H2 I2 q2)
#where
structure It where
 go:SH Nat
 yld:pk Hp ALS
 stop:SH Nat
def nO(X:Cx)(pins:c7)(H:Hp)(b:Addr):Prop:=
 Fr/\ACS/\AEq/\ (b∈X.ex\/ù b)/\ (ACh b)/\JE AJb (AM≠b)
theorem Inv.fpOk{X:Cx}(Ab1){H H' :Hp}{s:Shared}{b:Addr}(I:Ε)(hb:YR b)(hn:ABg):AUu:=by
 refine⟨hn,Nat.ne_of_gt (zM I.lt hb),I.nofs hb,.inr (zO I.sz hb),A6Y,A3x⟩
 ·show WP v q AXw (Ū (zM q.lt (B6 z hb)))
 ·exact Ū (zM (zG (AKG I.pin)) (B6 z hb))
structure Turn (ABd) (K:W.Frag) (tg:Expr) (J:It) (fp:Ν) (it:Addr) (tn:AMF):Prop where
 mem:it∈fp
 obj:A5f
 keep:BDZ
 item:AuW (∀(i:Nat) (pins:c7) (s:Shared) (σ:St) (H:Hp) (E:dG),Ρ Ε AU4 AJ6 (J.go i H) (Aat (OM s1 (∃u,L4 r/\
   A5_ A0r (Sr ABg) s1))))
 done:AuW (∀(i:Nat) (pins:c7) (s:Shared) (σ:St) (H:Hp) (E:dG),Ρ Ε AU4 AJ6 (J.stop i H) (Aat (OM s1 AzY)))
 self:∀(A:Around) (i:Nat) (s:Shared) (Q:dG) (E:dG),A3i
abbrev TI:=AXG ACQ
def PIE(BBp):Prop:=
 ∃(it:Addr) (fp:Ν) (tn:AMF) (J:It) (H' :Hp),itv= .ref it/\cb s2/\am Turn X.K tg J fp it tn/\Ax3/\ (Nn fp AUu)/\AYm
def PI(A'm):Prop:=
 ∀(pins:c7) (s:Shared) (σ:St) (H:Hp) (R:ACQ),rh (wi σ H R) (WH AUF (fun v s1=>Avq PIE X.xe s1))
theorem Pu(BCQ){tg:Expr}{it:Addr}{u:Value}{o:Obj}{n:String}{vs:D7}{Q:D4 Unit}(ho:AHn it)(hc:AQc n)(hd:o.data= AMf)
  (hn: (BFJ).contains n=false) (hQ:Q () s):lm BH5:=by
 cases tg<;>first
  | exact z7 hQ
  | (
    cases u<;>first
    | exact z7 hQ
    | (
      show NA wpAny_load ho;rw[hc,hd];show lm (ADR (Mn ((BFJ).contains n) (vs[0]?==some (rawInt _))));rw[dL (by intro h;rw[hn,Bool.false_and] at h;cases h)]
      exact z7 hQ))
def Mj(K:W.Frag)(a:Addr):It:=
 AFx (Apt UZ) (∀xs,UZ ->Sm) (Amu UZ)
def J7(K:W.Frag)(a:Addr):It:=
 AFx (Apt n9) (∀xs,n9 ->Sm) (Amu n9)
def Hw(lo:Int)(n:Nat):It:=A'e AfP
theorem zvo(A'X):AGm (Mj K a) (h.IsListIter it a i) where
 mem:=AY
 obj:=Ŷ (by
  show AXx
  subst e;show AO4;exact AFi)
 keep:=AZX
 item:=by
  intro X hP hw hK hc i pins s σ H E I hf st hg;show KB;show Ari;show AMk;show Aqo;show VC
  refine wpAny_pyNext_list_item st p.isList (x:=u) ATW (Yf st' sb)
  show AOZ;show KW o e c d st';exact BAi I.list_inj
 done:=by
  intro X hP hw hK hc i pins s σ H E I hf st hg;show KB;show Aqz;show AMk;show VC
  show RF;exact wpAny_pyNext_list_end gc st p.isList uv AG6
 self:=fun _ _ _ _ _ st h=>wpAny_pyIter_listiter st h
theorem zri(A'X):AGm (J7 K a) (h.IsTupleIter it a i) where
 mem:=AY
 obj:=Ŷ (by
  show AXx
  subst e;show AO4;exact AFi)
 keep:=AZX
 item:=by
  intro X hP hw hK hc i pins s σ H E I hf st hg;show KB;show Ari;show AsL;show Aqo;show VC
  refine wpAny_pyNext_tuple_item st AuJ (x:=u) ATW (Yf st' sb)
  show AOZ;show KW o e c d st';exact BAi I.tuple_inj
 done:=by
  intro X hP hw hK hc i pins s σ H E I hf st hg;show KB;show Aqz;show AsL;show VC
  show RF;exact wpAny_pyNext_tuple_end gc st AuJ uv AG6
 self:=fun _ _ _ _ _ st h=>wpAny_pyIter_tupleiter st h
theorem z2r(eS){tg:Expr}(it:Addr)(lo:Int)(n:Nat):AGm (Hw lo n) (IsRangeIter h it (lo+ D9 i*1) (EO - D9 i) 1) where
 mem:=AY
 obj:=Ŷ (by
  show AXx
  subst e;exact Cb st (fun v z=>by
   have z' :Data.fields _=Data.cell v:=z;cases z'))
 keep:=AQY (xN it st)
 item:=by
  intro X hP hw hK hc i pins s σ H E I hf st hg;show KB;show VC
  have W:=A4Z Walks.range gc it lo 1 n;refine A6n hg st fun v h' tk hv st' kk=> ?_;show IU hv;have I1:af OW:=I.turned (fun b o hb e=>kk b o (Bi hb) e) f0 f1 f3 f4 f5
  show fN _ (Pu (s:=OW) (n:= "range_iterator") st' rfl rfl τ ⟨AfP,H,I1,Do t,k_,st',AIi hf⟩)
  rw[Int.mul_one]
 done:=by
  intro X hP hw hK hc i pins s σ H E I hf st hg;show KB;show VC
  exact wpAny_pyNext_range_end (I.ok.hd hc) st (by have:n<=i:=hg;omega) AG6
 self:=fun _ _ _ _ _ st h=>wpAny_pyIter_rangeiter st h
section
variable{X:Cx}{tg:Expr}
def acr(AYP):TI:=AHw tl x (AQE (∃xs,ASI) (Š Mj))
def adq(AYP):TI:=AHw tl x (AQE (∃xs,AiX) (Š J7))
theorem zz9(AoZ){s:Shared}{R:ACQ}{E:dG}{lo hi:Int}{t u v:Tok}{tk:Nat}(I:Ε)(h1: sN<=lo)(h2:lo<2^62)(h3: sN<=hi)(h4:hi<2^62)
  (q:R (Hw lo AnL) H):wpAny SF X.A (pyIter YA) (PIE X pins σ tg R) E Azb:=by
 refine wpAny_pyIter_range (IsRange.new ..) (small_one h1 h2 h3 h4) ?_;have I1:af Azb:=I.kept rV;refine⟨AiU,[AiU],_,_,H,rfl,
  I1.kept (t' :=tk) rV,z2r _ lo AnL,?_,FL,q⟩
 ·have e1:lo+ ALH*1=lo:=AY
  have e2:B5 AnL - ALH=Builtin.Range.rangeSize lo hi 1:=by rw[rangeSize_one];split<;>omega
  rw[e1,e2];exact KO
 ·have e:b=AiU:=AN hb
  subst e;exact AKS
def SM(ta:TA):TI:=AKR (∃j:Int,vs= [cE]/\ sN<=j/\AQo/\R (Hw 0 j.toNat) H1)
def SN(ta:TA):TI:=AKR (∃i j:Int,vs= ć/\ (Arp)/\R (Hw i AZI) H1)
theorem z8n{a:Expr}(ArW)(hg:Gl X "range")(hm:Fh "range")(ha:AWW)(hs:starEach [a] X.env= AOG a:=by rfl):eR (AJ4 "range") (SM ta):=by
 show fe;show Alr boot_range;show AM6;obtain⟨j,e,q1,q2,q⟩:=q1;subst e;cases r1 with
 | cons r rr=>
  cases rr;show IU r;exact call_range_1 (zz9 I1 ξ ξ q1 q2 (Bi q))
theorem z7t(A9O){p pos:Pos}(hg:Ag3)(hm:Fh "range")(ha:Aiw)(hs:starEach b9 X.env= [ANI a,ANI b]:=by rfl)(hs2:starEach [b] X.env= AOG b:=by rfl):
  eR (Á "range" b9) (SN ta):=by
 show fe;refine Call_ (Er I hg hm boot_range (PyProof.Rows.callWith_type1 (Pw AJl us ⟨vs,H1,I1,r1,q1⟩) (by rw[hs,hs2]) (EK hs2)))
 obtain⟨i,j,e,⟨q1,q2,q3,q4⟩,q⟩:=q1;subst e;cases r1 with
 | cons r rr=>
  cases rr with
  | cons r' rr=>
   cases rr;show IU r;show VS t' r';exact call_range_2 (zz9 I1 q1 q2 q3 q4 q)
def aaD(wi:TI)(g:TG)(tb:TS):TS:=X0 wi J (AGQ Ix (W 0 m σ H1) (∀i m σ H,ANA ->
 (J.stop i H/\lr)\/ (J.go i H/\ASf J.yld Aeb)))
def uo(fp:Ν)(h:Heap):c7:=fp.filterMap fun b=>AA h.get? b fun o=>(b,o)
theorem Yx{fp:Ν}{h:Heap}{b:Addr}{o:Obj}(hb:b∈fp)(e:TM):(b,o)∈uo fp h:=List.mem_filterMap.mpr ⟨b,hb,Afk⟩
theorem z6s{fp:Ν}{h:Heap}{p:Addr×Obj}(hp:p∈uo fp h):AM∈fp/\ACG h.get?:=by
 show At b hb e List.mem_filterMap.mp hp;cases q:h.get? b with
 | none=>show gN
 | some o=>
  show MZ;have e' :(b,o)=p:=zF e;subst e';exact⟨hb,q⟩
theorem Inv.pinned(AKV){fp:Ν}(I:Ε)(hf:AMD)(ho:Sr (AeK Mo)):Inv X (pins++uo fp s.heap) σ H s:=
 Az0 (AzV (DH (I.pin p (zQ _ z))) (AC (by
  show M' hb (z6s z);obtain⟨f0,f1,f2,_⟩:=hf AM hb;show AS o e' d ho AM hb;rw[e] at e';cases e';exact⟨e,f0,f1,f2,d⟩)))
theorem Inv.unpinned{pins pl:c7}(du){s:Shared}(I:Inv X (pins++pl) σ H s):Ε:=Az0 (I.pin p (zQ _ (zP _ hp)))
theorem Yy{iter:Expr}{body:IQ}{wi:TI}{g:TG}{tb:TS}{pos:Pos}(hp:Aqa)(hc:D6)(hi:AyP)(hg:PG X tg g)(hb:Ay4)
  (hs:h_ iter:=by show NU):PS X (.For tg iter body [] pos) (aaD wi g tb):=by
 show UR;refine wpAny_For (bV AT_ (u8 h1 Az8)) hs;obtain⟨it,fp,tn,J,H2,e,I2,T,st2,f2,W,⟨m0,w0⟩,turn⟩:=h2;subst e
 
 have stat:FD H' Hp AQ3 (Sr AUu):=fun hn b hb=>⟨hn b hb,re f2⟩;refine codeAny_forLoop_any (ĭ n (∃i σ' H',BHi Ab3 n σ')) ?_ m0 ⟨0,σ,H2,I2,st2,AIi f2,w0⟩;rintro n s3 ⟨i,σ3,H3,I3,st3,fr3,w3⟩;rcases turn i n σ3 H3 w3 with ⟨stop,qn⟩ | ⟨go,N,hN,step⟩
 ·show AAG (APo T.done X hc i pins s3 σ3 H3 X.xe I3 (stat fr3) st3 stop) (Α r s4 hz1);obtain⟨hr,I4⟩:=hz1;subst hr;exact AhX σ3 H3 I4 qn
 ·show AAG (APo T.item X hc i pins s3 σ3 H3 X.xe I3 (stat fr3) st3 go) (Α r s4 hz1);show UD u hr h4;subst hr;show AAG h4 (Α _ s5 aaE);obtain⟨x,H5,I5,r5,y5,Px,Yz⟩:=aaE;have I5' :=I5.pinned (stat Yz) (T.obj _ _ Px);show AAG (hg _ s5 σ3 H5 x u _ I5' r5 (step x H5 y5)) (Α _ s6 hz1);obtain⟨σ6,H6,I6,q6⟩:=hz1;show AAG (hb _ s6 σ6 H6 _ I6 q6) (Α f s7 q7);have again:∀{σ7:St} {H7:Hp},Inv X (pins++uo fp s5.heap) σ7 H7 s7 ->N σ7 H7 ->AXR (∃i σ' H',Inv X pins σ' H' s7/\tn i s7.heap/\ AQ3/\W i m σ' H') :=fun{σ7 H7} I7 n7=>by
   obtain⟨m',hm,w7⟩:=hN σ7 H7 n7;refine⟨m',hm,By,σ7,H7,I7.unpinned,A8L Px I7.pin,FL,w7⟩;show c0 e d (AaQ Px);exact A_N I7.pin
  cases f with
  | next=>obtain⟨σ7,H7,I7,n7⟩:=q7;exact again I7 n7
  | cont=>obtain⟨σ7,H7,I7,n7⟩:=q7;exact again I7 n7
  | brk=>obtain⟨σ7,H7,I7,q7⟩:=q7;exact⟨σ7,H7,I7.unpinned,q7⟩
  | ret v=>obtain⟨x7,σ7,H7,I7,r7,q7⟩:=q7;exact⟨x7,σ7,H7,I7.unpinned,r7,q7⟩
#where
theorem ybn(EF){a:Addr}{xs:χ}{g:TG}{tb:TS}{D:Ends}{σ:St}{H:Hp}(Pv:ATb)(h0:Pv 0 σ H)(hl:∀i σ H,AL8 ->xt ->UZ)
  (hs:∀i x σ H,Sm ->xt ->ApX x) (hd:∀σ H,Pv xs.length σ H ->lr):
  AGQ Ix AiY (∀i m σ H,ANA ->
   ((Mj K a).stop i H/\lr)\/ ((Mj K a).go i H/\A2Q Mj)):=by
 show AX (fun i m σ H=>m=xs.length - i/\AL8/\xt) Avj
 rintro i m σ H ⟨rfl,hi,p⟩;have q:=hl i σ H hi p;by_cases hlt:i<xs.length
 ·show RI ⟨⟨xs,xs[i],q,BD hlt⟩,AIj,fun σ' H' p' =>(C3 (xs.length - BE) ρ hlt p'),Α x H' y⟩
  obtain⟨e,y⟩:=y;subst e;exact hs i x σ _ (y xs q) p
 ·have e:i=xs.length:=ρ
  subst e;exact v6 ⟨xs,q,E7⟩ (hd σ H p)
theorem ygr(EF){a:Addr}{xs:χ}{g:TG}{tb:TS}{D:Ends}{σ:St}{H:Hp}(Pv:ATb)(h0:Pv 0 σ H)(hl:∀i σ H,AL8 ->xt ->n9)
  (hs:∀i x σ H,Sm ->xt ->ApX x) (hd:∀σ H,Pv xs.length σ H ->lr):
  AGQ Ix AiY (∀i m σ H,ANA ->
   ((J7 K a).stop i H/\lr)\/ ((J7 K a).go i H/\A2Q J7)):=by
 show AX (fun i m σ H=>m=xs.length - i/\AL8/\xt) Avj
 rintro i m σ H ⟨rfl,hi,p⟩;have q:=hl i σ H hi p;by_cases hlt:i<xs.length
 ·show RI ⟨⟨xs,xs[i],q,BD hlt⟩,AIj,fun σ' H' p' =>(C3 (xs.length - BE) ρ hlt p'),Α x H' y⟩
  obtain⟨e,y⟩:=y;subst e;exact hs i x σ _ (y xs q) p
 ·have e:i=xs.length:=ρ
  subst e;exact v6 ⟨xs,q,E7⟩ (hd σ H p)
theorem z9i{lo:Int}{n:Nat}{g:TG}{tb:TS}{D:Ends}(du)(Pv:ATb)(h0:Pv 0 σ H)
  (hs:∀i σ H,CO ->xt ->ApX (B4 (lo+i))) (hd:∀σ H,Pv n σ H ->lr):
  AGQ Ix AiY (∀i m σ H,ANA ->
   (A0j)\/ (AuS (ASf (Hw lo n).yld Aeb))):=by
 show AX (fun i m σ H=>m=n - i/\i<=n/\xt) ⟨n,AY,DV,h0⟩
 rintro i m σ H ⟨rfl,hi,p⟩;by_cases hlt:CO
 ·show RI ⟨hlt,AIj,fun σ' H' p' =>(C3 (n - BE) ρ hlt p'),Α x H' y⟩
  obtain⟨e,y⟩:=y;subst e y;exact hs i σ _ hlt p
 ·have e:i=n:=ρ
  subst e;exact v6 E7 (hd σ H p)
abbrev R2:=oP
def j6(X:Cx)(f:AAP)(r:R2):Prop:=
 ∀(pins:c7) (s:Shared) (σ:St) (H:Hp) (x y:V) (v u:Value) (Q:VK),AFk PQ IN (r x y H Q) (f v u)
def UnR(X:Cx)(f:Ñ APg)(r:AUi):Prop:=
 ∀(pins:c7) (s:Shared) (σ:St) (H:Hp) (x:V) (v:Value) (Q:VK),Ε ->PQ ->r x H Q ->
  Aky f v EP
def eE(X:Cx)(f:Value)(r:SA):Prop:=
 ∀(pins:c7) (s:Shared) (σ:St) (H:Hp) (xs:χ) (us:Β) (Q:VK),Ε ->Q1 ->r xs H Q ->
  ABk (call f us)
def adt(X:Cx)(r:V ->AI0 m4):Prop:=
 ∀(pins:c7) (s:Shared) (σ:St) (H:Hp) (x:V) (v:Value) (Q:m4),Ε ->PQ ->r x H Q ->
  Aky truthy v TP
def SQ(r:R2)(ta tb:TE):TE:=O_ (Ll tb y (r x y H2 Q))
def tUn(r:AUi)(ta:TE):TE:=O_ (r x H1 Q)
def rI(C:AYM)(g:AVE):R2:=OF (Aqt (Q ZZ H))
def J8(g:AVE):R2:=OF (AJo (Q ZZ H))
def rU(g:Int ->V):AUi:=PU x (∃i,x= B9/\Q (g i) H)
section
variable{X:Cx}{a b c:Expr}{ta tb tc:TE}{pos:Pos}
theorem Ml(ha:eg)(hb:ADS)(Ay9)(du){R:V ->ALS}(I:Ε)
  (h:A1M (R x y H2)) {Q:dG} {f:AAP}
  (hf:∀v u s2 x y H2,Ρ (LJ H2 s2) PQ IN (R x y H2) (AmR (f v u) X.xe s2)):
  BDi (AmR (f v u)):=by
 show ng fh v aaF;show MG aaF;show QY (é hb) u s2 aaG;obtain⟨y,H2,I2,r2,q2⟩:=aaG;exact hf v u s2 x y H2 I2 r1 r2 q2
theorem yhd{op:Operator}{r:R2}(ho:j6 X AsW r)(ha:eg)(hb:ADS):PE X AuL AZl:=by
 show ER;exact wpAny_BinOp (ArF fun v u s2 x y H2 I2 rx ry q=>A5i)
theorem ymt{op:UnaryOp}{r:AUi}(ho:UnR X (unaryOp op) r)(ha:eg):kF UnaryOp op a (tUn r ta):=by
 show ER;exact UnaryOp_ (bV fh (u8 aaH (by show MG aaH;exact N3 ho x v Q I1 r1 q1)))
theorem YB{f:AAP}{C:AYM}{g:Ahm}
  (rule:∀(i j:Int) (t u:Tok) (s:Shared) (Q:dG) (E:dG),C i j ->ApN ZZ ->AKP Aro):
  j6 X f (rI C (kl ZZ)):=by
 intro pins s σ H x y v u Q I rx ry h;show ij i j rfl hc q h;show OH;show Ų;exact Ap5 s _ _ hc (ANW ZZ)
theorem SX{f:AAP}{g:Ahm}
  (rule:∀(i j:Int) (t u:Tok) (s:Shared) (Q:dG) (E:dG),ApN ZZ ->AKP Aro):
  j6 X f (J8 (kl ZZ)):=by
 intro pins s σ H x y v u Q I rx ry h;show BV i j rfl q h;show OH;show Ų;exact Ap5 s _ _ (ANW ZZ)
theorem Mp{f:AAP}{g:AH5 Bool}
  (rule:∀(i j:Int) (t u:Tok) (s:Shared) (Q:dG) (E:dG),Q (.bool ZZ) s ->AKP Aro):
  j6 X f (J8 fun i j=> .bl ZZ):=by
 intro pins s σ H x y v u Q I rx ry h;show BV i j rfl q h;show OH;show Ų;exact Ap5 s _ _ (ABZ (.bl ZZ) q)
def adu(oz):Prop:=0<j/\j<1073741824
def acs(oz):Prop:=v_/\j.natAbs<1073741824
def Iw(oz):Prop:=0<=j/\j<=1000000/\i.natAbs<2^64
def adw(oz):Prop:=(A1l)\/ (-(2^64)<j/\j<2^64)
theorem yjo:ß Add (J8 (kl (i+j))):=SX fun _ _ _ _ _ _ _ q=>add_int q
theorem yj9:ß Sub (J8 (kl AYR)):=SX fun _ _ _ _ _ _ _ q=>sub_int q
theorem ygq:ß Mod (rI (G_ j v_) At6):=YB fun _ _ _ _ _ _ _ hc q=>mod_int' hc q
theorem ylp:ß Pow (rI Iw A5h):=YB fun _ _ _ _ _ _ _ hc q=>pow_int_small hc.1 hc.2.1 hc.2.2 q
theorem unI{f:Ñ APg}{g:Int ->Int}
  (rule:∀(i:Int) (t:Tok) (s:Shared) (Q:dG) (E:dG),ApN (g i) ->AKP (f AJh)):
  A0_ f (g i):=by
 intro pins s σ H x v Q I rx h;show xE i q;show OH;exact rule i t s _ _ (ANW (g i))
theorem yka:A0_ (unaryOp .USub) (-i):=unI (AkX q (neg_int q))
#where
def S5:Axe
 | Ι,Ι=>true | Ι,IM=>true | IM,Ι=>true | Ι,Iy=>true | Iy,Ι=>true | Ι,GW=>true | GW,Ι=>true
 | IM,IM=>true | Iy,Iy=>true | GW,GW=>true | .J4 _,.J4 _=>true
 | IM,GW=>true | GW,IM=>true | Iy,GW=>true | GW,Iy=>true
 | _,_=>false
def rEq:R2:=A_4 (Q (AnE y) H)
def rNe:R2:=A_4 (Q (.bl (!(Θ (x=y)))) H)
section
variable{X:Cx}{a b c:Expr}{ta tb tc:TE}{pos:Pos}
theorem ydr(AoZ){s:Shared}{Q:VK}{k k' :Bool}(I:Ε)(q:Q (.bl k) H)(e:k=k'):mE (.bool k') s:=by
 subst e;exact ABZ (.bl k) q
theorem ynb:Amy Lt (i<j):=Mp fun _ _ _ _ _ _ _ q=>lt_int q
theorem ymv:Amy LtE (i<=j):=Mp fun _ _ _ _ _ _ _ q=>le_int q
theorem ym8:Amy Gt (j<i):=Mp fun _ _ _ _ _ _ _ q=>gt_int q
theorem yk9:Axw Is (Q (AnE Ι) H):=by
 intro pins s σ H x y v u Q I rx ry h;show Č q h;cases ry;refine is_none_gen (ydr I q ?_);cases x<;>first
  | (cases rx;rfl)
  | (show OH;rfl)
theorem yfd:Axw IsNot (Q (.bl (!(Θ (x= Ι)))) H):=by
 intro pins s σ H x y v u Q I rx ry h;show Č q h;cases ry;refine isnot_none_gen (ydr I q ?_);cases x<;>first
  | (cases rx;rfl)
  | (show OH;rfl)
def isObj:mM HO
 | Y2=>true
 | Ff .ins=>true
 | _=>false
theorem bx(b:Expr){op:CmpOp}(h:op≠ .In:=by decide)(h2:op≠ ħ:=by decide):ARI:=by
 have e1:(op==CmpOp.In)=false:=by cases op<;>first | rfl | show AEu h
 have e2:(op==CmpOp.NotIn)=false:=by cases op<;>first | rfl | show AEu h2
 cases b<;>simp [behindInMarks,e1,e2]
theorem yge(A8_):PE X ANX AZl:=by
 show ER;exact wpAny_Compare1 (ArF fun v u s2 x y H2 I2 rx ry q=>A5i) hm
def S6(t:TE):TT:=ai (t σ H fun x H' =>∃k,x= .bl k/\Q k H')
theorem yg2(A8_):PT X ANX (S6 AZl):=by
 show ER;show Aty fh A'u (bV (é hb) fun u s2 (AoE r2)=>
  bV (Aea _ I2 r1 r2 q2) (Α c s3 A9l)) hm
 subst e;cases r3;exact BHS H3 I3 q3
def Ey(r r' :R2)(ta tb tc:TE):TE:=O_ (Ll tb y (r x y H2 fun z H3=>∃k,z= .bl k/\
 (AI (k=true) (tc σ H3 fun w' H4=>r' y w' H4 Q) (Q ACw H3))))
theorem yaa{op op' :CmpOp}{r r' :R2}(ho:j6 X AQ' r)(ho' :j6 X AwS r')(ha:eg)(hb:ADS)(hc:PE X c tc)
  (hm:lastMarks [op,op'] [b,c]=false:=by show APO):PE X A_Y (Ey r r' ta tb tc):=by
 show ER;refine Compare_chain (bV fh (u8 A'u (chain_link (bV (é hb) fun u s2 (AoE r2)=>
  bV (Aea _ I2 r1 r2 q2) (Α d s3 A9l))))) hm
 subst e;cases r3;show AgE;cases k with
 | false=>exact ite_ff (IB AEO H3 I3 q3)
 | true=>exact ite_tt (chain_last (bV (hc pins s3 σ H3 _ I3 q3) fun w' s4 aaI=>by obtain⟨z',H4,I4,r4,q4⟩:=aaI;exact ho' pins s4 σ H4 y z' u w' Q I4 r2 r4 q4))
def adx(K:W.Frag)(x:V)(H:Hp)(k:Bool):Prop:=
 match x with
 | Ι=>LL k
 | UO=>k=b
 | B9=>k=(i !=0)
 | .str y=>AQ y.length/\k=(AL y.length !=0)
 | .J4 y=>AQ y.size/\k=(AL y.size !=0)
 | Kt=>(∃xs,AM0/\Au5)\/ (∃xs,AVk/\Au5)\/∃kvs,KM p FV/\k= ! kvs.isEmpty
 | _=>False
theorem pP:BIs<2^63:=AJx sizeLine_eq
theorem z2l:ß Add (fun x y H Q=>∃i j,x= .str i/\y= .str j/\AQ (i.length+j.length)/\Q (HE (i++j)) H):=by
 intro pins s σ H x y v u Q I rx ry h;show ij i j rfl hz q h;show OH;show Ų;exact add_str (fun t' tk=>⟨.str (i++j),H,ABa,Cf,q⟩) hz
def ymd(b:Expr):Prop:=BFZ
theorem vals1{x:V}{us:Β}(r:p6 [x]):A7t:=by
 cases r with
 | cons r1 r2=>cases r2;exact Lv r1
theorem vals2{x y:V}{us:Β}(r:p6 gx):∃u w',us= [u,w']/\tF/\RelV y w' :=by
 cases r with
 | cons r1 r2=>
  cases r2 with
  | cons r3 r4=>cases r4;exact C3 _ _ r1 r3
theorem yaw:kK "abs" (PU xs (∃i,xs= [B9]/\AQv AOm)):=by
 intro pins s σ H xs us Q I r h;show xE i q;obtain⟨u,rfl,t,rfl⟩:=vals1 r;exact call_abs_int fun u tk=>(ANW AOm)
def ady(K:W.Frag)(x:V)(H:Hp)(n:Nat):Prop:=
 match x with
 | .str y=>AQ y.length/\n=y.length
 | .J4 y=>AQ y.size/\n=y.size
 | Kt=>(∃xs,AM0/\n=xs.length)\/∃xs,AVk/\n=xs.length
 | _=>False
#where
structure Al (h:Heap) (x dx C:Addr) (mA:CB):Prop where
 obj:Co h.get? AiP
 ns:AnQ
 ne:AQ_
theorem z9c{h:Heap}{dx:Addr}{mA:CB}(n:AnQ):BBV (h.get? dx=some od):=by
 obtain⟨o,es,ep,ho,hd,hk,_,hm⟩:=n;show B0 o ho (MA name);have e:=hm name;unfold nsFind findBy at e;rw[<- Array.find?_toList] at e;unfold W.lookIn;rw[hd];dsimp only;split
 ·rename_i y q;show MZ;exact w4 some
 ·show GN;show MZ;have a:es.toList.any (·.refKey)=false:=by
   rw[List.any_eq_false];intro y hy;obtain⟨z,t,hkey⟩:=hk y (Array.mem_toList_iff.mp hy);simp [DictEntry.refKey,hkey]
  have a' :¬es.toList.any (·.refKey)=true:=AB a zJ
  show An a';exact w4 some
theorem Al.look{h:Heap}{x dx C:Addr}{mA:CB}(I:Al h x dx C mA):BBV (W.InstAt h x AiP C (D' od)):=
 let ⟨od,ho,hl⟩:=z9c I.ns
 ⟨od,JS I.obj rfl ho,hl⟩
section
variable{prog:Program}{w:World}{A:Around}{E:dG}{s:Shared}{K:W.Frag}{x dx C f:Addr}{mA:CB}{name:Str}{v:Value}
theorem yho{expr:Bool}{Q:dG}(X:Ţ)(I:AlV)(hg:AWN name)(hh:AVW)
  (ha:AYl name) (hv:mA name=some v) (hv' :W.handedIn v=true) (h:Q v AJg):
  An9 getAttr expr:=ACq od J hl I.look (W.get_value X J (W.plainGet_of hg).1 (W.findObj_own hh ha rfl (by rw[hl,hv])) hv' h)
theorem ya8{pl:AFH}{Q:D4 (Value×Β)}(X:Ţ)(I:AlV)(hg:AWN name)
  (hf:AcT name) (ht:AR2) (hv:mA name=none) (h:Q (.ref f,ku x) s):
  An9 getMethod pl:=ACq od J hl I.look (W.method_fn X J (W.plainGet_of hg).1 (W.plainGet_of hg).2 hf (beq_iff_eq.mp ht) (by show(W.lookIn name od).map (·.isSome)=some false;rw[hl,hv];rfl) h)
theorem yhp{ns:ο}{Q:D4 Unit}(X:Ţ)(I:AlV)
  (hs:Anq) (hp:AsN) (ht:AxT name) (hh:AVW)
  (hw:PySem.Within mA ns) (hsz:BIv)
  (h:∀h',Al h' x dx C (Μ y (E2 y name ļ (mA y))) ->ū dx ->Q () (Pi h' (s.toks+2))):
  An9 setAttr v:=by
 obtain⟨od,J,hl⟩:=I.look;refine W.set_plain X J hs (W.osa_open (s:=AJg) (r:=none) X J hp ht fun b=> ?_);show At cd hc hd' W.any_some hh;have hx:Co s.heap.get? ⟨kX,some dx,.plain,#[]⟩:=I.obj;show HC z7 (z6 (z6 (wpAny_loadPart hx (z6 (W.Looks.here (s:=AJg) (W.looks_clsIn X hc) ?_)))));rw[hd'];refine z7 (a:=some dx) (z6 (z7 (z6 ?_)));refine wpAny_nsSet1 (s:=AJg) I.ns (Yf hn2 hs2);obtain⟨oD,esD,epD,hoD,hdD,hcD⟩:=hn2.count (PySem.Within.cons name v hw);show TN wpAny_lookBehind hoD (B6 hdD (pastItsLine_dict (zO hcD (AIL List.length_cons))))
 exact z7 (h _ ⟨GA hs2.2 _ (ABM I.ne) I.obj,hn2,I.ne⟩ hs2)
theorem zy8{R:Agd}{vs:Β}{kw:AJQ}(X:Ţ)(hm:AsO)
  (hi:Adz) (hf:W.typeIn K IR=some (LO "function"))
  (h:Ă MO (A.under (BGl (kX::vs))) IR ⟨.ref Y1::vs,kw⟩ (W.InitBack Y1 R) A4a):
  Ă MO A WE ⟨vs,kw⟩ R s:=by
 obtain⟨hh,g,d,t,os⟩:=s;exact W.make_core (W.makes_of X hm) (W.looks_findIn X hi) (Μ self (W.bind_fn X self hf)) WU h
#where
def nF(f:Str)(v:V):UQ ->UQ
 | []=> AM2
 | (g,x)::r=>AN_ ((g,v)::r) ((g,x)::nF f v r)
theorem zpx(f g:Str)(v:V):∀fs:UQ,(nF f v fs).lookup g=AN_ ļ (fs.lookup g)
 | []=>by
  show List.lookup g AM2=_;by_cases h:g=f
  ·have hb:(g==f)=true:=beq_iff_eq.mpr h;simp only [List.lookup,hb,vv]
  ·have hb:(g==f)=false:=beq_eq_false_iff_ne.mpr h;simp only [List.lookup,hb,md]
 | AjQ=>by
  have ih:=zpx f g v r;show JJ (Aiz (k,x)=Aqp) rfl;by_cases hk:k=f
  ·show AEd;by_cases h:g=k
   ·show A2J (d5 h.trans hk)
   ·have hb:(g==k)=false:=beq_eq_false_iff_ne.mpr h;simp only [List.lookup,hb,dL (fun e:g=f=>h (e.trans hk.symm))]
  ·show An hk;by_cases h:g=k
   ·show A2J (dL (fun e:g=f=>hk (h.symm.trans e)))
   ·have hb:(g==k)=false:=beq_eq_false_iff_ne.mpr h;simp only [List.lookup,hb];exact ih
theorem zph(f:Str)(v:V):∀fs:UQ,f∈ A'2/\∀g,g∈fs.map (·.1) ->g∈ A'2
 | []=>⟨BD nF,fun g h=>AFK⟩
 | AjQ=>by
  obtain⟨i1,i2⟩:=zph f v r;show JJ (Aiz (k,x)=Aqp) rfl;by_cases hk:k=f
  ·show AEd;subst hk;exact⟨AY,fun g h=>(AN h)⟩
  ·show An hk;show Op ?_ g h
   ·rw[List.map_cons];exact zW _ i1
   ·rw[List.map_cons] at h⊢;show AKf AQk e
    ·exact zU.mpr (Db e)
    ·exact zW _ (i2 g e)
theorem zpu(f:Str)(v:V):∀fs:UQ,(nF f v fs).length<=fs.length+1
 | []=>BD nF
 | AjQ=>by
  have ih:=zpu f v r;show JJ (Aiz (k,x)=Aqp) rfl;by_cases hk:k=f
  ·show AxK (Ap hk)
  ·show AxK (Χ hk)
theorem nC.some_of{v:V}{o:LM}(r:nC (some v) o):∃u,L4 o/\LH:=by
 cases o with
 | none=>show AGr
 | some u=>exact LZ u r
theorem nC.none_of{o:LM}(r:nC none o):o=none:=by
 cases o with
 | none=>rfl
 | some u=>show AGr
theorem z3i{v:V}{u:Value}(r:LH):W.handedIn u=true:=by
 cases v with
 | non=>show ATn Av5
 | bl b=>show ATn Asr
 | int i=>show AYx AXP
 | str x=>show AYx AXS
 | J4 b=>show AYx (Value.bytes b t)
 | flt b=>show AYx (Value.float b t)
 | ref a=>show ATn (AAs u)
 | ty n=>show ATn A0s
section
variable{P:Program}{w:World}{H H' :Hp}{h h' :Heap}{a C dx:Addr}{fs fs' :UQ}
theorem zxi(hok:R_)(e:ALW):∃mA,Al h a dx C mA/\ (∀f,ArR)/\AvS/\BJY/\AlJ:=by
 obtain⟨d,z,ne,ob,mA,n,r,q⟩:=(Cc (ny a APV) (hok a _ e));exact⟨mA,⟨ob,n,ne⟩,r,q,z,d⟩
#where
structure Cls (xx):Prop where
 pg:AWN Str.empty
 hd:AVW
 po:AsN
 sa:Anq
theorem Cls.get{K:W.Frag}{C:Addr}(c:AJ7)(f:Str):AWN f:=c.pg
def aR(K:W.Frag)(C:Addr)(f:Str):Prop:=AYl f
theorem aR.taker{K:W.Frag}{C:Addr}{f:Str}(n:Ad5):AxT f:=by
 unfold W.takerIn;show JJ (AYl f) n
 rfl
structure Con (K_) (C:Addr) (f:Str) (v:V) (u:Value):Prop where
 at_:AAq W.findIn WE f u
 rel:LH
 get:AAf W.specialIn u "__get__"
 cp:W.copiedNames.contains f=false
structure Meth (K:W.Frag) (C:Addr) (m:Str) (f:Addr):Prop where
 at_:AcT m
 fn:AR2
 kp:ABu
section
variable{X:Cx}{pins:c7}{σ:St}{H:Hp}{s:Shared}{a C dx:Addr}{fs:UQ}{f:Str}{v:V}{A:Around}{E:dG}
theorem z2y{b:Bool}{Q:dG}(I:Ε)(e:ALW)(c:Ahk)(n:AGl)(l:ASP)
  (h:∀u s',AJM ->LH ->Q u s'):tq (getAttr Ct f b):=by
 obtain⟨mA,O,r,_,_,_⟩:=AhE;show ANx (AaU (mA f) (BA l (r f)))
 exact yho I.kIn O (c.get f) c.hd n hu (z3i ru) (h u _ ACs ru)
theorem S7{m:Str}{g:Addr}{pl:AFH}{Q:D4 (Value×Β)}(I:Ε)(e:ALW)(c:Ahk)(k:Meth X.K C m g)(l:AfM m)
  (h:Q (.ref g,Id) s):tq (getMethod Ct m pl):=by
 obtain⟨mA,O,r,_,_,_⟩:=AhE;have hn:mA m=none:=nC.none_of (BA l (r m))
 exact ya8 I.kIn O (c.get m) k.at_ k.fn hn h
theorem z2g{y:V}{u:Value}{Q:D4 Unit}(I:Ε)(e:ALW)(c:Ahk)(n:AGl)(hl:AR9)(ry:IN)
  (h:∀s',sC a Axc s' ->Q () s'):tq (setAttr Ct f u):=by
 obtain⟨mA,O,r,wi,_,ho⟩:=AhE;have hz:AQ (Mb (fs.map (·.1))):=ACP sizeLine_eq
 refine yhp I.kIn O c.sa c.po n.taker c.hd wi hz fun h' O' sb=>h _ ?_;have hd:∃o,si dx:=let ⟨o,_,_,e',_⟩:=O'.ns;OR e';refine I.write (x:=a) (e:=dx) AmY (CL ho) (fun b q hb z=>GA sb.2 b hb z) hd ?_
 refine⟨kg O.ne ho,?_,O.ne,O'.obj,_,O'.ns,MA g,AD g hg⟩
 ·have:=zpu f y fs;omega
 ·rw[zpx];by_cases q:g=f
  ·show AYt ry
  ·show AYs (r g)
 ·by_cases q:g=f
  ·rw[q];exact AuK.1
  ·refine AuK.2 g (wi g (AC (hg ?_)));show(AI (g=f) AD_ (mA g))=none;show An q;exact z
theorem Inv.made(Na):LJ (upd (IA s.heap.objs.size (.own Y1)) Y1 (.ins C s.heap.objs.size [])) A4a:=by
 show AXX e1 W.emptyDict W.emptyDict (z9 s.heap rfl);have e2:(AdW push Asd).get? Y1=some Asd:=qo (z9 (s.heap.push W.emptyDict) (o:=W.instObj C s.heap.objs.size) rfl) Heap.size_push
 have e3:AdW Ns s.heap.objs.size AfQ:=⟨W.emptyDict,#[],_,e1,rfl,(fun e he=>(APn he)),ATI⟩
 have I1:=AeV (.own Y1) (h' :=AHt W.emptyDict) (t' :=s.toks) AKJ CC (ĩ e1);refine qc (I1.laid (a:=lh) (o:= .ins C s.heap.objs.size [])) AKJ Aox ?_;have ne:s.heap.objs.size≠lh:=AYv;refine⟨Amf,DV,ne,e2,AdN,(Heap.Ns1.of_empty e3).at fun o q=>ABP,C6 True.intro,fun y hy=>(AQN hy)⟩
theorem yfx{prog:Program}{w:World}{env:Env}{e:Expr}{f:Str}{pos:Pos}{s:Shared}{Q:dG}(hb:attributeBase e f env (AI2 e)=eval e env)
  (h:AVQ e (ANm o s₁ (getAttr o f true) s₁) E s):E4 (AI2 (.Attribute e f pos)):=
 Attribute_any_ h (by rw[arm_eval_Attribute,hb])
#where
def aaJ(A'c):TE:=O_ (∃a C dx fs v,A2P AT9)
def adz(A'c):TE:=O_ (∃a C dx fs v u,x= AF/\Adn/\AJ7/\Con K C f v u/\AfM f/\AT9)
def aaK(K_)(ta tv:TE)(f:Str):TS:=Aoh (∃a C dx fs,x= AF/\ADy APV/\AJ7/\Ad5/\AR9/\
 Sk (i3 a Axc))
def adA(X:Cx)(op:Operator)(rd:oP):Prop:=
 ∀(pins:c7) (s:Shared) (σ:St) (H:Hp) (x y:V) (u v:Value) (Q:VK),AFk tF (RelV y v) (rd x y H Q) (inplaceOp op u v)
def ymn(K:W.Frag)(ta tv:TE)(rd:oP)(f:Str):TS:=X0 ta x (∃a C dx fs v,A2P (Ll tv y (rd v y H2 fun z H3=>∃J9 fs',Dx H3 (.ins C J9 fs')/\fs'.length<1000/\Sk (upd H3 a (.ins C J9 (nF f z fs'))))))
section
variable{X:Cx}{o e value:Expr}{f:Str}{pos pos' tpos:Pos}{ta tv:TE}
theorem ydf(he:PE X e ta)(hb:NH e f e e):kF Attribute e f (aaJ X.K ta f):=by
 show ER;refine yfx hb (bV nK (y9 u aaL));obtain⟨x,H1,I1,rx,a,C,dx,fs,v,ex,ea,c,n,l,q⟩:=aaL;subst ex;show SC;exact z2y I1 ea c n l fun u' s2 I2 ru=>⟨v,H1,I2,ru,q⟩
theorem z9j(ha:PE X o ta)(hv:Aw1)(hs:APr (AAc o f pos')):AMh (Adg o f) value (aaK X.K ta tv f):=by
 show UR;refine plainObj_wpAny_Assign_Attribute (TU (ax hv) u) hs;obtain⟨y,H1,I1,ry,q⟩:=hz1;show QY (N3 ha _ I1 q) ov s2 hz2;obtain⟨x,H2,I2,rx,a,C,dx,fs,ex,ea,c,n,l,q2⟩:=hz2;subst ex;obtain rfl:AAs ov:=rx;exact z2g I2 ea c n l ry fun s3 I3=>⟨σ,_,I3,q2⟩
def adB:oP:=Ak6 (i+j)
def adC:oP:=Ak6 AYR
#where
section
variable{X:Cx}{pins:c7}{σ:St}{H:Hp}{s:Shared}{A:Around}{E:dG}{Q:dG}{c:Value}{b:Bool}
inductive ur (K:W.Frag) (H:Hp):Auj where
 | non:uS Ι "NoneType"
 | bl (x:Bool):uS (.bl x) "bool"
 | int (AGX):uS vy "int"
 | str (x:Str):uS ŉ "str"
 | flt (x:UInt64):uS (.flt x) "float"
 | lst {a:Addr} {xs:χ} (e:F9 ir):Ath
 | frz {a:Addr} {o:Obj} {xs:χ} (e:F9 (zS ir)):Ath
 | tup {a:Addr} {xs:χ} (e:F9 JI):uS Ct "tuple"
 | dK {a:Addr} {kvs:Kx} (e:ń):Atg
 | dT {a:Addr} {kvs:NE} (e:ALV):Atg
 | ins {a C dx:Addr} {fs:UQ} (e:ALW) (cl:AJ7) (ha:AzG)
   (hn:Axl BJH "__get__" "getset_descriptor.__get__") (htk:W.takesIn K BJH=some true)
   (hm:Avg):ur K H Ct WE
#where
structure dH (k:Nat) (A:Around):Prop where
 hd:Qr
 dp:A.depth+3*k+5<recursionLimit
 un:A.units+16*k+200<cLine
theorem dH.mono{j k:Nat}{A:Around}(r:AQx)(h:j<=k):dH j A:=⟨r.hd,FE r.dp,FE r.un⟩
theorem dH.deeper(AnH)(r:dH EL A)(env:Env):Ala env:=
 ⟨r.hd,by have:=r.dp;show A.depth+1+3*k+5<_;omega,by have:=r.un;show A.units+3+16*k+200<_;omega⟩
theorem z2j(BBd):(A.under AX6).depth=A.depth+1:=by
 first | rfl | simp [Around.under,Code.weight,Code.isCreation,Code.isGuard,Code.isCaller,Code.frames,Code.isFrame,guardIds]
theorem z2q(BBd):(A.under AX6).units=A.units+1:=by
 first | rfl | simp [Around.under,Code.cUnits,Code.frames,Code.isFrame]
theorem dH.make(AnH)(r:dH EL A)(C:Addr)(us:Β)(kw:AJQ):dH k (A.under AX6):=
 ⟨r.hd,by have:=r.dp;rw[z2j];omega,by have:=r.un;rw[z2q];omega⟩
theorem dH.depth(BC'):A.depth<recursionLimit:=FE r.dp
theorem dH.units(BC'):A.units+64<cLine:=FE r.un
def aaM:TA:=Aii []
def Ka(ta:TE)(tr:TA):TA:=O_ (Ll tr xs (Q AGB H2))
section
variable{X:Cx}{e:Expr}{es:AE}{te:TE}{t:TA}{pos:Pos}
theorem z4d:PA X [] aaM:=fun _ _ _ _ H Q I h=>Calls.spliced_nil ⟨[],H,I,BS,h⟩
theorem YC(ha:SB)(hr:AjJ)(hs:starEach Da X.env=E9 (DE e) (E8 es):=by rfl):PA X Da (Ka te t):=by
 intro pos pins s σ H Q I h;rw[hs];show PP Calls.spliced_cons fh u aaN;show MG aaN;exact bV (hr pos pins s1 σ H1 _ I1 q1) fun us s2 aaO=>by obtain⟨xs,H2,I2,r2,q2⟩:=aaO;exact⟨Ee,H2,I2,.cons r1 r2,q2⟩
def aaP(t:TA):TE:=A5r JI
def aaQ(t:TA):TE:=A5r ir
theorem yee{x1}(h:AjJ):kF Tuple es x1 (aaP t):=by
 intro pins s σ H Q I hq;refine wpAny_Tuple_spliced (bV (APf h H _ I hq) fun us s1 ⟨xs,H1,I1,r,z,q⟩=>AxQ)
 have hf:di s1.heap.objs.size:=I1.hok.fresh (zN _);refine IB AfN (upd H1 s1.heap.objs.size JI) (I1.laid (t' :=s1.toks) (HP WF) CC ?_) (q _ hf);exact⟨z,us,r,C3 _ KO _ rfl⟩
theorem yli(h:AjJ):PE X Ayf (aaQ t):=by
 intro pins s σ H Q I hq;refine wpAny_List_spliced (bV (APf h H _ I hq) fun us s1 ⟨xs,H1,I1,r,z,q⟩=>AxQ)
 have hf:di s1.heap.objs.size:=I1.hok.fresh (zN _);refine IB AfN (upd H1 s1.heap.objs.size ir) (I1.laid (t' :=s1.toks) (HP WF) CC ?_) (q _ hf);exact⟨z,us,0,r,KO⟩
#where
abbrev Sp:=χ ->Hp ->BG VK XK
abbrev CV:=Ρ EG Hp Shared XK (D4 Value)
structure wX (YI) (A:Around) (outer:EG) (s:Shared) (H:Hp):Prop where
 frames:AS4 outer
 mod:Mod K mg base
 bs:AIM base.get? (Mo/\Fr)
 J5:base.objs.size<=s.heap.objs.size
 funs:Ack base outer
 Ma:IT (frs outer) Fr
 hok:oN P w H s.heap
 bare:BJ_
def CE(outer:EG)(P:Program)(w:World)(H:Hp)(s:Shared)(Q:VK)(u:Value)(s' :Shared):Prop:=
 ∃v H',s'.os=s.os/\AJa/\A0M/\A3r/\LH/\kG
def CR(CX:CV)(outer:EG)(ABd)(H:Hp)(s:Shared)(Q:VK)(E:XK)(r:Result)(s' :Shared):Prop:=
 match r with
 | .ok (.ret u)=>Aeo
 | .ok _=>False
 | .error e=>Alu e s'
structure fO (YI) (CX:CV) (k:Nat) (f:Addr) (fd:FuncData) (ps:ο) (sp:Sp):Prop where
 len:A2m
 run:∀(A:Around) (outer:EG) (s:Shared) (H:Hp) (args:Args) (us:Β) (vs:χ) (Q:VK) (E:XK),A_o AR8 (Ă Ë A IR args (CR CX outer P w H s Q E) s)
theorem fO.imp(eS)(ASh){CX:CV}{k:Nat}(AZP){ps:ο}{sp sp' :Sp}(F:A4s sp)
  (h:∀vs H Q E,sp' vs H Q E ->AR8):A4s sp' :=
 ⟨fun vs H Q E q=>F.len vs H Q E (EA h q),fun A outer s H args us vs Q E hr he hb hv hs=>F.run A outer s H args us vs Q E hr he hb hv (EA h hs)⟩
theorem wX.make(eS)(ASh)(AZD){s:Shared}{H:Hp}(e:ASS)(C:Addr)(us:Β)(kw:AJQ):
  BGY (A.under AX6):=⟨by first | exact e.frames | (simpa [Around.under,Code.envs,Code.isFrame,pushEnvs] using e.frames),e.mod,e.bs,e.J5,e.funs,e.Ma,e.hok,e.bare⟩
section
variable{X:Cx}{pins:c7}{σ:St}{H:Hp}{s s' :Shared}
theorem Inv.env0(Na):AbT wX X.base X.A X.stack s H:=
 ⟨I.ok.frames,I.ok.mod,I.bs,zO I.ok.J5 I.sz,I.stack,I.stkFree,I.hok,I.bare⟩
theorem Inv.after{Q:VK}{u:Value}(I:Ε)(h:CE X.stack X.prog X.w H s Q u s'):mE u s' :=by
 obtain⟨v,H',os,bare,un,hok,r,q⟩:=h;obtain⟨hh,g,d,t,os'⟩:=s';obtain rfl:os' =s.os:=os;exact⟨v,H',I.call (h' :=hh) (g' :=g) (d' :=d) (t' :=t) (ch:= []) un hok bare Auw,r,q⟩
#where
def acu(A9V):TE:=AVX (sp Aih H1 Q E)
def acv(dS)(m:Str)(sp:Sp)(Py:χ)(E:XK)(ta:TE)(t:TA):TE:=O_ (∃a dx fs,x= AF/\Adn/\AfM m/\
 Ll t vs (sp (x::Aih) H2 Q E))
def acw(dS)(A9V):TE:=AVX (∀x dx,di x ->di dx ->AQ_ ->
 sp (AQl::Aih) (upd (P3 dx (.own x)) x (qB [])) (fun v H2=>v= Ι/\EV x H2) E)
def Binds(K:W.Frag)(fd:FuncData)(ps:ο)(ds:Β):Prop:=
 AN2 us Β (Ţ ->AQF (Mb (us++ds)) ->BindsTo s fd ALZ (ps.zip (us++ds)))
theorem Binds.all{K:W.Frag}{fd:FuncData}{ps:ο}(h:∀us:Β,us.length=ps.length ->bindArgs fd ALZ=pure (ps.zip us)):AA':=fun s us _ hl=>by
 rw[List.append_nil] at hl⊢;exact .of_eq (h us hl)
def Passes(CX:CV)(X:Cx)(E:XK):Prop:=∀(pins:c7) (σ:St) (H:Hp) (s:Shared) (e:Value) (s' :Shared),rh (CX X.stack H s E e s') AjR
section
variable{X:Cx}{CX:CV}{k:Nat}{f C:Addr}{fd:FuncData}{ps:ο}{sp:Sp}{Py:χ}{ds:Β}{E:XK}{x m:Str}{p pos apos:Pos}{e o:Expr}{es:AE}{ta:TE}{t:TA}
structure Mk (K:W.Frag) (C f:Addr):Prop where
 makes:AsO
 init:Adz
 fn:AR2
 kp:W.keepIn K WE=true
#where
def PK(X:Cx)(kws:APP)(t:TA):Prop:=
 ∀(pos:Pos) (pins:c7) (s:Shared) (σ:St) (H:Hp) (Q:ACv),Ĝ (WH (evalAll ((backToKw pos (keywordEach kws X.env)).map (·.2))) (AAu AP))
section
variable{X:Cx}{CX:CV}{k:Nat}{f C:Addr}{fd:FuncData}{ps ks:ο}{sp:Sp}{E:XK}{x m:Str}{p pos apos kpos:Pos}{e o:Expr}{es:AE}{kws:APP}{te ta:TE}{t tk:TA}{nm:Ev Str}
structure aaR (K_) (fd:FuncData) (ps ks:ο) (g:A3g) (gV:An3):Prop where
 to:∀(s:Shared) (us ws:Β),Ţ ->AQF (Hc g us ws) ->BindsTo s fd ⟨us,ks.zip ws⟩ (ps.zip (g us ws))
 rel:∀{vs:χ} {us:Β} {zs:χ} {ws:Β},AC_ ->Vals zs ws ->Vals (gV vs zs) (g us ws)
def aaS(sp:Sp)(gV:An3)(E:XK)(t tk:TA):TE:=AVX (Ll tk zs (sp (gV vs zs) H2 Q E))
variable{g:A3g}{gV:An3}
#where
structure aC (N P:ο) (sc:Scope):Prop where
 kind:Aka
 co:LL sc.isCoroutine
 gen:LL sc.isGenerator
 nd:N.Nodup
 pre:N.take P.length=P
 par:∀x∈P,Al0 AMs
 nofree:∀y∈sc.names,y.2≠ MY
theorem zu9(A1g):BBj bindL
 | [],_,_=>rfl
 | (n,v)::r,m,h=>by
  unfold bindL;rw[zu9 (ř (ARi h w hw))];split
  ·show BDS
  ·rfl
theorem zv6(A1g):BBj bindC
 | [],_,_=>rfl
 | (n,v)::r,m,h=>by
  unfold bindC;rw[zv6 (ř (ARi h w hw))];split
  ·rfl
  ·show BDS
theorem zv3(A_K):∀{P:ο} {vs:Β} {i:Nat} {m:CB},Ρ P.Nodup (al P) AFM (AHo kindOf) (bindL kindOf (P.zip vs) m x=some v)
 | [],_,_,_,_,h,_,_=>AFK
 | A1,[],_,_,_,_,h,_=>AFK
 | p::P,AFT,0,m,nd,h1,h2,hk=>by
  simp at h1 h2;subst h1;subst h2;show bindL kindOf ((p,w)::P.zip vs) m p=_;unfold bindL;rw[A4K zu9,Ap hk];simp
 | p::P,AFT,By,m,nd,h1,h2,hk=>by
  unfold bindL;exact zv3 (i:=i) AYh ĕ AJs hk
theorem zuz(A_K):∀{P:ο} {vs:Β} {i:Nat} {m:CB},Ρ P.Nodup (al P) AFM (kindOf x≠some APw) (bindC kindOf (P.zip vs) m x=some v)
 | [],_,_,_,_,h,_,_=>AFK
 | A1,[],_,_,_,_,h,_=>AFK
 | p::P,AFT,0,m,nd,h1,h2,hk=>by
  simp at h1 h2;subst h1;subst h2;show bindC kindOf ((p,w)::P.zip vs) m p=_;unfold bindC;rw[A4K zv6,Χ hk];simp
 | p::P,AFT,By,m,nd,h1,h2,hk=>by
  unfold bindC;exact zuz (i:=i) AYh ĕ AJs hk
def start(N:ο)(vs:χ):St:=vs.map some++AKi (N.length - vs.length) none
def iM(CX:CV)(P:Program)(BF')(N:ο)(qual:Str)(scope:Scope)(f:Addr)(cd:Value)(A:Around)(outer:EG)(s:Shared)(H:Hp)(E:XK):Cx where
 prog:=P
 w:=w
 K:=K
 mg:=mg
 base:=base
 A:=A.deeper (ASn cd)
 N:=N
 s₀:=s
 H₀:=H
 env:=BDW
 outer:=outer
 stack:=BDW::outer
 ex:= []
 calm:=true
 fn:=C6 true
 pn:= []
 xe:=fun e s' =>wpAny Ë (A.deeper (ASn cd)) (leaving (ASn cd) e) (G_ s'' (Alu e s'')) (fun e' s'' =>Alu e' s'') s'
theorem zza{sc:Scope}{n:Nat}{x:Str}(h:AMs):∃c,zg (Aj3 n sc.names []):=by
 have q:=W.cellsFrom_some sc.names n [] (Db h);exact Option.isSome_iff_exists.mp q
theorem z9f(BBR){N ps:ο}{qual:Str}{scope:Scope}{f:Addr}{cd:Value}{A:Around}{outer:EG}{s s1:Shared}{H:Hp}{E:XK}{us:Β}{vs:χ}
  (S:A7J) (hd:Qr) (e0:ASS) (hl:BHT) (r:AC_)
  (x:InCallC s s.heap.objs.size (BEm bindL) (cellsFrom Y1 scope.names []) (BEm bindC) s1):
  Inv (kB (AdK cd)) [] AXk H s1:=by
 have hpl:ps.length<=N.length:=by have:=congrArg List.length S.pre;show A_ List.length_take;omega
 obtain⟨h1,tk,rfl,hk⟩:=x.done;have Tc:∀b:Addr,b∉ (AdK cd outer s H E).ex:=fun b z=>(Ans z)
 refine⟨⟨e0.mod,S.kind,rfl,rfl,E7,fun y z c h1 h2=> ?_,AD y hy,fun y c _ h=> ?_,C6 hd,Around.frames_deeper e0.frames,.inr k_,A4b,e0.bs,e0.J5,fun b _ _=>Tc b,A4b,e0.funs,e0.Ma⟩,
  rfl,e0.bare,Un.kept hk,Cb x.toInCall.ns (fun i y v h1 h2 h3=> ?_),fun y c h=>(ĩ (x.cell y c h)),e0.hok.fresh (zN _),Α y c h,Apn,e0.hok.kept hk,?_⟩
 ·exact name_of_addr x.apart (PySem.mem_of_lookup h1) (PySem.mem_of_lookup h2)
 ·have hy:BJ9 qf\/BJ9 MY:=hy;rcases hy with hy | hy
  ·exact zza hy
  ·exact absurd rfl (S.nofree _ (PySem.mem_of_lookup hy))
 ·exact Nat.le_of_lt A7K
 ·show AhU (by
   unfold start at h2;show ACc vs.length
   ·exact hi
   ·rw[Ade] at h2
    rw[List.getElem?_replicate] at h2;split at h2<;>cases h2)
  have ha:AFM:=by
   unfold start at h2;show AKg AUs h2
   cases e:vs[i]? with
   | none=>rw[e] at h2;cases h2
   | some a=>rw[e] at h2;cases h2;rfl
  show At u hu rv r.get ha;have hp:B' ps y:=by
   rw[<- S.pre,List.getElem?_take_of_lt ξ];exact h1
  have ndP:ps.Nodup:=BA S.pre (S.nd.sublist (List.take_sublist _ _))
  show AX u rv;rcases S.par y (yV hp) with k | k
  ·show BQ ⟨k,zv3 ndP hp hu k⟩
  ·show B8 c e (zza (n:=lh)) k;show RI ⟨.inl k,c,e,?_⟩;have q:=x.cell y c e;rw[zuz ndP hp hu (by show scope.names.lookup y≠_;rw[k];decide)] at q
   exact q
 ·exact e0.hok.fresh (Nat.le_of_lt A7K)
 ·unfold start;show _=N.length;show Aey List.length_map List.length_replicate;omega
theorem Td(BBR){k:Nat}{f:Addr}{name qual:Str}{params:Arguments}{body:IQ}{scope:Scope}{dV kV doc pm cdv ct oc:Value}{an od:JU}
  {osl:ADb} {N ps:ο} {sp:Sp} (lk:AeL (.func BFe) osl) (hcd:BHw) (S:A7J)
  (len:A2m)
  (hbody:∀(A:Around) (outer:EG) (s:Shared) (H:Hp) (vs:χ) (Q:VK) (E:XK),Ala (envOfC qual scope s.heap.objs.size f cdv) ->AR8 ->
   ∃t,DY Ak9 body t/\t (AJD (FU H' (Q Ι H')) Q) AXk H):
  IC fO CX EL f BFe ps sp:=by
 show BO len (fun A outer s H args us vs Q E hr e0 hb r hsp=> ?_);have hl:=XG len hsp;have KX:Ţ:=e0.mod.Hv.keeps (AgU e0.bs);have lim:s.heap.NoLimit:=e0.mod.nolimit.keeps (AgU e0.bs);have hkind:∀y∈ps.zip us,AwY APw\/ (AwY qf/\ ABN (Aj3 Y1 scope.names []) y.1=true):=fun⟨n,v⟩ hy=>by
  show X9 (S.par n (BHR hy)) q
  ·show BQ q
  ·show Bz ⟨q,W.cellsFrom_some _ _ _ (Db q)⟩
 refine codeAny_call_function hr.depth (KX _ _ lk) rfl S.co S.gen rfl (W.codeRec_of KX hcd) (EA hb ?_);refine wpAny_newFunctionEnv_cells S.kind hkind (IE env he s1 x);subst he;show BO (lim.keeps x.toInCall.keep) (codeAny_func ?_);obtain⟨t,ht,hq⟩:=hbody A outer s H vs Q E (hr.deeper _) hsp;have I:Inv Ak9 [] AXk H s1:=z9f S hr.hd e0 hl r x;refine wpAny_mono (ht [] s1 AXk H _ I hq) (Α fl s' hs) fun e s' hs=>hs;have fin:∀{σ' :St} {H' :Hp} {v:V} {u:Value},Inv Ak9 [] σ' H' s' ->LH ->kG ->Aeo :=
  fun{σ' H' v u} J rv q=>⟨v,H',J.os,J.bare,J.base,J.hok,rv,q⟩
 cases fl with
 | ret u=>
  obtain⟨v,σ',H',J,rv,q⟩:=hs;exact fin J rv q
 | next=>
  obtain⟨σ',H',J,q⟩:=hs;exact fin (v:=V.non) (u:=Value.none) J rfl q
 | brk=>
  show AKl q hs (False.elim q)
 | cont=>
  show AKl q hs (False.elim q)
section
variable{X:Cx}{x:Str}{p pos:Pos}{e:Expr}{es:AE}{t:TA}{id T:String}{r:SA}
def Pz(r:SA)(t:TA):TE:=AVX (r vs H1 Q)
theorem Te(hc:kK id r)(ye)(hv:wE sg)(ha:AjK)(hn:lx :=by decide)(hdb:BM x "__debug__":=by decide)
  (sP):A4U:=by
 show ER;refine wpAny_Call_Name_kw (Er I hg hm hv ?_ hn hdb);exact PyProof.Rows.callWith_builtin1 (bV AJl fun us s1 aaT=>by show AP5 aaT;exact N3 hc vs us Q I1 r1 q1) he hpl
theorem Tf(hc:fz T r)(ye)(hv:wE ė)(ha:AjK)(hn:lx :=by decide)(hdb:BM x "__debug__":=by decide)
  (sP):A4U:=by
 show ER;refine wpAny_Call_Name_kw (Er I hg hm hv ?_ hn hdb);exact PyProof.Rows.callWith_type1 (bV AJl fun us s1 aaU=>by show AP5 aaU;exact N3 hc vs us Q I1 r1 q1) he hpl
#where
#print L2
namespace HT
open PySem PyProof.Rows
def lexLt:Ξ ->Ξ ->Bool
 | [],[]=>false
 | [],A1=>true
 | A1,[]=>false
 | Ee,AFZ=>E2 x y (lexLt xs ys) (Θ (x<y))
section
open PySem.SeqAt
open PySem.AutoSeq1 (wpAny_loadPart')
open PySem.MeetsSeq PySem.MeetsSeq2 PySem.MeetsSeq3
#where
section
variable{prog:Program}{w:World}{A:Around}{E:dG}{s:Shared}
def sIx(n d:Nat):KP ->Nat
 | none=>d
 | ļ=>if v<0 then Su v EO else BHn
theorem yj8(n d:Nat)(hd:d<=n)(o:KP):sIx n d o<=n:=by
 cases o with
 | none=>exact hd
 | some v=>
  show BAS<=n;by_cases hv:v<0
  ·show D1 hv;omega
  ·show An hv;exact Nat.min_le_right _ _
theorem z6j(v:Int)(n d:Nat):A6X=B5 (sIx n d (some v)):=by
 show A6X=B5 BAS;by_cases hv:v<0
 ·simp only [Ap hv];omega
 ·simp only [ATG];omega
theorem z19(A2q):Builtin.Slice.sliceAdjust lo hi 1 EO=(AZg,AzE):=by
 have h1:¬(OG<0):=ρ
 refine Prod.ext ?_ ?_
 ·cases lo with
  | none=>rfl
  | some v=>exact z6j v n 0
 ·cases hi with
  | none=>rfl
  | some v=>exact z6j v n n
theorem z2s(i j:Nat):Builtin.Slice.slicePlaces FA NS 1=j - i:=by
 unfold Builtin.Slice.slicePlaces;have h1:OG>0:=ρ
 simp only [h1,if_true,Int.ediv_one];split<;>omega
theorem zrx{v:Value}{o:KP}{Q:D4 KP}(p:IsPart v o)(h:Q o s):E4 (Builtin.Slice.slicePartIndex v):=by
 cases p with
 | none=>exact slicePart_none h
 | int i t=>exact slicePart_int h
theorem znk{sl:Addr}(A_V){n:Nat}{Q:D4 (Int×Int×Nat)}(hs:ArY)(pl:Anj)(pu:Ank)
  (h:Q (AZg,1,sIx n n hi - sIx n 0 lo) s):E4 (Builtin.Slice.sliceApplied (AW sl) (pure EO)):=by
 show KW os hos hcs hds hs;show HC z6 (Am1 vl rfl (z6 (Am1 vu rfl (z6 (Am1 AJ rfl AQO)))));show L1 slicePart_none;show mw
 refine z6 (zrx pl (z6 (zrx pu (z6 (z7 ?_)))));show Mm (match Builtin.Slice.sliceAdjust lo hi 1 EO with | (lo,hi)=>pure (lo,OG,Builtin.Slice.slicePlaces lo hi 1)) _ s
 rw[z19 lo hi n];show Mm (pure (AZg,OG,Builtin.Slice.slicePlaces AZg AzE 1)) _ s;rw[z2s];exact z7 h
theorem yaf(xs:D7)(i k:Nat):We (List.range k).filterMap (AIu m xs[Apm]?)=We (xs.toList.drop i).take k:=by
 have e:(Μ (D9 m) xs[Apm]?)=Atp:=by
  funext m
  have:Apm=i+m:=ρ
  rw[this]
 rw[e];have:=pick_run xs i k;show A_ List.filterMap_map;have e2:((Μ x xs[x]?) ∘ IL (i+x))=Atp:=rfl;show A_ e2;rw[this]
theorem getItem_tuple_cut{t sl:Addr}{items:D7}(A_V){Q:dG}(ht:IsTup s.heap t items)(hs:ArY)(pl:Anj)(pu:Ank)
  (hw:¬(AIc=0/\AQD=items.size))
  (h:AM5 (ä (We AqA ASU)))
  (hsz:Afj):E4 (getItem (AW t) (AW sl)):=by
 have Ca:sizeOk (.seq (We AqA ASU)):=by
  show AQ (AqA ASU).toArray.size;rw[List.size_toArray,List.length_take,List.length_drop,Array.length_toList];omega
 have hj:AQD<=items.size:=yj8 _ _ CC hi;show KW os hos hcs hds hs;have hTs:s.TypeIs (AW sl) "slice" :=⟨os,hos,hcs⟩;unfold getItem
 try with_reducible refine wpAny_holding ?_
 first | show tz | skip
 show TN wpAny_sequenceKey ht.typeIs τ
 refine z6 (wpAny_callSpecial?_slot (name:=È "__getitem__") ht.typeIs PyProof.Rows.slot_tuple_getitem
  (ABt PyProof.Rows.slot_tuple_getitem ht.typeIs entry_tuple_getitem (args_tuple_getitem _ _)))
 show AFd (Builtin.Tuple.tupleItemsOf (AW t));show NA tupleItemsOf_ ht;show NA wpAny_typeOf hTs;show D1 τ
 refine z6 (znk hs pl pu ?_);have hno:¬(A'O):=by
  intro q;rw[Bool.and_eq_true,Bool.and_eq_true] at q;have q1:B5 AIc=0:=eq_of_beq q.1.1;have q2:AQD - AIc=items.size:=eq_of_beq q.2;exact hw ⟨ρ,ρ⟩
 show Mm (ADR A'O) _ s;rw[Χ hno,yaf]
 first
  | exact AU1 (wpAny_newObj_type (z7 AdX) Ca)
  | exact AU1 (wpAny_newObj_type (z6 AvK) Ca)
  | exact z6 (AU1 (wpAny_newObj_type AvK Ca))
  | exact z6 (AU1 (wpAny_newObj_type (z7 AdX) Ca))
#where
#print HT
namespace L2
open PySem PySem.Spec PyProof.Rows
abbrev TO:=AXG Af5
def PO(X:Cx)(e:ADw)(t:TO):Prop:=
 ∀(pins:c7) (s:Shared) (σ:St) (H:Hp) (Q:Af5),Ĝ (WH (evalPart e X.env) (ĭ u (∃o H',ŗ /\IsPart u o/\Q o H')))
def yfc:TO:=Aii none
def Tg(t:TE):TO:=p_ t (∃i,x= B9/\Q (some i) H1)
section
variable{X:Cx}{e:Expr}{te:TE}{lo hi:ADw}{tl th:TO}{pos p2:Pos}
theorem ye4:PO X none yfc:=by
 show ER;rw[evalPart_none];exact z7 ⟨none,H,I,AJ,h⟩
theorem yhq(h:SB):PO X AQn (Tg te):=by
 show Aj6;rw[evalPart_some];show ng Amd u aaV;show MG aaV;show JO i q q1;show IU r1;exact⟨some i,H1,I1,.int i t,q⟩
def SlR(X:Cx)(r:AHP):Prop:=
 ∀(pins:c7) (s:Shared) (σ:St) (H:Hp) (x:V) (v vl vu:Value) (lo hi:KP) (sl:Addr) (Q:VK),rh PQ (Ρ ArY Anj Ank (r x lo hi H Q) (∃T id,A9Q/\AxG/\ABk (getItem v (AW sl))))
def tSl(r:AHP)(te:TE)(tl th:TO):TE:=p_ te (Ll tl l (AN8 th u (r x l u H3 Q)))
theorem z0u{r:AHP}(hr:SlR X r)(he:SB)(hl:PO X lo tl)(hu:PO X hi th):AU2 e Arm (tSl r te tl th):=by
 show ER;show PP Subscript_ nK v aaW;show MG aaW;refine wpAny_Slice (bV (é hl) (Α vl s2 hz1));obtain⟨l,H2,I2,pl,q2⟩:=hz1;show QY (Alc hu) vu s3 hz2;obtain⟨u,H3,I3,pu,q3⟩:=hz2;rw[evalPart_none];refine z7 ?_;have I4:LJ H3 A8x:=I3.kept (t' :=s3.toks) (N9 ob ABP);obtain⟨T,id,hT,ht,hg⟩:=hr pins A8x σ H3 x v vl vu l u s3.heap.objs.size Q I4 r1 (Heap.IsSliceOf.new ..) pl pu q3;exact tail_any (ops:= [.ref s3.heap.objs.size,v]) ht hT hg ú
def wY(xs:χ)(lo hi:KP):χ:=AuV
theorem zpl(xs:χ)(lo hi:KP):(wY xs lo hi).length<=xs.length:=by
 unfold wY;rw[List.length_take,List.length_drop];omega
def aaX(o5):AHP:=ArK (∃a xs,x= AF/\n9/\
 ¬(BGg=0/\BGm=xs.length)/\ANB (.tup AW_))
theorem ykb:SlR X (aaX X.K):=by
 intro pins s σ H x v vl vu lo hi sl Q I rx hs pl pu h;show ij a xs hx hw q h;cases rx;obtain⟨its,r,ht,hz⟩:=I.tuple hx;have hlen:its.toArray.size=xs.length:=AB List.size_toArray r.length.symm
 refine⟨"tuple",_,PyProof.Rows.slot_tuple_getitem.lookup,ht.typeIs,?_⟩;refine HT.getItem_tuple_cut ht hs pl pu (B6 hlen hw) ?_ (B6 hlen hz)
 rw[hlen];refine BBk (.tup AW_);exact⟨A4q,_,Aer r.drop,Aft⟩
def adD(o5):R2:=OF (∃a b ns ms,x= AF/\y= LE/\pO K H a AQa/\pO K H b (ms.map V.int)/\Q (.bl (HT.lexLt ns ms)) H)
def acy(o5):R2:=OF (∃a b xs ys,x= AF/\y= LE/\n9/\pO K H b ys/\xs≠ []/\At_/\
 (ys= [] ->Q Ct H)/\ (ys≠ [] ->ANB (.tup AWp)))
#where
def vo(n:Nat)(i:Int):Ev Nat:=if 0<=i then(AI CO (some i.toNat) none) else Aex (-EO<=i) (some (Su i n))
def mZ(FI)(xs:AG)(i:Int):Ev α:=(vo xs.length i).bind fun j=>AMJ
theorem zw8{n:Nat}{i:Int}{j:Nat}(h:vo n i=some j):seqIndex? i n=some j/\j<n/\ -EO<=i/\CO:=by
 show BC vo;by_cases h0:0<=i
 ·show AEX h0;by_cases h1:CO
  ·show AEX h1;have e:i.toNat=j:=zF h;exact⟨EW (seqIndex_of h0 h1) e,ρ,ρ,h1⟩
  ·show oa (Χ h1)
 ·show AEW h0;by_cases h1: -EO<=i
  ·show AEX h1;have e:Su i n=j:=zF h;exact⟨EW (Ah0 h1) e,ρ,h1,ρ⟩
  ·show oa (Χ h1)
theorem zya(FI){xs:AG}{i:Int}{v:α}(h:ò xs v):∃j,AvT j/\HK xs v/\Afx/\ -Į<=i/\mh:=by
 show BC mZ;cases e:vo xs.length i with
 | none=>show oa e
 | some j=>
  rw[e] at h;obtain⟨h1,h2,h3,h4⟩:=zw8 e;exact⟨j,h1,h,h2,h3,h4⟩
theorem yr(FI){xs:AG}{j:Nat}{v:α}(h:HK xs v):mZ xs NS=some v:=by
 have hj:j<xs.length:=HR h;have e:vo xs.length NS=some j:=by
  unfold vo;rw[RU,RU];simp
 unfold mZ;rw[e];exact h
def zxg(b:Expr):Prop:=BFZ
def YD(X:Cx)(r:R2):Prop:=
 ∀(value slice:Expr) (pins:c7) (s:Shared) (σ:St) (H:Hp) (x y:V) (v u:Value) (Q:VK),FH Ε PQ IN (r x y H Q) (Aee (subscripted slice false v u) [v,u] v u) (ABk (subscriptTail value slice v u))
def MtR(A7R):Prop:=
 ∀(pins:c7) (s:Shared) (σ:St) (H:Hp) (x:V) (xs:χ) (v:Value) (us:Β) (Q:VK),AFk PQ Q1 (r x xs H Q) (Am2 v)
section
variable{X:Cx}{a b:Expr}{ta tb:TE}{pos:Pos}
theorem yjs{r:R2}(hr:YD X r)(ha:eg)(hb:ADS)(hs:zxg b):AU2 a b AZl:=by
 show ER;exact Subscript_ (ArF fun v u s2 x y H2 I2 rx ry q=>hr a b pins s2 σ H2 x y v u Q I2 rx ry q (hs _ _))
def Ti(o5):R2:=BBf AM0
def Tj(o5):R2:=BBf AVk
def Tn:R2:=OF (∃z i c,x= mo/\y= B9/\ATJ/\AyY/\Q (HE AF_) H)
theorem z3s:YD X (Ti X.K):=by
 intro value slice pins s σ H x y v u Q I rx ry h hs;obtain⟨p,xs,i,z,rfl,rfl,hq,he,q⟩:=h;cases rx;show IU ry;obtain⟨its,r,pl,hz⟩:=I.list hq;show AsF;show At w ew o9 r.get h2;show Agk;show Ź;have fin:mE w s:=⟨z,H,I,o9,q⟩;by_cases h0:0<=i
 ·have hj:i.toNat=j:=AfF (seqIndex_of h0 h5) (zF h1)
  exact item_listR pl.isList h0 ξ (by rw[hj];simpa using ew) fin hs
 ·have hj:Su i AJK=j:=by
   rw[Ah0 h4] at h1
   show AJA;exact zF h1
  exact BJU w pl.isList.typeIs slot_list_getitem.lookup
   (wpAny_getItem_list_neg (Q:=A1W) pl.isList ξ BIf ξ (by rw[hj];simpa using ew) (HU fin)) hs
theorem ylt:YD X (Tj X.K):=by
 intro value slice pins s σ H x y v u Q I rx ry h hs;obtain⟨p,xs,i,z,rfl,rfl,hq,he,q⟩:=h;cases rx;show IU ry;obtain⟨its,r,pl,hz⟩:=I.tuple hq;show AsF;show At w ew o9 r.get h2;show Agk;show Ź;have fin:mE w s:=⟨z,H,I,o9,q⟩;exact BJU w pl.typeIs slot_tuple_getitem.lookup
  (getItem_tuple (j:=j) (Q:=A1W) pl ξ ξ (AUV h1) (Bi ew) (HU fin)) hs
theorem ylh:YD X Tn:=by
 intro value slice pins s σ H x y v u Q I rx ry h hs;obtain⟨z,i,c,rfl,rfl,hz,he,q⟩:=h;show OH;show Ų;show AsF;have hl:z.cps.toList.length=z.length:=BD Str.length
 rw[hl] at h1 h4 h5;show Ź;exact tail_any (typeIs_str s z t) slot_str_getitem.lookup (getItem_str (c:=c) (by
  have e1:AYi (i< -(AL (2^63))):=AgA
  have e2:AYi (i≥2^63):=AgA
  rw[e1,e2,Bool.or_false]) (by rw[h1];simpa using h2) ⟨.str AF_,H,ABa,Cf,q⟩) hs
def rIx(o5):R2:=OF (Ti K x y H Q\/Tj K x y H Q\/Tn x y H Q)
theorem z2v(its:Β)(n j:Nat)(u:Value):Obj.mapSeq (·.setIfInBounds j u) ADW=iF (E1 "list") (.seq (its.set j u).toArray n):=BD Obj.mapSeq
theorem Inv.lst(AKV){p:Addr}{xs:χ}(I:Ε)(h:Ahi):
  Aqg (ACf/\AyI/\ì):=by
 show Aay (k7 p h);exact⟨its,n,r,e,z⟩
theorem Inv.lstUpd(AKV){p:Addr}{xs ys:χ}{its its' :Β}{n n' :Nat}{f:Obj ->Obj}(I:Ε)(h:Ahi)
  (ho:AyI) (hf:f ADW=AyT) (r:AtY) (hz:AK2) (t:Nat):
  LJ (zh p ys) (Pi (s.heap.update p f) t):=by
 have e:(s.heap.update p f).get? p=some AyT:=EW (Heap.get?_update_self f ho (by rw[hf]<;>rfl)) hf
 refine I.write (x:=p) (e:=p) (by rw[h];trivial) WU (fun b u hb q=>(BGc Acv).trans q) (ĩ e) ?_
 exact⟨hz,its',n',r,e⟩
def Tq:A6J:=fun o i v H Q=>∃p xs k j,o= Kt/\i= OS/\Ahi/\A1m/\Q (zh p (xs.set j v))
theorem z9o:Sw X Tq:=by
 intro pins s σ H o i v ov iv u Q I ro ri rv h;obtain⟨p,xs,k,j,rfl,rfl,hp,hj,q⟩:=h;cases ro;show IU ri;obtain⟨its,n,r,ho,hz⟩:=I.lst hp;obtain⟨h1,h2,h3,h4⟩:=zw8 hj;show Agk;show Ź;have I' :LJ (zh p (xs.set j v)) (Pe (s.heap.update p (Obj.mapSeq (·.setIfInBounds j u)))):=
  I.lstUpd hp ho (z2v its n j u) (r.set rv j) (B6 List.length_set hz) s.toks
 by_cases h0:0<=k
 ·have hk:k.toNat=j:=AfF (seqIndex_of h0 h4) (zF h1)
  exact W.ki_setAt ho h0 ξ (AUV h4) AxC
 ·have hk:Su k AJK=j:=by
   rw[Ah0 h3] at h1
   show AJA;exact zF h1
  exact W.ki_setBack ho ξ (AUV h3) ξ AxC
theorem zvd(A2q):Ark.1=B5 (HT.sIx n 0 lo)/\ Ark.2.1=B5 (HT.sIx n n hi)/\ Ark.2.2=1:=by
 show Y_ ?_ rfl
 ·cases lo with
  | none=>show AzU
  | some i=>
   show BFi
 ·cases hi with
  | none=>show AzU
  | some i=>
   show BFi
theorem zui(its:Β)(lo hi:KP):slicePick its.toArray lo hi none=We (BGd its.drop its.length) (HT.sIx its.length its.length hi - HT.sIx its.length 0 lo):=by
 obtain⟨h1,h2,h3⟩:=zvd lo hi its.toArray.size;unfold slicePick;rw[h1,h2,h3];simp only [sliceRange_one,pick_run,List.size_toArray]<;>rfl
def aaY(o5):AHP:=ArK (ARQ xs UZ (AiZ AW_))
theorem yfh:SlR X (aaY X.K):=by
 intro pins s σ H x v vl vu lo hi sl Q I rx hs pl pu h;show BV a xs hx q h;cases rx;obtain⟨its,r,ht,hz⟩:=I.list hx;have hlen:=r.length;refine⟨"list",_,slot_list_getitem.lookup,ht.isList.typeIs,?_⟩;refine wpAny_getItem_list_slice ht.isList hs pl pu AJ Η ?_ BIf
 rw[zui,<- hlen];refine BBk (.lst AW_);exact⟨A4q,_,0,Aer r.drop,KO⟩
def pA:mM V
 | Ι=>true
 | Iy=>true
 | IM=>true
 | GW=>true
 | _=>false
def Iz:Axe
 | Ι,Ι=>true
 | .bl a,UO=>å
 | .bl a,ADs=>A3G
 | ADr,UO=>a==(AI b 1 0)
 | ADr,ADs=>å
 | AK3,AK4=>å
 | _,_=>false
theorem ykt(Aya){y x:V}{u v:Value}(ry:IN)(rx:PQ)(fy:pA y=true)(fx:AhI):A5z (Iz y x):=by
 cases y with
 | non=>
  cases ry;cases x with
  | non=>show vj Afb
  | bl b=>show vj (SeqAt.EqAt.none_bool b)
  | int b=>show OH;exact SeqAt.EqAt.none_int b t
  | str b=>show OH;exact SeqAt.EqAt.none_str b t
  | _=>show AGD fx
 | bl a=>
  cases ry;cases x with
  | non=>show vj (SeqAt.EqAt.bool_none a)
  | bl b=>show vj (SeqAt.EqAt.bool_bool a b)
  | int b=>show OH;exact SeqAt.EqAt.bool_int a b t
  | str b=>show OH;exact SeqAt.EqAt.bool_str a b t
  | _=>show AGD fx
 | int a=>
  show Ų;cases x with
  | non=>show vj (SeqAt.EqAt.int_none a t')
  | bl b=>show vj (SeqAt.EqAt.int_bool a t' b)
  | int b=>show Aag SeqAt.EqAt.int_int
  | str b=>show Aag SeqAt.EqAt.int_str
  | _=>show AGD fx
 | str a=>
  show Ų;cases x with
  | non=>show vj (SeqAt.EqAt.str_none a t')
  | bl b=>show vj (SeqAt.EqAt.str_bool a t' b)
  | int b=>show Aag SeqAt.EqAt.str_int
  | str b=>show Aag SeqAt.EqAt.str_str
  | _=>show AGD fx
 | _=>show AGD fy
def Am(x:V)(u:Value):Bool:=match u with
 | AJ=>Iz Ι x
 | .bool b=>Iz ATu x
 | ANk=>Iz vy x
 | .str z _=>Iz (HE z) x
 | _=>false
theorem yes(A8')(r:IN)(f:pA y=true):Am x u=Iz y x:=by
 cases y with
 | non=>cases r;rfl
 | bl b=>cases r;rfl
 | int i=>show AEV
 | str z=>show AEV
 | _=>show AGD f
theorem Tr{x:V}:Aqf (Q1 ->Ako ->us.any (Am x)=xs.any fun y=>Iz y x)
 | _,_,BS,_=>rfl
 | y::xs,u::us,xw,f=>by
  rw[List.all_cons,Bool.and_eq_true] at f;show AwN (yes r f.1) (Tr t f.2)
theorem Tt(Aya){x:V}{v:Value}(rx:PQ)(fx:AhI):Aqf (Q1 ->Ako ->∀u∈us,A5z (Am x u))
 | _,_,BS,_=>fun u hu=>(XA hu)
 | y::xs,u::us,xw,f=>fun u' hu=>by
  rw[List.all_cons,Bool.and_eq_true] at f;show P6 hu hu
  ·rw[yes r f.1];exact ykt r rx f.1 fx
  ·exact Tt rx fx t f.2 u' hu
def inV(x:V)(xs:χ):Bool:=xs.any fun y=>Iz y x
def rIn(K:W.Frag)(neg:Bool):R2:=OF (∃p xs,y= Kt/\ (AM0\/AVk)/\AhI/\Ako/\Q (AgC (inV x xs) (inV x xs)) H)
theorem zvb:AHr In (rIn X.K false):=by
 intro pins s σ H x y v u Q I rx ry h;obtain⟨p,xs,rfl,hq,fx,fs,q⟩:=h;cases ry;show AaA
 ·show A0l SeqAt.in_listAt
 ·obtain⟨its,r,pl,hz⟩:=I.tuple hq;refine SeqAt.in_tupleAt (Am x) pl (fun w hw=>Tt rx fx r fs w (Bi hw)) (Ğ ?_)
  rw[ARg (its.toArray.any (Am x)=its.any (Am x)),Tr r fs]
  exact q
theorem zmv:AHr NotIn (rIn X.K true):=by
 intro pins s σ H x y v u Q I rx ry h;obtain⟨p,xs,rfl,hq,fx,fs,q⟩:=h;cases ry;show AaA
 ·show A0l SeqAt.notIn_listAt
 ·obtain⟨its,r,pl,hz⟩:=I.tuple hq;refine SeqAt.notIn_tupleAt (Am x) pl (fun w hw=>Tt rx fx r fs w (Bi hw)) (Ğ ?_)
  rw[ARg (its.toArray.any (Am x)=its.any (Am x)),Tr r fs]
  exact q
theorem zm5:kK "len" (PU xs (BBb (AQv ys.length))):=by
 intro pins s σ H xs us Q I r h;show BV p ys hq q h;show L_;cases rx;show Ź;show AaA
 ·show AjX;show ANd;exact Calls.call_len_list pl.isList AKm (AcF ys.length (A0o hlen))
 ·show AjY;show ANd;exact len_tuple pl AKm (AcF ys.length (A0o hlen))
theorem zvs:kK "len" (PU xs (∃z,xs= [mo]/\ATJ/\AQv z.length)):=by
 intro pins s σ H xs us Q I r h;show P7 z rfl hz q;obtain⟨u,rfl,t,rfl⟩:=vals1 r;show Ź;exact len_str ξ (ANW z.length)
theorem zm3:fz "list" (PU xs (BBb (Apw (z0 ys)))):=by
 intro pins s σ H xs us Q I r h;show BV p ys hq q h;show L_;cases rx;have fin:∀(its:Β),Vals ys its ->AK2 ->∀(h' :Heap) (c' :Nat),(∀b o',ATD o' ->H_ h'.get? o') ->
   AR_ {cls:= Rc,dict:=none,data:= .seq its.toArray c',slots:= #[]} ->mE YA MT:=fun its r' hz h' c' kp e=>
  (ACn (Ag8 kp CC (Cc (WG _ h' _ AfS) ⟨hz,its,c',r',e⟩)) q)
 show AaA
 ·show AjX;show ANd;obtain⟨o,ho,hc,n,hd⟩:=pl.isList;exact call_list_seq p WU ho hc hd (fun h' c' kp e=>fin its r' hz h' c' kp e) AKm
 ·show AjY;show ANd;obtain⟨o,ho,hc,n,hd⟩:=pl;exact call_list_seq p Af1 ho hc hd (fun h' c' kp e=>fin its r' hz h' c' kp e) AKm
theorem zkk:fz "tuple" (PU xs (∃p ys,xs= [Kt]/\ ((uA kZ p/\Apw (IA l AEc))\/ (uA pO p/\EV p H)))):=by
 intro pins s σ H xs us Q I r h;show AMV p ys;show L_;cases rx;rcases h with ⟨hq,q⟩ | ⟨hq,q⟩
 ·show AjX;show ANd;refine call_tuple_list pl.isList (fun h' kp=> ?_) AKm
  show Ay_ kp;have I2:sC h'.objs.size AEc (Pe (h'.push Ado)):=
   qc I1.laid (rV) CC (aI AEc ⟨hz,its,r',Aft⟩)
  exact A5t (.ref h'.objs.size)
 ·show AjY;exact call_tuple_same pl (ABZ Kt q)
def YF(K:W.Frag)(T:String)(x:V)(H:Hp):Prop:=match x with
 | GW=>T= "str"
 | IM=>T= "int"
 | Kt=>(T= "list" /\∃xs,AM0)\/ (T= "tuple" /\∃o,K.lookup p=some o/\Ai1 /\AgL)\/
   (T= "dict" /\ ((∃kvs,KM p FV)\/∃kvs,KM p WS))\/ (T= "set" /\∃S n,KM p (.set S n))
 | _=>False
theorem yjl(AKV){T:String}{x:V}{v:Value}(I:Ε)(r:PQ)(ty:YF X.K T x H):
  AxG/\∀a,kP ->Awp (Dx s.heap.get? ob):=by
 cases x with
 | str z=>
  show IU r;cases (Cc (T= "str") ty);exact⟨typeIs_str s z t,FU e UB⟩
 | int i=>
  show IU r;cases (Cc (T= "int") ty);exact⟨typeIs_int s i t,FU e UB⟩
 | ref p=>
  cases r;rcases ty with ⟨rfl,xs,hq⟩ | ⟨rfl,o,hk,hc,hd⟩ | ⟨rfl,hk⟩ | ⟨rfl,S,n,hk⟩
  ·obtain⟨its,_,pl,_⟩:=I.list hq;show Op pl.isList.typeIs a e;cases e;obtain⟨o,n,e,c,hd,_⟩:=pl;exact Ü hd
  ·show Op (Pl (I.kIn p o hk) hc) a e;cases e;exact Pl (I.kIn _ o hk) hd
  ·have z:∃o,AHn p/\o.ExactDict:=by
    rcases hk with ⟨kvs,hk⟩ | ⟨kvs,hk⟩
    ·obtain⟨_,_,_,_,o,_,_,e,ex,_⟩:=AlD;exact⟨o,e,ex⟩
    ·obtain⟨_,_,_,_,o,_,_,e,ex,_⟩:=AlD;exact⟨o,e,ex⟩
   show c0 e ex z;show Op (Ü ex.1) a e2;cases e2;exact Ü ex.2.1
  ·obtain⟨o,_,_,_,e,ex,_⟩:=AlD;show Op (Ü ex.1) a e2;cases e2;exact Ü ex.2.1
 | _=>show VX ty
def adE(K:W.Frag)(T:String)(r:eP)(to:TE):TE:=BCr (r x [] H1 Q)
def tBM(K_)(T:String)(r:eP)(to:TE)(t:TA):TE:=BCr (Ll t xs (r x xs H2 Q))
variable{o e:Expr}{es:AE}{to:TE}{t:TA}{name:Str}{apos cpos:Pos}{T id:String}{r:eP}
theorem ylv(pa:PlainAttrs T)(slot:Slot T name id)(hty:A4c)(hm:MtR X id r)(ho:PE X o to)(ha:AjK)
  (hbase:NH o name o o:=by rfl)
  (hfew:Mn (ABw (w_ Da) (! x.1)&&AOP) (AOy (Mb Da)):=by rfl)
  (hline:da:=by rfl) (hs:starEach Da X.env=E9 (DE e) (E8 es):=by rfl) (hplain:zn (w_ es):=by rfl):
  PE X (Í (V_ o name) Da) (tBM X.K T r to t):=by
 show ER;refine wpAny_Call_method_late hbase hfew hline rfl (Pw ALk v aaZ);obtain⟨x,H1,I1,r1,ty,q1⟩:=aaZ;show AGn (yjl I1 r1 ty);refine⟨T,id,pa,slot,hty,h1,h2,?_⟩;have hA:=ha cpos pins s1 σ H1 _ I1 q1;rw[hs] at hA⊢;show Ayd (by show(false || (backTo cpos (starEach es X.env)).any (·.1))=false;rw[hplain]<;>rfl) ?_
 exact bV hA fun us s2 aa0=>by obtain⟨vs,H2,I2,r2,q2⟩:=aa0;exact APv hm x vs v us Q I2 r1 r2 q2
#where
def MtM(A7R):Prop:=
 ∀(pins:c7) (s:Shared) (σ:St) (H:Hp) (x:V) (xs:χ) (v:Value) (us:Β) (Q:VK),AFk PQ Q1 (r x xs H Q) (Am2 v)
theorem Vals.one:∀{x:V} {us:Β},p6 [x] ->A7t
 | _,_,ABV BS=>Lv r
theorem Vals.eraseIdx:AbH i (Vals (xs.eraseIdx i) (us.eraseIdx i))
 | _,_,_,BS=> BS
 | _,_,0,AXZ=>t
 | _,_,By,xw=> ABV (Vals.eraseIdx i t)
theorem Vals.reverse(A3q):Vals xs.reverse us.reverse:=by
 induction h with
 | nil=>exact BS
 | cons r t ih=>rw[List.reverse_cons,List.reverse_cons];exact Vals.append ih (AQ8 r)
theorem Vals.rep(A3q):∀k:Nat,Vals (ki k xs) (ki k us)
 | 0=> BS
 | k+1=>by
  show AwO List.flatten_cons List.flatten_cons;exact Vals.append h (Vals.rep h k)
theorem zvx(FI):∀(l:AG) (i:Nat),BI l.eraseIdx i<=l.length
 | [],_=>E7
 | A1,0=>ARd
 | _::r,By=>Nat.succ_le_succ (zvx r i)
theorem zvc(its:Β):∀(k:Nat) (acc:Β),
  List.foldl ApH acc.toArray (List.replicate k its.toArray)=(acc++ ki k its).toArray
 | 0,acc=>AY
 | k+1,acc=>by
  have e:acc.toArray++its.toArray=(Aki).toArray:=AY
  have e2:Aki++ ki k its=acc++ ki EL its:=by
   rw[List.replicate_succ,List.flatten_cons,List.append_assoc]
  rw[<- e2,<- zvc its k Aki,<- e,List.replicate_succ,List.foldl_cons]
section
variable{X:Cx}{pins:c7}{σ:St}{H:Hp}{s:Shared}{l b:Addr}{xs ys zs:χ}
theorem Inv.lset{its its' :Β}{n:Nat}{f:D7 ->D7}{t' :Nat}(I:Ε)(hH:l_)
  (e:AM4 ADW) (hf:f its.toArray=its'.toArray) (hv:AtY) (hz:AK2):
  AKt ys (Pi (s.heap.update l (Obj.mapSeq f)) t'):=by
 have q:=PySem.IsL.update e f;rw[hf] at q;refine I.write (x:=l) (e:=l) (B6 hH trivial) WU (fun b' u hb hu=>(Heap.get?_update_other s.heap (Obj.mapSeq f) Acv).trans hu) ⟨_,q⟩ ?_
 exact⟨hz,its',_,hv,q⟩
theorem Inv.lnew{its:Β}{t' :Nat}(I:Ε)(hv:Vals ys its)(hz:AK2):
  Awf ys (Pi (AHt (AHs its.toArray)) t'):=
 I.laid BHX CC ⟨hz,its,0,hv,KO⟩
theorem Inv.fresh(Na):Po s.heap.objs.size:=I.hok.fresh (zN _)
theorem Inv.lstM(I:Ε)(hH:l_):ARu (Aqg (ACf/\AKc its.length/\AM4 ADW)):=by
 show Aay (k7 l hH);exact⟨z,its,n,r,r.length,e⟩
theorem z1i{n:Nat}(h:AQ n):Builtin.List.listTooLong n=false:=C7 AgA
#where
section
variable{X:Cx}
def yin:eP:=AJ0 (∃l xs y,x= E5/\vs= [y]/\l_/\OA xs.length/\ASK (xs++ [y]))
theorem zwp:MtM X "list.append" yin:=by
 intro pins s σ H x vs v us Q I rx rv h;obtain⟨l,xs,y,rfl,rfl,hH,hz,q⟩:=h;cases rx;show JO u ru rv.one;show AoU;refine AXy F.slot_list_append F.entry_list_append F.args_list_append_2 (AOS PySem.list_append u AMj) (Do e)
 refine Fk Ι (I.lset (its' :=its++ [u]) hH e Η (r.append (AQ8 ru)) ?_) q
 show AwB;omega
def ym2:eP:=AJ0 (BBz (vs= [LE]/\l_/\BJW/\At'/\ASK (xs++zs)))
def adF:eP:=AJ0 (∃l xs y,x= E5/\vs= []/\l_/\DC xs (xs.length - 1) y/\Q y (z0 xs.dropLast))
def Mr:eP:=AJ0 (∃l xs i k y,x= E5/\vs= [B9]/\l_/\ -(2^63)<=i/\i<2^63/\AvT k/\DC xs k y/\Q y (z0 (xs.eraseIdx k)))
theorem ybt:MtM X "list.pop" Mr:=by
 intro pins s σ H x vs v us Q I rx rv h;obtain⟨l,xs,i,k,y,rfl,rfl,hH,h1,h2,hk,hy,q⟩:=h;cases rx;show JO u ru rv.one;show IU ru;show AoU;show At w hw o9 r.get hy;refine AXy F.slot_list_pop F.entry_list_pop F.args_list_pop_2
  (AOS MeetsSeq.list_pop_at i t k w (fitsIndex_both h1 h2) (AUV hk) (AhY hw) AMj) (Do e)
 refine⟨y,_,I.lset (its' :=its.eraseIdx k) hH e ?_ (r.eraseIdx k) ?_,o9,q⟩
 ·rw[List.eraseIdxIfInBounds_toArray]
 ·have:=zvx xs k;omega
def ymc:eP:=A6p xs.reverse
def aa1:eP:=A6p []
def adG:R2:=OF (BBz (y= LE/\l_/\BJW/\At'/\AiZ (xs++zs)))
def aa2:R2:=OF (∃l k xs,x= E5/\y= OS/\l_/\ -(2^63)<=k/\k<2^63/\Awk/\
 AiZ AnB)
theorem ygh(FI)(xs:AG)(k:Nat):AHk k xs flatten.length=k*xs.length:=by
 induction k with
 | zero=>simp
 | succ k ih=>rw[List.replicate_succ,List.flatten_cons,List.length_append,ih,Nat.succ_mul,Nat.add_comm]
theorem yky:ß Mult aa2:=by
 intro pins s σ H x y v u Q I rx ry h;obtain⟨l,k,xs,rfl,rfl,hH,h1,h2,hz,q⟩:=h;cases rx;show IU ry;show AoU;show AML Ats (by show AJA;exact hz)
 have hcap:¬Ats>A3Z:=by
  have:BIs<=A3Z:=Κ
  omega
 have hfit:¬(d_ (Builtin.List.listFitsIndex k)):=AB (fitsIndex_both h1 h2) zJ
 have Ez:¬Builtin.List.listTooLong (its.toArray.size*k.toNat)=true:=KL z1i hlen zJ
 have hnew:List.foldl ApH #[] (List.replicate (AI (its.toArray.isEmpty=true) 0 k.toNat) its.toArray)=Axp k.toNat:=by
  have f0:∀m:Nat,List.foldl ApH #[] (List.replicate m its.toArray)=Axp m:=fun m=>by
   have:=zvc its m [];show A_ List.nil_append;exact this
  rw[f0];cases its with
  | nil=>simp
  | cons a r' =>show An Η
 refine wpAny_binaryOp_repeat_ref (T:= "list") (U:= "int") τ (HL e) (Μ s' (typeIs_int s' k t)) noFill_list_mul F.fills_int_mul F.slot_int_rmul repeat_list F.slot_int_index.lookup
  (call_meets F.slot_int_rmul (typeIs_int s k t) F.entry_int_rmul (F.args_int_rmul_2 _ _) (int___rmul___int_list k t l its.toArray n)
   ⟨e,rfl,HL e,AXy F.slot_list_mul F.entry_list_mul F.args_list_mul_2 (AOS AutoListH.list___mul___list_int_3 k t hfit hcap Ez) (Do e)⟩)
 rw[hnew];exact Fk ATA (qc I.lnew (r.rep k.toNat) (IF ygh Nat.mul_comm hz)) (q _ I.fresh)
#where
section
variable{prog:Program}{w:World}{A:Around}{E:dG}{s:Shared}
#where
section
variable{X:Cx}
#where
section
variable{κ:Type}[TZ]
def gP(kvs:Q3)(k:κ):MB:=AA kvs.find? (fun kv=>Abr) (·.2)
def putK(BEO):Q3:=
 GG AWa (kvs.map (Μ kv (ARX v))) (kvs++ [(k,v)])
def Ce(kvs:Q3)(k:κ):Q3:=kvs.filter fun kv=>(Θ (kv.1≠k))
theorem zsv{p:κ×V}{r:Q3}{k:κ}(e:AM=k):gP (p::r) k=some C9:=ARB gP e
theorem zsb{p:κ×V}{r:Q3}{k:κ}(e:¬AM=k):gP (p::r) k=gP r k:=ARB gP e
theorem zsa(k:κ):∀kvs:Q3,AWa=AW8
 | []=>rfl
 | p::r=>by
  rw[List.any_cons];show AN'
  ·simp only [zsv e,decide_eq_true e,Bool.true_or,Option.isSome_some]
  ·rw[zsb e,BI9,Bool.false_or];exact zsa k r
theorem zpr(BEO):ArJ<=kvs.length+1:=by
 unfold putK;split
 ·show AJS
 ·show Aey List.length_cons List.length_nil;omega
theorem nC.mj{o:MB}{u:LM}(r:nC o u):o.isSome=u.isSome:=by
 cases o with
 | none=>cases u with
  | none=>rfl
  | some _=>show AGr
 | some _=>cases u with
  | none=>show AGr
  | some _=>rfl
theorem nC.getD{o:MB}{u:LM}{d:V}{d' :Value}(r:nC o u)(rd:RelV d d'):RelV (o.getD d) (u.getD d'):=by
 cases o with
 | none=>cases u with
  | none=>exact rd
  | some _=>show AGr
 | some _=>cases u with
  | none=>show AGr
  | some _=>exact r
theorem KV.val(A8s):nC Aiv (valueAt vs k):=by
 induction r with
 | nil=>exact True.intro
 | @cons p q ps qs h t ih=>
  show AGn h;show AN'
  ·have e' :q.1=k:=h1.symm.trans e;have b:valueAt AYL k=some q.2:=AuA
   rw[zsv e,b];exact h2
  ·have e' :¬q.1=k:=AC Ax1;have b:valueAt AYL k=valueAt qs k:=AuA
   rw[zsb e,b];exact ih
theorem KV.any(A8s):AWa=vs.any fun kv=>Abr:=by
 induction r with
 | nil=>rfl
 | cons h t ih=>show AwN ih CF
theorem KV.repl(A'8):
  KV Ayh (vs.map fun kv=>(ARX u)):=by
 induction r with
 | nil=>exact BS
 | @cons p q ps qs h t ih=>
  show AWj;refine .cons ?_ ih;show AGn h;show AN'
  ·rw[Ap e,AyJ];exact⟨h1,ry⟩
  ·show A1w;exact⟨h1,h2⟩
theorem KV.put(A'8):KV (ARS y) (stored vs k u):=by
 unfold putK stored;rw[r.any k];by_cases e:(AcD vs.any)=true
 ·rw[Ap e,Ap e];exact r.repl k ry
 ·rw[Χ e,Χ e];exact Paired.snoc r (HU ry)
theorem KV.length{kvs:Q3}{vs:ACd}(r:AIm):AHa kvs.length:=BJm
#where
theorem PB{P:Program}{w:World}{k:Key}{u:Value}(r:RelV (kV k) u):(oW P w).is k u=true:=by
 cases k with
 | inl i=>show M' t (Cc (tJ AXP) r);subst e;exact zyy P w i t
 | inr x=>show M' t (Cc (tJ AXS) r);subst e;exact zpg P w x t
theorem zoh{P:Program}{w:World}:∀{ks:Au} {us:Β},Vals (ks.map kV) us ->ItemsAre lI ks us
 | [],_,r=>by rw[List.map_nil] at r;cases r;exact BS
 | Ŕ,_,r=>by
  rw[List.map_cons] at r;cases r with
  | cons h t=>exact kr (PB h) (zoh t)
abbrev KT(H:Hp):BG NE Ć:=Paired fun p q=>A_R
theorem KT.val{H:Hp}(A6H)(r:Ħ)(k:Au):nC Aiv ((atKey xs k).map (·.2)):=by
 induction r with
 | nil=>exact True.intro
 | @cons p q ps qs h t ih=>
  obtain⟨h1,_,h2⟩:=h;show AN'
  ·have e' :q.1=k:=h1.symm.trans e;have b:atKey AYL k=some q.2:=AuB
   rw[zsv e,b];exact h2
  ·have e' :¬q.1=k:=AC Ax1;have b:atKey AYL k=atKey qs k:=AuB
   rw[zsb e,b];exact ih
theorem KT.repl(A'N)(k:Au){y:V}{u:Value}(ry:IN):
  KT H Ayh (xs.map (putAt k u)):=by
 induction r with
 | nil=>exact BS
 | @cons p q ps qs h t ih=>
  show AWj;refine .cons ?_ ih;show GH h1 h2 h3;unfold putAt;show AN'
  ·rw[Ap e,AyJ];exact⟨h1,h2,ry⟩
  ·show A1w;exact⟨h1,h2,h3⟩
theorem KT.put(A'N)(k:Au){b:Addr}{y:V}{u:Value}(hb:AUK)(ry:IN):
  KT H (ARS y) (storedH xs k b u):=by
 have e:AWa=Ayu:=by
  rw[zsa,(r.val k).mj,Option.isSome_map]
 unfold putK storedH;rw[e];show D8 (Ayu=true)
 ·show AYt (r.repl k ry)
 ·show AYs (Paired.snoc r ⟨rfl,hb,ry⟩)
theorem KT.keeps{H H' :Hp}(A6H)(r:Ħ)(ht:∀b ys,N1 AEc ->AIy AEc):KT H' kvs xs:=
 Paired.mapP r (FS z A3K)
section
variable{P:Program}{w:World}{H:Hp}{h:Heap}{a:Addr}
theorem yk7{u:HO}(ok:R_)(e:Rd H a u):ny a u:=e.ok ok
theorem EY{kvs:Kx}(ok:R_)(e:AMQ):AqL:=
 show ny a FV from yk7 ok e
theorem PJ{kvs:Kx}(ok:R_)(e:ń):AqL:=EY ok (Db e)
theorem PL{ks:Au}(ok:R_)(e:F9 BJ6):AmA lI h ks a:=by
 obtain⟨_,its,r,o,h1,h2,n,h3⟩:=(Cc (ny a BJ6) (ok a _ e));exact⟨o,its.toArray,n,h1,h2,h3,AN (zoh r)⟩
theorem Kc{kvs:NE}(ok:R_)(e:AU7):ARO (∃xs,Ħ/\h.DictOfH (tupleKind lI) a xs):=by
 obtain⟨z,y,xs,r,o,es,ep,h1,h2,h3,h4,h5⟩:=(Cc (ny a WS) (yk7 ok e));refine⟨z,y,xs,r,o,es,ep,h1,h2,h3,h4,AGY,h5⟩;have all:∀{l:NE} {m:Ć},KT H l m ->∀x∈m,AmA lI h x.1 ĵ:=by
  intro l m q;induction q with
  | nil=>intro x hx;exact nomatch hx
  | @cons p q ps qs hq t ih=>
   intro x hx;show AZH
   ·show e9 (PL ok (BA hq.1 hq.2.1))
   ·exact ih x hx
 exact all r x hx
theorem yja{kvs:NE}(ok:R_)(e:ALV):ARO (∃xs,Ħ/\h.DictOfH (tupleKind lI) a xs):=Kc ok (Db e)
#where
def oY(H:Hp)(a:Addr)(y:V)(r:MB):Prop:=
 (∃kvs k,AMQ/\ANR/\r=gP kvs k)\/∃kvs k b,AU7/\y= LE/\AUK/\r=gP kvs k
def tM(H:Hp)(a:Addr)(y v:V)(H' :Hp):Prop:=
 (∃kvs k,ń/\ANR/\Ag9/\H' =upd H a BJ8)\/
 ∃kvs k b,ALV/\y= LE/\AUK/\OA kvs.length/\H' =upd H a AtA
theorem oY.k(Azi){k:Key}(e:ń):oY H a (kV k) Aiv:= .inl (IB kvs k (.inl e) rfl)
theorem tM.k(Azi){k:Key}{v:V}(e:ń)(hl:Ag9):tM H a (kV k) v (IA a BJ8):= .inl ⟨kvs,k,e,rfl,hl,rfl⟩
theorem tM.t(AqY){kvs:NE}{k:Au}{v:V}(e:ALV)(eb:AUK)(hl:Ag9):
  tM H a (AW b) v (IA a AtA):= .inr ⟨kvs,k,b,e,rfl,eb,hl,rfl⟩
section
variable{X:Cx}{pins:c7}{σ:St}{H:Hp}{s:Shared}{a:Addr}{y v:V}{u r:Value}{o:MB}{A:Around}{E:dG}
theorem Inv.big(Na):sysModules<s.heap.objs.size:=by
 show UP h mainGlobals (I.mod.glob.keeps I.bk).lt;exact Nat.lt_trans τ h
theorem z4t{Q:dG}(hu:AEv)(I:Ε)(g:oY H a y cq)(ry:IN)(h:Avi):
  A5q:=by
 rcases g with ⟨kvs,k,e,ey,l⟩ | ⟨kvs,k,b,e,ey,eb,l⟩
 ·subst ey;show ANr;obtain⟨w',hw,o9⟩:=Me (AaU (valueAt vs k)) l Aga
  exact wpAny_getItem_of (PB ry) dd.mapOf hw (h w' _ ACs o9)
 ·subst ey;show AHO;show ANq;obtain⟨w',hw,o9⟩:=Me (AaU BBL) l Aga
  show At p hp hp2 zE.mp hw;show AY5 wpAny_getItem_heap AaE dd hp;rw[hp2];exact A6k
theorem aa3{Q:dG}(hu:AEv)(I:Ε)(g:oY H a y o)(ry:IN)(h:∀s',AJM ->Q (.bool o.isSome) s'):
  A7U .In:=by
 rcases g with ⟨kvs,k,e,ey,l⟩ | ⟨kvs,k,b,e,ey,eb,l⟩
 ·subst ey;show ANr;refine wpAny_in_of (PB ry) hd dd.mapOf ?_;rw[<- AXq,<- l];exact AZV
 ·subst ey;show AHO;show ANq;show AY5 wpAny_in_heap AaE hd dd;have q:=AXq;rw[Option.isSome_map] at q;rw[<- q,<- l];exact AZV
theorem yhu{Q:dG}(hu:AEv)(I:Ε)(g:oY H a y o)(ry:IN)(h:∀s',AJM ->Q (.bool (! o.isSome)) s'):
  A7U ħ:=by
 rcases g with ⟨kvs,k,e,ey,l⟩ | ⟨kvs,k,b,e,ey,eb,l⟩
 ·subst ey;show ANr;refine wpAny_notIn_of (PB ry) hd dd.mapOf ?_;rw[<- AXq,<- l];exact AZV
 ·subst ey;show AHO;show ANq;show AY5 wpAny_notIn_heap AaE hd dd;have q:=AXq;rw[Option.isSome_map] at q;rw[<- q,<- l];exact AZV
theorem z3v{h' :Heap}{t' :Nat}{ob:HO}(I:Ε)(mu:RV (H a))(hs:ū a)(he:A3O)(new:WG (IA a ob) h' a ob):
  sC a ob ACY:=
 I.write (x:=a) (e:=a) mu WU (fun b q hb z=>GA hs.2 b hb z) he new
theorem yk2(AGH){H' :Hp}{h' :Heap}{kvs:Kx}{vs:AU_}(z:ABb)(hd:AIb)(rel:AIm)(dd:h'.DictOf lI a vs):
  bN P w H' h' a FV:=⟨z,hd,vs,rel,dd⟩
theorem z3w{H' :Hp}{Q:Agc}(hu:AEv)(I:Ε)(g:tM H a y v H')(ry:IN)(rv:RelV v r)(h:∀s',ŗ ->Q () s'):
  tq (setItem Ct u r):=by
 rcases g with ⟨kvs,k,e,ey,l,eH⟩ | ⟨kvs,k,b,e,ey,eb,l,eH⟩
 ·subst ey eH;obtain⟨z,hd,vs,rel,dd⟩:=i7 PJ;have hz:AQ vs.length:=BA rel.length z
  have hl:AQ ArJ:=FE (zpr kvs k v)
  refine wpAny_setItem_pairs (hsz:=hz) (PB ry) dd A2i;have he:A3O:=let ⟨q,_,_,hq,_⟩:=Tv;⟨q,hq⟩;exact z3v I AmY hs he (yk2 hl hd (rel.put k rv) Tv)
 ·subst ey eH;show AHO;obtain⟨z,hd,xs,rel,dd⟩:=i7 yja;have hz:AQ xs.length:=BA (Paired.length rel) z
  have hl:AQ ArJ:=FE (zpr kvs k v)
  refine wpAny_setItem_heap (hsz:=hz) (tupleKind_room_in1 hu) AaE dd A2i;obtain⟨q,es,ep,hq,h2,h3,h4,_,h5⟩:=Tv;refine z3v I AmY hs ⟨q,hq⟩ ⟨hl,hd,_,(rel.put k eb rv).keeps (Α c ys ec),q,es,ep,hq,h2,h3,h4,h5⟩
  rw[cR (ymh ec e (DH (nomatch z)))];exact ec
#where
section
variable{X:Cx}{pins:c7}{σ:St}{H:Hp}{s:Shared}{a:Addr}{kvs:Kx}{k:Key}{u:Value}{A:Around}{E:dG}
theorem yml{Q:dG}(I:Ε)(e:AMQ)(h:∀t s',AJM ->Q (.int kvs.length t) s'):tq (call (LP "len") Id):=by
 show ANr;refine call_len_dict hd dd (by rw[<- rel.length];rw[sizeLine_eq] at z;omega) ?_
 rw[<- rel.length];exact h _ _ ACs
#where
def CW(i:Expr):Prop:=∀ov iv,Aee (subscripted i false ov iv) [ov,iv] ov iv
theorem z6b(A5T)(BHf){env:Env}{value slice:Expr}{pos:Pos}{T id:String}{Q:dG}
  (hl:A9Q) (hs:CW slice)
  (h:AVQ value (fun o s₁=>AVQ slice (MV s₂ (s₂.TypeIs o T/\wpAny MO A (getItem o i) Q E s₂)) E s₁) E s):
  E4 (AI2 (ATh value slice)):=by
 refine Subscript_ (ve h (fun o s₁ h₁=>wpAny_mono h₁ (Α i s₂ h₂) AYc) AYc);obtain⟨hT,h₂⟩:=h₂;show LG;rw[getitemInPython_of_ne hT.not_modules];show TN wpAny_specialOf hT hl;have fin:tP (subscripted slice false o i) (ANm r s₃ (letTemporaryGo value o r>>=C6 (pure r)) s₃) E s₂:=AB (hs o i) (wpAny_operating (wpAny_mono h₂ (fun r s₃ h₃=>z6 (wpAny_letTemporaryGo (z7 h₃))) AYc))
 first
  | exact z7 (z6 fin)
  | exact z6 (z7 (z6 fin))
  | exact z6 fin
theorem zyb(BDT){y:V}{o:MB}(I:Ε)(g:oY H a y o):Ay2 :=by
 rcases g with ⟨kvs,k,e,_,_⟩ | ⟨kvs,k,b,e,_,_,_⟩
 ·obtain⟨_,_,vs,_,dd⟩:=i7 EY;exact dd.typeIs
 ·obtain⟨_,_,xs,_,dd⟩:=i7 Kc;exact dd.typeIs
def Tw(AZi):TE:=p_ td (A5x AQK)
def aa4(ty td:TE):TE:=A2r (Q (.bl o.isSome) H2)
def yhk(ty td:TE):TE:=A2r (Q (.bl (! o.isSome)) H2)
def Tz(td ty tv:TE):TS:=X0 tv v (Ll td x (AN8 ty y (ARQ H4 (tM H3 a y v H4) (Sk H4))))
def acz(td ty tv:TE)(rd:oP):TS:=X0 td x (A5x (AN8 tv y2 (rd v y2 H3 fun z H4=>∃H5,tM H4 a y z H5/\Sk H5)))
def acA(AZi):TS:=X0 td x (APq (∃a kvs k,x= AF/\ADy FV/\ANR/\ AW8=true/\Sk (i3 a Ahq)))
section
variable{X:Cx}{o i e value:Expr}{pos pos' tpos:Pos}{td ty tv:TE}
theorem z4g(BCN):AU2 o i (Tw td ty):=by
 show ER;show Az3 (TU ALk u);show ALs x rx;show QY Ah7 iv s2 hz2;obtain⟨y,H2,I2,ry,a,v,ex,g,q2⟩:=hz2;subst ex;show SC;exact⟨zyb I2 g,z4t hu I2 g ry A9U⟩
theorem yjb(BEQ):PC X .In i o (aa4 ty td):=by
 show ER;show ng AT_ iv hz1;show ALs y ry;show Aon;obtain⟨x,H2,I2,rx,a,ov,ex,g,q2⟩:=hz2;subst ex;show SC;exact aa3 hu I2 g ry fun s3 I3=>(IB (.bl ov.isSome) H2 I3 q2)
theorem zw2(BEQ):PC X ħ i o (yhk ty td):=by
 show ER;show ng AT_ iv hz1;show ALs y ry;show Aon;obtain⟨x,H2,I2,rx,a,ov,ex,g,q2⟩:=hz2;subst ex;show SC;exact yhu hu I2 g ry fun s3 I3=>(IB (.bl (! ov.isSome)) H2 I3 q2)
theorem TF(AGW)(ho:ARA)(hi:Ac_)(hv:Aw1)(hs:AGF o i):
  AMh (ô o i) value (Tz td ty tv):=by
 show UR;refine wpAny_Assign_Subscript (TU (ax hv) r) hs;show ALs v rv;show Aon;obtain⟨x,H2,I2,rx,q2⟩:=hz2;show QY (Alc hi) iv s3 hz3;obtain⟨y,H3,I3,ry,a,H4,ex,g,q3⟩:=hz3;subst ex;show SC;exact z3w hu I3 g ry rv fun s4 I4=>⟨σ,H4,I4,q3⟩
#where
theorem z98(A5a):A9y AMX:=
 ⟨DV,Apu hb,[],BS,Heap.DictOf.new h⟩
theorem yb6(A5a):A9y AjD:=
 ⟨DV,Apu hb,[],BS,_,#[],0,KO,ALo rfl,rfl,rfl,List.nodup_nil⟩
def Ms:TE:=PU _ (ANB AMX)
def Mt:TE:=PU _ (ANB AjD)
section
variable{X:Cx}{pos:Pos}
theorem ybb:kF Dict [] [] Ms:=fun pins s σ H Q I h=>
 (BFH dK z98)
theorem yc1:kF Dict [] [] Mt:=fun pins s σ H Q I h=>
 (BFH dT yb6)
#where
def Ao:AmH ->St ->AI0 (SH (yy V))
 | [],_,H,Q=>Q [] H
 | (tk,tv)::r,σ,H,Q=>iE tk x (Ll tv y (Ao r σ H2 fun ps H3=>Q ((x,y)::ps) H3))
abbrev VV:BG (yy V) (AbX Value):=Paired fun p q=>RelV AM q.1/\RelV C9 q.2
def PPs(X:Cx)(pos:Pos)(keys:AAk Expr)(values:AE)(trs:AmH):Prop:=
 ∀(pins:c7) (s:Shared) (σ:St) (H:Hp) (Q:SH (yy V)),rh (Ao trs σ H Q) (wpAny SF X.A (evalPairs (pairTrees keys values X.env pos)) (ĭ vs (∃ps H',ŗ /\VV ps vs/\Q ps H')) X.xe s)
def Mu(kvs more:Kx):Kx:=more.foldl (fun acc kv=>putK acc kv.1 kv.2) kvs
def acB(trs:AmH):TE:=ai (∀p,AH9 ->Ao trs σ (IA p AMX) fun ps H2=>H2 p=some AMX/\∃kvs:Kx,ps=kvs.map (Μ kv (kV kv.1,kv.2))/\kvs.length<=15/\EV p (i3 p (.dK (Mu [] kvs))))
structure M1 (A6_) (e:Expr) (cpos:Pos):Prop where
 base:A_6
 few:Mn (ABw (w_ [e]) (! x.1)&&AOP) (AOy ([e]:AE).length)
 line:da
 trees:A3n [e] (AOG e)
structure M2 (A6_) (e f:Expr) (cpos:Pos):Prop where
 base:A_6
 few:Mn (ABw (w_ [e,f]) (! x.1)&&AOP) (AOy ([e,f]:AE).length)
 line:da
 trees:A3n [e,f] [ANI e,(false,eval f X.env)]
def PN(H:Hp)(a:Addr):Prop:=(∃kvs,AMQ)\/∃kvs,AU7
theorem TJ(BDT)(I:Ε)(d:PN H a):
  Ay2 /\ (IS (Value.ref a= LE) (Awp AcS))/\ AIb:=by
 rcases d with ⟨kvs,e⟩ | ⟨kvs,e⟩
 ·obtain⟨_,hd,vs,_,dd⟩:=i7 EY;show B0 dd.typeIs AUG hd;cases q;obtain⟨ob,_,_,h1,h2,_⟩:=dd;exact tm ob h2.2.1
 ·obtain⟨_,hd,xs,_,dd⟩:=i7 Kc;show B0 dd.typeIs AUG hd;cases q;obtain⟨ob,_,_,h1,h2,_⟩:=dd;exact tm ob h2.2.1
section
variable{X:Cx}{pins:c7}{σ:St}{H:Hp}{s:Shared}{a:Addr}{y d:V}{u r:Value}{o:MB}{A:Around}{E:dG}
theorem ylu{Q:dG}(hu:AEv)(I:Ε)(g:oY H a y o)(ry:IN)(rd:RelV d r)(h:BHz (RelV (o.getD d) w')):
  tq (call (LP "dict.get") [AF,u,r]):=by
 rcases g with ⟨kvs,k,e,ey,l⟩ | ⟨kvs,k,b,e,ey,eb,l⟩
 ·subst ey;show ANr;refine call_meetsIn PySem.F.slot_dict_get dd.typeIs PySem.F.entry_dict_get (PySem.F.args_dict_get_3 _ _ _) (meets_dict_get_default Ú a (PB ry) hd r) (Cb dd.mapOf (h _ _ ACs ?_));rw[l];exact A7j
 ·subst ey;show AHO;show ANq;refine call_meetsIn PySem.F.slot_dict_get dd.typeIs PySem.F.entry_dict_get (PySem.F.args_dict_get_3 _ _ _) (meetsH_dict_get_default (tupleKind Ú) a b hd r) ⟨tupleKind_room_in1 hu,k,xs,PL I.hok eb,dd,h _ _ ACs ?_⟩;rw[l];exact A7j
#where
def aa5(AZi):TE:=AOq (∃o,oY H2 a y o/\Q (o.getD Ι) H2)
def Mv(td ty tx:TE):TE:=AOq (AN8 tx z (∃o,oY H3 a y o/\Q (o.getD z) H3))
def aa6(AZi):TE:=AOq (∃kvs k v,ADy FV/\ANR/\AOe/\Q v (i3 a Ahq))
def aa7(td ty tx:TE):TE:=AOq (AN8 tx z (∃kvs k,Dx H3 FV/\ANR/\
 (∀v,AOe ->Q v (upd H3 a Ahq))/\ (gP kvs k=none ->Q z H3)))
section
variable{X:Cx}{o e f:Expr}{apos cpos:Pos}{td ty tx:TE}
theorem ybw(AGW)(ho:ARA)(he:PE X e ty)(hf:PE X f tx)(m:M2 X o "get" apos e f cpos):PE X (Í (V_ o "get") [e,f]) (Mv td ty tx):=by
 show ER;refine wpAny_Call_method m.base m.few m.line PySem.F.plainAttrs_dict PySem.F.slot_dict_get PySem.F.type_dict_get (Pw ALk u aa8);obtain⟨x,H1,I1,rx,a,ex,d,q1⟩:=aa8;subst ex;show SC;obtain⟨t1,t2,_⟩:=TJ I1 d;show AX t1 t2;rw[m.trees];show Ayd rfl (Calls.spliced_cons (bV (é he) fun iv s2 (AoE ry)=>
  Calls.spliced_cons (bV (Alc hf) fun fv s3 ⟨z,H3,I3,rz,ov,g,q3⟩=>Calls.spliced_nil ?_)))
 exact ylu hu I3 g ry rz fun w' s4 I4 o9 =>⟨_,H3,I4,o9,q3⟩
#where
section
variable{X:Cx}{pins:c7}{σ:St}{H:Hp}{s:Shared}{a:Addr}{kvs:Kx}{A:Around}{E:dG}
#where
section
variable{X:Cx}{pins:c7}{σ:St}{H:Hp}{s:Shared}{a:Addr}{y:V}{u:Value}{A:Around}{E:dG}
#where
#print L2
namespace Att
open PySem PySem.W PySem.Calls PyProof.Rows
theorem zp5{P:Params}{h:Heap}:∀(ns:Ξ) (vs:Β),WellAll P h vs (ns.map WData.int) ->AOB:=by
 intro ns;induction ns with
 | nil=>
  intro vs w;rw[List.map_nil] at w;cases w;exact BS
 | cons n ns ih=>
  intro vs w;rw[List.map_cons] at w;cases w with
  | cons a b=>
   cases a;exact kr _ _ (ih _ b)
theorem z4b{l:OpenLaw}{n:Nat}(hn:Al_){P:Params}{h:Heap}{args:List WData}{vals:Β}
  (hpre:l.row.toRowW.claim.pre args=true) (hwl:WellAll P h vals args):
  ∃a vs ns,vals= [ATf]/\args= [WData.list (ns.map WData.int)]/\Sf AR3/\AOB/\AgN:=by
 have hsh:WShape.hasAll [] args [.list Tk]=true:=(pre_splitW hpre).1;have hc:l.pre.holds [] {args:=args}=true:=(pre_splitW hpre).2;show BV d r h1 h2 (hasAllW_cons hsh);show Nw (hasAllW_nil h2);show At xs rfl h3 hasW_list h1;show B8 ns rfl items_int h3;have hlen:ns.length<=n:=by
  have h4:(WTm.not (.lt (.lit (B4 EO)) (.len (.arg 0)))).holds [] {args:= [.list AAl]}=true:=by
   have h4:=(holds_andW hc).1;rw[hn] at h4;exact h4
  have h5:=condW_of h4 (w_not (w_lt w_lit (w_len_list (w_arg rfl))));show APa h5;refine Nat.le_of_not_lt (MA q);have q' :EO< B5 ns.length:=ρ
  first
   | (rw[decide_eq_true q'] at h5;exact ALt h5)
   | (simp at h5;omega)
 cases hwl with
 | cons w1 w2=>
  cases w2;cases w1 with
  | list ho hall=>exact⟨_,_,ns,rfl,rfl,ho,zp5 ns _ hall,hlen⟩
theorem z60(l:OpenLaw)(args:List WData):l.row.toRowW.claim.post args AJX args=true:=
 postW_of (r:=l.row.toRowW) (X:=Awr)
  (show WShape.has [] AJX .bool=true by first | rfl | decide | simp [WShape.has,WShape.arms,WShape.armsAll])
  (Cc ((WTm.eq .res (.lit AJX)).value [] {args:=args,res:=some AJX,after:=args}=some (.bool Awr)) (w_eq_bool (w_res rfl) w_lit)) rfl
theorem yt{l:OpenLaw}{n:Nat}{q:Program}{loose:ο}{XP:Azy}{YP:Aui}{d:DefRec}
  (hn:Al_) (hdf:AsU)
  (call:∀(w:World) (s₀ s₁:Shared) (mg mb:CB) (fa:Addr) (o:Obj) (pm cd doc:Value) (a:Addr) (vs:Β) (ns:Ξ),
   Ground q loose [] XP w s₀ mg mb s₁.heap ->YP w s₁.heap ->
   Ρ (s₁.heap.get? fa=some o) (o.data= .func (docDef d.name d.params d.body d.scope pm cd doc)) (s₁.heap.CodeRec cd d.name) (Af9 d.name) (Ρ Awm AOB AgN AtM (Ă (model l.prog w) callerA AcM AJw (OM s' BII) s₁))):
  Art XP YP:=by
 intro w s₀ s₁ mg mb G Y fa o pm cd doc dV kV ho hd hcd hD hmg hg args vals as hpre hlay hrd hwl hlo;obtain rfl:dV= AJ:=Dflts.none hD hdf;obtain rfl:kV= AJ:=Dflts.noKw hD;obtain⟨a,vs,ns,rfl,rfl,hobj,hints,hlen⟩:=z4b hn hpre hwl;refine enter_call (codeAny_mono (call w s₀ s₁ mg mb fa o pm cd doc a vs ns G Y ho (fd_plain hd) hcd hmg hobj hints hlen hg) (gS hq));obtain⟨rfl,h2,h3,h4⟩:=hq;exact⟨.inl ⟨Ahp,Ahp,[],rfl,ATI,Ahp,z60 l _,C6 ⟨List.Pairwise.nil,FU hm (nomatch hm)⟩⟩,h2,h3,h4⟩
section
variable{prog:Program}{w:World}{A:Around}{E:dG}{s:Shared}{K:Frag}
def aa9(h:Heap):Heap:={h with objs:= #[]}
def ledger(h:Heap)(L d:Addr):c7:=A9c (a=d)
#where
#print Att
namespace L2
open PySem PySem.Spec PyProof.Rows
theorem TQ:∀{vs:Β} {ns:Ξ},AOB ->Vals (ns.map V.int) vs
 | _,_,BS=> BS
 | _,_,.cons n t h=> .cons eB (TQ h)
def Only(H:Hp):Prop:=∀b,Fr\/∃o xs,N1 (zS ir)
theorem yct(eS){mg mb:CB}{CX:CV}{k:Nat}{fa a:Addr}(A0P){sp:Sp}{s₁:Shared}{vs:Β}{ns:Ξ}
  (KX:K.In s₁.heap) (hns:AJf s₁.heap.Ns) (hb:s₁.heap.Ns builtinsNs mb) (hbb:A_r) (hlim:s₁.heap.NoLimit) (hg:AtM)
  (ha:Awm) (hi:AOB) (hl:BIv) (hr:dH k callerA)
  (F:A8p (IC fO CX k fa fd [x] sp)) (hbind:AN2 u Value AoR)
  (hsp:∀H:Hp,Only H ->AXv ->sp Id H Ax5 Rs)
  (hCX:∀H e s',CX [] H s₁ (Rs) e s' ->False):
  BDh:=by
 have rv:=TQ hi;have lenV:=hi.length
 
 have core:∀H:Hp,FH (Only H) AXv (oN P w H s₁.heap) (IS (H b≠none) (b=a)) (H a≠none ->SK K.lookup) BDh:=by
  intro H hO hS hok hA hK;have Cg:∀{b:Addr} {o:Obj},AwV Fr (ET (wW s₁.heap H).get?):=fun e n=>ya0 e n;have Tc:∀{b:Addr} {o:Obj} {es:ł} {ep:Nat},AwV AiC Fr:=fun{b o es ep} e d=>by
   cases q:H b with
   | none=>rfl
   | some u=>
    have e' :b=a:=hA b (by rw[q];simp)
    subst e';rw[ha] at e;cases e;have d' :Data.seq vs.toArray _=Data.dict es ep:=d;cases d'
  have YG:∀{b:Addr} {m:CB},s₁.heap.Ns b m ->(wW s₁.heap H).Ns b m:=fun{b m} TV=>by obtain⟨o,es,ep,e,d,r⟩:=TV;exact⟨o,es,ep,Cg e (Tc e d),d,r⟩
  have hKb:K.In (wW s₁.heap H):=LX (Cg (kH KX) (by
   cases q:H b with
   | none=>rfl
   | some u=>
    have e' :b=a:=hA b (by rw[q];simp)
    subst e';rw[hK (ALg q)] at e;cases e))
  have hM:Mod K mg AxY:=⟨hKb,YG hns,⟨mb,YG hb,hbb⟩,let ⟨mc,h1,h2⟩:=hlim;⟨mc,YG h1,h2⟩⟩;have e0:ae wX AxY callerA [] s₁ H:=⟨rfl,hM,LX (yet e),Nat.le_of_eq (z44 _ _),trivial,FX (Ans hb),hok,.of_eq hg⟩
  show ATV ((F _ hKb (YG hns)).run callerA [] s₁ H AJw Id Id _ _ hr e0 (hbind s₁ Ct) Ajd (hsp H hO hS)) (gS h);cases r with
  | error e=>exact(hCX H e s' h).elim
  | ok fl=>
   cases fl with
   | next=>show AMx
   | brk=>show AMx
   | cont=>show AMx
   | ret u=>
    obtain⟨v,H',os,bare,un,hok',r',q⟩:=h;have q' :v= lj:=q;subst q';obtain rfl:u=Value.bool true:=r';show CA rfl (OldK.of_keep ANP) os bare;cases q:H b with
    | none=>exact un.keep b o e q (by intro z;exact Ans z) Η
    | some u=>
     rcases hO b with z | ⟨ob,xs,z⟩
     ·rw[q] at z;cases z
     ·have z2:=un.oX b ob _ z;obtain⟨e1,_⟩:=hok b _ z;obtain⟨e2,_⟩:=hok' b _ z2;rw[e] at e1;cases e1;exact e2
 cases hk:ATe with
 | some o=>
  
  have e:=KX a o hk;rw[ha] at e;cases e;refine core AfQ (A2 ATK) (CL ⟨_,vs.toArray,_,hk,rfl,rfl,rfl,IF List.size_toArray lenV hl,AN rv⟩) (fun b u z=>by have z' :L4 (none:Ev HO):=z;cases z') (fun b z=>AWJ) (AC AWJ)
 | none=>
  refine core (AhO (APt AR3 (BN AQa)) none) (TH ?_) (Db (CL ⟨AR3,BU⟩)) (LS u z) (Iq b z) (C6 hk)
  ·show U2
   ·show Bz (Cb _ (Ap hb))
   ·show BQ (if_neg hb)
  ·show U2
   ·have z' :=(if_pos hb).symm.trans z;cases z';subst hb;exact⟨ha,AB List.length_map hl,vs,_,rv,ha⟩
   ·have z' :=(if_neg hb).symm.trans z;cases z'
  ·show U2
   ·exact hb
   ·exact Ya if_neg hb z
abbrev KOf(EF){h:Heap}(_:vx):W.Frag:=K
abbrev CX0:CV:=fun _ _ _ _ _ _=>False
abbrev E0:XK:=Rs
structure fu (K_) (x qual:Str) (st:Stmt) (f:Addr) (fd:FuncData):Prop where
 ex:∃(oc:Value) (od:JU) (kV doc pm:Value) (an:JU) (cdv ct:Value) (osl:ADb),
  BFS AJ
 kp:ABu
section
variable{P:Program}{w:World}{K:W.Frag}{mg:CB}{base:Heap}
theorem fu.binds(Ana)(AOc){fd:FuncData}{ps:ο}(F:AGh)
  (h:∀(kV doc pm:Value) (an:JU) (cdv ct:Value) (us:Β),us.length=ps.length ->Au9 (BH8 AJ) ALZ (ps.zip us)):AA':=by
 obtain⟨oc,od,kV,doc,pm,an,cdv,ct,osl,rfl,lk,hcd⟩:=F.ex;exact .all (A'5 cdv ct)
#where
section
variable{X:Cx}
#where
def Same(H H' :Hp):Prop:=AIM H (ET H')
theorem Same.refl(H:Hp):fI H:=AiI
theorem Same.trans{H H1 H2:Hp}(a:Akk)(b:Same H1 H2):Same H H2:=fun c o h=>b c o (a c o h)
theorem Same.free{H H' :Hp}(e:AMR){l:Addr}(h:H' l=Option.none):H l=Option.none:=by
 cases q:H l with
 | none=>rfl
 | some o=>
  show oa (e l o q)
theorem Same.seq{K:W.Frag}{H H' :Hp}{a:Addr}{xs:χ}(e:AMR)(h:UZ):kZ K H' a xs:=by
 show ASw h h h h
 ·show BQ (Db (e _ _ h))
 ·show BQ (CL (OR (e _ _ h)))
 ·show Bz h
section
variable{X:Cx}
#where
section
variable{κ:Type}[TZ]
#where
#print L2
namespace L3
open PySem PySem.Spec PyProof.Rows L2
abbrev St:=L2.St
inductive D where
 | non | bl (b:Bool) | int (AGX) | str (x:Str) | tup (xs:ψ) | lst (xs:ψ) | exc (C:Addr) | ptr (a:Addr)
 | obj (C:Addr) (fs:ο) (xs:ψ) | dic (ks:Au) (xs:ψ) | iB (ks:OO) (xs:ψ) | dik (ks:Au) (xs:ψ)
def Fb(a C:Addr):HO:= AXL (∃o vs,nv/\o.cls= kX/\o.data= AMf/\ (ANg 2\/o.dict≠none))
def Mw(F:Hp)(a:Addr):Prop:=∃o C,AVI o
inductive IsT (K:W.Frag) (F:Hp) (AHK):Prop
 | mk:A1s (pO K F a vs) (IsT K F R v)
inductive TX (K:W.Frag) (F:Hp) (AHK):Prop
 | mk:A1s Ad_ (TX K F R v)
inductive TY (F:Hp) (C:Addr) (fs:ο) (AHK):Prop
 | mk:∀a dx vs,Ρ kP (á Aml) AEt (R vs) (TY F C fs R v)
inductive T3 (F:Hp) (ks:Au) (AHK):Prop
 | mk:∀a vs,Aop (á kC) T3
inductive T4 (F:Hp) (ks:OO) (AHK):Prop
 | mk:∀a vs,Aop (Rd F a AUh) T4
inductive T5 (F:Hp) (ks:Au) (AHK):Prop
 | mk:∀a o vs,Aop (á AdU) T5
inductive IsC (P:DO V) (R:DO χ) (vs:χ):Prop
 | mk:∀v r,vs=v::r ->P v ->R r ->IsC P R vs
mutual
def Rep(K:W.Frag)(F:Hp):BG D V
 | Ι,v=>v= Ι
 | UO,v=>v= UO
 | B9,v=>v= B9
 | T1,v=>v= T1
 | we,v=>IsT K F AAQ v
 | Ĺ,v=>TX K F AAQ v
 | .exc C,v=>∃a o,v= AF/\AVI o
 | .ptr a,v=>kP
 | AUM,v=>TY F C fs AAQ v
 | qq ds,v=>T3 F ks AAQ v
 | .iB ks ds,v=>T4 F ks AAQ v
 | .dik ks ds,v=>T5 F ks AAQ v
def aJ(K:W.Frag)(F:Hp):BG ψ χ
 | [],vs=>vs= []
 | Rl,vs=>IsC (Rep K F d) AAQ vs
end
theorem sI{K:W.Frag}{H H' :Hp}{a:Addr}{xs:χ}(e:AMR)(h:n9):pO K H' a xs:=by
 show ASw h h h h
 ·show BQ (Db (e _ _ h))
 ·show BQ (CL (OR (e _ _ h)))
 ·show Bz h
theorem Ea{F H:Hp}{a:Addr}{u:HO}(s:Oy)(r:Rd F a u):Rd H a u:=by
 rcases r with r | ⟨o,r⟩
 ·show BQ (s _ _ r)
 ·show Bz (OR (s _ _ r))
mutual
theorem zuo(BCp):∀(d:D) (v:V),IH ->OX
 | Ι,_,h=>GY
 | Iy,_,h=>GY
 | IM,_,h=>GY
 | GW,_,h=>GY
 | we,_,h=>by
  show AZY;exact⟨a,vs,h0,sI e h1,AQh h2⟩
 | Ĺ,_,h=>by
  show AZY;exact⟨a,vs,h0,e.seq h1,AQh h2⟩
 | wo,_,h=>GY
 | .exc C,_,h=>by
  show P7 a o h0 h1;exact⟨a,o,h0,AUR⟩
 | AUM,_,h=>by
  obtain⟨a,dx,vs,h0,h1,h3,h4⟩:=h;exact AM7 h0 AUR h3 AWg
 | qq ds,_,h=>by
  obtain⟨a,vs,h0,h1,h3,h4⟩:=h;exact xy h0 AUR h3 AWg
 | .iB ks ds,_,h=>by
  obtain⟨a,vs,h0,h1,h3,h4⟩:=h;exact xy h0 (Ea e h1) h3 AWg
 | .dik ks ds,_,h=>by
  obtain⟨a,o,vs,h0,h1,h3,h4⟩:=h;exact⟨a,o,vs,h0,AUR,h3,AWg⟩
theorem Kd(BCp):∀(ds:ψ) (vs:χ),Fm ->ă
 | [],_,h=>GY
 | Rl,_,h=>by
  obtain⟨v,r,h0,h1,h2⟩:=h;exact⟨v,r,h0,zuo e d v h1,Kd e ds r h2⟩
end
theorem Rep.up{K:W.Frag}{F F' :Hp}(AAT)(h:IH)(e:DT):OX:=zuo e d v h
theorem aJ.up{K:W.Frag}{F F' :Hp}(AOO)(h:Fm)(e:DT):ă:=AQh h
theorem lu(DM):Ap_ (ph vs.length)
 | [],_,h=>by show BC aJ;subst h;rfl
 | A1,_,h=>by
  show BC aJ;obtain⟨v,r,rfl,_,h2⟩:=h;simp only [List.length_cons,lu h2]
theorem vI(DM):∀{ds:ψ} {vs:χ} {i:Nat} {d:D},Fm ->AmF ->AVU AFM
 | [],_,_,_,_,e=>AFJ
 | A1,_,0,_,h,e=>by
  obtain⟨v,r,rfl,h1,_⟩:=h;simp at e;subst e;exact xD h1
 | A1,_,By,d,h,e=>by
  obtain⟨v,r,rfl,_,h2⟩:=h;show AS u e1 e2 (v4 vI) h2 wP
  exact⟨u,AN e1,e2⟩
theorem zv7(DM):∀{ds:ψ} {vs:χ} {i:Nat} {v:V},Fm ->AFM ->∃d,AmF/\IH
 | [],_,_,_,h,e=>by subst h;simp at e
 | d::_,_,0,_,h,e=>by
  obtain⟨v,r,rfl,h1,_⟩:=h;simp at e;subst e;exact LZ d h1
 | A1,_,By,v,h,e=>by
  obtain⟨v',r,rfl,_,h2⟩:=h;show AS u e1 e2 (v4 zv7) h2 wP
  exact⟨u,AN e1,e2⟩
theorem zdt(DM):∀{ds es:ψ} {vs us:χ},Fm ->Akq ->F8 (ds++es) (vs++us)
 | [],_,_,_,h,k=>by subst h;exact k
 | A1,_,_,_,h,k=>by
  show AXB;exact C3 v _ h1 (zdt h2 k)
theorem Hy(A9f):F8 [d] [v]:=C7 (C3 v [] h KS)
theorem qX(DM)(AAT)(AOO)(h:IH)(k:Fm):F8 AUW (v::vs):=C7 (NJ v h k)
theorem zo1(DM):AbI n (ds.take n) (vs.take n)
 | _,_,0,_=>ALN
 | [],_,_+1,h=>AZG
 | A1,_,n+1,h=>by
  show BV u r h1 h2 h;exact qX h1 (zo1 n h2)
theorem zpt(DM):AbI n (ds.drop n) (vs.drop n)
 | _,_,0,h=>h
 | [],_,_+1,h=>AZG
 | A1,_,n+1,h=>by
  show BV u r h1 h2 h;exact zpt n h2
def wZ(H:Hp)(b:Addr)(o:HO):Prop:=Fr\/ (∃xs,o= JY)/\ET H
theorem wZ.back(s:Akk)(h:wZ H1 b o):wZ H b o:=by
 show AKh h h e h
 ·show BQ (s.free h)
 ·cases q:H b with
  | none=>show BQ q
  | some u=>
   have:=s _ _ q;show A_ h;show CH;exact .inr ⟨⟨xs,e⟩,q⟩
structure Gr (F H F' H' :Hp):Prop where
 f:DT
 g:ABS F'
 h:AMR
 n:kA (ET F') b_ (wZ H b o)
theorem Gr.refl(h:Oy):Gr F H F H:=hV h bi
theorem Gr.trans(a:Gr F H F1 H1)(b:Gr F1 H1 F2 H2):Gr F H F2 H2:=by
 show CA (a.f.trans b.f) b.g (a.h.trans b.h) (IE c o e n);cases q:F1 c with
 | none=>exact wZ.back a.h (b.n c o e q)
 | some u=>have:=b.f _ _ q;show ZH;show CH;exact a.n c _ q n
theorem Gr.laid(h:Oy)(hp:AH9):Gr F H (L2.upd F p o) (sT p o):=by
 show CA F6 F6 F6 A0H
 ·rw[w9 h hp];exact e
 ·show qi p
  ·subst hb;rw[jJ] at e⊢;exact e
  ·show c8 ZU e (h b u e)
 ·rw[Hm hp];exact e
 ·show qi p
  ·subst hb;exact .inl hp
  ·rw[ZU,n] at e;cases e
inductive T where
 | leaf (d:D) | lst (ts:EX) | dic (ks:AfD) (ts:EX) | iB (ks:iN L2.Key) (ts:EX) | ob (A2d) | kt (k:AfD)
def fP:Key ->D | ADx=> B9 | ka=> T1
def CZ(fs:ο):Bool:= !(Θ (fs= [("points" :Str)]))
inductive TrL (H:Hp) (R:ADq Ν) (v:V) (as:Ν):Prop
 | mk:∀a vs bs,Ρ kP AKE Ņ (R vs bs) (TrL H R v as)
inductive TrK (H:Hp) (ks:AfD) (R:ADq Ν) (v:V) (as:Ν):Prop
 | mk:BBo (F9 kC) (TrK H ks R v as)
inductive TrT (H:Hp) (ks:iN L2.Key) (R:ADq Ν) (v:V) (as:Ν):Prop
 | mk:BBo (F9 AUh) (TrT H ks R v as)
inductive TrO (H:Hp) (C:Addr) (fs:ο) (R:ADq Ν) (v:V) (as:Ν):Prop
 | mk:∀a dx vs bs,kP ->as=ALQ ->F9 Aml ->Ρ AlJ AEt (CZ fs=true) (R vs bs) (TrO H C fs R v as)
inductive TrC (P:BG V Ν) (R:ADq Ν) (vs:χ) (as:Ν):Prop
 | mk:∀v us bs cs,Ρ (vs=v::us) (as=AYE) (P v bs) (R us cs) (TrC P R vs as)
mutual
def TR(Ara):T ->BG V Ν
 | M_,v,as=>as= []/\IH
 | Y3,v,as=>TrL H AOd v as
 | gI,v,as=>TrK H ks AOd v as
 | xl,v,as=>TrT H ks AOd v as
 | yA,v,as=>TrO H C fs AOd v as
 | .kt k,v,as=>as= []/\∃a,v= AF/\á AQP
def iw(Ara):EX ->BG χ Ν
 | [],vs,as=>vs= []/\as= []
 | PH,vs,as=>TrC (TR K F H t) AOd vs as
end
section
variable{K:W.Frag}{F H F' H' :Hp}
mutual
theorem TR.move(f:DT):AkY AM_ AXW
 | M_,v,as,k,h=>C7 ⟨CF,(h.2).up f⟩
 | Y3,v,as,k,h=>by
  obtain⟨a,vs,bs,e1,rfl,e3,h⟩:=h;exact⟨a,vs,bs,e1,rfl,AFw,AiM⟩
 | gI,v,as,k,h=>by
  obtain⟨a,vs,bs,e1,rfl,e3,e4,h⟩:=h;exact⟨a,vs,bs,e1,rfl,AFw,e4,AiM⟩
 | xl,v,as,k,h=>by
  obtain⟨a,vs,bs,e1,rfl,e3,e4,h⟩:=h;exact⟨a,vs,bs,e1,rfl,AFw,e4,AiM⟩
 | yA,v,as,k,h=>by
  obtain⟨a,dx,vs,bs,e1,rfl,e3,e4,e5,e6,h⟩:=h;exact⟨a,dx,vs,bs,e1,rfl,AFw,k dx (zW _ zY) _ e4,e5,e6,Ap3 iw.move⟩
 | Ń,v,as,k,h=>by show P7 e a e1 e2;exact⟨e,a,e1,f _ _ e2⟩
theorem iw.move(f:DT):AO2 ((sd AM_) ->x_ ->rS iw ts vs as)
 | [],vs,as,k,h=>GY
 | PH,vs,as,k,h=>by
  obtain⟨v,us,bs,cs,e1,rfl,h1,h2⟩:=h;exact⟨v,us,bs,cs,e1,rfl,ArU TR.move,ArV iw.move⟩
end
def LD(u:HO):Prop:=(∃vs,u= .lst vs)\/ (∃kvs,u= AF')\/ (∃kvs,u= .dT kvs)\/ (∃C dx kvs,u= .ins C dx kvs/\CZ (kvs.map (·.1))=true)\/∃a,u= .own a
theorem YH:Ċ fs ο AEt (AA fs.zip vs (·.1)=fs)
 | [],_,_=>rfl
 | A1,[],h=>BH
 | VA,AFU,h=>A5' YH
theorem LD.tup(h:LD JI):False:=BFP
theorem LD.frz(h:LD (.frz o u)):False:=BFP
theorem LD.ins(h:LD (qB kvs)):CZ (kvs.map (·.1))=true:=by
 rcases h with ⟨_,z⟩ | ⟨_,z⟩ | ⟨_,z⟩ | ⟨_,_,_,z,q⟩ | ⟨_,z⟩<;>cases z
 exact q
mutual
theorem TR.there:AdJ (t_ ->∀a∈as,∃u,ABU/\LD u)
 | M_,v,as,h,a,ha=>AYn CF
 | Y3,v,as,h,a,ha=>by
  obtain⟨b,vs,bs,e1,rfl,e3,h⟩:=h;show AOA
  ·exact Cb e3 (.inl Cf)
  ·show Aa3
 | gI,v,as,h,a,ha=>by
  obtain⟨b,vs,bs,e1,rfl,e3,_,h⟩:=h;show AOA
  ·exact Cb e3 (.inr (Db Cf))
  ·show Aa3
 | xl,v,as,h,a,ha=>by
  obtain⟨b,vs,bs,e1,rfl,e3,_,h⟩:=h;show AOA
  ·exact Cb e3 (í (Db Cf))
  ·show Aa3
 | yA,v,as,h,a,ha=>by
  obtain⟨b,dx,vs,bs,e1,rfl,e3,e4,e5,e6,h⟩:=h;show AOA
  ·exact Cb e3 (í (CL (Db (Fk _ _ (KL YH e5 e6)))))
  ·show AOA
   ·exact Cb e4 (í (CL (CL Cf)))
   ·show Aa3
 | Ń,v,as,h,a,ha=>AYn CF
theorem iw.there:AO2 (x_ ->∀a∈as,∃u,ABU/\LD u)
 | [],vs,as,h,a,ha=>AYn h.2
 | PH,vs,as,h,a,ha=>by
  obtain⟨v,us,bs,cs,e1,rfl,h1,h2⟩:=h;show N2 ha ha ha
  ·exact TR.there t v bs h1 a ha
  ·exact iw.there ts us cs h2 a ha
end
#where
mutual
def toD:T ->D
 | M_=>d
 | Y3=> No j7 ts
 | gI=> .dic ks (j7 ts)
 | xl=> .iB ks (j7 ts)
 | yA=> .obj C fs (j7 ts)
 | .kt k=> AEU
def j7:EX ->ψ
 | []=> []
 | PH=>toD t::j7 ts
end
theorem PX(DM):∀ks:Au,F8 (ks.map fP) Akd
 | []=>KS
 | ADx::ks=>qX E3 (PX ks)
 | ka::ks=>qX E3 (PX ks)
section
variable{K:W.Frag}{F H F' :Hp}
mutual
theorem TR.rep(f:DT):AkY (AP7 AU') (AAr (toD t) v)
 | M_,v,as,k,h=>C7 ((h.2).up f)
 | Y3,v,as,k,h=>by
  obtain⟨a,vs,bs,e1,rfl,e3,h⟩:=h;exact⟨a,vs,e1,Sl BBN,AiN⟩
 | gI,v,as,k,h=>by
  obtain⟨a,vs,bs,e1,rfl,e3,e4,h⟩:=h;exact xy e1 AFw e4 AiN
 | xl,v,as,k,h=>by
  obtain⟨a,vs,bs,e1,rfl,e3,e4,h⟩:=h;exact xy e1 (.inl BBN) e4 AiN
 | yA,v,as,k,h=>by
  obtain⟨a,dx,vs,bs,e1,rfl,e3,e4,e5,e6,h⟩:=h;exact AM7 e1 AFw e5 (Ap3 iw.rep)
 | .kt k,v,as,_,h=>by
  obtain⟨_,a,e1,e2⟩:=h;exact⟨a,_,e1,Sl (f _ _ e2),PX k⟩
theorem iw.rep(f:DT):AO2 ((sd (AP7 AU')) ->x_ ->AH6 (j7 ts))
 | [],vs,as,k,h=>C7 CF
 | PH,vs,as,k,h=>by
  obtain⟨v,us,bs,cs,e1,rfl,h1,h2⟩:=h;exact⟨v,us,e1,ArU TR.rep,ArV iw.rep⟩
end
#where
inductive Slot where
 | no | pu (d:D) | ow (ds:ψ) | tr (as:Ν) (t:T) | nt (as:Ν) (c:Str) (t:T) | xe (as:Ν) (C:Addr) (fs:ο) (ts:EX)
inductive SlO (AvU) (ds:ψ) (o:MB):Prop
 | mk:∀a vs,Aif ->Ρ Ņ ō eJ Fm Azt
inductive SlT (A7S) (t:T) (o:MB):Prop
 | mk:∀v,ATE Aie AX1 t_ A8c
inductive SlN (AvU) (as:Ν) (c:Str) (t:T) (o:MB):Prop
 | mk:∀p v,o=some (AW p) ->ATE (F p=some (Ň v)) AX1 t_ BBM
inductive SlX (A7S) (C:Addr) (fs:ο) (ts:EX) (o:MB):Prop
 | mk:∀a oe dx vs,Ρ Aif (AVI oe) AwX (F dx=some A4W) (ATE AEt AX1 x_ BAw)
def pB(K:W.Frag)(F H H0:Hp):BG Slot MB
 | υ,_=>True
 | .pu d,o=>AVU Aie
 | .ow ds,o=>Azt
 | XL t,o=>A8c
 | .nt as c t,o=>BBM
 | .xe as C fs ts,o=>BAw
def gG:Slot ->BG MB Addr
 | .ow _,o,a=>Aif
 | XL _,_,a=>AV7
 | .nt as _ _,_,a=>AV7
 | .xe as _ _ _,_,a=>AV7
 | _,_,_=>False
inductive nP (Γ:UH) (σ:St) (i:Nat) (a:Addr):Prop
 | mk:∀s o,ALn ->xi ->ac ->ANw i
structure SR (K:W.Frag) (F0 H0 F H:Hp) (σ:St) (Γ:UH):Prop where
 gr:AWh
 len:σ.length=Γ.length
 sl:∀(i:Nat) s,ALn ->∃o,xi/\AOK
 ap:∀(i j:Nat) a,ANw i ->ANw j ->i=j
section
variable{K:W.Frag}{F0 H0 F H F' H' :Hp}{σ:St}{Γ:UH}
theorem SR.g(R:DL):Oy:=R.gr.g
theorem Dc(r:AOK)(h:ac):ō/\eJ/\∃u,ABU/\LD u:=by
 cases s with
 | no=>show EH
 | pu d=>show EH
 | ow ds=>obtain⟨b,vs,rfl,h1,h2,h3,_⟩:=r;cases h;exact⟨h2,h3,_,h1,.inl Cf⟩
 | tr as t=>obtain⟨v,_,_,h2,h3⟩:=r;exact⟨(h2 a h).1,Am3,AkO h3 a h⟩
 | nt as c t=>obtain⟨p,v,_,_,_,h2,h3⟩:=r;exact⟨(h2 a h).1,Am3,AkO h3 a h⟩
 | xe as C fs ts=>obtain⟨_,_,_,vs,_,_,_,_,_,_,h2,h3⟩:=r;exact⟨(h2 a h).1,Am3,iw.there ts vs as h3 a h⟩
theorem Mz(r:AOK)(f:DT)(k:∀a,ac ->ï/\AM_):Ax7:=by
 cases s with
 | no=>trivial
 | pu d=>
  obtain⟨v,e,r⟩:=r;exact⟨v,e,r.up f⟩
 | ow ds=>
  obtain⟨a,vs,e,e1,e2,e3,r⟩:=r;obtain⟨k1,k2⟩:=k a e;exact⟨a,vs,e,k2 _ e1,k1,e3,r.up f⟩
 | tr as t=>
  obtain⟨v,e,nd,h,r⟩:=r;exact⟨v,e,nd,Aog,Ave⟩
 | nt as c t=>
  obtain⟨p,v,e,e1,nd,h,r⟩:=r;exact⟨p,v,e,f _ _ e1,nd,Aog,Ave⟩
 | xe as C fs ts=>
  obtain⟨a,oe,dx,vs,e,e1,e2,e3,e4,nd,h,r⟩:=r;exact⟨a,oe,dx,vs,e,f _ _ e1,e2,f _ _ e3,e4,nd,Aog,ACk (iw.move f ts vs as) (k a ha).2 r⟩
theorem z2z(r:AOK)(g:cy):Ax7:=
 Mz r g.f fun a ha=>by
  obtain⟨h1,_,u,h3,ld⟩:=Dc r ha;show BO ?_ (fun u e=>g.h _ _ e);cases q:F' a with
  | none=>rfl
  | some w=>
   show AKh (g.n a w q h1) z e z
   ·rw[h3] at z;cases z
   ·rw[h3] at z;cases z;subst e;exact ld.tup.elim
theorem SR.grow(R:DL)(g:cy):Aj7:=by
 show CA (R.gr.trans g) R.len (Qb i s) R.ap;show AkT i;exact Pl e1 (z2z r g)
theorem T6(h:nP (io s) (sR o) j a):(j=i/\ac)\/ (j≠i/\ANw j):=by
 obtain⟨t,p,e1,e2,h⟩:=h;by_cases hj:i=j
 ·subst hj;show AhV (by
   show NY (AKv Γ.length)
   ·exact h
   ·show GT AiK e1 e1)
  show UT σ.length (by
   show NY (AKv σ.length)
   ·exact h
   ·show GT AiK e2 e2)
  rw[BJ4] at e1;show AkE hi';cases e1;cases e2;exact .inl (HU h)
 ·rw[BJ5] at e1 e2;exact .inr ⟨Ne.symm hj,t,p,e1,e2,h⟩
def Apart(σ:St)(Γ:UH)(a:Addr):Prop:=∀j,¬(ANw j)
theorem SR.apart(R:DL)(h:ACT):xo:=fun j hq1=>by
 obtain⟨s,o,e1,e2,q⟩:=hq1;obtain⟨o',e3,r⟩:=R.sl j s e1;rw[e2] at e3;cases e3;obtain⟨_,_,u,e,_⟩:=Dc r q;rw[h] at e;cases e
theorem SR.put(R:DL)(i:Nat)(r:AOK)(ha:∀a,ac ->xo):Aku (sR o) s:=by
 show CA R.gr (BD R.len) (Qb j t) (fun j k a e1 e2=> ?_)
 ·by_cases hj:i=j
  ·subst hj;show AhV (by
    show NY (AKv Γ.length)
    ·exact h
    ·rw[AiK] at e;cases e)
   rw[BJ4] at e;cases e;exact Pl (Me List.getElem?_set_self R.len hi) r
  ·rw[BJ5] at e;rw[List.getElem?_set_ne hj];exact R.sl j t e
 ·rcases T6 e1 with ⟨rfl,q1⟩ | ⟨n1,q1⟩
  ·rcases T6 e2 with ⟨rfl,_⟩ | ⟨_,q2⟩
   ·rfl
   ·exact(ha a q1 _ q2).elim
  ·rcases T6 e2 with ⟨rfl,q2⟩ | ⟨_,q2⟩
   ·exact(ha a q2 _ q1).elim
   ·exact R.ap j k a q1 q2
theorem SR.set(R:DL)(i:Nat)(r:IH):Aku AJ' ő:=A1U (xD r)
theorem SR.drop(R:DL)(i:Nat)(o:MB):FM SR F H (sR o) ACZ:=A1U trivial
theorem SR.setOw(R:DL)(i:Nat)(h1:Ņ)(h2:ō)(h3:eJ)(r:Fm)(ha:xo):
  Aku (sR cK) dy:=R.put i ⟨a,vs,rfl,h1,h2,h3,r⟩ fun b h=>by cases h;exact ha
theorem T7(g:Oy)(h1:Ņ)(h2:ō):VQ AZQ/\fI AZQ:=by
 show BO F6 F6
 ·rw[Hm h2];exact e
 ·show U2
  ·show AvF h1
  ·rw[ZU] at e;exact g b u e
theorem SR.frzM(R:DL)(s1:DT)(s2:fI F')(n:∀b u,Pc F' ->b_ ->MM H0/\ABJ b):Acq:=by
 show CA ⟨R.gr.f.trans s1,s2,R.gr.h,ADZ q⟩ R.len (Qb j s) R.ap
 ·cases z:F b with
  | none=>show BQ (n b o e z).1
  | some u=>have:=s1 _ _ z;show ZH;show CH;exact R.gr.n b _ z q
 ·show AkT j;show B0 o e1 (Mz r s1 (XX ?_ (FU q q)));obtain⟨h1,_,_⟩:=Dc r hb;cases q:F' b with
  | none=>rfl
  | some u=>exact((n b u q h1).2 j ⟨s,o,e,e1,hb⟩).elim
def vJ(F H:Hp):Hp:=OY (ADc (F b) AD_ AD_ (match H b with | some JI=>some JI | _=>none))
theorem T8:Same F (vJ F H):=HP (by unfold vJ;rw[e])
theorem yez(g:Oy):fI (vJ F H):=HP (by
 show LA vJ;cases q:F b with
 | some w=>show MZ;cases e;exact g _ _ q
 | none=>
  show MZ;dsimp only at e;split at e
  ·rename_i z;cases e;exact z
  ·cases e)
theorem yf4(g:Oy)(e:N1 JI):AnU=some JI:=by
 unfold vJ;cases q:F b with
 | some w=>have:=g _ _ q;show ZH;show CH;rfl
 | none=>rw[e]
theorem z0r(e:L4 AnU)(n:b_):(∃xs,u= JY)/\s0:=by
 show LA vJ;rw[n] at e;dsimp only at e;split at e
 ·rename_i z;cases e;exact⟨Cf,z⟩
 ·cases e
theorem SR.tups(R:DL):VU (vJ F H) H:=by
 show CA ⟨R.gr.f.trans T8,yez R.g,R.gr.h,ADZ q⟩ R.len (Qb j s) R.ap
 ·cases z:F b with
  | none=>exact wZ.back R.gr.h (CL (z0r e z))
  | some u=>have:=T8 (H:=H) _ _ z;show ZH;show CH;exact R.gr.n b _ z q
 ·show AkT j;show B0 o e1 (Mz r T8 (XX ?_ (FU q q)));obtain⟨h1,_,u,h3,ld⟩:=Dc r hb;cases q:AnU with
  | none=>rfl
  | some w=>
   obtain⟨⟨xs,rfl⟩,z⟩:=z0r q h1;rw[h3] at z;cases z;exact ld.tup.elim
theorem SR.frzA(R:DL)(h1:Ņ)(h2:ō)(h3:eJ)(ha:xo):VU AZQ H:=by
 obtain⟨s1,s2⟩:=T7 R.g h1 h2;refine R.frzM s1 s2 A0H;show U2
 ·subst hb;exact⟨h3,ha⟩
 ·rw[ZU,n] at e;cases e
theorem IK(e1:xi):σ.set i o=σ:=by
 show B8 hl e2 zV.mp e1;rw[<- e2];simp
theorem SR.less(R:DL)(e:ALn)(e1:xi)(h:ac):zo ACZ a:=fun j q=>by
 have q' :nP ACZ (sR o) j a:=A4k
 rcases T6 q' with ⟨_,z⟩ | ⟨n,z⟩
 ·exact z
 ·exact n (R.ap j i a z ⟨s,o,e,e1,h⟩)
theorem SR.dropAt(R:DL)(e1:xi):Aij H:=by
 have q:=R.drop i o;rw[IK e1] at q;exact q
theorem SR.frz(R:DL)(e:IZ dy):∃a F',AMG/\DT /\pj F' H (io ARx)/\AAr ABf Ct:=by
 obtain⟨o,e1,a,vs,rfl,h1,h2,h3,r⟩:=AFO;obtain⟨s1,_⟩:=T7 R.g h1 h2;have rp:Rep K AZQ ABf Ct:=C7 (NJ a AI8 (r.up s1))
 have R2:=((R.dropAt e1).frzA h1 h2 h3 (R.less e e1 Ar0)).set i rp;show AGp R2;exact⟨a,_,e1,s1,R2,rp⟩
theorem SR.wrO(R:DL)(e:ALn)(e1:xi)(h:ac)(r:pB K F AGG H0 t o)(ht:IS (gG t o b) (gG s o b)):
  AWF AGG t:=by
 obtain⟨o',e2,r0⟩:=AFO;rw[e1] at e2;cases e2;obtain⟨h2,h3,w,h1,_⟩:=Dc r0 h;show AhV (HR e);have R1:Aij AGG:=by
  have R0:=R.dropAt e1;show CA ⟨R0.gr.f,fq,fq,xL (R0.gr.n b o q n)⟩ R0.len (Α j s' q) R0.ap
  ·rw[AB_ h2];exact R0.g b u q
  ·rw[AB_ h3];exact R0.gr.h b u q
  ·show AY4 AvN;show B0 o p1 (Mz p2 ES (XX (AT' p2) (AD u q')));have:Q4:=AC (by subst z;exact A7w h)
   rw[cR this];exact q'
 have R2:=R1.put i r (FX (R.less e e1 (ht b hb)));show AGp R2;exact R2
theorem SR.wr(R:DL)(e:IZ dy)(e1:AMG)(r:Akq):
  AWF (sT a Đ) (.ow es):=by
 show c0 e2 r0 AFO;rw[e1] at e2;cases e2;obtain⟨h2,h3,_⟩:=Dc r0 Ar0;exact R.wrO e e1 Ar0 ⟨a,us,rfl,jJ,h2,h3,r⟩ (FX hb)
theorem SR.base(R:DL):SR K F H0 F H σ Γ:=⟨hV R.g R.gr.h,R.len,R.sl,R.ap⟩
theorem Gr.unbase(g:AWh)(g' :Gr F H0 F' H'):Gr F0 H0 F' H' :=by
 show CA (g.f.trans g'.f) g'.g g'.h (jS ?_);cases q:F b with
 | none=>exact g'.n b o e q
 | some u=>have:=g'.f _ _ q;show ZH;show CH;exact g.n b _ q n
theorem SR.unbase(g:AWh)(R:SR K F H0 F' H' σ' Γ'):BHh :=⟨g.unbase R.gr,R.len,R.sl,R.ap⟩
#where
inductive TrY (h B:Heap) (e:Addr) (cls:Value) (dd:JU) (fl:Value):Prop
 | mk:∀oe vs T oT ts,FH (AJp e oe) (A5Z dd (ANg 2\/dd≠none)) (oe.data= AMf) (DC vs 1 (AW T)) (B.get? T=none) (Ρ (T≠e) (AJp T oT) (oT.data= ABe ts) (DC ts 3 fl) BE_)
def YJ(B:Heap)(l:EG)(a:Addr)(cls:Value)(dx:JU)(h:Heap):Prop:=
 B.StaysIn h/\SK B.get?/\h.FunFrames B l/\
  (TrY h B a cls dx AJ\/∃oe vs,Sf oe/\A5Z dx (oe.data= AMf/\ANg 1/\ (ANg 2\/dx≠none)))
def Ci(B:Heap)(l:EG)(e:Addr)(cls:Value)(dd:JU)(fl:Value)(h:Heap):Prop:=B.StaysIn h/\B.get? e=none/\h.FunFrames B l/\BE_
section
variable{M:Model}{A:Around}{E:dG}{s:Shared}{B:Heap}{env:Env}{outer:EG}{L a:Addr}{cls fl:Value}{dd:JU}{Q:Agc}
theorem z5j(f:D7 ->D7)(o:Obj):(Obj.mapFields f o).dict=o.dict:=by
 unfold Obj.mapFields;split<;>rfl
theorem Qa{h:Heap}{T b:Addr}{oT o:Obj}{ts:D7}(hT:AJp T oT)(hd:oT.data= ABe ts)(hb:TM)(hn:∀vs,o.data≠ .fields vs):b≠T:=fun q=>by
 rw[q,hT] at hb;injection hb with hb;subst hb;exact hn ts hd
theorem T9{l:EG}(x:Ci B l a cls dd fl s.heap)(hQ:AZ3 (Ci B l a cls dd AJ h')):lm (setFlight Ct none):=by
 obtain⟨f1,f2,f3,oe,vs,T,oT,ts,he,hk,hd,h1,hB,hne,hT,hdT,h3⟩:=x;show U_ far (SW (b≠T) (s.heap.update T (Obj.mapFields (·.setIfInBounds 3 ((none:Option Addr).elim Value.none fun f=>rawInt f)))).get? s.heap.get?) AmN;have hz:3<ts.size:=Aw3;show AqX;show D1 Η
 refine wpAny_setField hT hdT hz (hQ _ ⟨LS o q,f2,f3.of_keeps (xL (Pl ?_ rfl)),oe,vs,T,_,_,Ayr he,hk,hd,h1,hB,hne,BGi hT hdT,Obj.data_mapFields hdT _,BD hz⟩ (xL (Do o.slots)))
 ·exact AzM (f1 b o q)
 ·exact Aal q
 ·exact Aal q
theorem Fd{oe:Obj}{vs:D7}{head:Value}{more:Bool}(hfr:AS4 pS)(hl:Ack B pS)(hf:Al')(he:Dx s.heap.get? oe)(hkb:B.StaysIn s.heap)(hen:SK B.get?)
  (hd:oe.data= AMf) (hz:1<vs.size) (h2:ANg 2\/oe.dict≠none) (hQ:AZ3 (Ci B pS a oe.cls oe.dict (rawInt L) h')):
  lm (do let x<- frameOf env;let pl<- entryPlaceOf L more;let b<- EntryCells.newEntry head x AJ (rawInt L) AJ pl;setField Ct 1 b):=by
 have nf:a∉ (pS).filterMap (·.frame):=fun hm=>by
  obtain⟨_,o,ho,hn⟩:=hl.mem hm;rw[he] at ho;injection ho with ho;subst ho;exact hn vs hd
 refine z6 (wpAny_frameOf_fun hfr hl hf (AD h1 k1));show HC wpAny_entryPlaceOf (AD pl hp);show AWI (EA hp.sizeOk5 _);have e1:Dx h1.get? oe:=GA k1.2.1 a nf he;have b1:B.StaysIn h1:=N9 o (GA k1.2.1 b (fun hm=>(AM1 (hl.mem hm).1)) (hkb b o q))
 refine wpAny_setField Agz hd hz (hQ _ ?_ ?_)
 all_goals
  have ne:h1.objs.size≠a:=Nat.ne_of_gt (zG e1);have d3:=Obj.data_mapFields hd (·.setIfInBounds 1 (Value.ref h1.objs.size));have far:kA Q4 (ET h1.get?) (ET ((h1.push {cls:= .type "traceback",dict:=none,data:= .fields ([head,.ref L,.none,rawInt L,.none]++ (if pl.isEmpty then List.replicate 6 Value.none else pl)).toArray}).update a (Obj.mapFields (·.setIfInBounds 1 (Value.ref h1.objs.size)))).get?):=
   pr hb q (AB AmN ABP)
 ·show HQ (N9 o (far b o (DH (Adp hen)) (b1 b o q))) hen (hl.of_keeps (xL ?_))
  ·show WP sl k Axr (HL A'S)
  ·exact⟨_,_,h1.objs.size,_,_,BGV Agz d3,⟨Obj.cls_mapFields _ _,z5j _ _,h2.imp (DH (KL Array.getElem?_setIfInBounds_ne τ z)) id⟩,d3,BD hz,b1.fresh,ne,
    AZS ne (z9 h1 rfl),rfl,by first | (simp;done) | (rcases hp with rfl | ⟨_,_,_,_,_,_,_,rfl⟩<;>simp)⟩
 ·intro b o q n;obtain⟨sl,k⟩:=Axr;exact⟨sl,A'S⟩
theorem yca(hfr:AS4 pS)(hf:Al')(x:YJ B pS a cls dx s.heap)
  (hQ:AZ3 (Ci B pS a cls dx (rawInt L) h')):lm (noteFrame Ct env):=by
 obtain⟨f1,f2,f3,⟨oe,vs,T,oT,ts,he,⟨rfl,rfl,h2⟩,hd,h1,hB,hne,hT,hdT,h3⟩ | ⟨oe,vs,he,rfl,rfl,hd,h1,h2⟩⟩:=x
 ·unfold noteFrame;simp only [hf];show AqX;show D1 Η
  refine z6 (wpAny_field hT hdT h3 ?_);show An (TD rawInt)
  refine z6 (wpAny_setField hT hdT Aw3 ?_);show U_ far (SW (b≠T) (s.heap.update T (Obj.mapFields (·.setIfInBounds 3 Value.none))).get? s.heap.get?) AmN;refine Azu (Fd (s:=Pe (s.heap.update T (Obj.mapFields (·.setIfInBounds 3 Value.none)))) hfr (f3.of_keeps (xL (Pl (Aal q) rfl))) hf (Ayr he)) (N9 o (AzM (f1 b o q))) h2 (Yf w up)
  exact hQ h' w (xL (up b o (Aal q) n))
 ·unfold noteFrame;simp only [hf];show AqX;show mw
  exact Azu (Fd hfr f3 hf he) f1 h2 fun h' w up=>hQ h' w up
theorem z6f(hfr:AS4 pS)(hf:Al')(x:YJ B pS a cls dx s.heap)
  (hQ:AZ3 (YJ B outer a cls dx h')):lm (leaving env Ct):=by
 refine z6 (yca hfr hf x fun h1 w up=>T9 (s:=Pe h1) w (Α h2 w2 up2));obtain⟨k1,k2,⟨_,_,k3⟩,k4⟩:=w2;exact hQ h2 ⟨k1,k2,k3,.inl k4⟩ (up.trans up2)
#where
inductive Ua (ABd) (outer:EG) (H:Hp) (s:Shared) (E:XK) (e:Value) (s' :Shared):Prop
 | mk:∀a C H' B dx,FH (e= AF) Ai8 AJa A0M A3r (Ρ (YJ B outer a C dx s'.heap) (AW1 Mo (b∉frs outer)) (Axx) AIr (AX4 Ua))
def gH(P:Program)(w:World):CV:=fun outer H s E e s' =>(AX4 Ua)
theorem gH.imp(h:AX4 gH)(k:∀C dx H',AIr ->E' C dx H'):gH P w outer H s E' e s' :=by
 obtain⟨a,C,H',B,dx,h1,h2,h3,h4,h5,h6,h7,h8,h9⟩:=h;exact⟨a,C,H',B,dx,h1,h2,h3,h4,h5,h6,h7,h8,k _ _ _ h9⟩
section
variable{X:Cx}{pins:c7}{σ:St}{H H' :Hp}{s s' :Shared}{B:Heap}{h' :Heap}
theorem yf7(hok:Aix)(b1:Avy)(b2:BJ')(Ep:Axx):AWb :=HP (ASi (Ad2 hok) (fun c v hc q=>by
  have:∃o',B.get? c=some o' :=by
   show va hc hc
   ·exact Ep _ _ e
   ·exact Ep _ _ hc
  obtain⟨o',e'⟩:=this;have z:=b1 c o' e';rw[q] at z;cases z;exact b2 c _ e'))
theorem yjw(I:Ε)(hex:X.ex= [])(os:Ai8)(bare:AJa)(un:Adr (Ac3 H H'))(hok:Aix)(b1:Avy)(b2:BJ')
  (inB:AW1 Mo (b∉AV6)) (up:s'.heap.UpToSlots h'):
  Un X.fs [] X.H₀ H' X.s₀.heap h' /\AW1 ATg AEq :=by
 have I' :ŗ :=I.call' os un hok bare Auw
 have hb:=I'.base;rw[hex] at hb;have hb0:=I.base;rw[hex] at hb0;have Ub:AW1 ATg AEq :=jS (by
  show ue o1 (hb0.there b o e Η)
  refine inB b o1 e1 mr;show J_ (An5 z)
  ·show MW (zM (zG e) I.ok.above) Aik
  ·exact n z)
 show BO ⟨Ab5 hf,Ab5 hf,fun b o e n hx=>hb.free b o e n hx,ADZ hx,hb.tups,hb.oX,hb.rE⟩ Ub
 ·have e1:=sL hb.keep hf Η
  obtain⟨o',e'⟩:=Ub b o e hf;have z:=b1 b o' e';rw[e1] at z;cases z;exact b2 b _ e'
 ·show BEK (sL hb.slot hf Η) ⟨sl',e3⟩
 ·by_cases hf:AgM
  ·show BEK (hb.slot b o e (I.ok.Ma b hf) hf Η) (ĩ e3)
  ·show UY o' e' (Ub b o e hf) o' (b2 b o' e')
theorem Uc(I:Ε)(hex:X.ex= [])(hst:X.stack=X.env::X.outer)(hfr:AwW)
  (h:Ap9 E):ia (leaving X.env e) (G_ s'' (am gH X.outer X.H₀ X.s₀ E e s'')) Eb s' :=by
 obtain⟨a,C,H',B,dx,rfl,os,bare,un,hok,YK,inB,Ep,hE⟩:=h;refine z6f (by rw[I.ok.frames,hst]) hfr (BA hst YK) (Yf MF up)
 obtain⟨un',Ub⟩:=yjw I hex os bare un hok YK.1 MF.1 inB up;exact⟨a,C,H',B,dx,rfl,os.trans I.os,bare,un',yf7 hok YK.1 MF.1 Ep,MF,Ub,Ep,hE⟩
#where
def adH(xx):Prop:=W.excIn K C Arh "ValueError.__new__" =true
inductive ExN (h:Heap) (C:Addr):Prop
 | mk:∀bm N nm qn bs hdct sn sub ab col dd k0 k1 k2 k3 k5 mN,Ρ BFo (h.Ns N mN) (mN "__init__" =none) (OwnTail h Arh bm) (ExN h C)
inductive ExO (K:W.Frag) (h:Heap) (C:Addr):Prop
 | mk:∀bm N nm qn bs hdct sn sub ab col dd k0 k1 k2 k3 k5,BFo ->OwnTail h LQ bm ->W.tailIn K LQ bm=true ->∀cd,W.clsIn K C=some cd ->cd.mro= kX::bm ->ExO K h C
def w6(xx):Prop:=RD K C=true
section
variable{X:Cx}{pins:c7}{σ:St}{H:Hp}{s:Shared}
#where
abbrev G2:=UH
inductive XV where
 | ref (C:Addr) | any (C:Addr) | pay (A2d)
def XV.cls:XV ->Addr
 | kX=>C
 | ANK=>C
 | .pay C _ _=>C
inductive Ud (K_) (F H H' :Hp) (dx:JU) (fs:ο) (ts:EX):Prop
 | mk:∀p vs as,Ρ (dx=some p) (H' p=some A4W) AEt (F p=none) (ATE AH9 (Nn as (b_/\Fr)) (iw K F H' ts vs as) BCM)
def yu(K_)(F H H' :Hp)(C:Value)(dx:JU)(x:XV):Prop:=C= .ref x.cls/\match x with
 | ATA=>dx=none
 | .any _=>True
 | .pay _ fs ts=>BCM
theorem Gr.low(s:Akk)(g:Gr F H1 F' H'):cy :=⟨g.f,g.g,s.trans g.h,jS (wZ.back s (g.n b o e n))⟩
def XV.bare:XV ->XV
 | kX=> ANK
 | ANK=> ANK
 | .pay C _ _=> ANK
theorem yu.bare{K:W.Frag}(h:AyG):yu K F1 H1 H2 C d1 x.bare:=by
 have h:=CF;cases x<;>exact ASt h
def Aq(K:W.Frag)(F H:Hp)(Ex:AKy)(E:XK):Prop:=∀x C dx F' H',Ex x ->cy ->yu K F' H H' C dx x ->AIr
theorem yu.back(EF)(s:fI H1)(h:AyG):yu K F H1 H' C dx x:=by
 show CD CF;have h:=h.2;cases x with
 | ref _=>exact h
 | any _=>trivial
 | pay c fs ds=>
  obtain⟨p,vs,as,e1,e2,e3,e4,e5,nd,e6,e7⟩:=h;exact⟨p,vs,as,e1,e2,e3,e4,s.free e5,nd,XX (WB e6) (s.free (re e6)),e7⟩
abbrev XW:=BG G2 XV
abbrev aY:=AHB D
abbrev bK:=AHB ψ
abbrev TT2:=AHB Bool
inductive TW where
 | one (t:T) | tp (c:Str) (t:T)
def TRR(Ara):TW ->BG V Ν
 | .one t,v,as=>t_
 | .tp c t,v,as=>∃p u,v= Kt/\F p=some (Ň u)/\Ç u as
def IV(Q:ķ):DO TW
 | .one t=>Q t
 | .tp _ _=>False
structure oZ where
 nx:đ
 rt:uk
 bk:đ:=L7
 ct:đ:=L7
 rf:uk:=L7
 rT:DO TW:=L7
 rm:BG D G2:=Ì
abbrev aF:=oZ ->BG G2 XW
open Classical in
noncomputable def jt (F0 F:Hp):Hp:=OY (ACp A4L (F b))
theorem zv9:Same (jt F0 F) F:=HP (by
 show LA jt;split at e
 ·cases e
 ·exact e)
theorem zqj(h:∀u,LD u ->F0 b≠AD_):ApZ=F b:=by
 unfold jt;show An (fun hz=>by obtain⟨w,hw,q⟩:=hz;exact h w hw q)
theorem zz6(e:L4 ApZ):∀w,LD w ->F0 b≠AK7:=AlY (by
 show LA jt;rw[Ap A3J] at e;cases e)
theorem z1v(s:Same F0 F1):Same (jt F1 F) (jt F0 F):=HP (KL zqj (AlY (zz6 e w hw (s _ _ q))) (zv9 _ _ e))
theorem z3t(s:Same F0 F):cz F (LD u\/L4 ApZ):=HP (by
 by_cases h:A4L
 ·show GH w hw q;have:=s _ _ q;show ZH;show CH;exact .inl hw
 ·show Bz (KL zqj (AlY (h A3J)) e))
section
variable(K:W.Frag)(F0 H0:Hp)
inductive UpE (t:aY) (E:XW) (σ:St) (H:Hp) (Q:VK):Prop
 | mk:BAs OX UpE
def Ec(t:aY)(E:XW):TE:=yT UpE
inductive UpT (t:TT2) (E:XW) (σ:St) (H:Hp) (Q:m4):Prop
 | mk:AJk (∀b Γ' F' H',AiT (P b Γ') (Q b H')) UpT
def Ue(t:TT2)(E:XW):TT:=yT UpT
inductive UpA (A1o):Prop
 | mk:BAt ă UpA
def MJ(AMd):TA:=yT UpA
inductive UpF (t:bK) (E:XW) (σ:St) (H:Hp) (Q:VK):Prop
 | mk:AJk (∀ds Γ' F' H' a vs,Ρ AIC DT (Dx H' Lc) ï (Ρ eJ ă (zo Γ' a) ARz (Q Ct H'))) UpF
def upF(AMd):TE:=yT UpF
structure xq (F:Hp) (D2:oZ) (D:Ends):Prop where
 nx:Ar1 D2.nx lr
 bk:Ar1 D2.bk (D.bk σ H)
 ct:Ar1 D2.ct (D.ct σ H)
 rt:A'z OX D2.rt
 rf:A'z (Rep K AkH d v) D2.rf
 rT:∀t v as F' H,FH (Gr F0 H0 F' H) as.Nodup (sd (ï/\eJ)) (TRR K F' H t v as) (D2.rT t) Ad6
 rm:∀d v Γ F' H σ,Acq ->OX ->D2.rm d Γ ->Ad6
inductive UpS (t:aF) (E:XW) (D:Ends) (σ:St) (H:Hp):Prop
 | mk:∀F Γ D2,APN ->(t D2 Γ E) ->(FM xq F D2 D) ->UpS t E D σ H
def YL(t:aF)(E:XW):TS:=bS (FM UpS t E D σ H)
#where
theorem xq.mono{K:W.Frag}{F0 H0 F F' :Hp}{D2:oZ}{D:Ends}(k:AXt F)(s:DT):AXt F':=
 AAV (fun Γ F1 H σ R s1 h=>(AqW k.nx)) (fun Γ F1 H σ R s1 h=>(AqW k.bk)) (fun Γ F1 H σ R s1 h=>(AqW k.ct))
structure Qc where
 xe:dG
 pn:c7
abbrev _root_.L2.Cx.wsh(X:Cx)(z:Qc):Cx:={X with xe:=z.xe,pn:=z.pn}
structure Ctx (X:Cx) (F0 H0:Hp) (E:XW):Prop where
 pX:∀pins σ Γ F H s e s',Ε ->AG3 ->Ap9 A'1 ->AjR
 pq:∀A' A'',SameStack A' X.A ->PassesOwnAt SF A' A'' X.env X.xe
theorem Ctx.po(cx:Amv):Aqa:=cx.pq _ _ (SameStack.refl _)
theorem Ctx.px(cx:Amv)(pins:c7)(σ:St)(Γ:G2)(F H:Hp)(s:Shared)(e:Value)(s' :Shared)(I:Ε)(R:AG3)(hx:Ap9 A7a):AjR :=
 A1t H s e s' I R (hx.imp fun _ _ H' hz=>by obtain⟨x,F',h1,h2,h3⟩:=hz;exact⟨Γ,F',x,R.grow h2,h2.f,h3,.inr (FX (R.apart hb)),h1⟩)
def QE(NC)(e:Expr)(t:aY):Prop:=AM9 Ec
def QF(NC)(e:Expr)(t:bK):Prop:=AM9 upF
def QT(NC)(e:Expr)(t:TT2):Prop:=kT PT e Ue
def QW(NC)(e:Expr)(t:TT2):Prop:=kT PW e Ue
def QA(A1c):Prop:=kT PA es MJ
def QS(NC)(st:Stmt)(t:aF):Prop:=kT PS st YL
def uw(NC)(st:IQ)(t:aF):Prop:=kT DY st YL
section
variable{X:Cx}{e:Expr}{es:AE}{st:Stmt}{sts:IQ}
theorem mQ(h:PE X e t)(hi:AOt):PE X e t' :=fun pins s σ H Q I q=>(AG8 Q)
theorem Qd(h:PT X e t)(hi:AOt):PT X e t' :=fun pins s σ H Q I q=>(AG8 Q)
theorem pwC(h:PW X e t)(hi:AOt):PW X e t' :=fun w pins s σ H Q I q=>zk h w H Q I Ab2
theorem paC(h:PA X es t)(hi:AOt):PA X es t' :=fun p pins s σ H Q I q=>zk h p H Q I Ab2
theorem sJ(h:PS X st t)(hi:∀D σ H,t' D σ H ->Ady):PS X st t' :=fun pins s σ H D I q=>(AG8 D)
theorem Ug(h:DY X sts t)(hi:∀D σ H,t' D σ H ->Ady):DY X sts t' :=fun pins s σ H D I q=>(AG8 D)
#where
section
variable{X:Cx}{F0 H0:Hp}{a b c e:Expr}{es:AE}{pos:Pos}{ta tb tc te:aY}
def cC(d:D):aY:=SU ñ
theorem YM(h:∀z,PE bE e (tC v))(r:∀F,AIk F):Ľ (cC d):=fun z E cx=>
 mQ (h z) (ALh (pp P hq1 (JA _ R ES (r F) h)))
theorem aW{i j pos}:AY_ vy (SD i):=AaD yj6
theorem yf2{i j pos}:AY_ (.bool i) (cC (.bl i)):=AaD ymk
theorem Uh{j pos}:AY_ AJ ACr:=AaD yi3
theorem IW{x j pos}:AY_ ŉ (cC ŉ):=AaD yi1
def cV(Uf):aY:=SU (X1 Γ[i]? (some ő) ñ Afs A2N)
theorem yke(AVg):Aww:=fun z E cx=>
 mQ NN (De hq2 (by
  show OC hq2;show BC cV;show C4
  ·rename_i d e;obtain⟨o,e1,v,rfl,r⟩:=AFO;exact⟨v,e1,k d Γ F H v R ES r h⟩
  ·rename_i ds e;obtain⟨a,F',e1,s1,R',r⟩:=R.frz e;exact⟨AF,e1,k _ _ F' H _ R' s1 r h⟩
  ·show EH))
inductive Ui (K:W.Frag) (g:DB) (x:V) (y:V) (H:Hp) (Q:VK):Prop
 | mk:∀F d1 d2 P,FH æ (Rep K F d1 x) (Rep K F d2 y) (g d1 d2 P) (BEo) BEk
def sO(K:W.Frag)(g:DB):R2:=OF BEk
def cB(g:DB)(ta tb:aY):aY:=KI ta d1 (QP tb d2 (g d1 d2 fun d=>P d Γ2))
theorem YQ(EF){g:DB}{E:XW}(du){Q:VK}(h:mi Alb E σ H Q):SQ (sO K g) (mi ta E) (mi tb E) σ H Q:=by
 show OC h;refine EI (fun d1 Γ1 F1 H1 v1 R1 s1 r1 h1=>(gT (fun d2 Γ2 F2 H2 v2 R2 s2 r2 h2=>⟨F2,d1,d2,_,R2.g,AiB,r2,h2,fun d z F' H' gr rz hp=> ?_⟩)));exact k d Γ2 F' H' z Asl (APu gr.f) rz hp
theorem bR(ho:ef j6 AsW (qV g))(ha:OQ)(hb:d4):B1 AuL Alb:=fun z E cx=>
 mQ (yhd (ho z) B3 FK) (hZ YQ)
theorem Dd(A6o):B1 ANX Alb:=fun z E cx=>
 mQ (yge (ho z) B3 FK hm) (hZ YQ)
def cT(t:aY):TT2:=SE (t Γ (fun d Γ' =>(Nl (.bl c) (P c Γ'))) E)
theorem ykr{K:W.Frag}{E:XW}(du){Q:m4}(h:FM Ue (cT te) E σ H Q):mi te E σ H fun x H' =>(AMM (Q c H')) :=by
 show OC h;refine EI (fun d Γ' F' H' v R' s' r q=> ?_);cases d with
 | bl c=>
  show NO c r (k c Γ' F' H' R' s' q)
 | _=>show ff
theorem oO(A6o):jb ANX (lb g ta tb):=fun z E cx=>
 Qd (yg2 (ho z) B3 FK hm) fun σ H Q h=>YQ (ykr h)
theorem Fe(h:L9)(he:∀whole,isTrue e X.env whole=(do let v<- whole;standAt e.pos;holding [v] (truthy v)):=by show NU):jb e (cT te):=fun z E cx=>
 Qd (BY yl5 RY he) (hZ ykr)
def iT(t u:TT2):TT2:=AXo (GG c (u Γ' P E) (P false Γ'))
def sS(t u:TT2):TT2:=AXo (GG c (P true Γ') (u Γ' P E))
def iC(t:TT2):TT2:=AXo (P (! c) Γ')
variable{rest:AE}{tA Ir :TT2}
theorem YS(AiF):C5 QW AsQ tA:=AK' yfl B3
theorem ydz(AiF):C5 QW AsR tA:=AK' yi7 B3
theorem YT(ha:ACb a)(hb:C5 QW AVY Ir):C5 QW AVZ (iT tA Ir):=fun z E cx=>
 pwC (yl8 B3 FK) (De Ar (HV Ar (fun c Γ1 F1 H1 R1 s1 q=>by
  cases c with
  | true=>
   exact AGT (fun b Γ2 F2 H2 R2 s2 p=>A0V)
  | false=>
   exact AaM)))
theorem ygi(ha:ACb a)(hb:C5 QW AVa Ir):C5 QW AVb (sS tA Ir):=fun z E cx=>
 pwC (ym9 B3 FK) (De vK (HV vK (fun c Γ1 F1 H1 R1 s1 q=>by
  cases c with
  | true=>
   exact AaM
  | false=>
   exact AGT (fun b Γ2 F2 H2 R2 s2 p=>A0V))))
theorem Df(h:C5 QW e tA):ACb e:=fun z E cx=>(RY).pt
theorem Qe(AiF):jb AX3 (iC tA):=fun z E cx=>
 Qd (yko B3) (AEj Ed Ed (fun c Γ1 F1 H1 R1 s1 q=>AaM))
def eG(AMu):aY:=AnW (X1 d lj Apg AEO (P ACw Γ'))
def jB(AMu):aY:=AnW (X1 d AEO Apg lj (P AEb Γ'))
def fU(ta:aY):aY:=AnW (Nl (.bl c) (P (.bl (! c)) Γ'))
theorem Uj{op}(h:OQ):B1 (.BoolOp op [a] pos) ta:=AK' yl2 RY
theorem YW(ha:OQ)(hb:B1 AVY tb):B1 AVZ (eG ta tb):=fun z E cx=>
 mQ (yk8 B3 FK) (De MK (HV MK (fun d Γ1 F1 H1 v R1 s1 r q=>by
  cases d with
  | bl c=>
   show AX c r;cases c with
   | true=>show XZ;exact AGT (fun d Γ2 F2 H2 v R2 s2 r p=>Aa9)
   | false=>show Ah1 AaW
  | _=>show ff)))
theorem ym1(ha:OQ)(hb:B1 AVa tb):B1 AVb (jB ta tb):=fun z E cx=>
 mQ (ymg B3 FK) (De yq (HV yq (fun d Γ1 F1 H1 v R1 s1 r q=>by
  cases d with
  | bl c=>
   show AX c r;cases c with
   | false=>show Ah1 (AGT (fun d Γ2 F2 H2 v R2 s2 r p=>Aa9))
   | true=>show XZ;exact AaW
  | _=>show ff)))
theorem ylm(ha:OQ):B1 AX3 (fU ta):=fun z E cx=>
 mQ (yi8 B3) (AEj hq8 hq8 (fun d Γ1 F1 H1 v R1 s1 r q=>by
  cases d with
  | bl c=>
   show NO c r AaW
  | _=>show ff))
def qy(t:TT2)(ta tb:aY):aY:=AXo (GG c (ta Γ' P E) Apg)
theorem Uk(hc:ACb c)(ha:OQ)(hb:d4):B1 Avf (qy tA ta tb):=fun z E cx=>
 mQ (yba ATN B3 FK) (De Sg (HV Sg (fun c Γ1 F1 H1 R1 s1 q=>by
  cases c with
  | true=>show c8 BU q (AGT (fun d Γ2 F2 H2 v R2 s2 r p=>Aa9))
  | false=>show c8 OT q (AGT (fun d Γ2 F2 H2 v R2 s2 r p=>Aa9)))))
def aq:bK:=AL1 []
def aj(t:aY)(u:bK):bK:=KI t d (QP u ds (P AUW Γ2))
theorem aN:C5 QA [] aq:=fun z E cx=>paC z4d (De MN (pp P MN (JA _ R ES E3 h)))
theorem aA(ha:L9)(hr:C5 QA es tr)(hs:starEach Da X.env=E9 (DE e) (E8 es):=by rfl):C5 QA Da (aj te tr):=fun z E cx=>
 paC (BY YC B3 (KE hr) hs) (De ⟨F,Γ,P,R,h,k⟩ (EI (fun d Γ1 F1 H1 v1 R1 s1 r1 h1=>(gT (fun ds Γ2 F2 H2 vs R2 s2 r2 h2=>JA _ R2 L6 (qX (r1.up s2) r2) h2)))))
def eF(UV):aY:=IO (ADG (Be (.tup ds)))
theorem xu{x1}(h:ze es):B1 (.Tuple es x1 pos) (eF t):=fun z E cx=>
 mQ (yee RY) (AEj Et Et (fun ds Γ1 F1 H1 vs R1 s1 r1 h1=>(Al2 eh (by
  show ż (HO.tup vs) R1.g hp;refine JA _ ASE Agf ?_ h1.2;exact NJ p AI8 (r1.up gr.f)))))
def dD(UV):bK:=IO (ADG (Be ds))
theorem Fg(ť)(AZ6){p:Addr}{vs:χ}{ds:ψ}(R:DL)(hp:AH9)(r:Fm):
  VU F (sT p Lc)/\ (sT p Lc) p=some Lc/\F p=none/\H0 p=none/\ABJ p:=by
 refine⟨?_,jJ,R.g.free hp,R.gr.h.free hp,R.apart hp⟩;refine R.grow (hV F6 F6)
 ·rw[w9 R.g hp];exact R.g b u e
 ·rw[Hm hp];exact e
theorem tO{t:bK}(h:ze es):i9 Ayf (dD t):=fun z E cx=>
 mQ (yli RY) (AEj Eu Eu (fun ds Γ1 F1 H1 vs R1 s1 r1 h1=>(Al2 eh (by
  obtain⟨R2,e1,e2,e3,ap⟩:=Fg R1 hp r1;exact ce ds _ p vs R2 s1 e1 e2 e3 r1 ap h1.2))))
def dg(UV):aY:=IO (Be ABf)
theorem gq(h:pv QF e):Ľ (dg t):=fun z E cx=>
 mQ RY (De Ew (HV Ew (fun ds Γ1 F1 H1 a vs R1 s1 e1 e2 e3 r1 ap h1=>by
  obtain⟨s2,_⟩:=T7 R1.g e1 e2;refine JA _ (R1.frzA e1 e2 e3 ap) L6 ?_ h1;exact NJ a AI8 AiB)))
variable{st:Stmt}{sts:IQ}{t u:aF}
def bG:aF:=To (D.nx Γ)
def aG(t u:aF):aF:=ib (t {D with nx:=Ê (u D Γ' E)} Γ E)
theorem sU:C5 uw [] bG:=fun z E cx=>Ug yim (VZ D abb (pp D2 abb (FG R ES h)))
theorem bM(h1:pv QS st)(h2:C5 uw sts u):C5 uw (st::sts) (aG t u):=fun z E cx=>
 Ug (zzx Afq (KE h2)) (PF abd abd (AAV (fun Γ' F' H' σ' R' s' q=>⟨F',Γ',D2,R',q,k.mono s'⟩) k.bk k.ct))
theorem cF(h1:pv QS st):pv uw [st]:=AK' z82 Afq
def adI:aF:=To (D.bk Γ)
def adJ:aF:=To (D.ct Γ)
def fJ(Hn):aF:=Sb te _ (D.nx Γ1)
theorem z6z(he:L9)(hs:Ang e:=by rfl):ay (.Expr e pos) (fJ te):=fun z E cx=>
 sJ (BY z6k K0 hs) (PF abe abe (fun d Γ1 F1 H1 v R1 s1 r1 h1=>(AWP R1)))
def bw(Hn):aF:=A1R (D.rt d)
theorem gJ(he:L9):An_ (bw te):=fun z E cx=>
 sJ (z40 K0) (PF abf abf (fun d Γ1 F1 H1 v R1 s1 r1 h1=>EA k.rt R1.gr r1 h1))
def gA:aF:=fun D _ _=>D.rt Ι
def dh(c:TT2)(t u:aF):aF:=Sb c b (GG b (t D Γ1 E) (u D Γ1 E))
theorem sV(hc:ACb c)(ha:pv uw x)(hb:C5 uw y u):ay (.If c x y pos) (dh tA t u):=fun z E cx=>
 sJ (ymr ATN B3 FK) (PF abg abg (fun c Γ1 F1 H1 R1 s1 q=>by
  cases c with
  | true=>show c8 BU q Ay0
  | false=>show c8 OT q Ay0))
def abh:aF:=Rs
def aX(AlH):aF:=AFb (oQ ő)
theorem gB(o_)(hx:nc)(he:L9)(hs:Ð e (SG pos'):=by rfl)
  (hf:Zs\/Z_:=by show AGq):AZ0 aX te:=fun z E cx=>
 sJ (qE SJ hN hi hx K0 hs hf) (PF abj abj (fun d Γ1 F1 H1 v R1 s1 r1 h1=>(AWP (R1.set i r1))))
def cL(i:Nat)(t:bK):aF:=Sb t ds (oQ dy)
theorem HB(o_)(hx:nc)(he:Ak5)(hs:Ð e (SG pos'):=by rfl)
  (hf:Zs\/Z_:=by show AGq):AZ0 cL tf:=fun z E cx=>
 sJ (qE SJ hN hi hx K0 hs hf) (PF abk abk (fun ds Γ1 F1 H1 a vs R1 s1 e1 e2 e3 r1 ap h1=>(AWP (R1.setOw i e1 e2 e3 r1 ap))))
#where
#print L3
namespace L3
open PySem PySem.Spec PyProof.Rows L2
abbrev rG:=A3k D
abbrev uz:=A3k ψ
section
variable(K:W.Frag)(F0 H0:Hp)
inductive UpG (g:rG) (E:XW) (v:V) (σ:St) (H:Hp) (Q:Ix):Prop
 | mk:∀F Γ P d,JP APN (Rep K F d v) (g d Γ P E) BEw (UpG g E v σ H Q)
def YX(g:rG)(E:XW):TG:=AKF (FM UpG g E v σ H Q)
inductive Ul (g:uz) (E:XW) (vs:χ) (σ:St) (H:Hp) (Q:Ix):Prop
 | mk:∀F Γ P ds,JP APN AQT (g ds Γ P E) BEw (Ul g E vs σ H Q)
def abl(g:uz)(E:XW):Iu:=VZ vs Q (FM Ul g E vs σ H Q)
#where
def QG(NC)(e:Expr)(g:rG):Prop:=APD (PG bE e (SI YX g E))
def Um(NC)(es:AE)(g:uz):Prop:=APD (Mg bE es (SI abl g E))
section
variable{X:Cx}{F0 H0:Hp}{e tg:Expr}{es:AE}{pos:Pos}{te:aY}{g:rG}{gs:uz}
theorem pgC(h:PG X e t)(hi:BEl):PG X e t' :=fun pins s σ H v u Q I r q=>A'w
theorem Uo(h:Mg X es t)(hi:BEl):Mg X es t' :=fun pins s σ H v u Q I r q=>A'w
def hName(Uf):rG:=fun d Γ Q _=>Q (Γ.set i ő)
theorem fV(o_)(hx:nc)(hf:Zs\/Z_:=by show AGq):C5 QG ü (EU i):=fun z E cx=>
 pgC (qE yhl hN hi hx hf) fun v σ H Q hq1=>by obtain⟨F,Γ,P,d,R,r,h,k⟩:=hq1;exact JA (R.set i r) ES h
def eZ:uz:=fun ds Γ Q _=>ds= []/\Q Γ
def aZ(g:rG)(gs:uz):uz:=fun ds Γ Q E=>match ds with | d::r=>g d Γ (Μ Γ' (gs r Γ' Q E)) E | []=>False
theorem Ag:C5 Um [] eZ:=fun z E cx=>Uo yhe fun vs σ H Q hq2=>by
 obtain⟨F,Γ,P,ds,R,r,h,k⟩:=hq2;show Č h h;exact⟨r,JA R ES h⟩
theorem nJ(h1:C5 QG e g)(h2:Azz)(hs:AGx Da (·.2)=ATS e::AGx es (·.2):=by rfl):C5 Um Da (aZ g gs):=fun z E cx=>
 Uo (BY ya7 Afq (KE h2) hs) fun vs σ H Q Ar=>by
  obtain⟨F,Γ,P,ds,R,r,h,k⟩:=Ar;cases ds with
  | nil=>show AMx
  | cons d ds=>
   show AGg;exact⟨v,us,rfl,F,Γ,_,d,R,r1,h,fun Γ1 F1 H1 σ1 R1 s1 q=>⟨F1,Γ1,P,ds,R1,r2.up s1,q,fun Γ2 F2 H2 σ2 R2 s2 p=>JA R2 L6 p⟩⟩
def fj(n:Nat)(gs:uz):rG:=fun d Γ Q E=>(Nl we A3z)
theorem Ah(hc:D6)(h:Azz)(hn:Hc assignEach es X.env=n:=by rfl)(hst:(assignEach es X.env).findIdx? (·.1)=none:=by rfl):C5 QG AzZ (fj n gs):=fun z E cx=>
 pgC (SO yji n n hc RY hn hst) fun v σ H Q vK=>by
  obtain⟨F,Γ,P,d,R,r,h,k⟩:=vK;cases d with
  | tup ds=>
   show BV a vs hq rs r;exact⟨a,vs,rfl,sI R.g hq,BA lP CF,F,Γ,P,ds,R,rs,h.2,k⟩
  | _=>show AMx
def j8(te:aY)(g:rG):aF:=AFb (g d Γ1 D.nx E)
def jC(i j:Nat)(t:bK):aF:=Sb t ds (MS gx (D.nx (AW2 (.pu x) j (.pu y))))
theorem yjx{kt k2 Mh}(hc:D6)(hN:X.N.Nodup)(hi:Ps)(hj:ADT)(hij:i≠j)
  (hx:Z_) (hy:AON) (ha:Age)
  (hw:swappedStores AHS AHL X.env=pure (D' gx)) (hs:AWf AHS AHL:=by rfl):
  AHy AHS AHL (jC i j t):=fun z E cx=>
 sJ (qE yj1 (j:=j) hc hN hi hj hij hx hy B3 hw hs) (PF MK MK (fun ds Γ1 F1 H1 vs R1 s1 r1 h1=>by
  match ds,r1,h1 with
  | [d1,d2],r1,h1=>
   obtain⟨v1,_,rfl,q1,v2,_,rfl,q2,rfl⟩:=r1;exact JS v1 v2 (AWP ((R1.set i q1).set j q2))
  | [],_,h1=>show wp
  | [_],_,h1=>show wp
  | _::_::A1,_,h1=>show wp))
def Av(c:TT2)(tb:aF):aF:=ib (∃W:og,(∃m,W m Γ)/\∀m Γ,W m Γ ->
 VM c b (GG b (tb (W' D Axy Axy D.nx) Γ1 E) (D.nx Γ1)))
theorem z01(hc:jb c tc)(hb:AOQ):ay A4f (Av tc tb):=fun z E cx=>
 sJ (ybg cx.po ATN FK) (VZ D yq (by
  obtain⟨F,Γ,D2,R,⟨W,⟨m,w0⟩,turn⟩,k⟩:=yq;show B0 (fun m σ H=>∃F1 Γ1,aw F1 H Γ1/\TK/\W m Γ1) ⟨m,F,Γ,R,bi,w0⟩ (VZ m hz1 ?_);obtain⟨F1,Γ1,R1,s1,w1⟩:=hz1;refine AbY (turn m Γ1 w1) (fun b Γ2 F2 H2 R2 s2 q=> ?_);cases b with
  | true=>
   rw[BU] at q⊢;refine⟨fun σ' H' =>(AIP (∃F3 Γ3,SI SR F3 H' σ' Γ3/\VQ F3/\W m' Γ3)),fun σ' H' z=>z,F2,Γ2,_,R2,q,AAV (fun Γ3 F3 H3 σ3 R3 s3 hz=>BFf) (fun Γ3 F3 H3 σ3 R3 s3 p=>FG R3 AM3 p) (fun Γ3 F3 H3 σ3 R3 s3 hz=>BFf)⟩
  | false=>
   show c8 OT q (FG R2 L6 q)))
def abm(AYP):TI:=A0d ((∃xs,ASI)/\Š Mj) ((∃xs,AiX)/\Š J7)
theorem yle(hl:PE X l tl):eR l (abm X.K tl):=by
 show fe;show ng (ax hl) v Sg;show MG Sg;obtain⟨a,e,q⟩:=q1;subst e;cases r1;rcases q with ⟨⟨xs,hq⟩,q⟩ | ⟨⟨xs,hq⟩,q⟩
 ·show A8W ⟨s1.heap.objs.size,Ĩ,_,_,H1,rfl,Ŭ,zvo a _,RH,FL,q⟩
 ·obtain⟨its,rv,p,hz⟩:=I1.tuple hq;refine wpAny_pyIter_tuple (Cc (s1.heap.IsTuple a its.toArray) p) ?_;refine⟨s1.heap.objs.size,Ĩ,_,_,H1,rfl,Ŭ,zri a _,RH,FL,q⟩;show ADH
  exact AKS
def wg(ds:ψ)(g:rG)(BID):Prop:=∃I:og,AOJ/\
 (A'l Ao3)/\∀Γ,I ds.length Γ ->AhQ
def vL(te:aY)(g:rG)(tb:aF):aF:=ANV (VM te d (X1 d Ĺ Ar_ we Ar_))
theorem Ja(hc:D6)(hi:AHc iter)(hg:AXr)(hb:AOQ)(hs:h_ iter:=by show NU):
  Aa8 iter vL te:=fun z E cx=>
 sJ (BCi yle AK6 FK hs) (nr MN MN (fun d Γ1 F1 H1 v R1 s1 r1 h1=>by
  have body:∀(ds:List L3.D) (vs:χ),AR' ->∀I:og,(A'l (Μ Γ' (tb (W' D2 sj sj D2.nx) Γ' E))) ->
    ∀(i:Nat) x σ H,al vs ->(Adx) ->SI YX g E x σ H (AIa (SI YL tb E (W' Dn Aot Aot Dn.nx) σ2 H2)):=by
   rintro ds vs rs I turn i x σ H hx ⟨F2,Γ2,R2,s2,hI⟩;show AS d hd rd zv7 rs hx;exact⟨F2,Γ2,_,d,R2,rd.up s2,turn i d Γ2 hd hI,fun Γ3 F3 H3 σ3 R3 s3 p=>⟨F3,Γ3,W' D2 sj sj D2.nx,R3,p,AAV (fun Γ4 F4 H4 σ4 R4 s4 q=>Aaw) (fun Γ4 F4 H4 σ4 R4 s4 q=>FG R4 (AAe (AmE s4)) q) (fun Γ4 F4 H4 σ4 R4 s4 q=>Aaw)⟩⟩
  cases d with
  | lst ds=>
   show AVz;show ArN;show fN a (v6 ⟨vs,xC⟩ (BEs ybn (by obtain⟨F2,Γ2,R2,s2,_⟩:=hz;exact R2.g.seq (s2.seq hq))))
   rintro σ H ⟨F2,Γ2,R2,s2,hI⟩;exact AXb L6 (KL lu rs hI)
  | tup ds=>
   show AVz;show ArN;show fN a (.inr ⟨⟨vs,sI R1.g hq⟩,BEs ygr (by obtain⟨F2,Γ2,R2,s2,_⟩:=hz;exact sI R2.g (sI s2 hq))⟩)
   rintro σ H ⟨F2,Γ2,R2,s2,hI⟩;exact AXb L6 (KL lu rs hI)
  | _=>show wp))
def Dg(lo:Int)(A7v):Prop:=∃I:og,AOJ/\
 (∀(i:Nat) Γ,CO ->I i Γ ->g (B4 (lo+i)) Γ Ao3 E)/\∀Γ,I n Γ ->AhQ
theorem ydp(EF){F1 H1:Hp}{Γ1:G2}{σ:St}{lo:Int}{n:Nat}{tb:aF}{D2:oZ}{D:Ends}{E:XW}(R1:pj F1 H1 Γ1)(h:Dg lo n g tb D2 E Γ1)(k:AXt F1):
  AGQ Ix (W 0 m σ H1) (∀i m σ H,ANA ->(A0j)\/ (AuS (ASf (Hw lo n).yld (FM YX g E x σ H' (AIa (FM YL tb E A_0 σ2 H2)))))):=by
 show P7 I i0 turn done;refine z9i (lo:=lo) (n:=n) (fun i σ H=>∃F2 Γ2,pj F2 H Γ2/\cc F2/\I i Γ2) BIH ?_ ?_
 ·rintro i σ H hi ⟨F2,Γ2,R2,s2,hI⟩;exact⟨F2,Γ2,_,AfP,R2,KS,turn i Γ2 hi hI,fun Γ3 F3 H3 σ3 R3 s3 p=>⟨F3,Γ3,_,R3,p,AAV (fun Γ4 F4 H4 σ4 R4 s4 q=>Aaw) (fun Γ4 F4 H4 σ4 R4 s4 q=>FG R4 (AmE s4) q) (fun Γ4 F4 H4 σ4 R4 s4 q=>Aaw)⟩⟩
 ·rintro σ H ⟨F2,Γ2,R2,s2,hI⟩;exact AXb s2 hI
def qC(AlW):aF:=ANV (km (MS [cE] ((sN<=j/\AQo)/\Dg 0 j.toNat g tb D0 E Γ1)))
theorem Ke(hc:D6)(hgl:Ag3)(hm:Fh "range")(ha:ACz)(hg:AXr)(hb:AOQ)
  (hst:starEach [a] X.env= AOG a:=by rfl) (hs:h_ Ays:=by show NU):Aa8 Ays qC t:=fun z E cx=>
 sJ (A'r (z8n hgl hm B3 hst) FK hs) (PF Eu Eu (fun ds Γ1 F1 H1 vs R1 s1 r1 h1=>by
  show RO
  ·rename_i j;obtain⟨v,_,rfl,rfl,rfl⟩:=r1;exact⟨j,rfl,eh.1,eh.2,BCa⟩
  ·show wp))
def Kg(AlW):aF:=ANV (km (MS ć ((Arp)/\Dg i AZI g tb D0 E Γ1)))
theorem yio(hc:D6)(hgl:Ag3)(hm:Fh "range")(ha:Age)(hg:AXr)(hb:AOQ)
  (hst:starEach b9 X.env= [ANI a,ANI b]:=by rfl) (hst2:starEach [b] X.env= AOG b:=by rfl) (hs:h_ A4w:=by show NU):Aa8 A4w Kg t:=fun z E cx=>
 sJ (BCi (z7t hgl hm B3 hst) hst2 FK hs) (PF Ew Ew (fun ds Γ1 F1 H1 vs R1 s1 r1 h1=>by
  show RO
  ·rename_i i j;obtain⟨v,_,rfl,rfl,v2,_,rfl,rfl,rfl⟩:=r1;exact C3 i j eh BCa
  ·show wp))
def abn(lo st:Int)(n:Nat):It:=A'e (.int (lo+i*st))
def acC(ta:TA):TI:=AKR (∃(i j k:Int) (n:Nat),vs= A3U/\A_U (R (abn i k n) H1))
def abo(lo st:Int)(A7v):Prop:=∃I:og,AOJ/\
 (∀(i:Nat) Γ,CO ->I i Γ ->g (B4 (lo+i*st)) Γ Ao3 E)/\∀Γ,I n Γ ->AhQ
def acD(AlW):aF:=ANV (km (MS A3U (∃n:Nat,A_U (abo i k n g tb D0 E Γ1))))
#where
abbrev cH:=Amx uk
inductive Kh (K:W.Frag) (sp:cH) (yo):Prop
 | mk:Ar3 ((AOs OX (P d))) Kh
def pQ(K:W.Frag)(sp:cH):Sp:=ANE Kh
def aB(sp:cH)(t:bK):aY:=IO (AKU AMY)
section
variable{X:Cx}{F0 H0:Hp}{e:Expr}{es:AE}{pos p:Pos}{x:Str}{f:Addr}{fd:FuncData}{ps:ο}{k:Nat}{sp:cH}{t:bK}
theorem MP(Avd)(hb:AOx)(cx:AbR)
  (I:AZp) (R:AG3) (r:AC_) (rs:Adq) (h:sp ds P fun C=>E Γ C) (hQ:AOs (AIk F') (P d)):
  A_T us:=by
 have hs:pQ X.K sp vs H Q A7a:=⟨F,ds,P,_,R.g,rs,h,hQ,fun x C dx F' H' hE gr xr=>AZ9⟩;show AG5 (us++ []) A6h
 have hbs:=hb s us I.kIn hl;show Ű;refine wpAny_call (codeAny_mono (A7m ALZ us vs Q _ hr I.env0 hbs r hs) (gS hq));cases r with
 | error e=>exact Ac1 Γ F H s e s' I R hq
 | ok fl=>
  cases fl with
  | ret u=>exact I.after hq
  | next=>show NV
  | brk=>show NV
  | cont=>show NV
theorem z8a(Avd)(hg:Gl X x)(hm:Co X.mg IR)(hk:W.keepIn X.K IR=true)(hb:AOx)
  (AJi):
  B1 Ts (aB sp t):=by
 rintro z E cx pins s σ H Q I ⟨F,Γ,P,R,h,kk⟩;show AO1;refine W.callWith_K (h₀:=X.base) I.ok.mod.Hv hk (Pw (EB AJj (fun vs H1=>∃F1 Γ1 ds,AIl/\TK/\AR'/\AKU AMY) I (EI (fun ds Γ1 F1 H1 vs R1 s1 r1 h1=>AV5))) us vM) he hpl;obtain⟨vs,H1,I1,r,F1,Γ1,ds,R1,sF,rs,q⟩:=vM;show ALb;exact AOn MP I1 R1 r rs q fun d v F' H' gr rv hp=>A7V
#where
def aK(n:Nat)(ds:ψ):G2:=ds.map .pu++AKi (n - ds.length) υ
abbrev jh(N:ο)(ds:ψ):G2:=aK N.length ds
theorem YZ(A6y)(AOO)(h:fI F0)(r:A4J):SR K F0 H F0 H (L2.start N vs) (jh N ds):=by
 have hl:=lu r;show CA (Gr.refl h) (by simp [L2.start,jh,aK,hl]) (Qb i s) (fun i j a e _=> ?_)
 ·unfold jh aK at e;unfold L2.start;show AiV
  ·show AI9 List.getElem?_append_left List.getElem?_map
   cases q:ds[i]? with
   | none=>show gN
   | some d=>
    show MZ;cases e;show AS v e1 r1 vI r q;refine IB ļ ?_ v r1;show A9p e1;rfl
  ·show AVy List.getElem?_append_right
   split at e
   ·cases e;rename_i hlt;show Ae6 hlt;show Y_ none trivial;show A0n (if_pos (by show Acw;exact hlt))
   ·cases e
 ·exfalso
  obtain⟨s,o,e,_,hs⟩:=e;unfold jh aK at e;show AiV
  ·show AI9 List.getElem?_append_left List.getElem?_map
   cases q:ds[i]? with
   | none=>show gN
   | some d=>show MZ;cases e;exact hs
  ·show AVy List.getElem?_append_right
   split at e
   ·cases e;exact hs
   ·cases e
section
variable{P:Program}{w:World}{K:W.Frag}{mg:CB}{base:Heap}
theorem iU(Ana)(AOc){fd:FuncData}{N ps:ο}{k:Nat}{sp:cH}(Fn:AGh)(S:EJ N ps st)(len:∀ds Q E,sp ds Q E ->AEP)
  (hbody:∀(cdv:Value) (A:Around) (outer:EG) (s:Shared) (H:Hp) (E:XK),AOu (∀F0:Hp,
   Akm H Ù t (AqD AoK))):
  Ahl pQ:=by
 obtain⟨oc,od,kV,doc,pm,an,cdv,ct,osl,rfl,lk,hcd⟩:=Fn.ex;show AbL (fun A outer s H vs Q E hr hq2=> ?_)
 show AsH AY6
 obtain⟨F0,ds,Pd,Ex,sF,rs,hsp,hQ,hE⟩:=hq2;show Alm;show AZ_ (by
  show AN9 (fun pins σ Γ F H1 s1 e s' I R hx=> ?_);show AO5;obtain⟨Γ',F',x,R',_,xr,_,z1⟩:=z;exact AbP)
 exact⟨_,AWr,F0,jh N ds,A7W,ApD,ArQ,⟨fun Γ F' H' σ R' _ q=>A8l,fun _ _ _ _ _ _ q=>q,fun _ _ _ _ _ _ q=>q,fun d v F' H' gr rv q=>A_a,fun _ _ _ _ _ _ q=>q.elim,fun _ _ _ _ _ _ _ _ _ q=>q.elim,fun _ _ _ _ _ _ _ _ q=>q.elim⟩⟩
#where
def cY(AGX):Nat:=Builtin.Int.intBits i
theorem yeu(h:AwD):BJQ:=by
 show BC cY;unfold IntMulOk;intro z;show Akc z;have z2:=z.2;unfold Builtin.Int.intTooBig at z2;have hb:bitsLine=134217728:=by rfl
 rw[hb] at z2;have:=of_decide_eq_true z2;omega
theorem mq(h:Akv):So<=k:=by
 show AwP;split
 ·exact DV
 ·show GN;show Re n0 i.natAbs (by
   have:i=0:=BIx;show UC;exact q rfl)
  have:=(Nat.log2_lt n0).mpr h;omega
theorem M4(h:So<=k):Akv:=by
 unfold cY Builtin.Int.intBits at h;show C4
 ·show GN;have:i=0:=AN q
  show UC;exact Nat.two_pow_pos k
 ·show GN;show Re n0 i.natAbs (by
   have:i=0:=BIx;show UC;exact q rfl)
  exact(Nat.log2_lt n0).mp ξ
theorem Aw(oz):cY (i*j)<=So+cY j:=by
 refine mq ?_;rw[Int.natAbs_mul,Nat.pow_add];exact Nat.mul_lt_mul'' (M4 (zN _)) (M4 CC)
theorem Y0(oz):BDH (i+j):=by
 refine mq ?_;have h1:i.natAbs<A_W:=M4 (Nat.le_max_left _ _);have h2:j.natAbs<A_W:=M4 (Nat.le_max_right _ _);have h3:=Int.natAbs_add_le i j;rw[Nat.pow_succ];omega
theorem yir(AGX):cY (-i)=cY i:=by show AwP;simp
theorem zmf(oz):BDH (i - j):=by
 have h:=Y0 i (-j);rw[yir,<- Int.sub_eq_add_neg] at h;exact h
theorem Jb(h:i.natAbs<=j.natAbs):So<=cY j:=mq (zL h (M4 (zN _)))
section
variable{X:Cx}
theorem Y4{f:AAP}{C:AYM}{v:AVE}{d:AVD}{g:DB}(ho:j6 X f (rI C v))(hg:∀x y P,g x y P ->Aqt AG4)(hd:∀i j F,Rep X.K F (d i j) (v i j)):j6 X f (qV g):=by
 rintro pins s σ H x y u w Q I rx ry ⟨F,d1,d2,P,sF,r1,r2,h,k⟩;show ij i j rfl hc hp (hg _ _ _ h);show ź;exact AuR ⟨i,j,rfl,rfl,hc,Az7⟩
theorem Y5{f:AAP}{v:AVE}{d:AVD}{g:DB}(ho:j6 X f (J8 v))(hg:∀x y P,g x y P ->AJo AG4)(hd:∀i j F,Rep X.K F (d i j) (v i j)):j6 X f (qV g):=by
 rintro pins s σ H x y u w Q I rx ry ⟨F,d1,d2,P,sF,r1,r2,h,k⟩;show BV i j rfl hp (hg _ _ _ h);show ź;exact AuR (IB i j rfl Az7)
def wI(C:AYM)(d:AVD):DB:=NL (match x,y with
 | B9,cE=>C i j/\AG4
 | _,_=>False)
theorem Y6(h:wI C d x y P):Aqt AG4:=by
 show BC wI;show C4
 ·exact Fk _ rfl h
 ·show EH
def qF(d:AVD):DB:=NL (match x,y with
 | B9,cE=>AG4
 | _,_=>False)
theorem Y7(h:qF d x y P):AJo AG4:=by
 show BC qF;show C4
 ·exact Fk _ rfl h
 ·show EH
def cN:DB:=NL (match x,y with
 | B9,cE=>I_ (i+j)
 | .str i,.str j=>AQ (i.length+j.length)/\P (HE (i++j))
 | _,_=>False)
theorem qY:AFj Add cN:=by
 rintro pins s σ H x y u w Q I rx ry ⟨F,d1,d2,P,sF,r1,r2,h,k⟩;show BC cN;show C4
 ·show ź;exact l' (EB yjo _ _ u w) (Fk _ rfl lc)
 ·show ź;exact l' (EB z2l _ _ u w) ⟨_,_,rfl,rfl,CF,AUt⟩
 ·show EH
def fY:DB:=qF fun i j=> .int AYR
theorem Fi:AFj Sub fY:=AZo yj9
def Ax(oz):Prop:=So<=64\/cY j<=64\/AwD
theorem Ax.ok(h:Ax i j):BJQ:=by
 rcases h with h | h | h
 ·exact .of_left h
 ·exact .of_right h
 ·exact yeu h
def cM:DB:=wI Ax (kl (i*j))
theorem qt:AFj Mult cM:=Y4 (C:=Ax) (v:=kl (i*j)) (YB fun i j _ _ _ _ _ hc q=>mul_int q hc.ok) (PZ Y6) AI7
def d8:DB:=wI (G_ j (v_/\AL_)) At7
theorem wj:AFj FloorDiv d8:=Y4 (C:=FU j (v_/\AL_)) (v:=At7) (YB fun i j _ _ _ _ _ hc q=>floordiv_int hc.1 q (.inl (PyProof.noPylong_of_log2 (by
 have:=M4 hc.2;exact(Nat.log2_lt (DH (hc.1 (Int.natAbs_eq_zero.mp z)))).mpr this)))) (PZ Y6) AI7
def bU:DB:=wI (G_ j v_) At6
theorem mR:AFj Mod bU:=Y4 (C:=FU j v_) ygq (PZ Y6) AI7
def ji:DB:=wI Iw A5h
theorem ylj:AFj Pow ji:=Y4 ylp (PZ Y6) AI7
def qZ:DB:=AXf (i<j)
theorem Fj:oq Lt qZ:=AZo ynb
def tQ:DB:=AXf (i<=j)
theorem Ur:oq LtE tQ:=AZo ymv
def pR:DB:=AXf (j<i)
theorem Ay:oq Gt pR:=AZo ym8
def vp:DB:=AXf (j<=i)
def fK:D ->Bool | Ι=>true | _=>false
theorem z6u(EF){F:Hp}{d:D}{v:V}(r:IH):Θ (v= Ι)=fK d:=by
 cases d with
 | non=>subst r;rfl
 | bl _=>subst r;rfl
 | int _=>subst r;rfl
 | str _=>subst r;rfl
 | tup _=>show AOk
 | lst _=>show AOk
 | exc _=>show AOk
 | ptr _=>subst r;rfl
 | obj _ _ _=>obtain⟨a,_,_,rfl,_⟩:=r;rfl
 | dic _ _=>show AOk
 | iB _ _=>show AOk
 | dik _ _=>obtain⟨a,_,_,rfl,_⟩:=r;rfl
def sW:DB:=A9X (P (.bl (fK x))) (c==d)
def jj:DB:=A9X (Ki (! fK x)) (c !=d)
theorem Us:oq Is sW:=by
 rintro pins s σ H x y u w Q I rx ry ⟨F,d1,d2,P,sF,r1,r2,h,k⟩;show BC sW;show C4
 ·have e:=z6u r1;subst r2;exact l' (EB yk9 x _ u w) AxX
 ·show C4
  ·show ź;cases rx;cases ry;exact is_bool (Ğ lc)
  ·exact h.elim
 ·show EH
theorem ync:oq IsNot jj:=by
 rintro pins s σ H x y u w Q I rx ry ⟨F,d1,d2,P,sF,r1,r2,h,k⟩;show BC jj;show C4
 ·have e:=z6u r1;subst r2;exact l' (EB yfd x _ u w) AxX
 ·show C4
  ·show ź;cases rx;cases ry;exact isnot_bool (Ğ lc)
  ·exact h.elim
 ·show EH
mutual
def gY:D ->D ->Bool
 | Ι,b=>(ABc Ι true)
 | .bl a,b=>(AMc UO)
 | ADr,b=>(AMc ADs)
 | AK3,b=>(AMc AK4)
 | JY,b=>(ABc ATm lf)
 | Ic,b=>(ABc ĺ lf)
 | .exc a,b=>(AMc (.exc b))
 | .ptr a,b=>(AMc (.ptr b))
 | .obj C fs xs,b=>(ABc (.obj C' fs' ys) (Θ (C=C')&&Θ (fs=fs')&&lf))
 | qq xs,b=>(Ap2 dic)
 | AhT,b=>(Ap2 iB)
 | AjG,b=>(Ap2 dik)
def gF:ψ ->ψ ->Bool
 | [],[]=>true
 | Ee,AFZ=>gY x y&&lf
 | _,_=>false
end
@[simp] def kd:D ->Nat
 | Ι=>0
 | Iy=>1
 | IM=>2
 | GW=>3
 | ALR=>4
 | Y2=>5
 | _=>6
@[simp] def Cj (d d' :D):Bool:=kd d<6&&kd d' <6&&(kd d !=kd d' || kd d<4)&&(kd d !=1 || kd d' !=2)&&(kd d !=2 || kd d' !=1)
def qG:FR (BG D D)
 | n+1,JY,ATm=>Ani
 | n+1,Ic,ĺ=>Ani
 | _,d,d' =>AW'
#where
mutual
theorem Jc:∀d:D,gY d d=true
 | Ι=>wc
 | Iy=>wc
 | IM=>wc
 | GW=>wc
 | JY=>C7 (M5 xs)
 | Ic=>C7 (M5 xs)
 | wn=>wc
 | wo=>wc
 | .obj _ _ xs=>AWz
 | .dic _ xs=>AWz
 | .iB _ xs=>AWz
 | .dik _ xs=>AWz
theorem M5:∀ds:ψ,gF ds ds=true
 | []=>ALO
 | Rl=>xj gF (Jc d) (M5 ds)
end
mutual
theorem z8p:∀a b:D,gY a b=true ->a=b
 | Ι,b,h=>AHQ
 | Iy,b,h=>AHQ
 | IM,b,h=>AHQ
 | GW,b,h=>AHQ
 | wn,b,h=>AHQ
 | wo,b,h=>AHQ
 | .obj _ _ xs,b,h=>by
  cases b with
  | obj _ _ ys=>show BG_;rw[CF.1,CF.2,Ac8]
  | _=>show AGV
 | .dic _ xs,b,h=>by
  cases b with
  | dic _ ys=>show Ap1
  | _=>show AGV
 | .iB _ xs,b,h=>by
  cases b with
  | iB _ ys=>show Ap1
  | _=>show AGV
 | .dik _ xs,b,h=>by
  cases b with
  | dik _ ys=>show Ap1
  | _=>show AGV
 | JY,b,h=>by
  cases b with
  | tup ys=>rw[M6 xs ys h]
  | _=>show AGV
 | Ic,b,h=>by
  cases b with
  | lst ys=>rw[M6 xs ys h]
  | _=>show AGV
theorem M6:∀a b:ψ,gF a b=true ->a=b
 | [],b,h=>by cases b<;>simp [gF] at h<;>rfl
 | Ee,b,h=>by
  cases b with
  | nil=>simp [gF] at h
  | cons y ys=>
   show BC gF;rw[Bool.and_eq_true] at h;rw[z8p x y CF,Ac8]
end
theorem ztd:ApC (xs.length=ys.length ->(∀e:FR Bool,(AQi (e i=gY x y)) ->Aj0 xs.length e=lf))
 | [],[],_,_,_=>ALO
 | Ee,AFZ,hl,e,he=>by
  have ih:=ztd (xs:=xs) (ys:=ys) (Bi hl) (Wp (e (By))) (BAy he)
  rw[List.length_cons,List.range_succ_eq_map,List.all_cons,List.all_map];rw[he 0 x y rfl rfl]
  congr 1
theorem ztr:ApC (xs.length≠ys.length ->gF xs ys=false)
 | [],[],h=>Ama
 | [],A1,_=>ALO
 | A1,[],_=>ALO
 | Ee,AFZ,h=>ZI gF (ztr (AQs h)) Bool.and_false
theorem z72:ApC (AKc ys.length ->(AQi (gY x y=true)) ->AZd)
 | [],[],_,_=>ALO
 | Ee,AFZ,hl,h=>xj gF (h 0 x y rfl rfl) (z72 (Bi hl) (BAy h))
section
variable{X:Cx}{pins:c7}{σ:St}{F H:Hp}{s:Shared}
theorem zu4(I:Ε){a:Addr}{xs ys:χ}(h:ANn kZ)(h' :uA pO a):False:=by
 obtain⟨its,_,⟨o,n,e,c,_,_⟩,_⟩:=AfI;obtain⟨its',_,⟨o',e',c',_⟩,_⟩:=I.tuple h';rw[e] at e';cases e';rw[c] at c';injection c' with c';exact ALt c'
theorem Y8{n:Nat}{d d' :D}(hc:Ane):AW'\/ (A'v JY ATm)\/
  A'v Ic ĺ:=by
 unfold qG at hc;split at hc
 ·show Bz (Db BDa)
 ·show Bz (CL BDa)
 ·show BQ hc
theorem yep(I:Ε)(sF:Oy):∀(n:Nat) (d d' :D) (v:V),A4T Ane:=by
 have flat:∀(d d' :D) (v:V),A4T AW':=by
  intro d d' v hf r r';cases d with
  | non=>simp only [Rep] at r;subst r;cases d' <;>simp only [Rep] at r' <;>first | rfl | (cases hf;done) | (cases r';done) | show BHG
  | bl=>show Aqx
  | int=>show Aqx
  | str=>show Aqx
  | tup=>show BEu (sF.seq h2) (sI sF h1)
  | lst=>show BEu (sF.seq h1) (sI sF h2)
  | _=>cases hf
 intro n;induction n with
 | zero=>
  intro d d' v hc r r';rcases Y8 hc with h | ⟨_,_,_,h,_⟩ | ⟨_,_,_,h,_⟩
  ·exact flat d d' v h r r'
  ·cases h
  ·cases h
 | succ n ih=>
  intro d d' v hc r r';have go:∀{xs ys:ψ} {vs us:χ},JP (vs=us) (Å F xs) (aJ X.K F ys us) Ani AZd:=by
   intro xs ys vs us e r1 r2 hc;subst e;refine z72 (by rw[lu r1,lu r2]) fun i x y h1 h2=> ?_
   show AS v1 e1 q1 vI r1 h1;show AS v2 e2 q2 vI r2 h2;rw[e1] at e2;cases e2;exact ih x y v1 (hc i x y h1 h2) q1 q2
  rcases Y8 hc with h | ⟨_,xs,ys,h,rfl,rfl,hc⟩ | ⟨_,xs,ys,h,rfl,rfl,hc⟩
  ·exact flat d d' v h r r'
  ·cases h;show BV a vs h1 q1 r;obtain⟨b,us,z,h2,q2⟩:=r';cases z;exact go (I.tuple_inj (sI sF h1) (sI sF h2)) q1 q2 hc
  ·cases h;show BV a vs h1 q1 r;obtain⟨b,us,z,h2,q2⟩:=r';cases z;exact go (I.list_inj (sF.seq h1) (sF.seq h2)) q1 q2 hc
structure Y9 (A:Around) (s:Shared) (v u:Value) (b:Bool):Prop where
 eq:SeqAt.EqAt A s v u b
 rc:SeqAt.RcAt A s v u b
 ne:SeqAt.RcNeAt A s v u (! b)
theorem z7u{n m:Nat}(e:FR Bool)(h:n=m):(AJN (min n m) all e&&n==m)=Aj0 n e:=by
 subst h;simp
def Kn(s:Shared):BG D Value
 | Ι,v=>v= AJ
 | UO,v=>v= .bool b
 | B9,v=>∃t,v= .int i t
 | T1,v=>∃t,v= .str x t
 | ALR,v=>A7u (IsTup s.heap l is)
 | Y2,v=>A7u (AUv is)
 | _,_=>True
theorem kn(I:Ε)(sF:Oy){d:D}{x:V}{v:Value}(r:Rep X.K F d x)(rv:PQ):Kn s d v:=by
 cases d<;>simp only [Rep] at r<;>try trivial
 case non=>subst r;cases rv;rfl
 case bl=>subst r;cases rv;rfl
 show A3a int
 show A3a str
 case tup=>
  obtain⟨l,vs,rfl,h,_⟩:=r;cases rv;obtain⟨is,_,k,_⟩:=ApK h;exact⟨l,rfl,_,k⟩
 case lst=>
  obtain⟨l,vs,rfl,h,_⟩:=r;cases rv;obtain⟨is,_,k,_⟩:=I.list (sF.seq h);exact⟨l,rfl,_,k.isList⟩
theorem z8x{A:Around}{d d' :D}{v u:Value}(hu0:Ah9)(hf:AW')(a:Kn s d v)(b:Kn s d' u):A7Z:=by
 cases d with
 | non=>
  show Nw a;cases d' with
  | non=>show aT (.same _) .none_none .none_none
  | bl _=>show aT Af7 Af7 Af7
  | int _=>show AIU AgP AgP AgP
  | str _=>show AIU AgQ AgQ AgQ
  | tup _=>show ø AjT AjT AjT
  | lst _=>show ø AjU AjU AjU
  | _=>cases hf
 | bl _=>
  show Nw a;cases d' with
  | non=>show aT Af8 Af8 Af8
  | bl _=>show aT AgR AgR AgR
  | str _=>show AIU Ahv Ahv Ahv
  | tup _=>show ø AjZ AjZ AjZ
  | lst _=>show ø Aja Aja Aja
  | _=>cases hf
 | int _=>
  show AO_ a;cases d' with
  | non=>show aT AgS AgS AgS
  | int _=>show Aac int_int int_int int_int
  | str _=>show Aac int_str int_str int_str
  | tup _=>show Aae int_tuple int_tuple int_tuple
  | lst _=>show Aae int_list int_list int_list
  | _=>cases hf
 | str _=>
  show AO_ a;cases d' with
  | non=>show aT AgT AgT AgT
  | bl _=>show aT Ahw Ahw Ahw
  | int _=>show Aac str_int str_int str_int
  | str _=>show Aac str_str str_str str_str
  | tup _=>show Aae str_tuple str_tuple str_tuple
  | lst _=>show Aae str_list str_list str_list
  | _=>cases hf
 | tup _=>
  show AbZ k1 a;cases d' with
  | non=>show aT AjV AjV AjV
  | bl _=>show aT Ajb Ajb Ajb
  | int _=>show Aad tuple_int tuple_int tuple_int
  | str _=>show Aad tuple_str tuple_str tuple_str
  | lst _=>show ø Ajq Ajq Ajq
  | _=>cases hf
 | lst _=>
  show AbZ k1 a;cases d' with
  | non=>show aT AjW AjW AjW
  | bl _=>show aT Ajc Ajc Ajc
  | int _=>show Aad list_int list_int list_int
  | str _=>show Aad list_str list_str list_str
  | tup _=>show ø Ajr Ajr Ajr
  | _=>cases hf
 | _=>cases hf
theorem Ut(I:Ε)(sF:Oy):∀(n:Nat) (A:Around) (d d' :D) (x y:V) (v u:Value),AAi (A.units+n) ->Ane ->Ρ (Rep X.K F d x) (Rep X.K F d' y) PQ IN A7Z:=by
 intro n;induction n with
 | zero=>
  intro A d d' x y v u hu hc r r' rv ru;rcases Y8 hc with h | ⟨_,_,_,h,_⟩ | ⟨_,_,_,h,_⟩
  ·exact BAa ξ
  ·cases h
  ·cases h
 | succ n ih=>
  intro A d d' x y v u hu hc0 r r' rv ru;have hu0:A.units<cLine:=ρ
  rcases Y8 hc0 with h | ⟨_,xs,ys,h,rfl,rfl,hc⟩ | ⟨_,xs,ys,h,rfl,rfl,hc⟩
  ·exact BAa hu0
  ·show BFN k1 (ApK h1);obtain⟨is2,p2,k2,_⟩:=ApK h2;have el1:is1.length=xs.length:=by rw[<- p1.length,lu q1]
   have el2:is2.length=ys.length:=by rw[<- p2.length,lu q2]
   have at_:∀j (g1:j<is1.toArray.size) (g2:j<is2.toArray.size),SeqAt.EqAt A.in1 s is1.toArray[j] is2.toArray[j] ((L5 (match AMJ,AUp with | ATO,ĸ=>AUr | _,_=>false)) j):=by
    intro j g1 g2;have g1' :j<xs.length:=by simpa [el1] using g1
    have g2' :j<ys.length:=by simpa [el2] using g2
    have e1:HK xs xs[j]:=BD g1'
    show BFh;show BFl (BFn eq)
   show XG Y9 AiW;have same:l1=l2 ->AZd:=fun e=>by
    have z:=yep I sF GL JI AEc AS' (AQw qG hc) A7' BAu
    exact z
   have ev:(AJN (min is1.toArray.size is2.toArray.size) all (L5 (match AMJ,AUp with | ATO,ĸ=>AUr | _,_=>false))&&is1.toArray.size==is2.toArray.size)=lf:=by
    have s1:is1.toArray.size=xs.length:=BD el1
    have s2:is2.toArray.size=ys.length:=BD el2
    rw[s1,s2];show A4O
    ·rw[z7u _ hl];exact A_O
    ·rw[ztr hl,beq_false_of_ne hl,Bool.and_false]
   have rc:=SeqAt.RcAt.tuples k1 k2 hu0 at_;have rn:=SeqAt.RcNeAt.tuples k1 k2 hu0 at_;rw[ev] at rc rn;show B0 ?_ rc rn;show Fs l1 l2
   ·rw[same e];subst e;exact Afb
   ·exact SeqAt.EqAt.of_refs e rc
  ·show BFN k1' (I.list (sF.seq h1));obtain⟨is2,p2,k2',_⟩:=I.list (sF.seq h2);have k1:=k1'.isList;have k2:=k2'.isList;have el1:is1.length=xs.length:=by rw[<- p1.length,lu q1]
   have el2:is2.length=ys.length:=by rw[<- p2.length,lu q2]
   have at_:∀j (g1:j<is1.toArray.size) (g2:j<is2.toArray.size),SeqAt.EqAt A.in1 s is1.toArray[j] is2.toArray[j] ((L5 (match AMJ,AUp with | ATO,ĸ=>AUr | _,_=>false)) j):=by
    intro j g1 g2;have g1' :j<xs.length:=by simpa [el1] using g1
    have g2' :j<ys.length:=by simpa [el2] using g2
    have e1:HK xs xs[j]:=BD g1'
    show BFh;show BFl (BFn eq)
   show XG Y9 AiW;have same:l1=l2 ->AZd:=fun e=>by
    have z:=yep I sF GL ir AfS AS' (AQw qG hc) A7' BAu
    exact z
   have rcn:SeqAt.RcAt A s AS' (AW l2) AiW/\SeqAt.RcNeAt A s AS' (AW l2) (! lf):=by
    show A4O
    ·have ev:Aj0 is1.toArray.size (L5 (match AMJ,AUp with | ATO,ĸ=>AUr | _,_=>false))=lf:=by
      have s1:is1.toArray.size=xs.length:=BD el1
      rw[s1];exact A_O
     have hz:is1.toArray.size=is2.toArray.size:=by simp [el1,el2,hl]
     have rc:=SeqAt.RcAt.lists k1 k2 hz hu0 at_;have rn:=SeqAt.RcNeAt.lists k1 k2 hz hu0 at_;rw[ev] at rc rn;exact⟨rc,rn⟩
    ·have hz:(is1.toArray.size !=is2.toArray.size)=true:=by simp [el1,el2,hl]
     rw[ztr hl];exact⟨SeqAt.RcAt.lists_lengths k1 k2 hz hu0,SeqAt.RcNeAt.lists_lengths k1 k2 hz hu0⟩
   obtain⟨rc,rn⟩:=rcn;show B0 ?_ rc rn;show Fs l1 l2
   ·rw[same e];subst e;exact Afb
   ·exact SeqAt.EqAt.of_refs e rc
def mC:DB:=NL (qG 20 x y/\Ki (gY x y))
def pU:DB:=NL (qG 20 x y/\Ki (! gY x y))
theorem nG(AmB):oq Eq mC:=by
 rintro pins s σ H x y u w Q I rx ry ⟨F,d1,d2,P,sF,r1,r2,h,k⟩;exact XG (Ut I sF 20 X.A d1 d2 x y u w hu CF r1 r2 rx ry).rc (Ğ AUt)
theorem yw(AmB):oq NotEq pU:=by
 rintro pins s σ H x y u w Q I rx ry ⟨F,d1,d2,P,sF,r1,r2,h,k⟩;exact XG (Ut I sF 20 X.A d1 d2 x y u w hu CF r1 r2 rx ry).ne (Ğ AUt)
#where
section
variable{M:Model}{A:Around}{E:dG}{h:Heap}{g:fb}{d:Drawn}{t:Nat}{os:OsState}
 {nm q nm' q' :Str} {C N C' N' :Addr} {bs bm bs' bm' :Β} {hdct acE :Bool} {sn sn' :ο} {sub sub' :Β} {ab ab' :Bool} {col col' :Ev Bool} {dd Tv :JU} {k0 k1 k2 k3 k5 j0 j1 j2 j3 j5:LM} {newId newId' :String}
#where
abbrev _root_.L2.Cx.hand(X:Cx)(a:Addr):Cx:={X with A:=X.A.mark (some Ct),calm:=false}
section
variable{X:Cx}{pins:c7}{σ:St}{H:Hp}{s:Shared}{a:Addr}
theorem ydq(ok:X.Ok)(z:Qc):(X.wsh z).Ok:=⟨ok.mod,ok.kind,ok.glob,ok.blt,ok.above,ok.inj,ok.has,ok.cab,ok.hd,ok.frames,ok.stk,ok.exf,ok.bs,ok.J5,ok.Io,ok.Ip,ok.funs,ok.Ma⟩
theorem yjj(I:AZp):Inv AqR [] σ H s:=
 ⟨ydq I.ok _,I.os,I.bare,I.base,I.loc,I.cell,I.free,I.freeC,XE (I.pin p (Bi hp)),I.hok,I.len⟩
theorem Za(I:Inv AqR sG σ H s):AZp:=
 ⟨ydq I.ok _,I.os,I.bare,I.base,I.loc,I.cell,I.free,I.freeC,XE (I.pin p (zP _ hp)),I.hok,I.len⟩
theorem ymj{z:Qc}{xe:dG}{D:Ends}{f:Flow}{sG :c7}(h:SP AqR sG D f s):SP bE pins D f s:=by
 cases f with
 | next=>show P7 σ' H' I q;exact⟨σ',H',Za I,q⟩
 | brk=>show P7 σ' H' I q;exact⟨σ',H',Za I,q⟩
 | cont=>show P7 σ' H' I q;exact⟨σ',H',Za I,q⟩
 | ret u=>obtain⟨v,σ',H',I,r,q⟩:=h;exact⟨v,σ',H',Za I,r,q⟩
#where
def jG:XW:=Ì
theorem xq.base(AuG){D2:oZ}{D:Ends}(k:AXt F)(g:AWh):xq K F H0 F D2 D:=
 ⟨fun Γ F' H' σ R s h=>(AsB k.nx),fun Γ F' H' σ R s h=>(AsB k.bk),fun Γ F' H' σ R s h=>(AsB k.ct),fun d v F' H' gr r h=>k.rt d v F' H' (g.unbase gr) r h,fun d v F' H' gr r h=>k.rf d v F' H' (g.unbase gr) (zuo (z1v g.f) d v r) h,fun t v as F' H' gr nd hn r h=>k.rT t v as F' H' (g.unbase gr) nd hn r h,fun d v Γ F' H' σ R r h=>k.rm d v Γ F' H' σ (R.unbase g) r h⟩
section
variable{X:Cx}{pins:c7}{σ:St}{H:Hp}{s:Shared}
theorem Jd:Ctx (X.wsh ⟨Ì,pn⟩) F0 H0 jG:=
 ⟨fun _ _ _ _ _ _ _ _ _ _ h=>A0x,FS _ PassesOwnAt.never⟩
#where
def j9(K_)(Cd:Addr)(tb th:aF):aF:=A8G (th D Γ1 jG)
def gC(A5w):aF:=A8G (th {nx:=Amz,rt:=D.rt,bk:=Ajs,ct:=Ajt} (Γ1.set i (.pu AXM)) jG)
section
variable{X:Cx}{F0 H0:Hp}{pos np hp:Pos}{x n:Str}{Cd:Addr}{body suite:IQ}{b₀:Stmt}{tb th:aF}
#where
def cU(g:AO9)(ta:aY):aY:=KI ta d (g d fun d' =>(Be d'))
def fZ:AO9:=fun x P=>(ML x B9 (I_ (-i)))
inductive Kl (K_) (g:Go) (vs:χ) (H:Hp) (Q:VK):Prop
 | mk:A'U BEo Kl
def uD(K:W.Frag)(g:Go):SA:=ABn (Kl K g vs H Q)
def gZ(g:Go)(t:bK):aY:=IO (g ds fun d=>AIg)
def cO:DB:=NL (match x,y with
 | Ic,B9=>A7N
 | JY,B9=>A7N
 | mo,B9=>∃c,ATJ/\AyY/\P (HE AF_)
 | _,_=>False)
theorem zuf(DM)(AOO){i:Int}{d:D}(r:Fm)(h:ò ds d):AVU (ò vs v):=by
 unfold mZ at h⊢;rw[<- lu r];cases q:vo ds.length i with
 | none=>show oa q
 | some j=>
  show mT q (vI r h)
section
variable{X:Cx}{F0 H0:Hp}{a b e:Expr}{es:AE}{pos p:Pos}{ta tb te:aY}{t:bK}{x:Str}
theorem Fl(ha:OQ):B1 (.UnaryOp .USub a pos) (cU fZ ta):=fun z E cx=>
 mQ (ymt yka B3) (De hq1 (HV hq1 (fun d Γ1 F1 H1 v R1 s1 r q=>by
  cases d with
  | int i=>
   show NO i r AaW
  | _=>show ff)))
theorem yda(EF){g:Go}{E:XW}(du){Q:VK}(h:mi Amq E σ H Q):A5e uD:=HV h (fun ds Γ1 F1 H1 vs R1 s1 r1 h1=>(BCz (fun d z F' H' gr rz hp=>k d Γ1 F' H' z ASE Agf rz hp)))
theorem o7{id:String}{g:Go}(hc:ef eE sg (uD X.K g))(ye)(hv:wE sg)(ha:i')(hn:lx :=by decide)(hdb:BM x "__debug__":=by decide)
  (sP):B1 Ts Amq:=fun z E cx=>
 mQ (BY Te (hc z) hg hm hv B3 hn hdb he hpl) (hZ yda)
theorem fC(ha:OQ)(hb:d4)(hs:zxg b):AMi a b (GI ta tb):=fun z E cx=>
 mQ (SO yjs r (sO X.K cO) (by
  rintro value slice pins s σ H x y v u Q I rx ry ⟨F,d1,d2,P,sF,r1,r2,h,k⟩ hs;show BC cO;show C4
  ·show BV p vs hq rs r1;subst r2;show GH d e hp;show AS w ew o9 zuf rs e;exact z3s value slice pins s σ H _ _ v u Q I rx ry ⟨p,vs,_,w,rfl,rfl,sF.seq hq,ew,WJ o9 hp⟩ hs
  ·show BV p vs hq rs r1;subst r2;show GH d e hp;show AS w ew o9 zuf rs e;exact ylt value slice pins s σ H _ _ v u Q I rx ry ⟨p,vs,_,w,rfl,rfl,sI sF hq,ew,WJ o9 hp⟩ hs
  ·show ź;show P7 c hz e hp;exact ylh value slice pins s σ H _ _ v u Q I rx ry ⟨_,_,c,rfl,rfl,hz,e,WJ E3 hp⟩ hs
  ·show EH) B3 FK hs) (hZ YQ)
#where
def rA:Go:=i8 B9 (I_ AOm)
def jK:Go:=AHd (match ds with | [Ic]=>BJd | [JY]=>BJd | [mo]=>AQ z.length/\I_ z.length | _=>False)
def vq:Go:=A4v (j>i)
def vA:Go:=A4v (j<i)
section
variable{X:Cx}
theorem Zb:AFV "abs" rA:=by
 rintro pins s σ H xs us Q I r ⟨F,ds,P,sF,rs,h,k⟩;show BC rA;show C4
 ·show AW7;exact yn yaw r (Lv lc)
 ·show EH
theorem uE:AFV "len" jK:=by
 rintro pins s σ H xs us Q I r ⟨F,ds,P,sF,rs,h,k⟩;show BC jK;show C4
 ·obtain⟨v,_,rfl,⟨p,vs,rfl,hq,rs⟩,rfl⟩:=rs;rw[lP] at h;exact yn zm5 r (NJ p AYT lc)
 ·obtain⟨v,_,rfl,⟨p,vs,rfl,hq,rs⟩,rfl⟩:=rs;rw[lP] at h;exact yn zm5 r (NJ p AYV lc)
 ·show AW7;exact yn zvs r (LW rfl CF AUt)
 ·show EH
#where
def tyD:D ->Ev String
 | Ι=>some "NoneType" | Iy=>some "bool" | IM=>some "int" | GW=>some "str" | ALR=>some "tuple" | Y2=>some "list" | wn=>none | wo=>none | Ff .obj=>none | wx=>none | wy=>none | AEl=>some "dict"
def abp(d:D)(T:String):Ev Bool:=(tyD d).bind fun S=>W.kitOne [] (LO S) ė
def kh(T:String)(ta:aY):aY:=KI ta d (ADc (abp d T) ĸ (Be ATu) False)
section
variable{X:Cx}{pins:c7}{σ:St}{F H:Hp}{s:Shared}
#where
section
variable{X:Cx}{F0 H0:Hp}{a:Expr}{pos p pt:Pos}{ta:aY}{x:Str}{T:String}
#where
def dM(C:Addr)(t:bK):aF:=Aeh (ADG (E Γ1 WE))
section
variable{X:Cx}{F0 H0:Hp}{e:Expr}{es:AE}{pos np cpos:Pos}{t:bK}{x:Str}{C:Addr}
#where
structure dw (YI) (x:Str) (k:Nat) (ps:ο) (sp:cH):Prop where
 ex:AOf pQ
section
variable{X:Cx}{F0 H0:Hp}{e:Expr}{es:AE}{pos p:Pos}{x:Str}{ps:ο}{k:Nat}{sp:cH}{t:bK}
theorem dB(AoQ dw):
  B1 Ts (aB sp t):=by
 show AOh h1 h2 h3 h4;exact A'Y h3 h4 ha hdb he hpl
#where
section
variable{X:Cx}{pins:c7}{σ:St}{H:Hp}{s:Shared}{a:Addr}{o:HO}
#where
section
variable{X:Cx}{F0 H0:Hp}{pos np hp:Pos}{x n:Str}{Cd:Addr}{body suite:IQ}{b₀:Stmt}{tb th:aF}{i:Nat}
#where
def Zc:cH:=ArT Ag5
theorem Zd(DM):∀ns:Ξ,F8 AAl AQa
 | []=>KS
 | n::ns=>qX E3 (Zd ns)
theorem z5h{K:W.Frag}{H:Hp}{a:Addr}{ns:Ξ}(hl:ko)(hS:AXv):pQ K Zc Id H (fun v _=>v= lj) Rs:=
 ⟨H,[dk],fun d=>d= lj,L7,bi,Hy (As (C3 a _ hS (Zd ns))),⟨ns,rfl,hl,rfl⟩,fun d v F' H' gr r h=>by subst h;exact r,AkX h h.elim⟩
theorem ycc(h:gH P w [] H s (Rs) e s'):False:=by
 obtain⟨_,_,_,_,_,_,_,_,_,_,_,_,_,h⟩:=h;exact h
structure Cls where
 Dh:Addr:=0
 M7:Addr:=0
 abq:Addr:=0
 abr:Addr:=0
 acF:Addr:=0
 Missing:Addr:=0
 Uu:Addr:=0
 Few:Addr:=0
 Apart:Addr:=0
 Je:Addr:=0
 nQ:Addr:=0
 Open:Addr:=0
 abt:Addr:=0
 Qf:Addr:=0
 acG:Addr:=0
 Scale:Addr:=0
 adK:Addr:=0
 ak:Addr:=0
 adL:Addr:=0
structure Fo (xx):Prop where
 ga:AcU "__getattribute__" "BaseException.__getattribute__"
 gn:AYl "__getattr__"
 cl:AzG
 ob:Avg
 be:BHx "BaseException"
def kj(K:W.Frag)(C:Addr)(ta:aY):aY:=A9d (.bl (iR K C0 C))
section
open PySem.W PySem.Builtin PySem.Builtin.ObjectAttr PySem.Builtin.Getset_descriptor
variable{prog:Program}{w:World}{A:Around}{E:dG}{K:W.Frag}{h:Heap}{g:fb}{d:Drawn}{t:Nat}{os:OsState}{a C:Addr}{o:Obj}
#where
section
variable{X:Cx}{F0 H0:Hp}{a:Expr}{pos p pt:Pos}{ta:aY}{x:Str}{C:Addr}
#where
theorem z8u:A2w ((j_ names AyE) ->Aj3 n names acc x=acc.lookup x)
 | [],_,_,_=>rfl
 | Amp,n,acc,h=>by
  unfold cellsFrom;have hr:JE r AyE:=fun p hp=>BG5;split
  ·rename_i hk;have hy:y≠x:=h (y,k) zY ATY
   rw[A1X,List.lookup_cons];have:LL (x==y):=Afe (Ne.symm hy)
   rw[this]
  ·exact A1X
theorem z83:∀(names:dq) (h:Heap) (acc:î),AMe (cellsFrom h.objs.size names acc) ->AMe acc\/ (h.objs.size<=c/\ (pushCells h names).IsCell c none/\ BKB names)
 | [],_,_,m=> .inl m
 | Amp,h,acc,m=>by
  unfold cellsFrom at m;unfold pushCells;split at m
  ·rename_i hk;show AEd;show ANL sz (AAv h.push (iF (E1 "cell") (.cell none))) (h.objs.size+1);rw[<- sz] at m;show Aqi (z83 r _ _ m)
   ·rcases AJr with e | z
    ·cases (e);have e2:k= qf:=AN hk
     subst e2;show RI ⟨E7,?_,zY⟩;exact HL (pushCells_keeps r _ _ _ AYb)
    ·show BQ z
   ·show Bz ⟨by rw[sz] at z1;omega,z2,zW _ z3⟩
  ·rename_i hk;show An hk;show Aqi (z83 r h acc m)
   ·show BQ z
   ·show Bz ⟨z1,z2,zW _ z3⟩
theorem zsm:A2w ((acc.Pairwise fun x y=>AYF) ->(j_ acc (C9<n)) ->(cellsFrom n names acc).Pairwise fun x y=>AYF)
 | [],_,_,h,_=>h
 | Amp,n,acc,h,hl=>by
  unfold cellsFrom;split
  ·refine zsm r _ _ (List.pairwise_cons.mpr ⟨Qb p hp,h⟩) Z'
   ·have e' :n=C9:=e;exact yS _ (Nat.lt_of_lt_of_eq (hl p hp) e')
   ·show P6 hp hp
    ·show Ahs
    ·exact Nat.lt_succ_of_lt (hl p hp)
  ·exact zsm r n acc h hl
def rH(env:Env):dq ->î ->î
 | [],cs=>cs
 | AWL,cs=>rH env r (AI (k== MY) ((n,(env.cells.lookup n).getD 0)::cs) cs)
theorem yfa(h:JE scope.names AcG):closureFor scope env=pure A0J:=by
 have key:∀(names:dq) (cs:î),Ak8 ->
   (forIn names cs fun(x:Str×NameKind) (r:î)=>(if x.2== MY then do let a<- cellOf env x.1;AWo ((x.1,a)::r) else AWo r:Sem _))=pure (rH env names cs):=by
  intro names;induction names with
  | nil=>intro cs _;rfl
  | cons p r ih=>
   intro cs hh;obtain⟨n,k⟩:=p;show Ao1;rw[List.forIn_cons];unfold rH;show AoV
   ·show M' c (hh t9 zY ATY)
    have e' :cellOf env n=pure c:=by unfold cellOf;rw[e]
    simp only [hk,if_true,e',pure_bind,e,Option.getD_some];exact ih _ hr
   ·have hk' :(k==NameKind.free)=false:=AN hk
    simp only [hk',Bool.false_eq_true,if_false,pure_bind];exact ih _ hr
 unfold closureFor;have:=key scope.names [] h
 simpa using this
theorem zta:Aqh (Ak8 ->AMe (rH env names cs) ->AMe cs\/ (AVH names/\ALr))
 | [],_,_,m=> .inl m
 | AWL,cs,hh,m=>by
  show Ao1;rcases zta r _ hr m with z | ⟨z1,z2⟩
  ·split at z
   ·rename_i hk;rcases AJr with e | z
    ·cases (e);have e2:k= MY:=AN hk
     subst e2;show M' c (hh (_,MY) zY rfl);show RI (Do zY);have e' :ALr:=e;rw[e'];rfl
    ·show BQ z
   ·show BQ z
  ·show Bz ⟨zW _ z1,z2⟩
theorem Ze(e:ALr):Aqh ((AVH names\/zg cs.lookup) ->(∀c',Co cs.lookup c' ->c' =c) ->zg (rH env names cs).lookup)
 | [],cs,h,_=>by
  show NY h
  ·cases h
  ·exact h
 | AWL,cs,h,hu=>by
  unfold rH;show AoV
  ·show AEd;by_cases hn:x=n
   ·subst hn;refine Ze e r _ (CL ?_) (AD c' q)
    ·rw[List.lookup_cons];simp [e]
    ·rw[List.lookup_cons] at q;simp [e] at q;exact q.symm
   ·have hb:(x==n)=false:=Afe hn
    refine Ze e r _ ?_ (AD c' q)
    ·show NY h
     ·show J_ AQk
      ·cases (z);exact AQN hn
      ·show BQ z
     ·show RI ?_;rw[List.lookup_cons,hb];exact h
    ·rw[List.lookup_cons,hb] at q;exact hu c' q
  ·show An hk;refine Ze e r cs ?_ hu;show NY h
   ·show J_ AQk
    ·cases (z);exact AQN hk
    ·show BQ z
   ·show Bz h
theorem zlz(inj:AqV ALr (env.cells.lookup y=some c)):Aqh (Ρ (names.map (·.1)).Nodup Ak8 (cs.Pairwise fun x y=>AYF) (∀p∈cs,env.cells.lookup p.1=some p.2/\p.1∉names.map (·.1)) ((rH env names cs).Pairwise fun x y=>AYF))
 | [],_,_,_,h,_=>h
 | AWL,cs,nd,hh,h,hc=>by
  unfold rH;rw[List.map_cons,List.nodup_cons] at nd;show Ao1;have hc' :JE cs (ACG env.cells.lookup/\AM∉r.map (·.1)):=fun p hp=>(ADf (AKG hc) (Me (hc p hp).2 List.map_cons (zW _ z)))
  show AoV
  ·show AEd;show M' c (hh t9 zY ATY)
   have e' :env.cells.lookup n=some c:=e;rw[e'];refine zlz inj r _ nd.2 hr (List.pairwise_cons.mpr ⟨A3x,h⟩) Z'
   ·have z' :c=C9:=z;have q:=AKG hc;rw[<- z'] at q;have:=inj _ _ _ e' q;exact(hc p hp).2 (AJq List.map_cons this zY)
   ·show P6 hp hp
    ·exact⟨e',nd.1⟩
    ·exact hc' p hp
  ·show ky hk (zlz inj r cs nd.2 hr h hc')
theorem zh2{scope:Scope}{env:Env}{x:Str}:∀(names:dq) {k:NameKind},Co names.lookup k ->Co A9j k\/
   (k= MY/\ ABq A9j)
 | [],_,h=>AFK
 | (n,k0)::r,k,h=>by
  have ih:= @zh2 scope env x r k;show BAe\/ (_/\BAe);cases hx:x==n with
  | true=>
   show Ae_ hx h;cases h;by_cases hc:Aec
   ·show D1 hc;simp only [Bool.and_eq_true] at hc;exact .inr ⟨AN hc.1.1,by show AWm⟩
   ·show ky hc (.inl (by show AWm))
  | false=>
   show Ae_ hx h;by_cases hc:Aec
   ·show D1 hc;show AWm;exact ih h
   ·show An hc;show AWm;exact ih h
def lM(scope:Scope)(C:Addr)(env:Env):Env:=
 {scope:=relabel scope env,locals:=C,globals:=env.globals,cells:=cellsFrom (C+1) scope.names A0J,qual:=env.qual,func:=none,code:=env.code,frame:=env.frame,builtins:=env.builtins}
def blk(X:Cx)(scope:Scope)(N:ο)(C:Addr)(s₀:Shared)(H₀:Hp)(fp:Ν):Cx:=
 {X with env:=lM scope C X.env,N:=N,s₀:=s₀,H₀:=H₀,outer:=X.stack,stack:=X.stack,ex:=fp,fn:=IL (scope.names.lookup x==AIJ),pn:= [],xe:=Ì}
def yh(own:Nat)(caps:AT)(σ:St):St:=AKi own none++caps.map fun j=>An0
structure lA (A9I) (env:Env) (N' :ο):Prop where
 kind:Aka
 nd:N'.Nodup
 snd:BJt
 free:A8q env.kindOf env.kindOf
 names:A2'
 caps:BBx
theorem z46
  (hQ:Q (newEnv scope s.heap.objs.size g (cellsFrom Y1 scope.names cl) q none AJ (D' env) builtinsNs) (AxA scope.names)):
  lm (newFunctionEnv scope g cl [] q none AJ (D' env)):=by
 simp only [newFunctionEnv,Option.isSome_some,if_true];show L1 wpAny_alloc;refine z6 (wpAny_layCells _ (fun name kind cells=>by cases hkc:kind==NameKind.cell<;>simp [hkc]) _ _ _ _ ?_)
 show JJ ((AIh tT:Shared).heap.objs.size=lh) (Heap.size_push ..);exact z6 (z7 (z7 hQ))
section
variable{X:Cx}{pins:c7}{σ:St}{H:Hp}{s:Shared}{sc:Scope}{own:ο}{caps:AT}{N' :ο}{fp:Ν}
theorem Zf(I:Ε)(S:AJG):JE sc.names (BGD X.env.cells.lookup):=fun p hp hk=>I.ok.has _ (S.free p hp hk)
theorem Zg(I:Ε)(S:AJG)(e:Agi):
  (À/\Ah8/\BJF≠AIJ)\/ (lh<=c/\ (pushCells AtP sc.names).IsCell c none):=by
 have m:=mem_of_lookup e;show ANL sz (ACX tT) lh;have m' :AMe (cellsFrom (ACX tT) sc.names A0K):=AB sz m
 show Aqi (z83 sc.names _ _ m')
 ·rcases zta sc.names [] AnI z with z | ⟨z1,z2⟩
  ·cases z
  ·obtain⟨v,hc⟩:=I.cell x c z2;refine .inl ⟨z2,hc.lt,MA q⟩;have q' :=mem_of_lookup q;have:=S.snd;show AyB;have d:∀(l:dq),ApE ->AVH l ->BKB l ->False:=by
    intro l;induction l with
    | nil=>show AOI
    | cons a r ih=>
     intro hp h1 h2;show AZe hp;rcases zU.mp h1 with e1 | h1<;>rcases zU.mp h2 with e2 | h2
     ·rw[<- e1] at e2;cases (e2)
     ·exact p1 _ h2 (by rw[<- e1])
     ·exact p1 _ h1 (by rw[<- e2])
     ·exact ih p2 h1 h2
   exact d _ this z1 q'
 ·show Bz ⟨by rw[sz] at z1;exact z1,z2⟩
theorem zx9(AY2)(hk:AEo sc.names.lookup)(e:À):Agi:=by
 show zg (cellsFrom _ sc.names A0K).lookup;rw[z8u]
 ·exact Ze e _ _ (.inl (mem_of_lookup hk)) fun c' q=>(XA q)
 ·intro p hp hc z;have q:=mem_of_lookup hk;have:=S.snd;show AyB;have d:∀(l:dq),ApE ->AVH l ->p∈l ->False:=by
   intro l;induction l with
   | nil=>show AOI
   | cons a r ih=>
    intro hpw h1 h2;show AZe hpw;rcases zU.mp h1 with e1 | h1<;>rcases zU.mp h2 with e2 | h2
    ·rw[<- e1] at e2;subst e2;cases hc
    ·exact p1 _ h2 (BA e1 z.symm)
    ·exact p1 _ h1 (BA e2 z)
    ·exact ih p2 h1 h2
  exact d _ this q hp
theorem z07(AY2)(Uv:BAQ As4)(i:Nat)(x:Str)(v:V)(h1:al N')(h2:B' AGS cq):
  ∃u,LH/\Look (ApF s.heap.objs.size) h' m' x u:=by
 have h2' :B' AGS cq:=h2;have h1' :al N':=h1;unfold yh at h2';rw[S.names] at h1';show ACc own.length
 ·rw[AUs,List.getElem?_replicate] at h2'
  split at h2' <;>cases h2'
 ·show A0p h2'
  show AKg (List.getElem?_append_right ξ) h1'
  cases hj:caps[i - own.length]? with
  | none=>show GT hj h1' h1'
  | some j=>
   rw[hj] at h1' h2';obtain⟨j1,j2⟩:=S.caps j (yV hj);have hx:X.N.getD j "" =x:=AN h1'
   have hσ:HK σ cq:=by
    have:An0=some v:=AN h2'
    cases q:σ[j]? with
    | none=>show A_ q;show CH
    | some o=>show A_ q;have:Aie:=this;rw[this]
   rw[hx] at j2;have hN:HK X.N x:=by
    rw[List.getD_eq_getElem?_getD,VY j1] at hx;rw[List.getElem?_eq_getElem j1]
    simpa using hx
   obtain⟨m,hn,hloc⟩:=I.loc;have kx:=S.free (x,MY) (mem_of_lookup j2) rfl;have vis:WZ:=by
    rcases kx with k | k
    ·show Bz (Db k)
    ·show Bz (CL k)
   show AS u ru l (hloc j x v hN) hσ vis;show B0 u ru (.inr (Do ?_))
   ·rcases BCS sc.names j2 with h | ⟨_,h⟩
    ·show Bz h
    ·show BQ h
   ·rcases l with ⟨k,_⟩ | ⟨_,c,ec,hc⟩
    ·have k' :AHo X.env.kindOf:=k;have kx' :ABq X.env.kindOf\/AEo X.env.kindOf:=kx;rw[k'] at kx';rcases kx' with z | z<;>cases z
    ·exact⟨c,zx9 I S j2 ec,Uv x c _ ec hc⟩
theorem z5b(AY2)(hf:AMD)(hl:At5):
  Inv Aph [] AGS H (AxA sc.names):=by
 have keep:iq Mo (ET (pushCells AtP sc.names).get?):=LX A_h;have ok:=I.ok;have inj:AqV Agi (BG1 y=some c):=fun x y c e1 e2=>by
  refine name_of_addr (cs:=Ach cells) ?_ (mem_of_lookup e1) (mem_of_lookup e2);refine zsm _ _ _ (zlz ok.inj _ _ S.snd AnI List.Pairwise.nil (fun p hp=>(XA hp))) Z'
  rcases zta (x:=AM) (c:=C9) sc.names [] AnI hp with z | ⟨_,z⟩
  ·cases z
  ·show WP v hc (I.cell _ _ z) (BIS hc.lt)
 show U_ frC (IS (YR b) Fr) (I.hok.fresh hb);have abu:Ach scope.kind= É:=S.kind;refine⟨⟨ok.mod,abu,ok.glob,ok.blt,E7,inj,AGY,IE x c hfn e,ok.hd,ok.frames,ATK,XX (zK (hl b hb)) A6Y,I.bs,zO ok.J5 I.sz,ADZ hb,LS hb z,I.stack,I.stkFree⟩,
  rfl,I.bare,Un.kept keep,Cb ((Heap.Ns.new s.heap BI').keeps (pushCells_keeps _ _)) (fun i x v h1 h2 h3=> ?_),AXa,frC _ (zN _),AXa,Apn,I.hok.kept keep,?_⟩
 ·
  have hx' :ABq AqT\/ AEo AqT:=hx;have:∃k,Co sc.names.lookup k:=by
   have key:∀(l:dq) (k' :NameKind),Co (l.map fun t9=>if (APx k&&AsV&&Ase) then AQy else t9).lookup k' ->∃k,Co l.lookup k:=by
    intro l;induction l with
    | nil=>intro k' h;simp at h
    | cons a r ih=>
     intro k' h;obtain⟨n,k0⟩:=a;cases hb:x==n with
     | true=>exact⟨k0,Q2 List.lookup_cons hb⟩
     | false=>
      have h2:List.lookup x ((AI (Mn (APx k0&&AsV) Ase) AQy (n,k0))::(r.map _))=some k' :=h;obtain⟨k,hk⟩:=ih k' (by
       split at h2<;>(show Ae_ hb h2;exact h2))
      exact⟨k,by simp only [List.lookup_cons,hb];exact hk⟩
   show NY hx'
   ·exact key _ _ h
   ·exact key _ _ h
  obtain⟨k,hk⟩:=this;rcases BCS sc.names hk with h | ⟨h1,h2⟩
  ·have hkk:k= qf\/k= MY:=by
    have h' :Co AqT k:=h;rcases hx' with z | z<;>rw[z] at h' <;>cases h' <;>simp
   show va hkk rfl
   ·exact Option.isSome_iff_exists.mp (W.cellsFrom_some sc.names _ _ (Db hk))
   ·show UY c e BEa c A2H
  ·subst h1;show M' c BEa;exact⟨c,A2H⟩
 ·
  have abv :AMs:=by
   have:(BJF==some NameKind.cell)=true:=hfn
   simpa using this
  rcases AaP with ⟨_,_,z⟩ | ⟨z,_⟩
  ·show MW abv z
  ·show YR c;exact Nat.le_of_succ_le z
 ·rcases AaP with ⟨z1,_,_⟩ | ⟨z1,_⟩
  ·exact Ag6.2.2.2.2.1 x c z1 z
  ·have:=hl b hb;rw[<- z] at this;exact yS _ (zM this (Nat.le_of_succ_le z1))
 ·have q:=(AK9 hf).2.1;show X9 q q
  ·exact ok.Io b o e q
  ·have q2:b<X.base.objs.size:=Gc;exact yS _ (zM q2 (zO ok.J5 q))
 ·show J_ (An5 z)
  ·exact AQm hf z
  ·exact(re hf).2.1 z
 ·exact BAj (fun x c v _ hc=>Atl)
 ·rcases AaP with ⟨z1,_,_⟩ | ⟨_,z⟩
  ·show UY v hc (I.cell x c z1) v Atl
  ·exact ĩ z
 ·rcases AaP with ⟨z1,_,_⟩ | ⟨z,_⟩
  ·exact I.freeC x c z1
  ·exact frC c (Nat.le_of_succ_le z)
 ·show A4S;rw[S.names];unfold yh;simp
theorem z8k(AY2)(hf:AMD)(B:Inv Aph sG σ5 H5 s5):
  Inv Aph sG AGS H5 s5:=by
 obtain⟨m,hn,_⟩:=B.loc;have kc:BAQ (s5.heap.IsCell c v):=fun x c v e (AEp hd)=>by
  have nx:c∉fp:=AC ((hf c z).2.2.2.2.1 x c e rfl);by_cases hc:c∈AV6
  ·show WP sl q (B.base.slot c o ho ASM hc nx) (Cb q hd)
  ·exact Pl (B.base.keep c o ho ASM hc nx) hd
 exact⟨B.ok,B.os,B.bare,B.base,⟨m,hn,fun i x v h1 h2 h3=>(BAj kc)⟩,B.cell,B.free,B.freeC,B.pin,B.hok,by show A4S;rw[S.names];unfold yh;simp⟩
#where
abbrev z8i(ifs:AE)(env:Env):AFH:=forIn ifs true fun c r=>if r=true then do let ok<- isTrue c env (AI2 c);AWo ok else AWo r
section
variable{prog:Program}{w:World}{A:Around}{R:Agd}{s:Shared}
theorem z4r(I:D4 Nat)
  (turn:∀n s,I n s ->wpAny MO A (pyNext it) (OM s₁ (match r with
   | none=>R (.ok mP) s₁
   | ļ=>tP (letOwnedTupleGo target it v) (G_ s₁' (tP (assign target env v) (G_ s₂ (tP (z8i ifs env) (fun ok s₃=>
      (GG ok (AVQ elt (fun x s₄=>
       tP (call (LP "list.append") [acc,x]) (G_ s₅ (AXR (I m s₅))) ŀ s₄) ŀ s₃) (AXR (I m s₃)))) ŀ s₂)) ŀ s₁')) ŀ s₁)) ŀ s)
  (n:Nat) (h:I n s):
  codeAny MO A (.compLoop AyH 0 it acc env) R s:=by
 refine codeAny_loop rfl I (Α n s hI) n h;show wpAny _ A ((compTurn AyH 0 it acc env).onRaise (fun x=>do noteFrame x env;theTreesLotGoes x)) _ _ s;refine wpAny_noted ?_;rw[compTurn_list];show HC wpAny_standAt (z6 (ve (turn n s hI) (Α r s₁ h₁) AGw));cases r with
 | none=>exact z7 h₁
 | some v=>
  refine z6 (ve h₁ (Α _ s₁' h₁') AGw);refine z6 (ve h₁' (fun _ s₂ h₂=>z6 (wpAny_mono h₂ (Α ok s₃ h₃) AGw)) AGw);cases ok with
  | false=>exact z7 (HU h₃)
  | true=>
   exact z6 (z6 (ve h₃ (fun x s₄ h₄=>z6 (wpAny_mono h₄ (fun _ s₅ h₅=>z7 (z7 (HU h₅))) AGw)) AGw))
#where
def Zh(X:Cx)(ifs:AE)(t:TT):Prop:=
 ∀(pins:c7) (s:Shared) (σ:St) (H:Hp) (Q:m4),Ĝ (WH (z8i ifs X.env) (AAu TP))
theorem yh5:Zh X [] (Aii true):=fun pins s σ H Q I h=>wpAny_tests_nil ⟨H,I,h⟩
theorem yhy(h:PT X c t):Zh X [c] t:=fun pins s σ H Q I q=>wpAny_tests_one (APd Q I q)
structure Uw (P:Program) (BFy) (tg:Expr) (J:It) (fp:Ν) (it:Addr) (tn:AMF) (cm:DO Cx):Prop where
 mem:it∈fp
 obj:A5f
 keep:BDZ
 item:A0k (∀(i:Nat) (pins:c7) (s:Shared) (σ:St) (H:Hp) (E:dG),Ρ Ε AU4 AJ6 (J.go i H) (Aat (OM s1 (∃u,L4 r/\
   A5_ A0r (Sr ABg) s1))))
 done:A0k (∀(i:Nat) (pins:c7) (s:Shared) (σ:St) (H:Hp) (E:dG),Ρ Ε AU4 AJ6 (J.stop i H) (Aat (OM s1 AzY)))
 self:∀(A:Around) (i:Nat) (s:Shared) (Q:dG) (E:dG),A3i
def abw(BBp):Prop:=
 ∃(it:Addr) (fp:Ν) (tn:AMF) (J:It) (H' :Hp) (cm:DO Cx),itv= .ref it/\cb s2/\am Uw X.K tg J fp it tn cm/\Ax3/\ (Nn fp AUu)/\AYm /\
  ∀Y:Cx,Y.A=X.A ->Y.calm=X.calm ->(∀b o u,AIy ACU ->H_ Y.H₀ ACU) ->cm Y
def PIg(A'm):Prop:=
 ∀(pins:c7) (s:Shared) (σ:St) (H:Hp) (R:ACQ),rh (wi σ H R) (WH AUF (fun v s1=>Avq abw X.xe s1))
theorem pig(hc:D6)(hi:AyP):A_X:=fun pins s σ H R I h=>
 bV (EB hi R I h) (u8 h1 (bV h1 fun itv s2 hq1=>by obtain⟨it,fp,tn,J,H',e,I',T,st,f,r⟩:=hq1;exact⟨it,fp,tn,J,H',fun Y=>Y.calm=true,e,I',⟨T.mem,T.obj,T.keep,T.item,T.done,T.self⟩,st,f,r,fun Y _ q _=>q.trans hc⟩))
def Km(acc:Addr)(J:It)(σ' :St)(g:TG)(tc:TT)(te:TE)(Q:ALS)(H1:Hp):Prop:=
 AGQ ACv (W 0 m [] H1) (∀i m vs H,W i m vs H ->KM acc Lc/\vs.length<sizeLine+1/\
  ((J.stop i H/\EV acc H)\/ (J.go i H/\OA vs.length/\∀x H',J.yld i H x H' ->g x σ' H' (AIa (tc σ2 H2 fun b H3=>
   (GG b (te σ2 H3 fun v H4=>H4 acc=some Lc/\AIP (W BE m' AIo (upd H4 acc (BN AIo)))) (AIP (W BE m' vs H3))))))))
def Ux(BH6)(wi:TI)(g:TG)(tc:TT)(te:TE):TE:=SL wi J (∀acc,di acc ->Km acc J Asw g tc te Q (P3 acc AAw))
section
variable{X:Cx}{sc:Scope}{own:ο}{caps:AT}{N' :ο}{elt tg iter:Expr}{ifs:AE}{pos:Pos}{wi:TI}{g:TG}{tc:TT}{te:TE}
theorem zpb(S:AJG)(hi:A_X)
  (hg:Arj PG tg g) (ht:Arj Zh ifs tc) (he:Arj PE elt te)
  (ee:e= .ListComp elt [APJ tg] sc pos) (hs:h_ iter)
  (I:Ε) (h:Ux own.length caps wi g tc te σ H Q)
  (fin:∀acc C H' s5,FH (cb s5) (EV acc H') (∃m,s5.heap.Ns C m) (H' C=none) (C≠X.env.locals) (Ρ (ù C) (ACh C) (j_ AJb (AM≠C)) (C∉X.fs) (A7X Qv vt C (.ok mP) s5))):
  WH (Ax0 e ps (newList []) false AUF use) Qv:=by
 subst ee;refine wpAny_comprehension_free (g:=APJ tg) (gs:= []) (cl:=rH X.env sc.names []) rfl hs (yfa (Zf I S)) S.kind ?_ (bV AT_ (u8 h1 Az8))
 ·intro p hp hk;have nd:=S.snd;rw[List.Nodup,List.pairwise_map] at nd;have d:∀(l:dq),ApE ->p∈l ->l.lookup AM=some APw:=by
   intro l;induction l with
   | nil=>show AOI
   | cons a r ih=>
    intro hpw h1;show AZe hpw;show VW h1 e1 h1
    ·subst e1;rw[List.lookup_cons];simp [hk]
    ·have hb:(AM==a.1)=false:=Afe (Ne.symm (p1 p h1))
     rw[List.lookup_cons,hb];exact ih p2 h1
  exact d _ nd hp
 obtain⟨it,fp,tn,J,H2,cm,rfl,I2,T,st2,f2,R2,hcm⟩:=h2;have hp0:=I2.fresh;refine wpAny_newObj_type ?_;have I3:=I2.lnew (its:= []) (ys:= []) (t' :=s2.toks) BS (Nat.zero_le _);generalize hacc:s2.heap.objs.size=acc at*;obtain⟨W,⟨m0,w0⟩,turn⟩:=R2 acc hp0;show U_ f3 (Sr (ABG AIW)) (by
  show BO ?_ (re f2);show Ī eo (AaQ st2);rw[Auf (BA hacc (Heap.lt_size eo))]
  exact WB f2)
 have hc:∀C s₀,cm (AAj C s₀ AIW fp):=fun C s₀=>hcm _ rfl rfl (pr u e (IF (ui ((AAj C s₀ AIW fp).H₀=upd H2 acc AAw)) (Hm hp0) e))
 show U_ hlt (Sr (b< Amr)) (by
  show Ī eo (AaQ st2);rw[Heap.size_push];exact Nat.lt_succ_of_lt (zG eo))
 have st3:tn 0 (s2.heap.push AJF):=AeI st2 WF;refine z46 ?_;show codeAny _ _ (.compStart ub 0 P8 vt (ApF Amr)) (compPost _ _ _ use Qv vt Amr) _;generalize hs3:(AHZ s2 Avz s2.toks:Shared)=s3 at*;have hh3:s2.heap.push AJF=s3.heap:=by rw[<- hs3]
 have adM :(APZ s2 Avz:Shared)=s3:=by rw[<- hs3]
 rw[hh3] at hlt st3⊢;have I4:=z5b I3 S f3 hlt;have st4:tn 0 (pushCells (s3.heap.push tT) sc.names):=AeI st3 A_h;have key:codeAny SF X.A (.compLoop ub 0 P8 vt (ApF s3.heap.objs.size)) (A7X Qv vt s3.heap.objs.size)
   (APZ s3 (pushCells (s3.heap.push tT) sc.names)):=by
  have stat:FD H' Hp AQ3 (Sr (nO AJn [] H' b)):=fun hn b hb=>
   ⟨hn b hb,WB I4.ok.exf,I4.ok.Ip b hb,.inl hb,re I4.ok.exf,Apn⟩
  refine z4r (ĭ n (BB_ n)) ?_ m0
   ⟨0,[],Al9 yh σ,_,I4,st4,AIi f3,w0⟩
  rintro n s5 ⟨i,vs,σ5,H5,I5,Px,Yz,w5⟩;obtain⟨ha5,hz5,⟨stop,qn⟩ | ⟨go,hz,step⟩⟩:=turn i n vs H5 w5
  ·show QY (BCt T.done σ5 H5 _ I5 (stat Yz) Px stop) r s6 hz1;obtain⟨hr,I6⟩:=hz1;subst hr;have IX:LJ H5 s6:=I3.call' (ch:=fp) I6.os I6.base I6.hok I6.bare (FX ⟨(AK9 f3).2.1,AQm f3,(f3 b hb).2.2.2.2.1,(AK9 f3).2.2.2⟩);obtain⟨m6,hn6,_⟩:=I6.loc;refine fin acc s3.heap.objs.size H5 s6 IX qn ⟨m6,hn6⟩ I6.free (ADh I3.lt) I3.sz (fun x c e z=> ?_) (Α p hp z) (I3.nofs (zN _))
   ·show WP v q (I3.cell x c e) (absurd q.lt Aik)
   ·exact Ya zG (AKG I3.pin) Aik
  ·
   have I5' :Inv AJn [] AGS H5 s5:=z8k I3 S f3 I5;show QY (BCt T.item _ H5 _ I5' (stat Yz) Px go) r s6 hz1;show UD u hr h6;subst hr;show QY h6 _ s7 hq2;obtain⟨x,H7,I7,r7,y7,st7,fr7⟩:=hq2;have I7' :=I7.pinned (stat fr7) (T.obj _ _ st7);show QY (EA hg _ s7 _ H7 x u _ I7' r7 (step x H7 y7)) _ s8 hz1;obtain⟨σ8,H8,I8,q8⟩:=hz1;refine bV (EA ht _ s8 σ8 H8 _ I8 q8) (LS s9 hz1);show UD H9 I9 q9;have again:∀{vs' :χ} {σ' :St} {H' :Hp} {s' :Shared},Inv AJn ([]++uo fp s7.heap) σ' H' s' ->(∃m',m' <n/\W BE m' vs' H') ->
     AXR (BB_ m) :=fun{vs' σ' H' s'} I' ⟨m',hm,w'⟩=>by
    refine⟨m',hm,By,vs',σ',H',I'.unpinned,A8L st7 I'.pin,FL,w'⟩;show c0 e d (AaQ st7);exact A_N I'.pin
   cases b with
   | false=>
    show c8 OT q9 (again I9 q9)
   | true=>
    rw[BU] at q9⊢;show QY (EA he _ s9 σ8 H9 _ I9 q9) y s10 Ar;obtain⟨v,H10,I10,r10,M8,q10⟩:=Ar;refine bV (zwp (X:=AAj s3.heap.objs.size s3 AIW fp) _ s10 σ8 H10 vt [v] vt [y] (G_ H' (H' =upd H10 acc (BN AIo))) I10 rfl (AQ8 r10) ⟨acc,vs,v,rfl,rfl,M8,hz,rfl⟩) (Α _ s11 vK);obtain⟨_,H11,I11,_,e11⟩:=vK;subst e11;exact again I11 q10
 exact codeAny_compStart_list key (EA T.self _ st4 key)
#where
def HD(K:W.Frag)(F Hx:Hp)(J:It)(ds:ψ):Prop:=ADG (∀(i:Nat) (H1 F1:Hp),TK ->cc H1 ->Same Hx H1 ->
 (i=ds.length ->J.stop i H1)/\∀d,AmF ->J.go i H1/\∀x H',J.yld i H1 x H' ->∃F2,Gr F1 H1 F2 H' /\Rep K F2 d x)
def Jf:Hp:=AdN
theorem z0t:fI Jf:=FS e AS2
inductive UpI (BBr):Prop
 | mk:APk (∀ds Γ' F' H' J Hx,FH AIC DT (ABS Hx) (HD K F' Hx J ds) ARz AYm) (AZx UpI)
def upI(AYy)(AMd):TI:=fun σ H R=>(AZx UpI)
inductive Uy (BBr):Prop
 | mk:APk (ARN ds J (HD K F' Jf J ds) ARz AYm) (AZx Uy)
def abx(AYy)(AMd):TI:=fun σ H R=>(AZx Uy)
def QI(ArD):Prop:=Apo PI abx
def Uz(ArD):Prop:=Apo PI upI
theorem Ko(h:eR e t)(hi:∀σ H R,t' σ H R ->t σ H R):eR e t' :=fun pins s σ H R I q=>(AG8 R)
theorem qw(h:AFn e t):AVP e t:=ARj RY (AI1 hq1 (by obtain⟨F,Γ,P,S,q,k⟩:=hq1;exact⟨F,Γ,P,S,q,fun ds Γ' F' H' J S' s' hJ hp=>k ds Γ' F' H' J Jf S' s' z0t hJ hp⟩))
def UG(AYP):TI:=A0d (∃xs,ASI/\ (ì ->Š Mj)) (∃xs,AiX/\ (ì ->Š J7))
theorem yfz(hl:PE X l tl):eR l (UG X.K tl):=by
 show fe;show ng (ax hl) v hq2;show MG hq2;obtain⟨a,e,q⟩:=q1;subst e;cases r1;rcases q with ⟨xs,hq,q⟩ | ⟨xs,hq,q⟩
 ·show A8W ⟨s1.heap.objs.size,Ĩ,_,_,H1,rfl,Ŭ,zvo a _,RH,FL,q hz⟩
 ·obtain⟨its,rv,p,hz⟩:=I1.tuple hq;refine wpAny_pyIter_tuple (Cc (s1.heap.IsTuple a its.toArray) p) ?_;refine⟨s1.heap.objs.size,Ĩ,_,_,H1,rfl,Ŭ,zri a _,RH,FL,q hz⟩;show ADH
  exact AKS
theorem yf8{K:W.Frag}{F Hx:Hp}{a:Addr}{vs:χ}{ds:ψ}(hq:AmD (pO K H1 a vs))(rs:Fm)(hz:AQ vs.length):HD K F Hx (J7 K a) ds:=by
 show oo hl;show BO ρ (fun i H1 F1 s1 s2 s3=>(im e ⟨vs,A8f,ρ⟩ (AD d hd)))
 show ANt hd;show BBl A8f (y vs (hq _ L6)) ⟨F1,Gr.refl s2,Ahz⟩
def iL(Hn):bK:=AAo (X1 d Ĺ (Be ds) we (Be ds))
section
variable{X:Cx}{F0 H0:Hp}{e tg:Expr}{es:AE}{pos:Pos}{te:aY}{g:rG}{gs:uz}{ti:bK}{tb:aF}
theorem vB(h:L9):AFn e (iL te):=Agy yfz RY (AI1 Ar (by obtain⟨F,Γ,P,S,q,k⟩:=Ar;exact AcZ (fun d Γ1 F1 H1 v R1 s1 r1 h1=>by
 cases d with
 | lst ds=>
  show AVz;show fN a (.inl ⟨vs,xC,fun hz=>ce ds H1 _ R1 s1 ?_ h1⟩);show BO (KL lu rs hz) (fun i H2 F2 s2 s3 s4=>(im e ⟨vs,ANo,IF e lP E7⟩ (AD d hd)))
  show ANt hd;show BBl ANo (A_p y) Alp
 | tup ds=>
  show AVz;exact⟨a,rfl,.inr ⟨vs,sI R1.g hq,fun hz=>ce ds H1 _ R1 s1 (yf8 (fun H2 s=>sI s hq) rs hz) h1⟩⟩
 | _=>show wp)))
def dR(ti:bK)(g:rG)(tb:aF):aF:=ANV (VM ti ds Ar_)
theorem Qg(hc:D6)(hi:AFn iter ti)(hg:AXr)(hb:AOQ)(hs:h_ iter:=by show NU):
  Aa8 iter dR ti:=fun z E cx=>
 sJ (A'r AK6 FK hs) (nr vK vK (fun ds Γ1 F1 H1 J R1 s1 hJ h1=>by
  show ArN;show AX (fun i m σ H=>m=ds.length - i/\BJh/\Adx) ⟨ds.length,AY,DV,F1,Γ1,R1,bi,i0⟩
  rintro i m σ H ⟨rfl,hi,F2,Γ2,R2,s2,hI⟩;obtain⟨hstop,hgo⟩:=hJ.2 i H F2 s2 R2.g z0t;by_cases hlt:i<ds.length
  ·obtain⟨go,yl⟩:=hgo ds[i] (zZ hlt);show RI ⟨go,Aot,fun σ' H' p' =>(C3 AjC ρ hlt p'),Α x H' y⟩
   obtain⟨F3,gr,rx⟩:=yl x H' y;exact⟨F3,Γ2,_,ds[i],R2.grow gr,rx,turn i ds[i] Γ2 (zZ hlt) hI,fun Γ4 F4 H4 σ4 R4 s4 p=>⟨F4,Γ4,W' D2 sj sj D2.nx,R4,p,AAV (fun Γ5 F5 H5 σ5 R5 s5 q=>BCs) (fun Γ5 F5 H5 σ5 R5 s5 q=>FG R5 (Ayj s5) q) (fun Γ5 F5 H5 σ5 R5 s5 q=>BCs)⟩⟩
  ·show ME i ds.length
   exact v6 (hstop rfl) (AXb L6 hI)))
def Fp(Γ:G2)(j:Nat):Slot:=match Γ[j]? with | some ő=> .pu d | _=> υ
def tR(own:Nat)(caps:AT)(Γ:G2):G2:=AKi own υ++caps.map (Fp Γ)
theorem ybz(Aek){Γ:G2}(own:Nat)(caps:AT)(R:DL):SR K F H F H Asw (tR own caps Γ):=by
 have len:(yh own caps σ).length=(tR own caps Γ).length:=by simp [yh,tR]
 have Fq:∀(i:Nat) s o a,B' (tR own caps Γ) s ->¬ac:=fun i s o a e=>by
  show LA tR;show ACc own
  ·show AVy List.getElem?_append_left
   rw[Ap hi] at e;cases e;exact B_ h
  ·show AI9 List.getElem?_append_right List.getElem?_map
   cases q:caps[i - BJg own Slot.no]? with
   | none=>show gN
   | some j=>
    show MZ;have e' :Fp Γ j=s:=AN e
    unfold Fp at e';split at e' <;>(subst e';exact B_ h)
 show CA (Gr.refl R.g) len (Qb i s) (fun i j a Ed=>by obtain⟨s,o,e,_,h⟩:=Ed;exact Si h (Fq i s o a) e)
 show ACc own
 ·show AX none ?_
  ·unfold yh;rw[AUs,List.getElem?_replicate,Ap hi]
  ·show LA tR;rw[AUs,List.getElem?_replicate,Ap hi] at e
   cases e;trivial
 ·show LA tR;show A0p e
  cases q:caps[i - own]? with
  | none=>show gN
  | some j=>
   show MZ;have e' :Fp Γ j=s:=AN e
   show AX An0 ?_
   ·unfold yh;rw[Ade,List.getElem?_map,List.length_replicate,q];rfl
   ·unfold Fp at e';split at e'
    ·rename_i d hd;subst e';obtain⟨o,e1,v,rfl,rv⟩:=R.sl j _ hd;exact⟨v,EK e1,rv⟩
    ·subst e';trivial
def Jg(g:rG)(tc:TT2)(te:aY)(Γ0:G2)(x:D)(P:P9):Prop:=BFd (te Γ2 (fun d _=>P [d]) jG)
def eO(one:ABp):I0
 | [],P=>eA
 | Ee,P=>one x fun ys=>eO one xs fun zs=>P (ys++zs)
def cP(A2u)(tc:TT2)(te:aY):bK:=KI ti ds (eO (Jg g tc te (tR own caps Γ1)) ds fun ys=>(Be ys))
theorem zo0(f:D ->ψ):∀{xs:ψ} {P:P9},(∀x∈xs,∀P,P (f x) ->one x P) ->P (xs.flatMap f) ->eO one xs P
 | [],_,_,h=>h
 | Ee,P,k,h=>k x zY _ (zo0 f A3m (by simpa [List.flatMap_cons] using h))
def dJ:TT2:=AL1 true
def M9(NC)(ifs:AE)(t:TT2):Prop:=kT Zh ifs Ue
theorem vC:C5 M9 [] dJ:=fun z E cx pins s σ H Q I MK=>(pp P MK (EB yh5 Q I (JA R ES h)))
theorem Kp(h:pv QT c):pv M9 [c]:=AK' yhy RY
#where
section
variable{X:Cx}{F0 H0:Hp}{elt tg iter:Expr}{ifs:AE}{sc:Scope}{own:ο}{caps:AT}{N' :ο}{pos:Pos}{te:aY}{g:rG}{tc:TT2}{ti:bK}
def gX(K:W.Frag)(g:rG):TG:=AKF (∃F0 H0,FM YX g jG v σ H Q)
def tX(K:W.Frag)(t:TT2):TT:=ApT Ue
def eX(K:W.Frag)(t:aY):TE:=ApT Ec
theorem z4m(gr:cy)(h:ō)(e:Ņ):ï:=by
 cases q:F' a with
 | none=>rfl
 | some u=>
  show AKh (gr.n a u q h) z e' z
  ·rw[e] at z;cases z
  ·rw[e] at z;cases z;cases e'
theorem zo9(ť)(AZ6){J:It}{Hx:Hp}{ds:ψ}{acc:Addr}{P:P9}{Q:ALS}(R:DL)(hJ:HD K F Hx J ds)(hx:fI Hx)(ha:Po acc)
  (h:eO (Jg g tc te (tR own.length caps Γ)) ds P)
  (fin:∀ys F' H' vs,Ρ Aj7 DT A0w (F' acc=none) (Ρ (H0 acc=none) (AH6 ys) (ABJ acc) (P ys) (EV acc H'))):
  Km acc J AGS (gX K g) (tX K tc) (eX K te) Q AxW:=by
 obtain⟨R1,e1,e2,e3,ap⟩:=Fg (ds:= []) (vs:= []) R ha E3
 have hx1:Same Hx AxW:=UU (w9 hx ha) (hx b u e)
 have xa:∀u,Hx acc≠AD_:=fun u e=>(AYn (hx acc u e))
 show AX (fun i m vs H' =>m=ds.length - i/\BJh/\∃F' ys,Aj7/\DT /\ABS Hx /\A0w/\F' acc=none/\AH6 ys/\BJL/\eO (Jg g tc te (tR own.length caps Γ)) (ds.drop i) (Μ zs (P (ys++zs)))) ⟨ds.length,AY,DV,F,[],R1,bi,hx1,e1,e2,KS,E7,AN h⟩
 rintro i m vs H' ⟨rfl,hi,F',ys,R',sF,hx',ha',fa',rs,lv,hc⟩;have hz:=hJ.1;show AX ha' ρ
 obtain⟨hstop,hgo⟩:=hJ.2 i H' F' sF R'.g hx';by_cases hlt:i<ds.length
 ·obtain⟨go,yl⟩:=hgo ds[i] (zZ hlt);show RI ⟨go,ρ,Α x H2 y⟩
  obtain⟨F2,gr,rx⟩:=yl x H2 y;rw[List.drop_eq_getElem_cons hlt] at hc;have R2:=R'.grow gr;refine⟨F2,H2,F2,Al9 tR Γ,_,ds[i],Al9 ybz R2,rx,hc,fun Γ3 F3 H3 σ3 R3 s3 q3=> ?_⟩;refine⟨F2,H2,F3,Γ3,_,R3,q3,fun b Γ4 F4 H4 R4 s4 q4=> ?_⟩;have Jh:Gr F' H' F4 H4:=gr.trans R4.gr;cases b with
  | false=>
   rw[OT] at q4;refine⟨AjC,ρ,rfl,hlt,F4,ys,R'.grow Jh,sF.trans Jh.f,HP (Jh.h b u (hx' b u e)),Jh.h _ _ ha',z4m Jh fa' ha',rs.up Jh.f,ρ,?_⟩
   simpa using q4
  | true=>
   rw[BU] at q4;refine⟨F2,H2,F4,Γ4,_,R4,q4,fun d Γ5 F5 H5 v R5 s5 rv q5=> ?_⟩;have Qh:Gr F' H' F5 H5:=gr.trans R5.gr;have a5:=Qh.h _ _ ha';have f5:=z4m Qh fa' ha';refine⟨a5,AjC,ρ,rfl,hlt,F5,ys++ [d],?_,sF.trans Qh.f,F6,jJ,f5,zdt (rs.up Qh.f) (Hy rv),Afh,?_⟩
   ·have R6:=R'.grow Qh;show CA ⟨R6.gr.f,F6,F6,R6.gr.n⟩ R6.len (Qb j sl) R6.ap
    ·rw[Hm f5];exact R6.g b u e
    ·rw[Hm e3];exact R6.gr.h b u e
    ·show AY4 (R6.sl j sl e);show B0 o p1 (Mz p2 ES (ANJ ⟨(Dc p2 hc).1,AD u q⟩));have:c≠acc:=AC (by subst z;exact ap j ⟨sl,o,e,p1,hc⟩)
     rw[cR this];exact q
   ·rw[cR (DH (xa u (BA z e)))];exact Qh.h b u (hx' b u e)
   ·simpa [List.append_assoc] using q5
 ·show ME i ds.length
  refine v6 (hstop rfl) (fin ys F' H' vs R' sF ha' fa' e3 rs ap ?_);rw[List.drop_length] at hc
  simpa [eO] using hc
structure fD (A9I) (UJ:Scope) (N' :ο):Prop where
 kind:Aka
 nd:N'.Nodup
 snd:BJt
 free:A8q UJ.names.lookup UJ.names.lookup
 names:A2'
 caps:BBx
theorem fD.cs(h:AOM):AJG :=⟨h.kind,h.nd,h.snd,h.free,h.names,h.caps⟩
def QIg(ArD):Prop:=Apo PIg upI
theorem ya4(S:AOM)(hi:QIg X F0 H0 tg iter ti)
  (hg:AaZ) (ht:Aaa) (he:AaY)
  (hn:AUn:=by rfl) (hs:h_ iter:=by show NU):Axq:=by
 subst hn;rintro z E cx pins s σ H Q I ⟨F,Γ,P,R,h,k⟩;show JJ (eval ub (X.wsh z).env=Ax0 ub _ (newList []) false AUF) (eval_ListComp ..);refine SO zpb g Amm (tc:=tX X.K tc) (te:=eX X.K te) (Q:=Q) (BY fD.cs S) AK6 ?_ ?_ ?_ rfl hs I ?_ ?_
 ·rintro C s₀ H₀ fp pins s σ H v u Q I r ⟨yx,yC,q⟩;exact pb hg H v u Q I r q
 ·rintro C s₀ H₀ fp pins s σ H Q I ⟨yx,yC,q⟩;exact pb ht H Q I q
 ·rintro C s₀ H₀ fp pins s σ H Q I ⟨yx,yC,q⟩;exact pb he H Q I q
 ·exact EI (fun ds Γ1 F1 H1 J Hx R1 s1 hx hJ h1 acc ha=>(Avs (fun ys F' H' vs R' sF a1 a2 a3 rs ap hp=>k ys Γ1 F' H' acc vs R' (s1.trans sF) a1 a2 a3 rs ap hp)))
 ·rintro acc C H' s5 I5 q5 ⟨m,hn⟩ c1 c2 c3 c4 c5 c6;exact⟨m,hn,AhZ (IB AfO H' (I5.turned (t' :=s5.toks) (it:=C) (fun b o hb e=>(AP9 hs')) c1 c2 (CL c3) c4 c5) q5)⟩
theorem vD(S:AOM)(hc:D6)(hi:AVP iter ti)
  (hg:AaZ) (ht:Aaa) (he:AaY)
  (hn:AUn:=by rfl) (hs:h_ iter:=by show NU):Axq:=ya4 S (fun z E cx=>pig hc AK6) hg ht he hn hs
theorem Nf(hN:X.N.Nodup)(hi' :B' X.N y)(hy:AON)(S:AOM)(hc:D6)(hi:AVP iter ti)
  (hg:AaZ) (ht:Aaa) (he:AaY)
  (hn:AUn:=by rfl) (hsw:swapsWith ub (some AU0) spos.line X.env=pure true:=by rfl) (hs:h_ iter:=by show NU):
  A_l (cL i (Aep tc te)):=by
 subst hn;rintro z E cx pins s σ H Dn I ⟨F,Γ,D2,R,h,k⟩;rw[XG exec_Assign_Name_used hsw];show s_ wpAny_standAt z6;refine z6 (ve (SO zpb use (some (assign AU0 X.env)) (Qv:=FU s' (SP bE pins Dn mP s')) (g:=Amm) (tc:=tX X.K tc) (te:=eX X.K te) (Q:=fun v H' =>Dn.nx AJ' H') (BY fD.cs S) (pig hc AK6) ?_ ?_ ?_ rfl hs I ?_ ?_) (fun _ s' hq=>z7 (z7 hq)) AGL)
 ·rintro C s₀ H₀ fp pins s σ H v u Q I r ⟨yx,yC,q⟩;exact pb hg H v u Q I r q
 ·rintro C s₀ H₀ fp pins s σ H Q I ⟨yx,yC,q⟩;exact pb ht H Q I q
 ·rintro C s₀ H₀ fp pins s σ H Q I ⟨yx,yC,q⟩;exact pb he H Q I q
 ·exact EI (fun ds Γ1 F1 H1 J Hx R1 s1 hx hJ h1 acc ha=>(Avs (fun ys F' H' vs R' sF a1 a2 a3 rs ap hp=>FG (R'.setOw i a1 a2 a3 rs ap) Agg hp)))
 ·rintro acc C H' s5 I5 q5 ⟨m,hn⟩ c1 c2 c3 c4 c5 c6;refine wpAny_assign_Name (BY zpk I5 hN hi' Af0 (v:= AfO) rfl A5P Af2);show UD a hsb ha;have ha' :a=X.env.locals\/Ahr a:=ha;have hac:C≠a:=by
   show va ha' ha'
   ·exact c2
   ·exact BCe
  show B0 m (hn.sameBut hsb hac) (AhZ (LW H' (I6.turned (t' :=s6.toks) (it:=C) (fun b o hb e=>(AP9 hs')) c1 c2 (CL c3) c4 c5) q5))
#where
inductive Kq (K_) (g:I0) (vs:χ) (H:Hp) (Q:VK):Prop
 | mk:A'U (∀es us l,Akq ->ACV ->P es ->ANQ us) Kq
def Di(K:W.Frag)(g:I0):SA:=ABn (Kq K g vs H Q)
section
variable{X:Cx}{F0 H0:Hp}{a b e:Expr}{es:AE}{pos p p2:Pos}{ta tb te:aY}{t:bK}{x:Str}
def lN(g:I0)(t:bK):bK:=IO (g ds fun es=>(Be es))
theorem ydy(EF){g:I0}{E:XW}(du){Q:VK}(h:FM upF (lN g t) E σ H Q):A5e Di:=by
 show OC h;refine EI (fun ds Γ1 F1 H1 vs R1 s1 r1 h1=>(BCz (fun es us l r hl hp=> ?_)));obtain⟨R2,e1,e2,e3,ap⟩:=Fg R1 hl r;exact ce es _ l us R2 s1 e1 e2 e3 r ap hp
theorem yaj{id:String}{g:I0}(hc:ef eE sg (Di X.K g))(ye)(hv:wE sg)(ha:i')(hn:lx :=by decide)(hdb:BM x "__debug__":=by decide)
  (sP):AJ3 Ts g:=fun z E cx=>
 mQ (BY Te (hc z) hg hm hv B3 hn hdb he hpl) (hZ ydy)
theorem UL{T:String}{g:I0}(hc:ef eE ė (Di X.K g))(ye)(hv:wE ė)(ha:i')(hn:lx :=by decide)(hdb:BM x "__debug__":=by decide)
  (sP):AJ3 Ts g:=fun z E cx=>
 mQ (ATr (hc z) hg hm hv B3 hn hdb he hpl) (hZ ydy)
theorem Zi{T:String}{g:Go}(hc:ef eE ė (uD X.K g))(ye)(hv:wE ė)(ha:i')(hn:lx :=by decide)(hdb:BM x "__debug__":=by decide)
  (sP):B1 Ts Amq:=fun z E cx=>
 mQ (ATr (hc z) hg hm hv B3 hn hdb he hpl) (hZ yda)
#where
def rB:I0:=A2a (P xs) (P xs)
theorem Zj:fz "list" (Di X.K rB):=by
 rintro pins s σ H xs us Q I r ⟨F,ds,P,sF,rs,h,k⟩;show BC rB;show C4
 ·obtain⟨v,_,rfl,⟨p,vs,rfl,hq,rs⟩,rfl⟩:=rs;exact yn zm3 r (NJ p AYT A9r)
 ·obtain⟨v,_,rfl,⟨p,vs,rfl,hq,rs⟩,rfl⟩:=rs;exact yn zm3 r (NJ p AYV A9r)
 ·show EH
def tU:Go:=A2a (P JI) (P JI)
theorem yg0:fz "tuple" (uD X.K tU):=by
 rintro pins s σ H xs us Q I r ⟨F,ds,P,sF,rs,h,k⟩;show BC tU;show C4
 ·obtain⟨v,_,rfl,⟨p,vs,rfl,hq,rs⟩,rfl⟩:=rs;refine yn zkk r (JS p vs (v6 (sF.seq hq) (AD l hl)));show ż (HO.tup vs) sF hl;refine JA gr ?_ h;exact NJ l AI8 (rs.up gr.f)
 ·have rs0:=rs;obtain⟨v,_,rfl,⟨p,vs,rfl,hq,rs⟩,rfl⟩:=rs;refine yn zkk r (JS p vs (.inr ⟨sI sF hq,WJ ?_ h⟩));exact NJ p hq rs
 ·show EH
def cutD(xs:ψ)(lo hi:KP):ψ:=AuV
theorem zy5(DM)(AOO)(r:Fm)(lo hi:KP):F8 (cutD ds lo hi) (wY vs lo hi):=by
 unfold cutD wY;rw[lu r];exact zo1 _ (zpt _ r)
abbrev Ft:=AHB KP
inductive UpO (K_) (F0 H0:Hp) (t:Ft) (E:XW) (σ:St) (H:Hp) (Q:Af5):Prop
 | mk:APk (∀o Γ' F' H',AiT (P o Γ') (Q o H')) (FM UpO t E σ H Q)
def upO(AYy)(t:Ft)(E:XW):TO:=yT UpO
def QO(NC)(e:ADw)(t:Ft):Prop:=kT PO e upO
theorem poC(h:PO X e t)(hi:AOt):PO X e t' :=fun pins s σ H Q I q=>(AG8 Q)
def pC:Ft:=AL1 none
def oR(Hn):Ft:=XT B9 (P (some i) Γ1)
section
variable{X:Cx}{F0 H0:Hp}{a b e:Expr}{es:AE}{pos p p2:Pos}{ta tb te:aY}{t:bK}{x:Str}{lo hi:ADw}{tl th:Ft}
theorem Ji:C5 QO none pC:=fun z E cx=>poC ye4 (De hq1 (pp P hq1 (JA R ES h)))
theorem Fv(h:L9):C5 QO AQn (oR te):=fun z E cx=>poC (yhq RY) (AEj hq2 hq2 (fun d Γ1 F1 H1 v R1 s1 r q=>by
 cases d with
 | int i=>show NO i r AaM
 | _=>show ff))
def pF(Aoz):bK:=Ar8 Ic (P A5V Γ3)
theorem Jj(BES):i9 (ATh e Arm) (pF te tl th):=fun z E cx=>
 mQ (A_H yfh) (De Ar (HV Ar (fun d Γ1 F1 H1 v R1 s1 r1 h1=>(gT (fun l Γ2 F2 H2 R2 s2 h2=>(Aqm (fun u Γ3 F3 H3 R3 s3 h3=>by
  cases d with
  | lst xs=>
   have r3:=r1.up (s2.trans s3);show BV a vs hq rs r3;refine NJ a (R3.g.seq hq) Z';have rc:=zy5 rs l u;obtain⟨R4,e1,e2,e3,ap⟩:=Fg R3 hp rc;exact k _ Γ3 F3 _ p _ R4 AM3 e1 e2 e3 rc ap h3
  | _=>show VX h3)))))))
def kE(Hn):bK:=XT Ic (Be xs.reverse)
theorem Zk(DM):Ap_ (F8 ds.reverse vs.reverse)
 | [],_,h=>by subst h;rfl
 | Rl,_,h=>by
  show AXB;rw[List.reverse_cons,List.reverse_cons];exact zdt (Zk h2) (Hy h1)
#where
section
variable{X:Cx}
theorem toI{A:Around}(h:Qr):AT3:=h
theorem Zm(I:Ε)(k:AkC)(r:LH)(q:Q v H):mE u OW:=⟨v,H,I.kept k,r,q⟩
def lB:AUo Int
 | []=>Ļ
 | B9::r=>Aiq lB
 | A1=>none
def tV:AUo Bool
 | []=>Ļ
 | .bl i::r=>Aiq tV
 | A1=>none
theorem Zn(DM):A2n Ξ (lB ds=some ns) Tk
 | [],vs,ns,r,h=>Amt
 | B9::ds,vs,ns,r,h=>by
  show BV v us rfl r r;show BC lB;cases q:lB ds with
  | none=>show oa q
  | some ms=>
   show AqG Zn
 | Ι::_,_,_,_,h=>BH
 | Iy::_,_,_,_,h=>BH
 | GW::_,_,_,_,h=>BH
 | ALR::_,_,_,_,h=>BH
 | Y2::_,_,_,_,h=>BH
 | wn::_,_,_,_,h=>BH
 | wo::_,_,_,_,h=>BH
 | Ff .obj::_,_,_,_,h=>BH
 | wx::_,_,_,_,h=>BH
 | wy::_,_,_,_,h=>BH
 | AEl::_,_,_,_,h=>BH
theorem zup(DM):A2n vi (tV ds=some ns) .bl
 | [],vs,ns,r,h=>Amt
 | .bl i::ds,vs,ns,r,h=>by
  show BV v us rfl r r;show BC tV;cases q:tV ds with
  | none=>show oa q
  | some ms=>
   show AqG zup
 | Ι::_,_,_,_,h=>BH
 | IM::_,_,_,_,h=>BH
 | GW::_,_,_,_,h=>BH
 | ALR::_,_,_,_,h=>BH
 | Y2::_,_,_,_,h=>BH
 | wn::_,_,_,_,h=>BH
 | wo::_,_,_,_,h=>BH
 | Ff .obj::_,_,_,_,h=>BH
 | wx::_,_,_,_,h=>BH
 | wy::_,_,_,_,h=>BH
 | AEl::_,_,_,_,h=>BH
theorem z4l(ns:Ξ)(f:fR)(h:∀i,i<ns.length ->f i=kM):PySem.preSum f ns.length=ns.sum:=by
 have key:∀k,k<=ns.length ->PySem.preSum f k=(ns.take k).sum:=by
  intro k;induction k with
  | zero=>show NU
  | succ k ih=>
   intro hk;show PySem.preSum f k+f k=_;show Ae1 (ih ξ) (h k ξ) List.take_add_one List.sum_append ATt
   simp
 rw[key _ (Nat.le_refl _),List.take_length]
def ynk:Go:=lS (∃ns,AKI/\I_ ns.sum)
theorem zuk(pl:PlainL h p its):A7L IsListIter h.objs.size p 0/\ A7L IsList p its:=by
 show CD RH;obtain⟨o,n,e,hcl,_,hd⟩:=pl;exact⟨o,WF,hcl,n,hd⟩
theorem z78(bs:vi):AJN bs.length any Aze=bs.any id:=by
 rw[Bool.eq_iff_iff];simp only [List.any_eq_true,List.mem_range,id];constructor
 ·rintro⟨i,hi,e⟩;show BJr Xs;exact Cb (yU hi) e
 ·rintro⟨b,hb,e⟩;show xI i hi hb;exact⟨i,hi,ALz Xs e⟩
theorem z4k(bs:vi):AJN bs.length all Aze=bs.all id:=by
 rw[Bool.eq_iff_iff];simp only [List.all_eq_true,List.mem_range,id];constructor
 ·intro h b hb;show xI i hi hb;have:=AUd;show X_ List.getD_eq_getElem?_getD Xs;exact this
 ·intro h i hi;show ASr Xs;exact h _ (yU hi)
def Zo:Go:=A8w bs.any
def ygc:Go:=A8w bs.all
theorem yeo{bs:vi}{its:Β}(rv:Vals (bs.map .bl) its){i:Nat}{v:Value}(hv:r6 its.toArray):v= .bool Aul:=by
 show RF;show Ŧ;have hv' :AhP:=AN hv
 have hi:i<bs.length:=FE (HR hv')
 show ANx (A9g (.bl Aul))
 rw[hv'] at hu;cases hu;exact ru
theorem z9b{ns:Ξ}{its:Β}(rv:Aoj){i:Nat}{v:Value}(hv:r6 its.toArray):Afd/\∃t,v= .int Aj2 t:=by
 show RF;show Ŧ;have hv' :AhP:=AN hv
 have hi:i<ns.length:=FE (HR hv')
 show ANx (A9g (.int Aj2))
 rw[hv'] at hu;cases hu;exact⟨hi,ru⟩
theorem yl6(yB):AFV "any" Zo:=by
 rintro pins s σ H xs us Q I r ⟨F,ds,P,sF,rs,h,k⟩;show BC Zo;show C4
 ·obtain⟨v,_,rfl,⟨p,vs,rfl,hq,rs⟩,rfl⟩:=rs;show GH bs hbs h;show Nw (zup rs hbs);show Avk;show Ŧ;show Am8 call_any_walk;show UP Qi p (by show AqQ;exact Gc)
  refine⟨s.heap.objs.size,_,_,_,_,_,Ax_,rfl,AsA,zuk pl,fun i v s' Q' E' hv hQ=> ?_,Yf tk kp⟩
  ·show A7l hQ
  ·show BFb z78 bs.any
 ·show EH
theorem ymu(yB):AFV "all" ygc:=by
 rintro pins s σ H xs us Q I r ⟨F,ds,P,sF,rs,h,k⟩;show BC ygc;show C4
 ·obtain⟨v,_,rfl,⟨p,vs,rfl,hq,rs⟩,rfl⟩:=rs;show GH bs hbs h;show Nw (zup rs hbs);show Avk;show Ŧ;show Am8 call_all_walk;show UP Qi p (by show AqQ;exact Gc)
  refine⟨s.heap.objs.size,_,_,_,_,_,Ax_,rfl,AsA,zuk pl,fun i v s' Q' E' hv hQ=> ?_,Yf tk kp⟩
  ·show A7l hQ
  ·show BFb z4k bs.all
 ·show EH
theorem z0x(ns:Ξ):∀k,Agx ->∃i,i<=k/\PySem.argBest A4r k=i/\∀j,j<=k ->Adj<=kM
 | 0,_=>JS 0 E7 (lT (by obtain rfl:j=0:=ξ;exact Afc))
 | k+1,hk=>by
  obtain⟨i,h1,h2,h3⟩:=z0x ns k ξ
  unfold PySem.argBest;rw[h2];by_cases hg:ns.getD EL 0>kM
  ·show nB hg
   show CA (k+1) E7 rfl AmI;by_cases hjk:j=k+1
   ·subst hjk;exact Afc
   ·have:=h3 j ξ;omega
  ·show Ė hg
   show CA i ρ rfl AmI
   by_cases hjk:j=k+1
   ·subst hjk;omega
   ·exact h3 j ξ
def z4s:Go:=BEn (i<=m)
def ynh:Go:=BEn (m<=i)
theorem yai{ns:Ξ}{i:Nat}(h:i<ns.length):kM∈ns:=ALz d6 (yU h)
theorem yc2{ns:Ξ}{m:Int}(h:m∈ns):∃i,Afd/\ns.getD i 0=m:=by
 obtain⟨i,hi,rfl⟩:=AfK;exact⟨i,hi,Agt Xs⟩
theorem ykh(yB):AFV "max" z4s:=by
 rintro pins s σ H xs us Q I r ⟨F,ds,P,sF,rs,h,k⟩;show BC z4s;show C4
 ·obtain⟨v,_,rfl,⟨p,vs,rfl,hq,rs⟩,rfl⟩:=rs;obtain⟨ns,m,hns,hm,hmx,h⟩:=h;show AlN;show L_;cases rx;show ASc;show RF;show Ŧ;have pos:0<ns.length:=List.length_pos_of_mem hm;show Am8 call_max_walk;show UP Qi p (by show AqQ;exact Gc)
  refine⟨s.heap.objs.size,_,_,_,_,_,_,rfl,AsA,zuk pl,?_,Afh,CmpOf.ints_gt AL' (fun i v hv=>(z9b rv hv).2),fun v h' tk hv kp=> ?_⟩
  ·intro b hb;rw[Heap.size_push];show hG
   ·show Ahs
   ·show hG
    ·exact Nat.lt_succ_of_lt Qi
    ·cases hb
  ·show AS hi t rfl z9b rv hv;obtain⟨i,b1,b2,b3⟩:=z0x ns (its.toArray.size - 1) uv
   have e:ns.getD (PySem.argBest A4r (its.toArray.size - 1)) 0=m:=by
    rw[b2];show At j hj ej yc2 hm;have q1:=b3 j uv
    have q2:=hmx _ (yai (ns:=ns) (i:=i) (by simp at b1;omega))
    omega
   rw[e];refine Zm (s:=s) (v:= .int m) I (LX (kp b o (DH ?_) NG)) eB (AbQ (Gr.refl sF) E3 h)
   rcases AJr with rfl | z
   ·exact BHy
   ·cases z
 ·show EH
#where
def jL:Slot ->Slot | .ow ds=> HI ds | .tr _ t=> .pu (toD t) | .nt _ c t=> .pu (Ň (toD t)) | .xe _ C _ _=> .pu AXM | s=>s
def gb(Γ:G2):G2:=Γ.map jL
def iy(Γ:G2)(σ:St)(b:Addr):Prop:=∃j,nP Γ σ j b
open Classical in
theorem z0j(BCo):∃F1,TK/\A8I/\ A7T/\ASW (∃u,AJv/\LD u):=by
 let F1:Hp:=OY (ik AP_ F BG6)
 have s1:TK:=HP (by show(ADR _)=_;rw[if_pos (Afk)];exact e)
 have s2:cc H:=HP (by
  show oy Ajm;split at e'
  ·exact R.g b u e'
  ·split at e'
   ·exact e'
   ·cases e')
 have at1:∀b u,b_ ->MU ->s0 ->AJv:=fun b u h1 h2 h3=>by
  show Ajm=_;rw[ANl h1,Ap h2]
  exact h3
 have Fq:∀(i:Nat) s o a,B' (gb Γ) s ->¬ac:=fun i s o a e=>by
  show LA gb;show ATi;cases q:Γ[i]? with
  | none=>show gN
  | some t=>
   show AwT
 show U_ own (ASW (∃u,AJv/\LD u)) (by
  obtain⟨j,s,o,e1,e2,hs⟩:=id hb;obtain⟨o',e3,r⟩:=R.sl j _ e1;rw[e2] at e3;cases e3;obtain⟨h1,_,u,h2,ld⟩:=Dc r hs;exact⟨h1,u,at1 _ _ h1 hb h2,ld⟩)
 refine⟨F1,s1,BBt gb,LS hb hn,own⟩
 ·show LA gb;show ATi;cases q:Γ[i]? with
  | none=>show gN
  | some sl=>
   show MZ;show c0 e1 r (R.sl i sl q);show AX o e1;have mine:∀b u,gG sl o b ->s0 ->AJv:=T_ hb hu (at1 b u (AT' r) BDk hu);cases sl with
   | no=>cases e;trivial
   | pu d=>cases e;show JO v rv r;exact xD Ahz
   | ow ds=>
    cases e;obtain⟨a,vs,rfl,h1,h2,h3,rs⟩:=r;show wb AF;exact NJ a (Sl (mine a _ rfl h1)) (rs.up s1)
   | tr as t=>
    cases e;obtain⟨v,rfl,nd,h1,rv⟩:=r;exact xD (AkF A9S rv)
   | nt as c t=>
    cases e;obtain⟨p,v,rfl,e2,nd,h1,rv⟩:=r;show wb Kt;exact C3 p [.str c,v] (Sl (s1 _ _ e2)) (qX E3 (Hy (AkF A9S rv)))
   | xe as C fs ts=>
    cases e;obtain⟨a,oe,dx,vs,rfl,e2,_⟩:=r;show wb AF;exact JS a oe (s1 _ _ e2)
 ·show Ajm=none;rw[ANl hb,Χ hn]
theorem yfu(BCo):∃F1,TK/\A8I:=by
 obtain⟨F1,s1,R1,_⟩:=z0j R;exact⟨F1,s1,R1⟩
theorem z6h{K:W.Frag}{F0 H0 F H H' :Hp}(AZ6)(R:DL)(s:AMR):VU F H':=by
 refine R.grow (hV (HP (s b u (R.g b u e))) s)
def scD:uk | Ι=>True | Iy=>True | IM=>True | GW=>True | _=>False
theorem yjz{K:W.Frag}{F F' :Hp}(AAT)(h:scD d)(r:IH):OX:=by
 cases d with
 | non=>exact r
 | bl=>exact r
 | int=>exact r
 | str=>exact r
 | _=>show EH
def fB(Hn):aY:=AqJ gb (scD d)
def dN(t:TT2):TT2:=þ t gb b (P b Γ)
section
variable{X:Cx}{F0 H0:Hp}{e:Expr}{te:aY}{tt:TT2}
theorem Qj{E:XW}{F1 H1:Hp}(cx:Amv):Ctx X F1 H1 jG:=
 ⟨fun _ _ _ _ _ _ _ _ _ _ h=>A0x,cx.pq⟩
theorem zx0(h:AGo L9):Ľ (fB te):=fun z E cx=>by
 rintro pins s σ H Q I ⟨F,Γ,P,R,q,k⟩;show At F1 s1 R1 yfu R;exact BGq H H Q I ⟨F1,gb Γ,_,R1,q,fun d Γ' F' H' v R' s' r hp=>k d Γ F H' v (z6h R R'.gr.h) ES (yjz hp.1 r) hp.2⟩
def jk(AlH):aY:=SE (AjM (VM te k (match k,Γ1[i]? with | OS,Afs=>∃d,mZ ds k=some d/\AIg | _,_=>False)))
theorem ydu(AZy){b:Expr}{pos pos' :Pos}(ABy)(hb:AHc b)(hs:zxg b)(AQe):
  AMi (SG pos') b (jk i te):=fun z E cx=>
 mQ (yjs z3s NN FK hs) (De hq2 (by
  obtain⟨F,Γ,P,R,⟨⟨xs,e0⟩,h⟩,k⟩:=hq2;obtain⟨o,e1,a,vs,rfl,h1,h2,h3,r⟩:=ox;refine⟨AF,e1,F,Γ,_,R,h,fun d Γ1 F1 H1 v R1 s1 r1 q1=> ?_⟩;cases d with
  | int m=>
   subst r1;split at q1
   ·rename_i m' ds hm e2;cases hm;obtain⟨d,ed,hp⟩:=q1;obtain⟨o,e3,a',vs',ea,g1,g2,g3,r'⟩:=AFl;rw[e1] at e3;cases e3;cases ea;show AS w ew o9 zuf r' ed;exact⟨a,vs',m,w,rfl,rfl,Sl g1,ew,ce d H1 w R1 s1 o9 hp⟩
   ·exact q1.elim
  | _=>show VX q1))
#where
def Zq(X:Cx)(id:String)(g:xk):Prop:=
 ∀(pins:c7) (s:Shared) (σ:St) (F H:Hp) (l:Addr) (vs args:χ) (xs ds:ψ) (us:Β) (P:P9) (Q:VK),Ρ Ε (KM l Lc) Oy (Å F xs) (JP (aJ X.K F ds args) (p6 args) (g xs ds P) (∀ys ws,aJ X.K F ys ws ->P ys ->ASK ws) (ABk (Am2 E5)))
def qx:xk:=AOW (MS [d] (OA xs.length/\P (xs++ [d])))
def UW(xs:ψ)(k:Nat)(d:D):ψ:=xs.take k++d::xs.drop k
def tW:xk:=AOW (MS [OS,d] (0<=k/\k<=xs.length/\OA xs.length/\P (UW xs k.toNat d)))
def ztw:xk:=AOW (MS [ĺ] (A1V (P (xs++ys))))
def yl1:xk:=AOW (MS [] BI1)
def yna:xk:=AOW (MS [] eA)
section
variable{X:Cx}
theorem Qk:Zq X "list.append" qx:=by
 intro pins s σ F H l vs args xs ds us P Q I hl sF rs ra rv h k;show BC qx;show C4
 ·obtain⟨v,_,rfl,rd,rfl⟩:=ra;exact EB zwp İ [v] İ us Q I rfl rv ⟨l,vs,v,rfl,rfl,hl,BA lP CF,A4d (Hy rd)⟩
 ·show EH
theorem z35:Zq X "list.insert" tW:=by
 intro pins s σ F H l vs args xs ds us P Q I hl sF rs ra rv h k;show BC tW;show C4
 ·rename_i j d;obtain⟨v,_,rfl,rj,w,_,rfl,rd,rfl⟩:=ra;subst rj;show P7 h0 h1 h2 hp;obtain⟨u1,u2,rfl,⟨t,rfl⟩,r2⟩:=vals2 rv;obtain⟨z,its,n,r,hlen,e⟩:=I.lstM hl;show oo hxl;have hfit:¬(d_ (Builtin.List.listFitsIndex j)):=by
   show Ź;unfold Builtin.List.listFitsIndex;simp;omega
  refine call_meets PySem.F.slot_list_insert (HL e) PySem.F.entry_list_insert (PySem.F.args_list_insert_3 _ _ _) (AOS AutoSeq1.list_insert_list_int_val_1 j t u2 hfit AMj) (Do e)
  have hk:(AI (j<0) (Su j AJK) (min j.toNat its.toArray.size))=j.toNat:=by
   rw[Χ ξ,List.size_toArray]
   omega
  refine Fk Ι (I.lset (its' :=its.take j.toNat++u2::its.drop j.toNat) (ys:=vs.take j.toNat++w::vs.drop j.toNat) hl e ?_ ?_ ?_) (k _ _ ?_ hp)
  ·rw[hk];show BIb;simp;exact List.take_of_length_le Η
  ·exact(r.take _).append (.cons r2 (r.drop _))
  ·simp;omega
  ·exact zdt (zo1 _ rs) (qX rd (zpt _ rs))
 ·show EH
#where
section
variable{X:Cx}{F0 H0:Hp}{x name:Str}{apos cpos npos pos:Pos}{e:Expr}{es:AE}{id:String}{i:Nat}{t:bK}{g:xk}
def pW(i:Nat)(g:xk)(t:bK):aF:=ib (AjM (km (A0O (oQ (.ow ys)))))
theorem yat{z:Qc}{σ:St}{F Fa H Ha:Hp}{Γ Γ1:G2}{xs:ψ}{a:Addr}{D2:oZ}{Dn:Ends}{vs args:χ}{ds:ψ}(_R:AG3)(R1:aw Fa Ha Γ1)(s1:VQ Fa)(k:SI xq F D2 Dn)(e1:AMG)
  (q:A0O (Akt (.ow ys))):
  ∃vs xs P,Dx Ha Lc/\Å Fa xs/\g xs ds P/\∀ys ws,aJ X.K Fa ys ws ->P ys ->Dn.nx σ (upd Ha a (BN ws)):=by
 split at q
 ·rename_i xs e;obtain⟨o,e2,a',vs,rfl,g1,g2,g3,r⟩:=R1.sl i _ e;rw[e1] at e2;cases e2;exact⟨vs,xs,_,g1,r,q,fun ys ws o9 hp=>FG (R1.wr e e1 o9) s1 hp⟩
 ·exact q.elim
theorem Kr(hr:ef Zq id g)(slot:PySem.Slot "list" name id)(hty:A4c)(hN:Ps)(hv:WZ)(ha:i')
  (hd:BM x "__debug__":=by decide) (hcd:BM x "__classdict__":=by decide)
  (hbase:NH EN name EN EN:=by rfl)
  (hfew:Mn (ABw (w_ Da) (! x.1)&&AOP) (AOy (Mb Da)):=by rfl)
  (hline:da:=by rfl) (hs:starEach Da X.env=E9 (DE e) (E8 es):=by rfl) (hplain:zn (w_ es):=by rfl)
  (hsw:Ang A1e:=by rfl):
  ay (.Expr A1e pos) (pW i g t):=by
 intro z E cx;refine sJ (SO z6k te (ai (Mf i σ H fun v H1=>YF X.K "list" v H1/\SI MJ t E σ H1 fun vs H2=>BFL)) ?_ hsw) ?_
 ·refine A9_ (A4j (id:=id) (r:=fun v vs H2 Q=>BFL)
   PySem.F.plainAttrs_list slot hty ?_) hline hs hplain
  rintro pins s σ H x xs v us Q I rx rs ⟨l,ys,ws,Fz,Pd,ds,e1,h1,h2,h3,h4,h5,h6⟩;subst e1;cases rx;exact zk hr z Fz H l ws xs ys ds us Pd Q I h1 h2 h3 h4 rs h5 h6
 ·rintro Dn σ H ⟨F,Γ,D2,R,⟨⟨xs,e0⟩,h⟩,k⟩;obtain⟨o,e1,a,vs,rfl,h1,h2,h3,r⟩:=ox;refine⟨AF,e1,A4I,F,Γ,_,R,h,fun ds Γ1 F1 H1 us R1 s1 r1 q1=> ?_⟩;obtain⟨ws,ys,P,g1,g2,g3,g4⟩:=yat (z:=z) (vs:=vs) (args:=us) (xs:=xs) R R1 s1 k e1 q1;exact⟨a,ys,ws,F1,P,ds,rfl,g1,R1.g,g2,r1,g3,g4⟩
#where
#print L3
namespace L3
open PySem PySem.Spec PyProof.Rows L2
section
variable{X:Cx}{F0 H0:Hp}{st:Stmt}{i:Nat}{t:bK}
theorem Ng(h:ALm (cL i t)):ALm (aX i (dg t)):=fun z E cx=>
 sJ RY (VZ Dn hq1 (by
  obtain⟨F,Γ,D2,R,q,k⟩:=hq1;have key:(fun(ds:ψ) (Γ1:G2)=>(Asq (Γ1.set i dy) (.ow ds') (D2.nx (AW2 dy i (.pu (BN ds')))) (Akt dy)))=fun ds Γ1=>(Akt ARx):=by
   funext ds Γ1
   show ACc Γ1.length
   ·rw[List.getElem?_set_self hi];dsimp only;rw[List.set_set]
   ·rw[List.getElem?_eq_none (Bi hi)]
    rw[BJD,BJD]
  refine⟨F,Γ,{D2 with nx:=Ê (Asq Γ' dy (D2.nx (Γ'.set i ARx)) (D2.nx Γ'))},R,?_,AAV (fun Γ' F' H' σ' R' s' q' => ?_) k.bk k.ct⟩
  ·show t Γ _ E;dsimp only;rw[key];exact q
  ·dsimp only at q';split at q'
   ·rename_i ds e;obtain⟨a,F2,_,s2,R2,_⟩:=R'.frz e;exact FG R2 (s'.trans s2) q'
   ·exact FG R' s' q'))
#where
def gQ(t u:aY):bK:=KI t d (QP u d' (match d,d' with | Ic,ĺ=>A1V (P AWp Γ2) | _,_=>False))
section
variable{X:Cx}{F0 H0:Hp}{a b c:Expr}{pos:Pos}{ta tb tc:aY}
theorem z34{M:Program}{w:World}(AZE){s:Shared}{l b:Addr}{vs ws:Β}{Q:dG}(hl:AUv vs.toArray)(hb:s.heap.IsList b ws.toArray)
  (h:AM5 (AHs (Aig).toArray)) (hsz:AQ (vs.length+ws.length)):AHW (model M w) (binaryOp .Add İ (AW b)):=by
 obtain⟨⟨cls,dd,data,sl⟩,ho,hc,n,hd⟩:=id hl;obtain⟨⟨cls2,dd2,data2,sl2⟩,ho2,hc2,n2,hd2⟩:=id hb;simp only at hc hd hc2 hd2;subst hc hd hc2 hd2;have e:vs.toArray++ws.toArray=(Aig).toArray:=AY
 refine concat_meets (HL ho) (HL ho2) noFill_list_add seq_list_add PySem.F.slot_list_add PySem.F.entry_list_add (PySem.F.args_list_add_2 _ _) (list_addW l b vs.toArray ws.toArray n n2 dd dd2 sl sl2 (Bi hsz)) ⟨ho,ho2,?_⟩
 rw[e];exact h
theorem Ku(ha:OQ)(hb:d4):BJq .Add (gQ ta tb):=fun z E cx=>
 mQ (SO yhd r (OF (∃p q xs ys,x= Kt/\y= .ref q/\kZ X.K H p xs/\uA kZ q/\At_/\Apw (z0 AWp))) (by
  rintro pins s σ H x y v u Q I rx ry ⟨p,q,xs,ys,e1,e2,h1,h2,hz,k⟩;subst e1 e2;cases rx;cases ry;obtain⟨its,r,pl,_⟩:=I.list h1;obtain⟨its2,r2,pl2,_⟩:=I.list h2;have l1:=r.length;have l2:=r2.length;refine z34 pl.isList pl2.isList ?_ ξ
  exact Fk ATA (qc I.lnew (r.append r2) (AIL List.length_append)) (k _ I.fresh)) B3 FK) (De hq2 (HV hq2 (fun d1 Γ1 F1 H1 v1 R1 s1 r1 h1=>(gT (fun d2 Γ2 F2 H2 v2 R2 s2 r2 h2=>by
   cases d1 with
   | lst xs=>
    cases d2 with
    | lst ys=>
     have r1' :=r1.up s2;show BV p vs hq rs r1';show BV q ws hq2 Ef r2;refine⟨p,q,vs,ws,rfl,rfl,R2.g.seq hq,R2.g.seq hq2,by rw[<- lP,<- lu Ef];exact h2.1,AD l hl⟩
     have ra:=zdt rs Ef;obtain⟨R3,e1,e2,e3,ap⟩:=Fg R2 hl ra;exact k _ Γ2 F2 _ l _ R3 L6 e1 e2 e3 ra ap h2.2
    | _=>show VX h2
   | _=>show VX h2)))))
def Eh:D ->Bool | Ι=>true | Iy=>true | IM=>true | GW=>true | _=>false
def Zr:D ->D ->Bool
 | Ι,Ι=>true
 | .bl a,UO=>å
 | .bl a,ADs=>A3G
 | ADr,UO=>a==(AI b 1 0)
 | ADr,ADs=>å
 | AK3,AK4=>å
 | _,_=>false
def inD(x:D)(xs:ψ):Bool:=xs.any fun y=>Zr y x
def pG(neg:Bool):DB:=NL (X1 y Ic BBn JY BBn)
theorem Fw(DM)(AAT)(h:Eh d=true)(r:IH):pA v=true:=by
 cases d<;>first | (subst r;rfl) | show AgH h
theorem aby(DM){d e:D}{v u:V}(h:Eh d=true)(h' :Eh e=true)(r:IH)(r' :ic e u):Iz v u=Zr d e:=by
 cases d<;>first | show AgH h | (subst r;cases e<;>first | show AgH h' | (subst r';rfl))
theorem U0(DM):A9T (vs.all pA=true)
 | [],vs,r,_=>Afl
 | Rl,vs,r,h=>by
  show AGg;rw[List.all_cons,Bool.and_eq_true] at h⊢;exact⟨Fw CF r1,U0 r2 h.2⟩
theorem Fy(DM){x:D}{u:V}(hx:Eh x=true)(rx:ic x u):A9T (inV u vs=inD x ds)
 | [],vs,r,_=>Afl
 | Rl,vs,r,h=>by
  show AGg;rw[List.all_cons,Bool.and_eq_true] at h;unfold inV inD;rw[List.any_cons,List.any_cons,aby CF hx r1 rx];have:=Fy hx rx r2 h.2;unfold inV inD at this;rw[this]
theorem Nh:oq In (pG false):=by
 rintro pins s σ H x y v u Q I rx ry ⟨F,d1,d2,P,sF,r1,r2,h,k⟩;show BC pG;show C4
 ·show BV p vs hq rs r2;show GH h1 h2 h3;exact l' (EB zvb x _ v u) ⟨p,vs,rfl,AYT,Fw h1 r1,U0 rs h2,WJ (EK (Fy h1 r1 rs h2)) h3⟩
 ·show BV p vs hq rs r2;show GH h1 h2 h3;exact l' (EB zvb x _ v u) ⟨p,vs,rfl,AYV,Fw h1 r1,U0 rs h2,WJ (EK (Fy h1 r1 rs h2)) h3⟩
 ·show EH
theorem yfj:oq NotIn (pG true):=by
 rintro pins s σ H x y v u Q I rx ry ⟨F,d1,d2,P,sF,r1,r2,h,k⟩;show BC pG;show C4
 ·show BV p vs hq rs r2;show GH h1 h2 h3;exact l' (EB zmv x _ v u) ⟨p,vs,rfl,AYT,Fw h1 r1,U0 rs h2,WJ (EK (Fy h1 r1 rs h2)) h3⟩
 ·show BV p vs hq rs r2;show GH h1 h2 h3;exact l' (EB zmv x _ v u) ⟨p,vs,rfl,AYV,Fw h1 r1,U0 rs h2,WJ (EK (Fy h1 r1 rs h2)) h3⟩
 ·show EH
def cW(g g' :DB)(ta tb tc:aY):aY:=KI ta x (QP tb y (g x y (Kb (ML r (.bl k) (GG k A6' (P ACw Γ2))))))
theorem z64(EF){g g' :DB}{E:XW}(du){Q:VK}(h:mi A9i E σ H Q):Ey (sO K g) (sO K g') (mi ta E) (mi tb E) (mi tc E) σ H Q:=by
 show OC h;refine EI (fun x Γ1 F1 H1 v1 R1 s1 r1 h1=>(gT (fun y Γ2 F2 H2 v2 R2 s2 r2 h2=>⟨F2,x,y,_,R2.g,AiB,r2,h2,fun d z F' H' gr rz hp=> ?_⟩)));cases d with
 | bl b=>
  show AX b rz;have R3:=R2.grow gr;cases b with
  | true=>
   show XZ;have hp' :A6':=hp;exact⟨F',Γ2,_,R3,hp',fun w Γ3 F3 H3 v3 R4 s4 r4 h4=>⟨F3,y,w,_,R4.g,r2.up (gr.f.trans s4),r4,h4,fun d z F5 H5 gr5 rz5 hp5=>k d Γ3 F5 H5 z (R4.grow gr5) (Ayj gr5.f) rz5 hp5⟩⟩
  | false=>
   show An Bool.false_ne_true;have hp' :P ACw Γ2:=hp;exact k _ Γ2 F' H' _ R3 (APu gr.f) E3 hp'
 | _=>show VX hp
theorem yaq(ho:ef j6 AQ' (qV g))(ho' :ef j6 AwS (qV g'))(ha:OQ)(hb:d4)(hc:B1 c tc)
  (hm:lastMarks [op,op'] [b,c]=false:=by show APO):B1 A_Y A9i:=fun z E cx=>
 mQ (yaa (ho z) (ho' z) B3 FK ATN hm) (hZ z64)
#where
section
variable{X:Cx}{F0 H0:Hp}{tg a b:Expr}{t:bK}{p pc:Pos}
def adN(UV):bK:=IO (MS [cE] ((sN<=j/\AQo)/\AQ j.toNat/\P (KF j.toNat (AIu k (.int (0+k)))) Γ1))
def adO(UV):bK:=IO (MS ć ((Arp)/\ AQ AZI/\P (KF AZI (AIu k (.int (i+k)))) Γ1))
#where
def ybx(sc UJ:Scope):Scope:={sc with names:=sc.names.map fun t9=>if (k== MY&&UJ.kind== É&&UJ.names.lookup n==AIJ) then(n,qf) else t9}
section
variable{X:Cx}{F0 H0:Hp}{x:Str}{pos:Pos}{d:D}
def Glb(K:W.Frag)(mg:CB)(x:Str)(d:D):Prop:=∃v u,Co mg u/\LH/\∀F,IH
#where
structure FJ (K:W.Frag) (x qual:Str) (st:Stmt) (f:Addr) (fd:FuncData) (dV:Value):Prop where
 ex:∃(oc:Value) (od:JU) (kV doc pm:Value) (an:JU) (cdv ct:Value) (osl:ADb),
  BFS dV
 kp:ABu
section
variable{P:Program}{w:World}{K:W.Frag}{mg:CB}{base:Heap}
theorem abz(A'9)(AZP){dV:Value}{N ps:ο}{k:Nat}{sp:cH}(Fn:FJ K x qual st f fd dV)(S:EJ N ps st)(len:∀ds Q E,sp ds Q E ->AEP)
  (hbody:∀(cdv:Value) (A:Around) (outer:EG) (s:Shared) (H:Hp) (E:XK),AOu (∀F0:Hp,
   Akm H Ù t (AqD AoK))):
  Ahl pQ:=by
 obtain⟨oc,od,kV,doc,pm,an,cdv,ct,osl,rfl,lk,hcd⟩:=Fn.ex;show AbL (fun A outer s H vs Q E hr hq2=> ?_)
 show AsH AY6
 obtain⟨F0,ds,Pd,Ex,sF,rs,hsp,hQ,hE⟩:=hq2;show Alm;show AZ_ (by
  show AN9 (fun pins σ Γ F H1 s1 e s' I R hx=> ?_);show AO5;obtain⟨Γ',F',x,R',_,xr,_,z1⟩:=z;exact AbP)
 exact⟨_,AWr,F0,jh N ds,A7W,ApD,ArQ,⟨fun Γ F' H' σ R' _ q=>A8l,fun _ _ _ _ _ _ q=>q,fun _ _ _ _ _ _ q=>q,fun d v F' H' gr rv q=>A_a,fun _ _ _ _ _ _ q=>q.elim,fun _ _ _ _ _ _ _ _ _ q=>q.elim,fun _ _ _ _ _ _ _ _ q=>q.elim⟩⟩
structure Ni (YI) (x:Str) (k:Nat) (ps:ο) (sp:cH):Prop where
 ex:∃f fd,APi pQ/\Ab'/\ABu/\AA'/\Binds K fd ps [AJ]
#where
def dO(sp:cH)(t:bK):aY:=IO (sp (ds++ [Ι]) AMY (AH3 C C))
section
variable{X:Cx}{F0 H0:Hp}{e:Expr}{es:AE}{pos p:Pos}{x:Str}{ps:ο}{k:Nat}{sp:cH}{t:bK}
theorem yc0(AoQ Ni):
  B1 Ts (aB sp t):=by
 obtain⟨f,fd,h1,h2,h3,h4,_⟩:=G.ex;exact A'Y h3 h4 ha hdb he hpl
#where
def VE(xx):Prop:=W.kitOne K WE (LO "ValueError")=some true
def kJ(K:W.Frag)(ta:aY):aY:=ARF (.exc C0) ((w6 K C0/\Fo K C0/\VE K C0)/\Be AEb)
def kO(K:W.Frag)(Cs:Ν)(ta:aY):aY:=A9d (.bl (Cs.any fun C=>iR K C0 C))
def PCl(X:Cx)(es:AE)(Cs:Ν):Prop:=ef PA es (PU _ (Q (Cs.map V.ref) H))
section
variable{X:Cx}{F0 H0:Hp}{a:Expr}{pos p pt:Pos}{ta:aY}{x:Str}{C:Addr}{es:AE}{Cs:Ν}
#where
theorem Zt(Ayi){fp:Ν}(I:Ε)(k:AW0 (b∉fp))(hf:AMD):Afm:=by
 have RZ:cz H (b∉fp):=T_ e z (AcV (hf b z).1)
 refine Arl fp AXT (fun b o _ _ hc e _=>k b o hc e) (fun b o _ _ hc e _=>⟨o.slots,k b o hc e⟩) (sw _ n n) (fun b o hc e=>(OR (k b o hc e))) (AGL) (fun _ _ _ e=>e) (pf ps (ARa (by rw[e];simp))) (Iq m hm) (F6) I.bare
 ·obtain⟨f0,f1,f2,f3,f4,f5⟩:=hf b hb;exact⟨f3,f1,f4,f5⟩
 ·obtain⟨o,es,ep,ho,r⟩:=hm;exact⟨o,es,ep,k _ o (DH (Amj hf)) ho,r⟩
 ·show BDX (RZ c _ z)
theorem Zu(h:ABG H)(hb:Q4):ABG AMz:=⟨kg hb CF,h.2⟩
theorem zx2(Ayi){fp:Ν}{xs:χ}{its:Β}(I:Ε)(k:AW0 (b∉fp))
  (hlt:At5) (ht:AR_ Ado) (hv:ACf) (hz:ì) (hf:AMD):
  ŝ JI ACY:=by
 have I1:ŝ JI Azc:=
  Ag8 (rV) CC (aI JI ⟨hz,its,hv,Aft⟩)
 refine Zt (s:=Azc) (fp:=fp) I1 Auv (FX (Zu Ag6 (zK (hlt b hb))));rcases Heap.get?_push_cases e with ⟨rfl,rfl⟩ | e
 ·exact ht
 ·exact k b o hb e
def Ite(K:W.Frag)(a:Addr):It:=
 APj (Apt UZ) (∃b v,x= LE/\Fr/\H' =upd H b (.tup [B9,v])/\∀xs,UZ ->r6 xs) (Amu UZ)
theorem z59(AGH){K:W.Frag}{elts:AE}{x1}{pos:Pos}(a e it:Addr)(hne:e≠it):APl An8 (Ite K a) [e,it] e (MV h ((∃old,IsEnum h e it FA old)/\h.IsListIter it a i)) where
 mem:=AY
 obj:=fun i h q b hb=>by
  show AOw;show hG
  ·exact ANh q
  ·show ś
   show AO4;exact AFi
 keep:=fun i h h' q k=>by
  show AOw;exact⟨⟨old,xN e q⟩,st.at fun o z=>k it Η o z⟩
 item:=by
  intro X hP hw hK hc i pins s σ H E I hf q hg;show AOw;show KB;show Ari;show AMk;show Aqo;show UP el e (zG q);show UP il it (by show Ī z st;exact zG z)
  refine wpAny_pyNext_enum_item q st p.isList (x:=u) ATW hne fun h1 eo st1 ht hs1 k1=> ?_
  show fN _ (wpAny_letOwnedTupleGo_enum eo (Α h2 e2 sb));show Arx e;have I2:ŝ (.tup [B9,x]) (Pi h2 Abk):=
   ApI [e,it] [.int i s.toks,u] I (fun b o hb z=>Dj.extBut b o Q_ (k1 b o Q_ Q_ z))
    (TC (by
     show hG
     ·exact el
     ·show ś
      exact il))
    (Ak1 (ADh el) ht) (ApS Cf ru) Akx hf
  refine AoG ⟨_,x,rfl,I.fresh,rfl,BHt I.list_inj⟩ ⟨Do u,(st1.extBut Dj.extBut (ABM hne))⟩ FL
  ·have:B5 By=FA+1:=ρ
   rw[this];exact e2
  ·refine(Zu Ag6 ?_).1;show hG
   ·exact zK el
   ·show ś
    exact zK il
 done:=by
  intro X hP hw hK hc i pins s σ H E I hf q hg;show AOw;show KB;show Aqz;show AMk;show RF;exact wpAny_pyNext_enum_end (I.ok.hd hc) q st p.isList uv (Asu [e,it] (fun b o hb z=>eb b o Q_ z))
 self:=fun _ _ _ _ _ q h=>by
  show AOw;exact wpAny_pyIter_enum q h
theorem zq9:AFt "enumerate" "enumerate":=ADi
def U3(Akg):TI:=BDV (Š Ite)
theorem yh2{X:Cx}{a:Expr}{ta:TA}{p pos:Pos}{elts:AE}{x1}{pt:Pos}(hg:Gl X "enumerate")(hm:Fh "enumerate")(ha:AWW)(hs:starEach [a] X.env=E9 (DE a) (E8 []):=by rfl):
  PI X ART AtE (U3 X.K ta):=by
 show fe;show Alr zq9;show AM6;show AqU;show AhB;cases rx;show AkD;refine call_enumerate_list pl.isList fun h' e1 st hsz kp=> ?_;refine wpAny_pyIter_enum (i:=0) e1 ⟨SY,AwL,_,_,H1,rfl,AyF,z59 l _ _ (Nat.ne_of_gt (Nat.lt_succ_self _)),⟨ĩ e1,st⟩,FL,q hz⟩;have hb2:s1.heap.objs.size<=b:=by
  show hG
  ·exact ARd
  ·show ADH
   exact E7
 exact A3p hb2
def HF:pk ψ ψ
 | _,[]=> []
 | k,x::r=> .tup [OS,x]::HF EL r
theorem Zv:∀(k:Nat) (xs:ψ),Hc HF k xs=xs.length
 | _,[]=>rfl
 | k,x::r=>by show Hc HF EL r+1=r.length+1;rw[Zv]
theorem Zw:∀(k:Nat) (xs:ψ) (i:Nat),(HF k xs)[i]?=(xs[i]?).map fun d=> .tup [.int (D9 (k+i)),d]
 | _,[],_=>rfl
 | k,x::r,0=>rfl
 | k,x::r,By=>by
  show(HF EL r)[i]?=_;rw[Zw EL r i,GU (k+1+i) (k+ BE)]
  rfl
def rJ(UV):bK:=A1a (HF 0 xs)
theorem yb9(BBa):AGP (Ite K a) (HF 0 xs):=by
 show oo hl;show AHU (Tm Zv) e ⟨vs,ANo,by rw[e,Zv];omega⟩
 rw[Zw] at hd;cases hx:xs[i]? with
 | none=>show AYr hx
 | some x=>
  rw[hx] at hd;cases hd;show ANt hx;show BO ⟨vs,v,ANo,hv⟩ (Α y H' z);show ij b v2 hb rfl z z;have:=A_p z;show A_ hv;show CH;show ż (HO.tup [B9,v]) s3 hb;show fT gr;unfold Rep;refine AU3 b (qX ?_ (qX (AlK gr.f) (by unfold aJ;rfl)))
  unfold Rep;simp
section
variable{X:Cx}{F0 H0:Hp}{a b e tg:Expr}{es:AE}{pos p pt:Pos}{te:aY}{t:bK}{g:rG}{tb:aF}{elts:AE}
theorem zik{x1}(hc:D6)(hg:Gl X "enumerate")(hm:Fh "enumerate")(ha:ACz)(hs:starEach [a] X.env=E9 (DE a) (E8 []):=by rfl):
  Amw AtE (rJ t):=A9K yh2 (fun ds Γ1 F1 H1 vs R1 s1 r1 h1=>by
  unfold rJ at*;show RO
  ·obtain⟨v,_,rfl,⟨l,us,rfl,hq,rs⟩,rfl⟩:=r1;exact C3 l us xC (A8z yb9)
  ·exact h1.elim)
#where
def rK:Go:=AHd (X1 ds [UO] (I_ (AI b 1 0)) [B9] (I_ i))
theorem yic:fz "int" (uD X.K rK):=by
 rintro pins s σ H xs us Q I r ⟨F,ds,P,sF,rs,h,k⟩;show BC rK;show C4
 ·show AW7;show L_;cases rx;exact call_int_bool (A1q ABa)
 ·show AW7;show L_;show OH;exact call_int_int (A1q I)
 ·show EH
theorem zr0:A7n Aoj A0q
 | [],_,BS=> BS
 | n::ns,_,AYq=>by
  show IU h;exact kr _ _ (zr0 r)
theorem TQ:A7n A0q Aoj
 | _,_,BS=> BS
 | _,_,kr _ _ r=> .cons Cf (TQ r)
def vG:I0:=lS (∃ns,AKI/\AUj/\Ŵ Ξ Ai7 AU8 Tk)
section
variable{prog:Program}{w:World}{A:Around}{E:dG}{s:Shared}
def iD(Ava)(it l:Addr)(i:Nat):Prop:=Ao8 (h.IsListIter it l i) (h.IsTupleIter it l i)
def iV(Ava)(l:Addr)(xs:D7):Prop:=Ao8 (h.IsList l xs) (h.IsTuple l xs)
theorem Kv(x:ĉ h)(k:∀o,wq it ->si it):ĉ h':=by
 cases t<;>exact Al4 k
theorem zw7(x:AQS h)(k:∀o,wq l ->si l):AQS h':=by
 cases t<;>exact Al4 k
theorem Zx(x:ĉ h):AeK (wq it):=by
 cases t<;>exact let ⟨o,ho,_,d⟩:=x;AEp BGL
theorem U4(hl:AWV)
  (hQ:AM5 (MX (AI t "tuple_iterator" "list_iterator") #[E5,u7])):AUg İ:=by
 cases t
 ·exact wpAny_pyIter_list hl hQ
 ·exact wpAny_pyIter_tuple hl hQ
theorem zl6(hit:ĉ s.heap)(hl:AWV)(hx:Sm)
  (hQ:∀h',iD t h' it l BE ->ū it ->Q x MT):Axo:=by
 cases t
 ·exact wpAny_nextOf_list_item hit hl hx hQ
 ·have hit2:s.heap.IsTupleIter it l i:=hit;show A2h;obtain⟨ol,hol,_,nl,hdl⟩:=(Cc (s.heap.IsTuple l xs) hl);show BFU;show AFd (field P8 0);show NA (dA ho hd E5) rfl;show AeN (AcQ (Value.ref l));show NA (dA ho hd (cS i)) rfl;show TN wpAny_seqItems hol hdl;show As';refine z6 (wpAny_setField ho hd Η (z7 (LZ x (z7 (hQ _ ?_ Adk)))))
  exact Ao7
theorem zv8(AN3)(hit:ĉ s.heap)(hl:AWV)(hx:xs[i]?=none)
  (hE:A_c (AiA it)):Axo:=by
 cases t
 ·exact wpAny_nextOf_list_end hh hit hl hx hE
 ·have hit2:s.heap.IsTupleIter it l i:=hit;show A2h;obtain⟨ol,hol,_,nl,hdl⟩:=(Cc (s.heap.IsTuple l xs) hl);show BFU;show AFd (field P8 0);show NA (dA ho hd E5) rfl;show AeN (AcQ (Value.ref l));show NA (dA ho hd (cS i)) rfl;show TN wpAny_seqItems hol hdl;show As';show HC wpAny_rule (z6 (wpAny_setField ho hd Η ?_))
  show LG;show AWI ADj
  show ArH
  show AWs ADj
  show L1 wpAny_handled
  first | show JJ AT3 hh | rw[hh]
  show s_ z7 wpAny_throw;exact hE _ _ A2Y AQL
structure xG (z TI TO i1 i2 l1 l2:Addr):Prop where
 p:TI≠z/\TO≠z/\i1≠z/\i2≠z/\TI≠TO/\TI≠i1/\TI≠i2/\TO≠i1/\TO≠i2/\i1≠i2
 q:l1≠z/\l1≠TO/\l1≠i1/\l1≠i2/\l2≠z/\l2≠TO/\l2≠i1/\l2≠i2
theorem xG.k{z TI TO i1 i2 l1 l2:Addr}(D:xG z TI TO i1 i2 l1 l2):ANy:=by
 obtain⟨⟨a1,a2,a3,a4,a5,a6,a7,a8,a9,a10⟩,b1,b2,b3,b4,b5,b6,b7,b8⟩:=D;exact⟨a1,a2,a3,a4,a5,a6,a7,a8,a9,a10,b1,b2,b3,b4,b5,b6,b7,b8⟩
theorem z54(AaN){z TI TO i1 i2 l1 l2:Addr}{k1 k2:Nat}{xs ys:D7}{x y a b:Value}{Q:dG}(D:ANy)(hz:AXc)(hTI:ASk s.heap)(hTO:AKX s.heap)
  (h1:AeR) (h2:AeS) (hl1:AKZ) (hl2:AKa) (hx:DC xs k1 x) (hy:DC ys k2 y)
  (hQ:∀h',ABL h' (rawInt s.heap.objs.size) ->A3j (JP (Ai0 h') AuC Av6 AYA (AP2 MT))):wpAny MO A (Builtin.«zip.__next__» (FY (ku z))) (ĭ fin (∃v,fin= .done (.ret v)/\Q v s')) E s:=by
 have kI:∀{t:Bool} {h h' :Heap} {it l c:Addr} {i:Nat},A8U:=fun x e n=>Kv x (AMO (e _ o n ho));have kS:∀{t:Bool} {h h' :Heap} {l c:Addr} {ws:D7},A8V:=fun x e n=>zw7 x (AMO (e _ o n ho));show Mm (field fE 2>>=_) _ _;show NA (dA hz rfl AMW) rfl;show Mm (field fE 3>>=_) _ _;show AXD TI;show AFu hTI;show Mm (Builtin.SmallTypes.ownedTupleIsFree fE>>=_) _ _;show LG;refine z6 (dA hz rfl AJ rfl AQO);simp only [if_true];show L1 wpAny_rule;show AXD TO;refine z6 (wpAny_setField_rec hz Η (Α g1 hz1 hs1))
 replace hz1:AFS g1:=hz1;show LG;show A9v;show AZA;refine z6 (zl6 Ap4 AoI hx fun g2 q1 hs2=>z7 ?_);have U5 :AKX g2:=hs2.extBut _ _ D.TOi1 (hs1.extBut _ _ D.TOz hTO);show AFu U5;refine z6 (wpAny_updateSeq_pair U5 (Α g3 t3 hs3));replace t3:IsPair g3 TO x b:=t3;show s_ wpAny_letGo z7;show AZA;refine z6 (zl6 BFX BFY hy fun g4 q2 Kw=>z7 ?_);have t4:IsPair g4 TO x b:=Kw.extBut _ _ D.TOi2 t3;show AFu t4;refine z6 (wpAny_updateSeq_pair t4 (Α g5 t5 Ky));replace t5:ARG g5 TO:=t5;show HC wpAny_letGo (z7 (z7 ?_));show AFu t5;show L1 wpAny_newTuple;have hsz:g5.objs.size=s.heap.objs.size:=by rw[Ky.1,Kw.1,hs3.1,hs2.1,hs1.1]
 have hz5:AFS g5:=Ky.extBut _ _ D.TOz.symm (Kw.extBut _ _ D.i2z.symm BC_);have hk5:BGp Aur:=fun c o c1 c2 c3 c4 e=>(BBS c2 Kw.extBut e);have r1:BHW g5:=kI (kI (kI q1 hs3.extBut D.TOi1.symm) Kw.extBut D.i12) Ky.extBut D.TOi1.symm;have r2:Ai0 g5:=kI q2 Ky.extBut D.TOi2.symm;have zlt:z<g5.objs.size:=zG hz5;show LG;have hz6:AFS (g5.push (ä #[x,y])):=z8 _ hz5;refine z6 (wpAny_setField_rec hz6 Η (Α g7 hz7 hs7))
 show AwQ hz7 g7 hz7;refine wpAny_setField_rec hz7 Η (Α g8 hz8 hs8)
 show AwQ hz8 g8 hz8;have up:∀c o,c≠z ->Aur ->g8.get? c=some o:=fun c o c1 e=>hs8.extBut _ _ c1 (hs7.extBut _ _ c1 NG);have hT8:ARG g8 g5.objs.size:=hs8.extBut _ _ (ADh zlt) (hs7.extBut _ _ (ADh zlt) AYb);have sz8:g8.objs.size=g5.objs.size+1:=by rw[hs8.1,hs7.1,Heap.size_push]
 rw[hsz] at hz8 hT8 sz8;refine z7 AL0;rw[hsz];exact hQ g8 hz8 (up _ _ D.TOz t5) (Kv r1 (ĝ (up _ o D.i1z e))) (Kv r2 (ĝ (up _ o D.i2z e))) hT8 sz8 fun c o c1 c2 c3 c4 e=>up c o c1 (hk5 c o c1 c2 c3 c4 e)
theorem ycq(AaN){z TI TO i1 i2 l1 l2:Addr}{k1 k2:Nat}{xs ys:D7}{a b:Value}{Q:D4 Fin}(hh:Qr)(D:ANy)(hz:AXc)(BCO) (hend:A3N)
  (hE:A_c (AYA)):E4 (Builtin.«zip.__next__» (FY (ku z))):=by
 have kI:∀{t:Bool} {h h' :Heap} {it l c:Addr} {i:Nat},A8U:=fun x e n=>Kv x (AMO (e _ o n ho));have kS:∀{t:Bool} {h h' :Heap} {l c:Addr} {ws:D7},A8V:=fun x e n=>zw7 x (AMO (e _ o n ho));show Mm (field fE 2>>=_) _ _;show NA (dA hz rfl AMW) rfl;show Mm (field fE 3>>=_) _ _;show AXD TI;show AFu hTI;show Mm (Builtin.SmallTypes.ownedTupleIsFree fE>>=_) _ _;show LG;refine z6 (dA hz rfl AJ rfl AQO);simp only [if_true];show L1 wpAny_rule;show AXD TO;refine z6 (wpAny_setField_rec hz Η (Α g1 hz1 hs1))
 replace hz1:AFS g1:=hz1;show LG;show A9v;show AZA;cases hx:xs[k1]? with
 | none=>
  show HC (zv8 hh Ap4 AoI hx) (IE g2 e hs2 he);obtain⟨oe,hoe,hce⟩:=he;have hz2:AFS g2:=hs2 _ _ D.i1z.symm hz1;show BAh hz2
  exact wpAny_setField_rec hz2 Η fun g3 _ hs3=>hE g3 e (fun c o c1 _ c3 _ x=>hs3.extBut _ _ c1 (hs2 _ _ c3 (hs1.extBut _ _ c1 x))) ⟨oe,hs3.extBut _ _ hez hoe,hce⟩
 | some x=>
  have hy:ys[k2]?=none:=by show NY hend;rw[hx] at h;cases h;exact h
  refine z6 (zl6 Ap4 AoI hx fun g2 q1 hs2=>z7 ?_);have U5 :AKX g2:=hs2.extBut _ _ D.TOi1 (hs1.extBut _ _ D.TOz hTO);show AFu U5;refine z6 (wpAny_updateSeq_pair U5 (Α g3 t3 hs3));show s_ wpAny_letGo z7;show AZA;show HC (zv8 hh BFX BFY hy) (IE g4 e Kw he);obtain⟨oe,hoe,hce⟩:=he;have hz4:AFS g4:=Kw _ _ D.i2z.symm BC_;show BAh hz4
  exact wpAny_setField_rec hz4 Η fun g5 _ Ky=>hE g5 e (fun c o c1 c2 c3 c4 x=>(BBS c1 Kw x)) ⟨oe,Ky.extBut _ _ hez hoe,hce⟩
theorem z11(AaN){z TI TO i1 i2 l1 l2:Addr}{k1 k2:Nat}{xs ys:D7}{x y a b:Value}{Q:D4 LM}(D:ANy)(hz:AXc)(hTI:ASk s.heap)(hTO:AKX s.heap)
  (h1:AeR) (h2:AeS) (hl1:AKZ) (hl2:AKa) (hx:DC xs k1 x) (hy:DC ys k2 y)
  (hQ:∀h',ABL h' (rawInt s.heap.objs.size) ->A3j (JP (Ai0 h') AuC Av6 AYA (Q (some YA) MT))):AJV fE:=by
 have hT:s.TypeIs fE "zip" :=HL hz;exact z6 (wpAny_attempt (BEr (z54 D hz hTI hTO h1 h2 hl1 hl2) hx hy (fun h' a1 a2 a3 a4 a5 a6 a7=>z7 (hQ h' a1 a2 a3 a4 a5 a6 a7))))
theorem z49(AaN){z TI TO i1 i2 l1 l2:Addr}{k1 k2:Nat}{xs ys:D7}{a b:Value}{Q:D4 LM}(hh:Qr)(D:ANy)(hz:AXc)(BCO) (hend:A3N)
  (hQ:∀h',(AYA) ->AVS):AJV fE:=by
 have hT:s.TypeIs fE "zip" :=HL hz;show AgD (BEr (ycq hh D hz hTI hTO h1 h2 hl1) hl2 hend (IE h' e hk he));show c0 ho hc he;show TN ArI (AEp hc) isSubtype_stop;exact z7 (hQ _ hk)
def U6(t:Bool):String:=if t then "tuple_iterator" else "list_iterator"
abbrev Zy(t1:Bool)(h:Heap)(l1:Addr):Heap:=A2f h.push
abbrev Zz(AZ'):Heap:=(Zy t1 h l1).push (MX (U6 t2) #[.ref l2,u7])
abbrev ZC(AZ'):Heap:=(AR1 Zz l2).push (ä #[.ref h.objs.size,.ref (Alo h)])
abbrev ZD(AZ'):Heap:=(AR1 ZC l2).push (ä #[AJ,AJ])
abbrev Ql(AZ'):Heap:=(AR1 ZD l2).push (MX "zip" #[AJ,AMW,AMW,Awb Zz,Awb ZC])
theorem z6n(x:AQS h)(o:Obj):iV t (h.push o) l xs:=zw7 x (FU e WF)
theorem FN(hl:AWV)
  (hQ:AM5 (MX (U6 t) #[E5,u7])):AUg İ:=U4 hl hQ
theorem Nj(t1 t2:Bool)(l1 l2:Addr)(xs ys:D7):AYO Builtin.«zip.__new__» [E1 "zip",.ref l1,.ref l2] (fun _ R s=>AKZ/\AKa/\R (.ok (.ret (AW (ŭ ZD)))) (Pe (Ql t1 t2 s.heap l1 l2))):=
 BD' (by
  show AOg;show GH hl1 hl2 h;have hsub:=sub_zip;have hL1:iV t1 (Shared.heap ⟨hp,g,d,tk,os⟩) l1 xs:=hl1;have hL2:iV t2 (Shared.heap ⟨A2f hp.push,g,d,tk,os⟩) l2 ys:=z6n hl2 _
  wp_walk using FN hL1,FN hL2
  exact Lv h)
theorem z1g(e:Sf (MX (U6 t) #[E5,u7])):iD t h a l 0:=by
 cases t<;>exact AbU e
theorem z4z(hl1:AKZ)(hl2:AKa)
  (h:∀h',IsZip h' AtB AsX Atx AJ ->IsPair h' AsX YA (AW Y1) ->JP (IsPair h' Atx AJ AJ) (iD t1 h' s.heap.objs.size l1 0) (iD t2 h' Y1 l2 0) (∀c o,AHn c ->si c) (EV AtB MT)):Aj9 "zip" [.ref l1,.ref l2]:=by
 refine callType_new F.called_zip τ (F.typeCall_zip_2 _ _) (F.newCall_zip_2 _ _) (Μ obj (F.args_object_init_3 obj _ _)) F.entry_zip_new (Nj t1 t2 l1 l2 xs ys) ⟨hl1,hl2,?_⟩
 show ANL z1 (Alo s.heap) lh;show Aj8 z2 (ŭ Zz) (s.heap.objs.size+2) z1
 show Aj8 z3 (ŭ ZC) (s.heap.objs.size+3) z2
 show Aj8 z4 (ŭ ZD) (s.heap.objs.size+4) z3
 have g5:(Abb Ql l2).get? (ŭ ZD)=some _:=KO;show AX9 g4 (ŭ ZC) AYb;show AX9 g3 (ŭ Zz) AnV;show AX9 g2 (Alo s.heap) (z8 _ AnV);show AX9 g1 s.heap.objs.size (AM' AnV);rw[z2,z3,z4] at g5;rw[z1,z2] at g3;rw[z3] at g4;rw[z1] at g2;rw[z4];exact⟨HL g5,h _ g5 g3 g4 (z1g g1) (z1g g2) fun c o x=>z8 _ (AM' (AM' x))⟩
#where
def Sq(t:Bool)(AlM):Prop:=Ao8 UZ n9
theorem Qm(I:Ε)(h:ArG xs):Aq' (iV t s.heap a its.toArray):=by
 cases t
 ·obtain⟨its,rv,p,hz⟩:=AfI;exact⟨its,rv,p.isList,hz⟩
 ·obtain⟨its,rv,p,hz⟩:=I.tuple h;exact⟨its,rv,p,hz⟩
theorem yek(I:Ε)(h:ArG xs)(h' :ArG ys):xs=ys:=by
 cases t
 ·exact I.list_inj h h'
 ·exact I.tuple_inj h h'
def Itz(K_)(t1 t2:Bool)(a b:Addr):It:=
 ⟨jn (∃xs ys x y,AqH/\AqI/\Sm/\Abo),fun i H v H' =>∃c x y,v= AKq/\Po c/\H' =upd H c (.tup gx)/\ (∀xs,AqH ->Sm)/\∀ys,AqI ->Abo,
  jn (∃xs ys,AqH/\AqI/\ (Acp\/ys.length<=i))⟩
theorem zap{n l1 l2:Nat}(h1:l1<n)(h2:l2<n):xG (n+4) (n+2) (n+3) n GL l1 l2:=by
 have e:∀a b:Nat,a≠b ->(a:Addr)≠b:=AiI;refine⟨⟨KA,KA,KA,KA,KA,KA,KA,KA,KA,KA⟩,KA,KA,KA,KA,KA,KA,KA,KA⟩<;>omega
theorem ybm(eS)(AaF){pos:Pos}(t1 t2:Bool)(a b z TI TO i1 i2:Addr)(D:xG z TI TO i1 i2 a b):APl An8 (Aq3 b) AbA z
  (MV h (ABL h AJ/\ASk h/\ (∃u v,IsPair h TO u v)/\iD t1 h i1 a i/\iD t2 h i2 b i)) where
 mem:=AY
 obj:=fun i h q c hc=>by
  obtain⟨q1,q2,⟨u,v,q3⟩,q4,q5⟩:=q;show AaC hc;show Ar5
  ·exact ANh q1
  ·exact ANh q2
  ·exact ANh q3
  ·exact Zx q4
  ·exact Zx q5
 keep:=fun i h h' q k=>by
  obtain⟨q1,q2,⟨u,v,q3⟩,q4,q5⟩:=q;exact⟨xN z q1,xN TI q2,⟨u,v,xN TO q3⟩,Kv q4 (ĝ (AQg i1)),Kv q5 (ĝ (AQg i2))⟩
 item:=by
  intro X hP hw hK hc i pins s σ H E I hf q hg;obtain⟨q1,q2,⟨u,v,q3⟩,q4,q5⟩:=q;show KB;obtain⟨xs,ys,x,y,hq1,hq2,hx,hy⟩:=hg;obtain⟨its,rv,p,_⟩:=Qm I hq1;obtain⟨jts,ZF,p2,_⟩:=Qm I hq2;show At ux hux rux rv.get hx;show At uy huy ruy ZF.get hy;have lt:∀c∈ AbA,Ah8:=fun c hc=>by
   show AaC hc;show Ar5
   ·exact zG q1
   ·exact zG q2
   ·exact zG q3
   ·show Ī e (Zx q4);exact Gc
   ·show Ī e (Zx q5);exact Gc
  have Dk:=D.k;refine z11 Dk q1 q2 q3 q4 q5 p p2 (x:=ux) (y:=uy) (Bi hux) (Bi huy) fun h1 a1 a2 a3 a4 a5 a6 k1=> ?_
  show fN _ (wpAny_letOwnedTupleGo_zip a1 (Α h2 e2 sb));show Arx z;have zl:=lt z Η
  have I2:ŝ (.tup gx) (Pi h2 s.toks):=
   ApI AbA [ux,uy] I (Avp (A0L Q_ Q_ e))
    lt (Ak1 (ADh zl) a5) (ApS rux ruy) Akx hf
  refine AoG ⟨_,x,y,rfl,I.fresh,rfl,fun zs hz=>(AB (yek I hz hq1) hx),fun zs hz=>(AB (yek I hz hq2) hy)⟩ ⟨e2,?_,⟨ux,uy,Dj.extBut _ _ Dk.TOz a2⟩,Kv a3 (ĝ (Dj.extBut _ o Dk.i1z e)),Kv a4 (ĝ (Dj.extBut _ o Dk.i2z e))⟩ AmL
  ·exact Dj.extBut _ _ Dk.TIz (k1 _ _ Dk.TIz Dk.TITO Dk.TIi1 Dk.TIi2 q2)
  ·exact A8k lt
 done:=by
  intro X hP hw hK hc i pins s σ H E I hf q hg;obtain⟨q1,q2,⟨u,v,q3⟩,q4,q5⟩:=q;show KB;obtain⟨xs,ys,hq1,hq2,hx⟩:=hg;obtain⟨its,rv,p,_⟩:=Qm I hq1;obtain⟨jts,ZF,p2,_⟩:=Qm I hq2;have l1:=rv.length;have l2:=ZF.length;refine z49 (I.ok.hd hc) D.k q1 q2 q3 q4 q5 p p2 ?_ fun h' k1=>(HU (Zt (t' :=s.toks) (fp:= AbA) I (fun c o hb e=>A0L Q_ Q_ e) hf))
  rcases hx with hx | hx
  ·show BQ uv
  ·show Bz uv
 self:=fun _ _ _ _ _ q h=>wpAny_pyIter_zip q.1 h
theorem yb3:AFt "zip" "zip":=ADi
def abA(Akg):TI:=AKR (∃t1 t2 a b xs ys,vs= [AF,LE]/\Sq t1 K H1 a xs/\Sq t2 K H1 b ys/\ (ì ->AK2 ->R (Aq3 b) H1))
theorem yjd{X:Cx}{a b:Expr}(ArW)(AaF){pt:Pos}(hg:Gl X "zip")(hm:Fh "zip")(ha:Aiw)(hs:starEach b9 X.env=E9 (DE a) (E8 [b]):=by rfl)(hpl:zn (WC [b]):=by rfl):
  PI X ART Auz (abA X.K ta):=by
 show fe;refine Call_ (Er I hg hm yb3 (PyProof.Rows.callWith_type1 (TU AJl us) hs hpl));show AM6;obtain⟨t1,t2,l1,l2,xs,ys,rfl,hq1,hq2,q⟩:=q1;cases r1 with
 | cons r rr=>
  cases rr with
  | cons r' rr=>
   cases rr;cases r;cases r';obtain⟨its,rv,p1,hz1⟩:=Qm I1 hq1;obtain⟨jts,ZF,p2,hz2⟩:=Qm I1 hq2;have n1:l1<s1.heap.objs.size:=by cases t1<;>exact let ⟨o,e,_⟩:=p1;Gc
   have n2:l2<s1.heap.objs.size:=by cases t2<;>exact let ⟨o,e,_⟩:=p2;Gc
   refine z4z p1 p2 fun h' e1 e2 e3 e4 e5 kp=> ?_;refine wpAny_pyIter_zip e1 ⟨AuY,[AuY,s1.heap.objs.size+2,s1.heap.objs.size+3,s1.heap.objs.size,SY],_,_,H1,rfl,AyF,
    EA (ybm t1 t2 l1 l2) _ (zap n1 n2),⟨e1,e2,Cb _ e3,e4,e5⟩,AmL,q hz1 hz2⟩
   have hb2:s1.heap.objs.size<=c:=by
    show AaC hc;show Ar5
    ·show AYK
    ·show AYK
    ·show AYK
    ·exact E7
    ·show AYK
   exact A3p hb2
def jD(xs ys:ψ):ψ:=List.zipWith (fun x y=> .tup gx) xs ys
theorem z8v(EF){F:Hp}{t1 t2:Bool}{a b:Addr}{vs us:χ}{xs ys:ψ}(hq1:AmD (Sq t1 K H1 a vs))(hq2:AmD (Sq t2 K H1 b us))(r1:XY)(r2:F8 ys us)(hz:AQ vs.length):AGP (Aq3 b) (jD xs ys):=by
 have l1:=lu r1;have l2:=lu r2;have lz:Hc jD xs ys=min xs.length ys.length:=List.length_zipWith;show AHU ρ e ⟨vs,us,AaH hq1,AaH hq2,ρ⟩
 unfold jD at hd;show Asi;cases e1:xs[i]? with
 | none=>show AYr e1
 | some x=>
  cases e2:ys[i]? with
  | none=>show AXs;cases hd
  | some y=>
   show AXs;cases hd;show è vI r1 e1;show AS u hu ru vI r2 e2;show BO ⟨vs,us,v,u,AaH hq1,AaH hq2,hv,hu⟩ (Α w H' z);obtain⟨c,v2,u2,rfl,hc,rfl,z1,z2⟩:=z;have:=z1 vs (hq1 H2 Ake);show A_ hv;show CH;have:=z2 us (hq2 H2 Ake);show A_ hu;show CH;show ż (HO.tup [v,u]) s3 hc;show fT gr;exact AU3 c (qX (AlK gr.f) (qX ((ru.up s2).up gr.f) E3))
def sqD:AxJ Bool | Ic=>some (false,xs) | JY=>some (true,xs) | _=>none
def Jk(UV):bK:=IO (MS gx (match x,y with | Ic,ĺ=>Af' | JY,ATm=>Af' | _,_=>False))
section
variable{X:Cx}{F0 H0:Hp}{a b e tg:Expr}{es:AE}{pos p pt:Pos}{te:aY}{t:bK}{elts:AE}
theorem Nk{x1}(hc:D6)(hg:Gl X "zip")(hm:Fh "zip")(ha:Age)(hs:starEach b9 X.env=E9 (DE a) (E8 [b]):=by rfl)(hpl:zn (WC [b]):=by rfl):
  Amw Auz (Jk t):=Agy (BY yjd hg hm B3 hs) hpl (AeZ (fun ds Γ1 F1 H1 vs R1 s1 r1 h1=>by
  unfold Jk at*;show RO
  ·show RO
   ·obtain⟨v,_,rfl,⟨l,us,rfl,hq,rs⟩,⟨v2,_,rfl,⟨l2,us2,rfl,hq2,Ef⟩,rfl⟩⟩:=r1;exact⟨false,false,l,l2,us,us2,rfl,xC,R1.g.seq hq2,fun hz _=>(AKH (z8v (t1:=false) (t2:=false) (fun H s=>s.seq hq) (fun H s=>s.seq hq2) rs Ef hz))⟩
   ·obtain⟨v,_,rfl,⟨l,us,rfl,hq,rs⟩,⟨v2,_,rfl,⟨l2,us2,rfl,hq2,Ef⟩,rfl⟩⟩:=r1;exact⟨true,true,l,l2,us,us2,rfl,sI R1.g hq,sI R1.g hq2,fun hz _=>(AKH (z8v (t1:=true) (t2:=true) (fun H s=>sI s hq) (fun H s=>sI s hq2) rs Ef hz))⟩
   ·exact h1.elim
  ·exact h1.elim))
#where
def m5:ο ->ψ ->Str ->Ķ
 | VA,Rl,g=>AN_ (some d) (m5 fs ds g)
 | _,_,_=>none
theorem zwg(DM){g:Str}{x:D}:∀{fs:ο} {ds:ψ} {vs:χ},m5 fs ds g=some x ->Fm ->∃v,AXl g=some v/\ic x v
 | [],_,_,h,_=>BH
 | A1,[],_,h,_=>BH
 | VA,Rl,vs,h,r=>by
  show AGg;show BC m5;show Ai';show Fs g f
  ·show AEX e;cases h;subst e;exact⟨v,AY,r1⟩
  ·show AEW e;show AS u hu ru zwg h r2;exact⟨u,BJR e hu,ru⟩
theorem Qn:Ċ fs ο (g∉fs) (AXl g=none)
 | [],_,_=>rfl
 | A1,[],_=>rfl
 | VA,AFU,h=>by
  show Ai';have h1:g≠f:=fun e=>(WA h e)
  rw[beq_false_of_ne h1];exact Qn (vs:=vs) (Μ e (h (zW _ e)))
def lO(C:Addr)(f:Str)(te:aY):aY:=AMN (C' =C/\∃x,m5 fs ds f=some x/\Be x)
def nR(Avh):aY:=AMN (pV AaS)
section
variable{X:Cx}{F0 H0:Hp}{e o:Expr}{es:AE}{pos p apos:Pos}{f m:Str}{C fa:Addr}{fd:FuncData}{ps:ο}{k:Nat}{sp:cH}{te:aY}{t:bK}
theorem wu(hc:õ)(hn:AGl)(he:L9)(hb:NH e f e e:=by rfl):B1 (.Attribute e f pos) (lO C f te):=fun z E cx=>
 mQ (BY ydf K0 hb) (De hq1 (HV hq1 (fun d Γ1 F1 H1 v R1 s1 r1 h1=>by
  cases d with
  | obj C' fs ds=>
   obtain⟨rfl,x,hx,hp⟩:=h1;obtain⟨a,dx,vs,rfl,ea,hl,rs⟩:=r1;show AS u hu ru zwg hx rs;exact⟨a,C',dx,_,u,rfl,R1.g _ _ ea,hc,hn,hu,ce x H1 u R1 s1 ru hp⟩
  | _=>show wp)))
theorem ygo(hc:õ)(hm:Meth X.K C m fa)(Fn:AIE fO (AO6 gH) k fa fd ps (pQ X.K sp))(hr:Ø)(hb:AOx)(ho:ARt)(Ahx) (hpl:AHl:=by rfl)
  (ht:eval AJ2 X.env=(do
   let ov<- DE o
   Ť
   let (f,first)<- AAL m pl
   AAX (WC Da) AFr):=by rfl):
  BBX:=by
 rintro z E cx pins s σ H Q I ⟨F,Γ,P,R,h,kk⟩;show AX_ (AZr (Nl bv (pV AaS)) (fun d Γ1 F1 H1 v R1 s1 r1 h1=>AV4)) ⟨x,H1,I1,rx,F1,Γ1,d,R1,sF,rd,q⟩
 cases d with
 | obj C' fs ds=>
  show AZ1;have Nm:=rd;obtain⟨a,dx,vs,rfl,ea,hl,rs⟩:=rd;show SC;show AYC;show Ar' (bV (BDR (fun es Γ2 F2 H2 vs R2 s2 r2 h2=>AsE))
   fun us s2 ⟨ws,H2,I2,r,F2,Γ2,es,R2,Dl,Ef,q2⟩=>(Do I2.kIn))
  exact AOn (MP (us:= AF::us) (vs:= AF::ws)) I2 R2 Ate (qX (Nm.up Dl) Ef) q2 fun d v F' H' gr rv hp=>(ASJ Γ2 Asl A3_)
 | _=>show ff
#where
inductive Ck (K:W.Frag) (C:Addr) (f:Str) (sp:cH) (yo):Prop
 | mk:∀x dx rest F ds Pd Ex,BHe ->(Co H (qB [])) ->(AP4 dx x) ->JP (AQ_) æ (F x=none) (F dx=none) (BIM (∀d F' H' H3 v,Ρ AhF OX (Pd d) (H' =upd H3 x (qB AM2)) (Q Ι H')) Ck)
def uF(K:W.Frag)(C:Addr)(f:Str)(sp:cH):Sp:=fun vs H Q E=>(ARZ Ck)
theorem zry(h:gH P w outer H2 s2 E e s')(os:s2.os=s.os)(un:BHs H2 s.heap s2.heap)(kp:iq Mo (ET s2.heap.get?)):AX4 gH :=by
 obtain⟨a,C,H',B,dx,h1,h2,h3,h4,h5,h6,h7,h8,h9⟩:=h;exact⟨a,C,H',B,dx,h1,h2.trans os,h3,un.trans h4,h5,h6,jS (h7 b o (kH kp) n),h8,h9⟩
def Cm(C:Addr)(f:Str)(sp:cH):cH:=m3 (sp ds (se (P (.obj C [f] [d]))) E)
section
variable{P:Program}{w:World}{K:W.Frag}{mg:CB}{base:Heap}
theorem yff{x qual:Str}{st st1:Stmt}(AZP){N ps:ο}{k:Nat}{sp:cH}{C:Addr}{fl:Str}{value:Expr}{px pos' pos:Pos}(Fn:AGh)(hbd:v9 st= [st1,.Assign (Adg Awq fl) value pos])(S:EJ N AtR st)
  (hc:L2.Cls K C) (hn:aR K C fl) (hN:DC N 0 BI6) (abB:rF (bB st) "self") (len:∀ds Q E,sp ds Q E ->AEP)
  (hbody:∀(cdv:Value) (A:Around) (outer:EG) (s:Shared) (H:Hp) (E:XK),AOu (∀F0:Hp,
   APA (swapsWith value (some (AAc Awq fl pos')) pos.line (AIS env))/\
   ∃t te,QS (kB AHp) F0 H st1 t/\QE (kB AHp) F0 H value te/\
    ∀a ds Q Ex,sp ds Q Ex ->t (AJD (fun Γ=>te Γ (fun d Γ' =>A9q) VO) L7) (jh N Ag7) VO)):
  IC fO av EL f fd AtR (uF K C fl sp):=by
 obtain⟨oc,od,kV,doc,pm,an,cdv,ct,osl,rfl,lk,hcd⟩:=Fn.ex;show AbL (fun A outer s H vs Q E hr hq2=> ?_)
 ·obtain⟨x,dx,rest,F,ds,Pd,Ex,e,_,_,_,_,_,_,rs,hs,_⟩:=hq1;rw[e,List.length_cons,List.length_cons,<- lP,AY6]
 obtain⟨a,dx,rest,F0,ds,Pd,Ex,ev,hx,hdx,hne,sF,fx,fdx,rs,hsp,hQ,hE⟩:=hq2;subst ev;obtain⟨hsw,t,te,ht,hte,hq⟩:=BHL;show AZ_ (by
  show AN9 (fun pins σ Γ F H1 s1 e s' I R hx=> ?_);show AO5;obtain⟨Γ',F',x,R',_,xr,_,z1⟩:=z;exact AbP)
 rw[hbd];show fT (zzx (ht _ _ cx) (z82 (z9j (um (i:=0) hN abB) (hte _ _ cx) hsw)));refine⟨F0,jh N Ag7,_,YZ sF (qX E3 rs),hq a ds Pd Ex hsp,⟨fun Γ F' H' σ R' s' q=> ?_,fun _ _ _ _ _ _ q=>q.elim,fun _ _ _ _ _ _ q=>q.elim,fun _ _ _ _ _ _ q=>q.elim,fun _ _ _ _ _ _ q=>q.elim,fun _ _ _ _ _ _ _ _ _ q=>q.elim,fun _ _ _ _ _ _ _ _ q=>q.elim⟩⟩
 refine⟨F',Γ,_,R',q,fun d Γ1 F1 H1 v R1 s1 rv hp=> ?_⟩;obtain⟨h0,hp⟩:=hp;show c0 eo ro (R1.sl 0 _ h0);show JO u ru ro;subst ru;exact⟨AF,eo,a,C,dx,[],rfl,R1.gr.h _ _ hx,hc,hn,Κ,hQ d F1 _ H1 v R1.gr rv hp rfl⟩
#where
section
variable{X:Cx}{F0 H0:Hp}{e:Expr}{es:AE}{pos p:Pos}{x fl:Str}{C f:Addr}{fd:FuncData}{ps:ο}{k:Nat}{sp:cH}{t:bK}
theorem yhi(M:Mk X.K C f)(Fn:AeA (uF X.K C fl sp))(hr:dH EL X.A)(hg:Gl X x)(hm:Co X.mg WE)(hb:AOx)
  (AJi):
  BAV:=by
 rintro z E cx pins s σ H Q I ⟨F,Γ,P,R,h,kk⟩;show AO1;refine W.callWith_K (h₀:=X.base) I.ok.mod.Hv M.kp (As5 (se (Be (.obj C [fl] [d]))) (fun ds Γ1 F1 H1 vs R1 s1 r1 h1=>AV5)) he hpl;obtain⟨vs,H1,I1,r,F1,Γ1,ds,R1,sF,rs,q⟩:=hz1;show ALb;have I2:=Inv.made (C:=C) I1;show A6z;have n2:di s1.heap.objs.size:=I1.hok.fresh (zN _);have ne:s1.heap.objs.size≠SY:=AYv;show AXg kp (ET (ARR AVn).get?) (z8 _ NG);have sH:Same H1 ADa:=LX (IF (Hm n1) (Hm n2) e)
 have f1:F1 MR=none:=by
  cases q:F1 (SY) with
  | none=>rfl
  | some o=>show GT (R1.g _ _ q) n1 n1
 have f2:F1 s1.heap.objs.size=none:=by
  cases q:BIV F1 with
  | none=>rfl
  | some o=>show GT (R1.g _ _ q) n2 n2
 have hs:uF X.K C fl sp Asm ADa (fun v H' =>Au_) (fun C' J9 H' =>∃x F',E Γ1 x/\AoA /\A_j):=by
  refine⟨MR,s1.heap.objs.size,vs,F1,ds,_,_,rfl,jJ,Amf,ne,Atm,f1,f2,rs,q,?_,fun x C' J9 F' H' hE gr xr=>⟨x,F',hE,gr.low sH,xr.back sH⟩⟩
  rintro d F' H' H3 v gr rv hp rfl;show ALa;have g1:F' MR=none:=by
   cases q:F' (SY) with
   | none=>rfl
   | some o=>
    show AKh (gr.n _ _ q f1) z e' z
    ·rw[jJ] at z;cases z
    ·rw[jJ] at z;cases z;cases e'
  have g2:F' s1.heap.objs.size=none:=by
   cases q:BIV F' with
   | none=>rfl
   | some o=>
    show AKh (gr.n _ _ q f2) z e' z
    ·rw[cR ne,jJ] at z;cases z
    ·rw[cR ne,jJ] at z;cases z;cases e'
  have abC:H3 s1.heap.objs.size=some AbW:=gr.h _ _ (by rw[cR ne,jJ])
  have Jh:Gr F1 H1 A9a (Abn H3 [(fl,v)]):=by
   show CA ANP ANP ANP (jS ?_)
   ·rw[Hm f1,Hm f2];exact gr.f _ _ e
   ·show qi MR
    ·subst hb;rw[jJ] at e⊢;exact e
    ·rw[ZU] at e⊢;show Amk
     ·subst hb2;rw[jJ] at e;cases e;exact abC
     ·rw[AVF] at e;exact gr.g _ _ e
   ·rw[Hm n1];exact AIe gr.h sH
   ·show qi MR
    ·subst hb;exact .inl n1
    ·rw[ZU] at e;show Amk
     ·subst hb2;exact .inl n2
     ·rw[AVF] at e;have:=gr.n _ _ e n;unfold wZ at this⊢;show X_ ZU AVF;exact this
  refine kk _ Γ1 _ _ _ (R1.grow Jh) (APz Jh.f) ?_ hp;have s2:Same F' A9a:=LX (IF (Hm g1) (Hm g2) e)
  exact⟨MR,s1.heap.objs.size,[v],rfl,jJ,rfl,qX (rv.up s2) E3⟩
 show AG5 AFL (by
  have e:=ADU;rw[List.length_cons,<- r.length,<- List.length_cons (a:=AUy),e])
 show A6e AFL I2.kIn AxD
 show Ű;show BFg;show ATV (Fn.run _ X.stack _ _ (FY (Abw::us)) AFL _ _ _ (hr.make C us []) (I2.env0.make C us []) hbs (AoF (AW MR) MR) hs) (gS hq');cases r with
 | error e=>
  refine Arc I1 R1 (zry hq' rfl ?_ kp);show BEz CC n2;have u2:BEW AVn:=Un.laid AKJ Aox (B6 (cR (Ne.symm ne)) n1)
  exact u1.trans u2
 | ok fl' =>
  cases fl' with
  | ret u=>
   obtain⟨v,H',I3,rv,ev,q3⟩:=I2.after hq';subst ev;exact⟨rv,IB AUy H' I3 q3⟩
  | next=>show AEg
  | brk=>show AEg
  | cont=>show AEg
#where
structure Az (ArP cH):Prop where
 ex:Arq pQ
structure Mk2 (Avt):Prop where
 ex:AQC (BH1 uF) (Mk K C f) Adi
def U7(Aoz):aY:=Ar8 JY (¬(HT.sIx xs.length 0 l=0/\HT.sIx xs.length xs.length u=xs.length)/\P (.tup A5V) Γ3)
section
variable{X:Cx}{F0 H0:Hp}{e o:Expr}{lo hi:ADw}{es:AE}{pos p p2 apos:Pos}{x m fl:Str}{C:Addr}{ps:ο}{k:Nat}{sp:cH}{te:aY}{tl th:Ft}{t:bK}
theorem Jm(A9J Az)(Ahx) (hpl:AHl:=by rfl)
  (ht:eval AJ2 X.env=(do
   let ov<- DE o
   Ť
   let (f,first)<- AAL m pl
   AAX (WC Da) AFr):=by rfl):BBX:=by
 obtain⟨f,fd,h1,h2,h3⟩:=G.ex;exact ygo hc h2 h1 hr h3 ho ha hst hpl ht
theorem zz7(G:AIE Mk2 x C fl k ps sp)(hr:dH EL X.A)(hg:Gl X x)(AJi):
  BAV:=by
 show AOh h1 h2 h3 h4;exact yhi h2 h1 hr hg h3 h4 ha hdb he hpl
theorem z3k(BES):AMi e Arm (U7 te tl th):=fun z E cx=>
 mQ (A_H ykb) (De yq (HV yq (fun d Γ1 F1 H1 v R1 s1 r1 h1=>(gT (fun l Γ2 F2 H2 R2 s2 h2=>(Aqm (fun u Γ3 F3 H3 R3 s3 h3=>by
  cases d with
  | tup xs=>
   have r3:=r1.up (s2.trans s3);show BV a vs hq rs r3;show oo hlen;refine⟨a,vs,rfl,sI R3.g hq,BA hlen h3.1,Z'⟩
   show ż (HO.tup (wY vs l u)) R3.g hp;refine k _ Γ3 _ _ _ (R3.grow gr) (AAe (AmE gr.f)) ?_ h3.2;exact AU3 p ((zy5 rs l u).up gr.f)
  | _=>show VX h3)))))))
def adP:cH:=Rs
#where
mutual
def pY:uk
 | Y2=>False
 | wn=>False
 | wx=>False
 | wy=>False
 | AEl=>False
 | JY=>jd xs
 | .obj _ fs xs=>CZ fs=false/\jd xs
 | _=>True
def jd:P9
 | []=>True
 | Rl=>pY d/\ÿ
end
section
variable{K:W.Frag}{F F' :Hp}{A:AfY}
mutual
theorem yhz(hA:cz F (LD u\/Pc F')):BB'
 | Ι,_,_,h=>GY
 | Iy,_,_,h=>GY
 | IM,_,_,h=>GY
 | GW,_,_,h=>GY
 | wo,_,_,h=>GY
 | we,_,n,h=>by
  show AZY;refine⟨a,vs,h0,?_,ZG hA ds vs n h2⟩;show ASw h1 h1 h1 h1
  ·show J_ AGv
   ·exact z.tup.elim
   ·show BQ (Db z)
  ·show J_ AGv
   ·exact z.frz.elim
   ·show BQ (CL (OR z))
  ·show Bz h1
 | AUM,_,n,h=>by
  obtain⟨a,dx,vs,h0,h1,h3,h4⟩:=h;refine AM7 h0 ?_ h3 (ZG hA ds vs n.2 h4);show J_ AGv
  ·have:=z.ins;show X_ (YH h3) n.1;show CH
  ·exact z
 | Y2,_,n,_=>ZA
 | wn,_,n,_=>ZA
 | wx,_,n,_=>ZA
 | wy,_,n,_=>ZA
 | AEl,_,n,_=>ZA
theorem ZG(hA:cz F (LD u\/Pc F')):BCG
 | [],_,_,h=>GY
 | Rl,_,n,h=>by
  obtain⟨v,r,h0,h1,h2⟩:=h;exact⟨v,r,h0,yhz hA d v n.1 h1,ZG hA ds r n.2 h2⟩
end
#where
def acH(Hn):aY:=AqJ gb (pY d)
section
variable{X:Cx}{F0 H0:Hp}{e:Expr}{te:aY}
#where
theorem z0c(A9f):AbI j (ds.set j d) (vs.set j v)
 | [],vs,j,r=>Afl
 | x::ds,vs,j,r=>by
  show BV u us r1 r2 r;cases j with
  | zero=>exact qX h r2
  | succ j=>exact qX r1 (z0c h j r2)
def Np(i:Nat)(ti te:aY):aF:=AFb ((∃xs,Se AI4)/\QP ti k (match k,Γ2[i]? with
 | OS,some AI4=>∃j,A1m/\AAx Γ2.set (.ow (xs.set j d))
 | _,_=>False))
section
variable{X:Cx}{F0 H0:Hp}{x:Str}{pos pos' npos:Pos}{e k:Expr}{i:Nat}{te ti:aY}
theorem ydj(ABy)(hk:B1 k ti)(he:L9)(hd:BM x "__debug__":=by decide)(hcd:BM x "__classdict__":=by decide)
  (ha:∀v,assign Ayv X.env v=(do
   let ov<- A2M EN
   let iv<- holding [v,ov] (eval k X.env)
   standAt pos'
   A'n
   Aye):=by show NU)
  (hs:AWf AWY e:=by rfl) (hw:swappedStores AWY e X.env=pure none:=by rfl)
  (h1:AGx AWY (·.2)= [ATS Ayv]:=by rfl):
  AHy AWY e (Np i ti te):=fun z E cx=>
 sJ (BY ykf K0 (BY ykn NN Afr z9o ha) hs hw h1) (VZ Dn hq1 (by obtain⟨F,Γ,D2,R,h,kk⟩:=hq1;exact EI (fun d Γ1 F1 H1 v R1 s1 r1 h1=>by
  obtain⟨⟨xs,e0⟩,h2⟩:=h1;obtain⟨o,e1,a,vs,rfl,g1,g2,g3,r⟩:=AVJ;refine⟨AF,e1,F1,Γ1,_,R1,h2,fun k Γ2 F2 H2 kv R2 s2 rk q=> ?_⟩;split at q
  ·rename_i k' xs' e2;obtain⟨j,hj,q⟩:=q;obtain⟨o,e3,a',ws,rfl,w1,w2,w3,o9⟩:=Amh;rw[e1] at e3;cases e3;subst rk;have hl:=lu o9;refine⟨a,ws,k',j,rfl,rfl,w1,BA hl hj,?_⟩
   exact EA kk.nx (R2.wr e2 e1 (z0c (r1.up s2) j o9)) L6 q
  ·exact q.elim)))
#where
section
variable(K:W.Frag)(F0 H0:Hp)
inductive UpR (t:aY) (E:XW) (σ:St) (H:Hp) (Q:VK):Prop
 | mk:BAs (Rep K AkH d v) UpR
def upR(t:aY)(E:XW):TE:=yT UpR
inductive U8 (A1o):Prop
 | mk:BAt (aJ K AkH ds vs) U8
def abD(AMd):TA:=yT U8
#where
def QR(NC)(e:Expr)(t:aY):Prop:=AM9 upR
def QRA(A1c):Prop:=kT PA es abD
section
variable{X:Cx}{F0 H0:Hp}{e:Expr}{es:AE}{pos:Pos}{te:aY}
def cNl(Hn):aY:=AAo (pY d/\AIg)
def adQ(Uf):aY:=SU (ML Γ[i]? Afs (ÿ/\A2N))
theorem z5l(DM){a:Addr}{vs:χ}(h0:SK F0)(h:Ad_):kZ K (jt F0 F) a vs:=by
 have e:jt F0 F a=F a:=zqj (FS q (AM1 h0))
 show NY h
 ·left;unfold Rd at h⊢;rw[e];exact h
 ·show Bz h
def U9(UV):aY:=IO (ÿ/\Be ABf)
def acI(Hn):aF:=A1R (D.rf d)
#where
inductive FP (K:W.Frag) (sp:cH) (yo):Prop
 | mk:Ar3 ((AOs (Rep K (jt F F') d v) (P d))) FP
def Va(K:W.Frag)(sp:cH):Sp:=ANE FP
structure adR (YI) (x:Str) (k:Nat) (ps:ο) (sp:cH):Prop where
 ex:AOf Va
section
variable{P:Program}{w:World}{K:W.Frag}{mg:CB}{base:Heap}
#where
section
variable{X:Cx}{F0 H0:Hp}{e:Expr}{es:AE}{pos p:Pos}{x:Str}{f:Addr}{fd:FuncData}{ps:ο}{k:Nat}{sp:cH}{t:bK}{te:aY}
def FQ(Hn):aY:=þ te gb d ñ
#where
def Vb(tf:bK)(tb:aY):bK:=KI tf xs (QP tb d (Nl OS ((-(2^63)<=k/\k<2^63/\Awk)/\P AnB Γ2)))
theorem z1b(EF){F:Hp}{xs:ψ}{vs:χ}(h:XY):∀k:Nat,F8 (ki k xs) (ki k vs)
 | 0=>ALN
 | k+1=>by
  show AwO List.flatten_cons List.flatten_cons;exact zdt h (z1b h k)
section
variable{X:Cx}{F0 H0:Hp}{a b:Expr}{pos:Pos}{tf:bK}{tb:aY}
theorem yla(ha:i9 a tf)(hb:d4):BJq .Mult (Vb tf tb):=fun z E cx=>
 mQ (yhd yky B3 FK) (De Es (HV Es (fun xs Γ1 F1 H1 l vs R1 s1 e1 e2 e3 r1 ap h1=>by
  obtain⟨s2,_⟩:=T7 R1.g e1 e2;refine⟨_,Γ1,_,R1.frzA e1 e2 e3 ap,h1,fun d Γ2 F2 H2 v R2 s3 r2 h2=> ?_⟩;split at h2
  ·rename_i n;subst r2;have hl:F2 l=some Lc:=s3 _ _ jJ;refine⟨l,n,vs,rfl,rfl,R2.g _ _ hl,h2.1.1,h2.1.2.1,BA (lu r1) h2.1.2.2,Z'⟩
   have rr:=z1b (r1.up Ake) n.toNat;obtain⟨R3,q1,q2,q3,ap3⟩:=Fg R2 hp rr;exact k _ Γ2 F2 _ p _ R3 AM3 q1 q2 q3 rr ap3 h2.2
  ·exact h2.elim)))
#where
def Qo{α:Type}(lt:eI):Ajv ->α
 | .ret a=>a
 | Aas=>Qo lt (k AL4)
def Nq(FI)(lt:eI)(n:Nat):mM Ajv
 | .ret _=>true
 | Aas=>Θ CO&&(Θ (j<n)&&(Θ (i≠j)&&Nq lt n (k AL4)))
theorem yef(hc:∀i j (C:D4 Bool),Ρ CO (j<n) (i≠j) (C AL4 s) (cmp i j C s)):
  ∀(t:Ajv) (Q:D4 α),Nq lt n t=true ->Q (Qo lt t) s ->t.kasWp cmp Q s
 | .ret _,_,_,h=>h
 | Aas,Q,ok,h=>by
  unfold Nq at ok;show Akc ok;exact hc i j _ ok.1 ok.2.1 ok.2.2.1 (yef hc (k AL4) Q ok.2.2.2 h)
def abE(AqE i Int):Prop:=∃(x:Addr) (o:Obj) (xs:D7) (m:Nat) (t:Tok),v= AQl/\Co h.get? o/\o.cls= E1 "tuple" /\o.data= .seq xs m/\DC xs 0 AJh
inductive FT (h:Heap):BG Β Ξ
 | nil:FT h [] []
 | cons {v i vs is}:abE h v i ->FT h vs is ->FT h (v::vs) (i::is)
def ltI(ns:Ξ)(i j:Nat):Bool:=Θ (kM<Adj)
def FW(ns:Ξ):AT:=if ASs 2 then List.range ns.length else(Qo (ltI ns) (W.kas_sort ns.length)).toList
def Vc(ns:Ξ):Prop:=ASs 2\/ (AUj/\ns.Nodup/\Nq (ltI ns) ns.length (W.kas_sort ns.length)=true)
section
variable{prog:Program}{w:World}{A:Around}{E:dG}{s:Shared}
theorem z5m{vs:Β}{p:YE}(hp:AHa p.size):AHa (List.toArray (p.toList.map fun i=>vs.getD i Value.none)).size:=BD hp
#where
def z5s:AUo Int
 | []=>Ļ
 | .tup (B9::_)::r=>Aiq z5s
 | A1=>none
def ylr:I0:=lS (∃ns,z5s xs=some ns/\Vc ns/\ (∀i∈FW ns,Afd)/\ AQ (BI FW ns)/\P (AA FW ns (D3 (xs.getD i Ι))))
theorem zvq(h:Q1):Ay5 mh (Vals (Aoi xs.getD) (is.map (BGP us.getD)))
 | [],_=> BS
 | i::is,k=>by
  have hi:=k i zY;show ANx (h.get (zZ hi));refine .cons ?_ (zvq h AyO);show RelV (AQH Ι) (us.getD i Value.none);show AvI hu;exact ru
theorem zuy(EF){F:Hp}{ds:ψ}{vs:χ}(h:Fm):Ay5 (i<ds.length) (F8 (Aoi ds.getD) (Aoi vs.getD))
 | [],_=>ALN
 | i::is,k=>by
  have hi:=k i zY;obtain⟨v,hv,rv⟩:=vI h (zZ hi);refine qX ?_ (zuy h AyO);show ic (ds.getD i Ι) (vs.getD i Ι);show AvI hv;exact rv
def FZ(xs:AT):Prop:=xs.Pairwise (· < ·)
theorem Vd(h:FZ xs)(hij:i<j)(hj:Afx):xs[i]'(Nat.lt_trans hij hj)<xs[j]:=List.pairwise_iff_getElem.mp h i j _ hj hij
structure ZJ (xs:AT) (j b:Nat):Prop where
 le:b<=xs.length
 lo:AuT (k<b) (xs[k]<j)
 hi:AuT (b<=k) (j<=xs[k])
theorem zt3(hr:AVq):∀(f lo hi:Nat),FH (lo<=hi) (hi<=xs.toList.length) (hi - lo<=f) (AuU (k<lo) (BKC<j)) (AuU (hi<=k) (j<=BKC)) (ZJ xs.toList j (SetTable.below.go xs j f lo hi))
 | 0,lo,hi,h1,h2,h3,h4,h5=>by
  show ME lo hi
  exact⟨h2,h4,h5⟩
 | f+1,lo,hi,h1,h2,h3,h4,h5=>by
  unfold SetTable.below.go;by_cases hl:lo<hi
  ·show D1 hl;have hm1:lo<=aa:=ρ
   have hm2:aa<hi:=ρ
   have hm:aa<xs.toList.length:=ρ
   have hg:xs.getD (aa) j=xs.toList[aa]:=by
    have:aa<xs.size:=AN hm
    simp [Array.getD,this]
   dsimp only;rw[hg];by_cases hc:xs.toList[aa]<j
   ·show D1 hc;refine zt3 hr f _ hi ξ h2 ξ (Α k hk hlt) h5
    show Fs k aa
    ·show e9 hc
    ·exact Nat.lt_trans (Vd hr (ρ:k< aa) hm) hc
   ·show An hc;refine zt3 hr f lo _ ξ ξ ξ h4 (Α k hk hle)
    show Fs k aa
    ·subst e;omega
    ·have:=Vd hr (ρ:aa<k) hk
     omega
  ·show An hl;show ME lo hi
   exact⟨h2,h4,h5⟩
theorem zz2(hr:AVq)(j:Nat):ZJ xs.toList j AyC:=C7 (zt3 hr _ 0 _ fF Η ξ (fun k _ h=>ρ) fun k hk h=>by simp at hk;omega)
theorem yj5(h:ZJ xs j b)(k:ZJ xs j c):b=c:=by
 rcases Nat.lt_trichotomy b c with q | q | q
 ·have hb:b<xs.length:=zM q k.le;have:=k.lo b hb q;have:=h.hi b hb (zN _);omega
 ·exact q
 ·have hc:c<xs.length:=zM q h.le;have:=h.lo c hc q;have:=k.hi c hc (zN _);omega
theorem yhn(hr:AVq)(hn:xs[Axz]?≠some j):FZ (SetTable.insertAt xs AyC j).toList:=by
 rw[SetTable.toList_insertAt];have hb:=zz2 hr j;generalize Axz=b at*;have hn' :∀(h:b<xs.toList.length),xs.toList[b]≠j:=fun h e=>hn (by rw[<- Array.getElem?_toList,d6,e])
 unfold FZ;rw[List.pairwise_append];show Y_ hr.take (IE a ha c hc)
 ·rw[List.pairwise_cons];show BO AmL hr.drop;show xI k hk hc;rw[List.length_drop] at hk;rw[List.getElem_drop];have h1:=hb.hi (b+k) ξ ξ
  show Fs k 0
  ·subst e;have:=hn' ξ
   omega
  ·have:=Vd hr (ρ:b<b+k) ξ
   have:=hb.hi b ξ (zN _)
   omega
 ·show xI k hk ha;rw[List.length_take] at hk;rw[List.getElem_take];have h1:=hb.lo k ξ ξ
  show P6 hc hc
  ·exact h1
  ·show xI m hm hc;rw[List.length_drop] at hm;rw[List.getElem_drop];have:=hb.hi (b+m) ξ ξ
   omega
theorem z2u(hr:AVq)(hi:i<=xs.toList.length):SetTable.below xs (ASy (0<i) (xs.toList[i - 1]' ξ+1) 0)=i:=by
 refine yj5 (zz2 hr _) ⟨hi,Α k hk hlt,Α k hk hle⟩
 ·rw[dif_pos ξ]
  show Fs k (i - 1)
  ·show e9 Afa
  ·have:=Vd hr (ρ:k<i - 1) ξ
   omega
 ·split
  ·rename_i h0;have:=Vd hr (ρ:i - 1<k) hk
   omega
  ·exact DV
structure Dm (led:Bool) (t:SetTable):Prop where
 ZK:Asg
 ZL:Ajw
 led:t.led=led
theorem z3q:Dm led (.fresh 0 0 led):=LZ (Q2 SetTable.fresh FZ) rfl
theorem z43(n:Nat):FZ (Array.range n).toList:=AB Array.toList_range List.pairwise_lt_range
theorem ZM(h:AMm)(n:Nat):Dm led (t.standIn n):=LZ (z43 n) h.led
theorem z6y(h:AMm):Dm led {t with plain:=false}:=⟨h.ZK,h.ZL,h.led⟩
theorem z5t(j:Nat):SetTable.has #[] j=false:=BD SetTable.has
theorem zr4{t:SetTable}(hd:Ajw){j:Nat}:(A0y ->t.place[SetTable.below t.place j]?≠some j)/\t.slot j≠ .dummy:=by
 unfold SetTable.slot;rw[hd,z5t];dsimp only;split
 ·exact ADf (AC AJJ) AJJ
 ·show GN;exact ADf (C6 (Bi q)) AJJ
theorem zy4{t:SetTable}(hd:Ajw){ha:fR}{h:Int}:∀(f:Nat) (p:SetTable.Probe) {j:Nat} {dm:Ev Nat},p.dummy=none ->SetTable.probe.go t ha h f p=some (.empty j dm) ->dm=none/\A0y
 | 0,p,j,dm,_,e=>AS2
 | f+1,p,j,dm,hp,e=>by
  have adv:(t.advance p).dummy=none:=by
   unfold SetTable.advance;split<;>exact hp
  show LA SetTable.probe.go;split at e
  ·show GN;cases e;exact⟨hp,q⟩
  ·show GN;exact absurd q (zr4 hd).2
  ·rename_i i q;split at e
   ·cases e
   ·exact zy4 hd f _ adv e
theorem yfq{led:Bool}{t:SetTable}(h:AMm)(es:pM)(k:Int)(x:Value):Dm led (layNew t es k x).2.1:=by
 unfold layNew;split
 ·rename_i slot wd q;unfold SetTable.freeSlot at q;split at q
  ·rename_i j dm e;cases (q);show Č hs (zy4 h.ZL _ _ rfl e);have hn:=(zr4 h.ZL).1 hs;dsimp only [Option.getD_none];have hp:Dm led (t.put j).1:=⟨yhn h.ZK hn,by show(AI (SetTable.has t.dummies j=true) _ t.dummies)= #[];rw[h.ZL,z5t];rfl,h.led⟩
   unfold SetTable.orStandIn;split
   ·exact hp
   ·exact ZM hp _
  ·cases q
 ·exact ZM h _
theorem z7y(h:AMm)(es:pM)(n:Nat):Dm led (relayAll t es n).2.1:=by
 unfold relayAll;split
 ·rename_i t' order q;dsimp only;split
  ·unfold SetTable.relaid SetTable.laid at q;cases e:SetTable.layClean (SetTable.sizeAbove n - 1) (es.map (·.1)) with
   | none=>rw[e] at q;cases q
   | some owner=>
    rw[e] at q;cases (q);show fN ?_ h.led;have sub:∀l:AT,((l.filterMap fun j=>(owner.getD j none).map (j, ·)).map (·.1)).Sublist l:=by
     intro l;induction l with
     | nil=>exact List.Sublist.refl _
     | cons a r ih=>
      rw[List.filterMap_cons];cases owner.getD a none with
      | none=>exact ih.cons _
      | some v=>exact ih.cons₂ _
    exact List.Pairwise.sublist (sub _) List.pairwise_lt_range
  ·exact ZM h _
 ·exact ZM h _
section
variable{prog:Program}{w:World}{κ:Type}[TZ](knd:pE)(kf:xp)
structure pZ (led:Bool) (o:Obj) (ks:YV) (es:pM) (ep:Nat) (t:SetTable):Prop where
 ex:o.ExactSet
 dat:A'h
 el:AYJ es.toList
 fit:t.fits es.size=true
 tok:AMm
 key:(es.toList.map AiR).Perm ks
def tY(led:Bool)(h:Heap)(a:Addr)(ks:YV):Prop:=∃o es ep t,nv/\yi
def rM(ks:YV)(k:κ):YV:=AqC ANa
variable{knd kf}(hkf:AoS)
include hkf
theorem ygb(el:AYJ es):k∈es.map (Μ e (kf e.2))↔∃e∈es,knd.is k e.2=true:=by
 rw[List.mem_map];constructor
 ·show ADg e he;obtain⟨⟨k',hk',_⟩,_⟩:=el e he;exact⟨e,he,AB (hkf k' _ hk') hk'⟩
 ·rintro⟨e,he,hk⟩;exact⟨e,he,hkf k _ hk⟩
variable{A:Around}{E:dG}{s:Shared}{a:Addr}{ks:YV}{led:Bool}
theorem z55{h:Heap}{o:Obj}{es:pM}{ep:Nat}{t:SetTable}(hg:nv)(hd:A'h)(es' :pM)(t' :SetTable):
  Dx (h.update a (Obj.putSet es' t')).get? A7e:=by
 have z:=Heap.get?_update_self (Obj.putSet es' t') hg (EK A_C)
 rwa [A_C] at z
omit hkf in
theorem pZ.put(S:yi)(el:AYJ es'.toList)(fit:t'.fits es'.size=true)(tok:Dm led t')(key:(es'.toList.map AiR).Perm ks'):
  pZ knd kf led A7e ks' es' (ep+1) t' :=⟨S.ex,rfl,el,fit,tok,key⟩
theorem yjv{k:κ}{x:Value}{Q:D4 Bool}(hx:knd.is k x=true)(hsc:x.scannable=true)(S:AFR s.heap a ks)(hb:ALf ks.length)
  (h:∀b h',ū a ->AFR h' a (rM ks k) ->Q b MT):E4 (setAddHashed a x (knd.hash k)):=by
 obtain⟨o,es,ep,t,hg,S⟩:=S;have hsz:es.size=ks.length:=u_ S.key.length_eq
 have hmem:=ygb hkf S.el (k:=k);refine AQZ [x] (DD (setState a) (wpAny_setState_of hg S.dat S.fit ?_));dsimp only;rw[byScan_of hsc (ρ:es.size<scanBound) S.el]
 show HC (DD (rule _)) (wpAny_rule (DD (setScan a x _ _ _) (wpAny_setScan_of hx hg S.dat S.fit S.el ?_)));cases hr:List.findIdx? (Μ e (knd.is k e.2)) es.toList with
 | some j=>
  obtain⟨hj,hpj,_⟩:=List.findIdx?_eq_some_iff_getElem.mp hr;have hk:ANa:=S.key.mem_iff.mp (hmem.mpr (Cb (yU hj) hpj));refine A9 (A9 ?_);have z:=h false s.heap (Heap.SameBut.refl a s.heap) ⟨o,es,ep,t,hg,by unfold rM;show AEd;exact S⟩
  exact z
 | none=>
  show ft hk (k∉ks) (by
   obtain⟨e,he,hp⟩:=hmem.mp (S.key.mem_iff.mpr q);have:=List.findIdx?_eq_none_iff.mp hr e he;show A_ hp;show CH)
  have hperm:=Alq layNew_perm;have hfits:=Alq layNew_fits;have Jo:=yfq S.tok es (knd.hash k) x;generalize Alq layNew=lay at hperm hfits Jo⊢;obtain⟨es1,t1,wd,gave⟩:=lay;rw[Array.toList_push] at hperm;have el1:AYJ es1.toList:=(S.el.push hx hsc).perm hperm;have key1:(es1.toList.map AiR).Perm (rM ks k):=by
   unfold rM;show An hk;refine OZ hperm.map _ ?_;rw[List.map_append];refine List.Perm.append S.key ?_;show [kf x].Perm [k];rw[hkf k x hx]
  have sz1:es1.size=es.size+1:=u_ hperm.length_eq
  have Ve:AQ es1.size:=fits_of_scanBound ξ
  have gw:∀(b:Bool) {s₁:Shared} {Q' :Agc},Q' () s₁ ->tP (A7d b) Q' E s₁:=
   fun b s₁ Q' q=>by
    cases b with
    | true=>exact wpAny_rule q
    | false=>exact A9 q
  have tail:∀t2:SetTable,t2.fits es1.size=true ->Dm led t2 ->tP (do
    A0G
    if Mn (! wd) t2.tooFull then do
      (A7d Aqk.2.2)
      storeSet a Aqk.1 Aqk.2.1
      AzC
     else AzC) (ANm r s' (ADc r (some added) (pure added) (setAddHashedIn a x (knd.hash k) 99999)) s') E s:=by
   intro t2 f2 k2;show HH A0G (wpAny_storeSet_of hg S.dat ?_ Ve);have g1:=z55 (hkf:=hkf) hg S.dat es1 t2;have S1:=S.put (ks' :=rM ks k) el1 f2 k2 key1;have sb1:=Heap.SameBut.update s.heap a (Obj.putSet es1 t2);split
   ·have hp2:=AaJ relayAll_perm t2;have hf2:=AaJ relayAll_fits t2;have ht2:=AaJ z7y k2;generalize AaJ relayAll t2=rl at hp2 hf2 ht2⊢;obtain⟨es2,t3,gave2⟩:=rl;have sz2:es2.size=es1.size:=u_ hp2.length_eq
    show NA gw gave2;show HH (storeSet a es2 t3) (wpAny_storeSet_of g1 rfl ?_ ξ)
    have S2:=S1.put (ks' :=rM ks k) (el1.perm hp2) hf2 ht2 (OZ hp2.map _ key1);refine A9 (A9 ?_);exact h true _ (sb1.trans (Heap.SameBut.update _ a _)) (Aoc (z55 (hkf:=hkf) g1 rfl es2 t3) S2)
   ·exact A9 (A9 (h true _ sb1 (Aoc g1 S1)))
  show NA gw gave;split
  ·show LG;rw[hashByValue_scannable 8 hsc];show ň;refine tail _ ?_ ?_
   ·split
    ·exact hfits
    ·exact SetTable.fits_plain_off hfits
   ·split
    ·exact Jo
    ·exact z6y Jo
  ·show L1 A9;exact tail _ hfits Jo
#where
abbrev mD(AN4):Bool:= !(w.params.followText "set-order")
abbrev Jp(AN4):Obj:={cls:= ATQ,dict:=none,data:= .set #[] 0 Avm}
def lQ{κ:Type}(AaG):FR YV
 | 0=> []
 | By=>A4y
theorem zst (AaG):∀i,Hc lQ val i<=i
 | 0=>E7
 | By=>by
  have ih:=zst val i;show Hc rM AeX (val i)<=By;unfold rM;split
  ·omega
  ·show AwB;omega
theorem ZP (AaG):∀{i},k∈lQ val i↔∃j,j<i/\val j=k
 | 0=>BD lQ
 | By=>by
  have ih:=ZP val (k:=k) (i:=i);have e:k∈lQ val BE↔k∈lQ val i\/k=val i:=by
   show k∈A4y↔_;unfold rM;split
   ·show GN;constructor
    ·exact .inl
    ·rintro(z | rfl)
     ·exact z
     ·exact q
   ·show Axf
  rw[e,ih];constructor
  ·rintro(⟨j,hj,rfl⟩ | rfl)
   ·exact Hk j ρ
   ·exact Hk i ρ
  ·show ADg j hj;by_cases q:j=i
   ·subst q;exact .inr rfl
   ·show BQ (Hk j ρ)
theorem zmr (AaG):∀i,(lQ val i).Nodup
 | 0=>List.nodup_nil
 | By=>by
  have ih:=zmr val i;show(rM AeX (val i)).Nodup;unfold rM;split
  ·exact ih
  ·show GN;show Ae4;show B0 ih AY Aoq
   rw[List.mem_singleton] at hb;subst hb;exact mv q ha
theorem ycb{prog:Program}{w:World}{κ:Type}[TZ]{knd:pE}{kf:xp}:pZ knd kf (mD w) AEm [] #[] 0 Avm:=
 ⟨ALo rfl,rfl,fun e he=>(AAz he),KS,z3q,AY⟩
section
variable{prog:Program}{w:World}{κ:Type}[TZ]{knd:pE}{kf:xp}(hkf:AoS)
theorem tY.stay(S:AFR h a ks)(e:∀o,nv ->Dx h'.get? o):AFR h' a ks:=by
 obtain⟨o,es,ep,t,hg,S⟩:=S;exact⟨o,es,ep,t,e o hg,S⟩
include hkf
theorem yb7{A:Around}{R:Agd}{I:Addr}{fp wr:Ν}{G:BG fb fb}{n:Nat}{P:AHm Value}{St:D4 Nat}
  (W:WalksS prog w A.in1 I fp wr G n P St) {S:Addr} (hS:S∉fp) {val:FR κ} (hv:BCy (P i v)) (hb:ALf n) {led:Bool}:
  ∀(j i:Nat) (s:Shared),Ρ (i+j=n) (St i s) (AFR s.heap S (lQ val i)) (∀s',Moved (S::wr) G s s' ->AFR s'.heap S (lQ val n) ->R (.ok (.ret AJ)) s') (Avn "set.update.loop" (FY [.ref S,.ref I]) R):=by
 show ft hw (S∉wr) (hS (W.sub _ q));have grow:IT wr (b∈S::wr):=fun b q=>zW _ q;intro j;induction j with
 | zero=>
  intro i s hij st hs hR;show ME i n
  show Aux;show As6;refine DD (pyNext dE) (W.done s _ _ st (AD s' hm));exact A9 (hR s' (hm.mono grow) (hs.stay A't))
 | succ j ih=>
  intro i s hij st hs hR;show Aux;show As6;show HH (pyNext dE) (A6n ξ st fun v s1 hP st1 hm=> ?_)
  obtain⟨hk,hc⟩:=hv i v hP;have hs1:=hs.stay (h' :=s1.heap) A't;show My (holding [v] (setAdd S v)) (AQZ [v]);refine AQZ [v] (DD (pyHash v) (knd.pyHash hk ?_));refine yjv hkf (s:={s1 with toks:=s1.toks+1}) hk hc hs1 (by have:=zst val i;omega) (IE _ h2 sb S2)
  refine A9 ⟨Ab9 PyProof.Rows.F.plain_set_update_loop,ih BE _ ξ (W.frame _ s1 h2 _ st1 BIz fun b hb o e=> ?_) S2 (Α s3 hm3 S3)⟩
  ·exact GA sb.2 b (mv hS hb) e
  ·refine hR s3 (Moved.trans W.gtrans ((hm.mono grow).then_heap BIz (ASG ?_)) hm3) S3;exact GA sb.2 b (mv hb zY) e
#where
section
variable{prog:Program}{w:World}{A:Around}{E:dG}{s:Shared}
theorem zyg(v:Value)(h:Q₁ YA ApU):
  Ă MO A (LP "set.__new__") (FY [ATQ,v]) (wants Q₁ E) s:=by
 refine codeAny_of_tree ?_;show wpAny _ A.in1 (checkBuiltinCall "set.__new__" (FY [ATQ,v])>>=C6 (again (.builtin "set.__new__" (FY [ATQ,v])))) _ _ s;refine z6 (wpAny_of_eq (PySem.F.newCall_set_1 v) (A9 (Ad8 PySem.F.plain_set_new PySem.F.entry_set_new ?_)));show AQf PySem.F.plain_set_new;unfold Builtin.«set.__new__» Builtin.Frozenset.newClass;have hsub:=sub_set_self;show AOg
 wp_walk
 refine wpAny_askSetting (A9 ?_);exact z6 (wpAny_alloc (A9 (A9 h)))
#where
section
variable{prog:Program}{w:World}{κ:Type}[TZ]{knd:pE}{kf:xp}(hkf:AoS){A:Around}{E:dG}{s:Shared}
include hkf
set_option maxHeartbeats 3200000 in
theorem zqb{l:Addr}{items:D7}{val:FR κ}{Q:dG}(hh:Qr)(hl:AUv items)(hv:BCy (r6 items))(hb:ALf items.size)
  (h:∀(h' :Heap) (tk:Nat),BDg ->(AkC) ->AP2 OW):
  Aj9 "set" [E5]:=by
 obtain⟨c,tl,hmro⟩:=PySem.F.called_set.mro;have hmade:=PySem.F.called_set.made;have hsub:=PySem.F.called_set.sub;refine wpAny_call (codeAny_of_tree ?_);show Mm (callAny (LO "set") _) _ _;refine A9 ⟨Code.quiet_builtin _ Md,codeAny_builtin PySem.F.entry_type_call ?_⟩
 rw[Around.under_plain (weight_type_call_type "set" [E5] []) rfl];have q1:=PySem.F.called_set.notType;have q2:=PySem.F.called_set.canCreate;have q3:=PySem.F.typeCall_set_1 İ
 show Aq1
 refine codeAny_mono (zyg İ (E:=E) (Q₁:=A9s ApU) k_) (Α r s₁ hr);cases r with
 | error e=>exact hr
 | ok fl=>
  cases fl with
  | ret obj=>
   show VS rfl hr;show AXX hS AEm AEm KO;have hT:Shared.TypeIs ApU YA "set" :=HL hS;have q4:=PySem.F.called_set.init.lookup;have q5:=PySem.F.called_set.init.bind YA
   show Aq1
   show ATV (codeAny_call_builtin (R:=wants (fun r s₂=>r= AJ/\∃h' tk,s₂=OW/\BDg/\
     AkC) E) PySem.F.called_set.init.plain PySem.F.entry_set_init (check_set_init_1 hT ?_)) (Α r₂ s₂ hr₂)
   ·obtain⟨ol,hol,hcl,nl,hdl⟩:=hl;obtain⟨oc,od,ot,os⟩:=ol;simp only at hcl hdl;subst hcl;subst hdl;have hol' :ABr AEm l=some {cls:= Rc,dict:=od,data:= .seq items nl,slots:=os}:=z8 _ hol;have q6:=PySem.F.sub_list_set;have q7:=PySem.F.sub_list_frozenset;have q8:(Value.type "list" ==Value.type "dict")=false:=Κ
    have hl1:AHb AEm IsList l items:=C3 _ hol' nl rfl;unfold Builtin.«set.__init__» noKeywords Builtin.Frozenset.updateFrom;generalize hPI:pyIter=PI
    wp_walk
    subst hPI;refine wpAny_pyIter_list hl1 (z6 (wpAny_runValue ?_));show UP hlS l (zG hol);have hh3:A.in1.in1.in1.handled=none:=BD hh
    show ANL Qp (ACX AEm) lh;refine yb7 hkf (led:=mD w) ((Walks.list hh3 _ l (B6 Qp (AXN hlS)) items).toS) (S:=s.heap.objs.size) ?_ hv hb items.size 0 _ (Nat.zero_add _)
     ⟨RH,hl1.push _⟩ (Aoc (z8 _ hS) ycb) (Α s' hm hS')
    ·rw[Qp];show AOv;exact⟨AYv,AKb hlS⟩
    ·show Ao4;show ApV;show AmZ s.drawn;show Ald;show ň;refine A9 ⟨rfl,h',tk',rfl,hS',ANP⟩;show AZb;refine hm.heap b o ?_ (AM' e);rw[Qp];show AOv;exact⟨zK hlt,AXN hlt⟩
   ·cases r₂ with
    | error e=>exact hr₂
    | ok fl₂=>
     cases fl₂ with
     | ret r=>
      obtain⟨rfl,h',tk,rfl,hS',hk'⟩:=hr₂
      show Aq1
      exact h _ _ hS' hk'
     | _=>exact hr₂.elim
  | _=>exact hr.elim
#where
theorem rN:Aue "__next__" "set_iterator.__next__" := BFj "__next__"
theorem ylg:AeE "set_iterator.__next__" Builtin.«set_iterator.__next__»:=entryFor_of_tree (by kernel_rfl)
theorem yma(v:Value):argsOk "set_iterator.__next__" (FY [v]):=UF
theorem yb8:AeE "set.__iter__" Builtin.«frozenset.__iter__»:=BIL "frozenset.__iter__"
def Ai(h:Heap)(I:Addr)(fst:Value)(i:Nat)(S:Addr)(n ep:Nat):Prop:=∃o,wq I/\AQc "set_iterator" /\o.data= ABe #[fst,cS i,.ref S,cS n,cS ep]
theorem Ai.ty{s:Shared}{I S:Addr}{fst:Value}{i n ep:Nat}(x:A'V):s.TypeIs dE "set_iterator" :=let ⟨o,ho,hc,_⟩:=x;AEp hc
theorem Ai.at(x:Arw)(e:∀o,wq I ->si I):Ai h' I fst i S n ep:=Al4 e
theorem z0f(hi:mh):(xs[i]::xs.eraseIdx i).Perm xs:=by
 rw[List.eraseIdx_eq_take_drop_succ];refine List.perm_middle.symm.trans ?_;rw[<- List.drop_eq_getElem_cons hi,List.take_append_drop]
section
variable{prog:Program}{w:World}{A:Around}{E:dG}{s:Shared}
theorem z6q(hn:n≠0)(h:∀i d,CO ->Q i AmU):E4 (choose src n):=fun Γ p _=>by
 unfold choose;rw[Sem.wp_choose];exact⟨hn,h _ _ (Nat.mod_lt _ (Nat.pos_of_ne_zero hn))⟩
theorem zux(n:Nat):∀(xs:AG) {s:Shared} {Q:D4 AG},xs.length=n ->(∀ys d,ys.Perm xs ->Q ys AmU) ->E4 (drawOrder n xs):=by
 induction n with
 | zero=>
  intro xs s Q hn h;have:xs= []:=List.length_eq_zero_iff.mp hn;show UC;exact A9 (h [] s.drawn ES)
 | succ n ih=>
  intro xs s Q hn h;cases xs with
  | nil=>cases hn
  | cons x xs=>
  refine DD (choose _ _) (z6q Η (Α i d hi))
  show AtS;refine z6 (ih ((AGB).eraseIdx i) ?_ fun ys d' hp=>A9 (h _ d' ?_))
  ·show AtT;omega
  ·refine OZ hp.cons _ ?_;exact z0f hi
section
variable{S I:Addr}{fst:Value}{i n ep:Nat}{o:Obj}{es:pM}{t:SetTable}
theorem zyu(hh:Qr)(hQ:∀h',Acs I h0 ->AVS)(hk:Heap.ExtBut I h0 s.heap):
  wpAny MO A.in1 (BHr>>=fun e=>(raiseNew e:Sem PySem.Fin)) ŀ
   (ANm e s' (do if<- isInstance e Aco then Aym else throw e) s') s:=by
 show LG;show AWI ADj
 show ArH
 show AWs ADj
 show My _ wpAny_handled;rw[show AT3 by simp [hh]]
 show s_ A9 (wpAny_throw (α:=_));show tw (isInstance _ _) ArI AQL isSubtype_stop;exact A9 (hQ _ ((hk.push _).push _))
#where
#where
section
variable{prog:Program}{w:World}{κ:Type}[TZ]{knd:pE}{kf:xp}{A:Around}{E:dG}{s:Shared}{S I:Addr}{fst:Value}{i n ep:Nat}{o:Obj}{es:pM}{t:SetTable}{led:Bool}{ks:YV}
theorem Qq(hit:A'V)(hg:om)(O:yi)(hn:es.size=n)
  (h:wpAny MO A.in1 (if let .int slot _:=fst then do
    match<- setNext S slot.toNat i ep with
    | some (x,next)=>
     ASV dE 0 next
     A0Y
     ret x
    | none=>A8b;Av1
   else do
    let some places<- seqItems? fst | Av2
    match places[i]? with
    | some (.int place _)=>
     let x<- setNextDrawn S place.toNat ep
     A0Y
     ret x
    | some _=>Av2
    | none=>ASV dE 0 0;A8b;Av1)
   (ĭ fin (∃r,fin= .done (.ret r)/\Q (some r) s'))
   (ANm e s' (do if<- isInstance e Aco then Aym else throw e) s') s):
  Aim:=by
 show KW oi ho hc hd hit;unfold pyNext;refine DD _ (wpAny_attempt (ASO hit.ty rN rN hit.ty ylg yma));unfold Builtin.«set_iterator.__next__»;show My (Ff slotArgs) A9;show tw (fieldsOf _) wpAny_fieldsOf ho hd;show HH (setEntries S) (wpAny_setEntries_of hg O.dat O.fit ?_);rw[dL (ALg hn)]
 refine wpAny_mono h (fun fin s' hz=>(ACq r hr hq hz (ABi (A9 hq)))) fun e s' he=>he
theorem ZQ(h:Q (w.params.followText "set-order") s):E4 setsByText:=C7 (DD ask (wpAny_askSetting (A9 h)))
theorem zwq(hbt:AxL)(hg:om)(O:AIF A5Q)(hdr:LL AHN)
  (h:Q (match es[A3d]?,t.place[A3d]? with | some (_,x),some j=>some (x,j+1) | _,_=>none) s):A_e e0:=by
 show AOV;show AY0;rw[hbt,OT,Χ (DH (by have z' :AHN=true:=z;rw[hdr] at z';cases z'))]
 refine DD _ ?_;show Mm (AI (Mn (! t.led) (! es.isEmpty)) _ (pure PUnit.unit)) _ _;rw[O.tok.led,Χ Η]
 exact A9 (A9 h)
theorem zvt(hbt:Aw0)(hg:om)(O:yi)
  (h:Q (((pickOrder AOH es)[given]?).map fun e=>(e.2,slot)) s):A_e ep:=by
 show AOV;show AY0;rw[hbt,BU,Χ Η]
 refine DD (setWalk S) ?_;show AOV;show AY0;rw[hbt,BU];exact DD ask (wpAny_askSetting (A9 (A9 h)))
theorem z4e(hg:om)(O:yi)(hx:DC es p x)(h:Q x.2 s):E4 (setNextDrawn S p ep):=by
 show AOV;dsimp only;rw[Χ Η,hx]
 exact A9 h
theorem zw4(hg:om)(O:yi)(h:Q (! Avx &&AHN) s):E4 (setDrawn S):=by
 show AOV;show AY0;exact A9 h
theorem z6o(nx:WV):∀(f k:Nat) (l:AG) (out:Array α),l.length=f ->(pickOrder.go nx f k l out).toList.Perm (out.toList++l)
 | 0,k,l,out,hl=>by
  unfold pickOrder.go;rw[List.length_eq_zero_iff.mp hl];simp
 | f+1,k,l,out,hl=>by
  unfold pickOrder.go;have hi:A3b<l.length:=Nat.mod_lt _ ξ
  show AtS;refine GA (z6o nx f EL (l.eraseIdx (A3b))) _ (by show AtT;omega) ?_
  rw[Array.toList_push,List.append_assoc];exact List.Perm.append_left _ (z0f hi)
theorem zqm(nx:WV)(xs:Array α):(pickOrder nx xs).toList.Perm xs.toList:=C7 (z6o nx _ 0 _ #[] Η)
#where
theorem ydg:Aue "__iter__" "set_iterator.__iter__" := BFj "__iter__"
theorem ylo:AuH "set_iterator.__iter__":=Avv
theorem yks(v:Value):argsOk "set_iterator.__iter__" (FY [v]):=UF
theorem Ai.Nr(x:Arw)(v:Value):Ai (h.update I (Obj.mapFields (·.setIfInBounds 0 v))) I v i S n ep:=by
 obtain⟨o,ho,hc,hd⟩:=x;exact BHK (by rw[Obj.data_mapFields hd];simp)
theorem Ai.Nt(x:Arw):Ai (h.update I (Obj.mapFields (·.setIfInBounds 1 (rawInt ((i:Int)+1))))) I fst BE S n ep:=by
 obtain⟨o,ho,hc,hd⟩:=x;exact Ao7
section
variable{prog:Program}{w:World}{κ:Type}[TZ]{knd:pE}{kf:xp}
structure Steps (prog:Program) (w:World) (A:Around) (I S:Addr) (n ep:Nat) (o:Obj) (ex:c7) (vals:Β) (fst:FR Value):Prop where
 item:∀i (s:Shared) (Q:D4 LM) (E:dG),FH CO (AaX s.heap i i) om Au0 (∀v h',r6 vals ->AaX h' BE BE ->ū I ->Q (some v) MT) Aim
 done:∀(s:Shared) (Q:D4 LM) (E:dG),Ρ (AaX s.heap n n) om Au0 (∀h',AiA I ->AVS) Aim
theorem z5q(T:AW5 S n ep o ex vals fst)(hS:S≠I)(hX:JE ex (AM≠I)):
  Walks prog w A I (I::S::ex.map (·.1)) [I] n AtD (MV h (AaX h i i/\wq S/\JE ex (ACG h.get?))) where
 sub:=A4e
 frame:=fun i h h' st hk=>⟨A'P,hk S Η o ATC,XE (hk AM (by simp only [List.mem_cons,List.mem_map];exact í (Hk p hp)) C9 (ATU p hp))⟩
 item:=fun i s Q E hi st hQ=>T.item i s Q E hi X2 ATC ATU fun v h' hv st' sb=>hQ v h' s.toks hv ⟨st',GA sb.2 S hS ATC,XE ((sb.2 AM (hX p hp)).trans (ATU p hp))⟩ (ASG (GA sb.2 b (AC (WA hb z)) e))
 done:=fun s Q E st hQ=>T.done s Q E X2 ATC ATU fun h' eb=>(A_B (eb b o (DH (WA hb z)) e))
 self:=fun i s Q E st hQ=>by
  refine wpAny_pyIter_slot (X2).ty ydg (ABt ydg (X2).ty ylo (yks _));exact A9 ⟨_,rfl,"set_iterator",_,(X2).ty,rN.lookup,hQ⟩
variable{A:Around}{I S:Addr}{n ep:Nat}{o:Obj}{es:pM}{t:SetTable}{ks:YV}
def pH(t:SetTable)(i:Nat):Nat:=ASy (0<i/\BJi) (t.place.toList[i - 1]' ξ+1) 0
theorem zo2(hr:Asg)(hi:BJi):SetTable.below t.place AlE=i:=by
 have:=z2u hr hi;unfold pH;by_cases h0:0<i
 ·rw[dif_pos ⟨h0,hi⟩];show A_ (dif_pos h0);exact this
 ·rw[dif_neg (DH (h0 z.1))];show A_ (dif_neg h0);exact this
theorem z0g(h:t.fits n=true):t.place.toList.length=n:=by
 show BGf SetTable.fits beq_iff_eq
 simpa using CF
theorem yg1(hh:Qr)(hbt:AxL)(O:AIF A5Q)(hdr:LL AHN):
  AaO AW5 [] (es.toList.map (·.2)) (D3 (cS AlE)) where
 item:=fun i s Q E hi hit hg _ hQ=>by
  have hl:=z0g O.fit;have hb:=v4 Av3 ξ
  have hp:i<t.place.size:=AN (ρ:i<t.place.toList.length)
  show AHT;show My ATc (zwq (ep:=ep) hbt hg O hdr);rw[A8Z i i,hb,Ahf,Array.getElem?_eq_getElem hp];show AKY;show AKT
  have hit2:=hit.Nr (rawInt Awg);show BIJ;show HH (Ff setField) (wpAny_setField g1 g3 Η ?_)
  refine A9 (Lv (hQ _ _ (TD hi) ?_ (ASj trans Amc)))
  have e:(Value.int (pH t BE) 0)=rawInt Awg:=by
   unfold pH;rw[dif_pos Abv]
   simp [rawInt]
  rw[e];exact hit2.Nt
 done:=fun s Q E hit hg _ hQ=>by
  have hl:=z0g O.fit;have hb:=Av3 (i:=es.size) ξ
  show AHT;show My ATc (zwq (ep:=ep) hbt hg O hdr);rw[A8Z es.size es.size,hb,Array.getElem?_eq_none (Nat.le_refl _)];show AKY;show AKT
  exact Avw
theorem yil(hh:Qr)(hbt:Aw0)(O:yi):
  AaO AW5 [] ((pickOrder (w.params.setOrder S ep) es).toList.map (·.2)) (C6 u7) where
 item:=fun i s Q E hi hit hg _ hQ=>by
  have hp:=(zqm AOH es).length_eq;show ASu hp;show AHT;show HH ATc (zvt hbt hg O ?_);show UT (pickOrder AOH es).size ρ
  rw[Array.getElem?_eq_getElem hi'];show BCX ALH (A9 (Lv (hQ _ _ (TD hi') hit2.Nt (ASj trans Amc))))
 done:=fun s Q E hit hg _ hQ=>by
  have hp:=(zqm AOH es).length_eq;show ASu hp;show AHT;show HH ATc (zvt hbt hg O ?_);rw[Array.getElem?_eq_none ξ]
  show AKY;show AKT
  exact Avw
theorem yhf{led:Bool}(hh:Qr)(O:yi){Tp:Addr}{ot:Obj}{ps:AT}(hps:ARb ps.Perm es.size)(hot:∃m,ot.data= .seq AoO m):
  AaO AW5 [(Tp,ot)] (AmQ AY') (C6 (.ref Tp)) where
 item:=fun i s Q E hi hit hg hx hQ=>by
  obtain⟨m,hm⟩:=hot;show Apk hl
  show UT ps.length ρ
  have hlt:MC<es.size:=List.mem_range.mp (hps.mem_iff.mp (yU hi'));show AHT;show tw (seqItems? _) wpAny_seqItems (hx (Tp,ot) Η) hm
  dsimp only;have e:B' AoO (.int (D9 MC) 0):=Q2 hi' rawInt
  rw[e];show HH (Ff setNextDrawn) (z4e (x:=es[MC]) hg O (B6 Int.toNat_natCast BJ7) ?_)
  show AKY;show AKT
  exact A9 (Lv (hQ _ _ (by simp [hi',hlt]) hit.Nt (Heap.SameBut.update s.heap I _)))
 done:=fun s Q E hit hg hx hQ=>by
  obtain⟨m,hm⟩:=hot;show Apk hl
  show AHT;show tw (seqItems? _) wpAny_seqItems (hx (Tp,ot) Η) hm
  dsimp only;have e:AoO[es.size]?=none:=BD hl
  rw[e];show BCX 0 (BIQ (ASj trans Amc).extBut)
#where
section
variable{prog:Program}{w:World}{κ:Type}[TZ]{knd:pE}{kf:xp}{A:Around}{E:dG}{s:Shared}{S:Addr}{ep:Nat}{o:Obj}{es:pM}{t:SetTable}{ks:YV}
structure Laid (knd:pE) (kf:xp) (s:Shared) (S:Addr) (o:Obj) (ks:YV) (I:Addr) (h' :Heap) (n:Nat) (vals:Β) (St:AMF) (fp:Ν):Prop where
 wk:A4t (Walks prog w A' I fp [I] n AtD St)
 st:St 0 h'
 len:vals.length=n
 lem:n=ks.length
 key:Aol
 mem:∀v∈vals,Ad3
 new:YR I
 inF:I∈fp
 fpl:Sr (b<h'.objs.size)
 fpn:Sr (b=S\/YR b)
 kep:AX0
 siz:YR h'.objs.size
theorem yak(hg:om)(O:AIF (pZ knd kf (mD w) o))(hb:AQ es.size)
  (h:∀(I:Addr) (h' :Heap) d n vals St fp,Laid knd kf s S o ks I h' n vals St fp ->EV I (ApW h')):AUg ADo:=by
 have hT:s.TypeIs ADo "set" :=Agb hg;show UP hSl S (zG hg);show Aoe ks.length
 have scn:∀v∈es.toList.map (·.2),Ad3:=fun v hv=>by
  show OP e he hv;obtain⟨⟨k,hk,_⟩,hs⟩:=O.el e he;exact⟨⟨k,hk⟩,hs⟩
 have fin:∀(h1:Heap) d (vals:Β) (ex:c7) (fst:FR Value),YR h1.objs.size ->(∀b ob,AcS ->rq h1.get?) ->(j_ ex (ACG h1.get?/\YR AM)) ->
   Ρ (A4t (AaO (Steps prog w A' h1.objs.size) ex vals fst)) (vals.length=es.size) Aol A1H (EV h1.objs.size (ApW (h1.push (MX "set_iterator" #[fst 0,ARy,.ref S,rawInt es.size,rawInt ep])))):=by
  intro h1 d vals ex fst hsz hk hx' hs hl hp hm;have hx:JE ex (ACG h1.get?):=fun p q=>(hx' p q).1;refine h _ _ d es.size vals _ _ ⟨fun A' hh=>z5q (hs A' hh) (zK (zM hSl hsz)) (fun p q=>zK (zG (hx p q))),⟨RH,z8 _ (hk S o hg),fun p q=>z8 _ (hx p q)⟩,hl,hlk,hp,hm,hsz,AY,AUG,AUG,pf ob (z8 _ (hk b ob e)),?_⟩
  ·rw[Heap.size_push];simp only [List.mem_cons,List.mem_map] at q;rcases q with rfl | rfl | ⟨p,hp',rfl⟩
   ·show Ahs
   ·exact Nat.lt_succ_of_lt (zM hSl hsz)
   ·exact Nat.lt_succ_of_lt (zG (hx p hp'))
  ·simp only [List.mem_cons,List.mem_map] at q;rcases q with rfl | rfl | ⟨p,hp',rfl⟩
   ·show Bz hsz
   ·show ABh
   ·show Bz (hx' p hp').2
  ·rw[Heap.size_push];exact Nat.le_succ_of_le hsz
 refine wpAny_pyIter_slot hT PySem.F.slot_set_iter (ABt PySem.F.slot_set_iter hT yb8 (PySem.F.args_set_iter_1 _));unfold Builtin.«frozenset.__iter__»;refine DD (Builtin.Frozenset.slot0 _ _) ?_;show My (Ff slotArgs) A9;show ň;refine DD (Builtin.Frozenset.sizeOf S) ?_;show HH (setEntries S) (wpAny_setEntries_of hg O.dat O.fit (A9 ?_));show tw (setDrawn S) zw4 hg O;cases hbt:Avx with
 | true=>
  show A9z true AHN;show Asv wpAny_setEpoch_of;show ArS;have hp:=zqm AOH es;refine A5m ((pickOrder (w.params.setOrder S ep) es).toList.map (·.2)) (A2 u7) CC (AGL) AvJ (fun A' hh=>yil hh hbt O) (Bi hp.length_eq) ?_ fun v hv=>scn v ((hp.map _).mem_iff.mp hv)
  rw[List.map_map];exact(hp.map _).trans O.key
 | false=>
  have abF:mD w=true:=by unfold mD;rw[hbt];rfl
  cases hdr:AHN with
  | false=>
   show A9z false false;show Asv wpAny_setEpoch_of;show ArS;rw[abF] at O;refine A5m (es.toList.map (·.2)) (Wp (cS AlE)) CC (AGL) AvJ (fun A' hh=>yg1 hh hbt O hdr) Η ?_ scn
   rw[List.map_map];exact O.key
  | true=>
   rw[ui (Mn (! false) true),BU];show HH (drawOrder _ _) (zux es.size (List.range es.size) Η (Α ps d hps))
   show Apk hpl
   refine DD (newTuple _) (wpAny_newTuple ?_ (Ato hpl hb))
   have hgt:ABr A5l S=some o:=z8 _ hg;show HH (setEpoch S) (wpAny_setEpoch_of hgt O.dat O.fit ?_);show ArS;have hpm:(ps.map (kU AY')).Perm (es.toList.map (·.2)):=by
    refine OZ hps.map _ ?_;have:KF es.size (Μ p AY')=es.toList.map (·.2):=by
     show UE
     ·simp
     ·show x0;have:AcO:=AN h1
      simp [this]
    rw[this]
   refine fin _ d (ps.map (kU AY')) [(s.heap.objs.size,A5l)] (A2 AHu) (BJI ARd) (pf ob WF) (Iq p q) (fun A' hh=>yhf hh O hps Cf) (TD hpl) ?_ fun v hv=>scn v (hpm.mem_iff.mp hv)
   ·obtain rfl:p=_:=AN q
    exact⟨KO,E7⟩
   ·refine OZ hpm.map kf ?_;show ei;exact O.key
abbrev jM:Obj:=AJF
theorem zqo(AN3)(hg:om)(O:AIF (pZ knd kf (mD w) o))(hb:AQ es.size)
  (h:∀(vals:Β) (h' :Heap) d tk,JP Aol A1H AwE AX0 (Q vals BFI)):
  E4 (collect ADo):=by
 show UP hSl S (zG hg);show A1S (codeAny_builtin PySem.F.entry_proto_collect ?_);show As7;show A5K;refine A9 A2O;show As8;have hg1:ABr jM S=some o:=z8 _ hg;have hT1:Shared.TypeIs (AIh jM) ADo "set" :=Agb hg1;refine DD (typeOf _) (wpAny_typeOf hT1 ?_);have n1:Builtin.List.listSameRef YA ADo=false:=Q2 Builtin.List.listSameRef (AKb hSl)
 rw[dL (AJx n1)]
 show HH (pyIter _) (yak hg1 O hb fun I h1 d n vals St fp L=> ?_);show My (holding _ _) Adw;have hg2:h1.get? S=some o:=L.kep S o hg1;have hT2:Shared.TypeIs (ApW h1) ADo "set" :=Agb hg2;show AoP PySem.F.slot_set_len.lookup;dsimp only;rw[A4P "set.__len__" "set" "__len__"]
 show tw (isInstance _ _) wpAny_isInstance hT2 sub_set_self;rw[Χ τ,Ap Md]
 refine DD (typeOf _) (wpAny_typeOf hT2 ?_);show ň;show D1 Md
 show My (rule _) wpAny_rule;have hS1:h1.get? s.heap.objs.size=some jM:=L.kep _ _ AYb;have hNI:s.heap.objs.size≠I:=zK (zM (BJI Afa) L.new)
 refine DD (Builtin.List.listTouch _) ?_;show HH (updateSeq _ _) (wpAny_updateSeq hS1 rfl ?_);show Af4 hS2 (Obj.mapSeq (·.push Value.none)) hS1;refine wpAny_updateSeq hS2 rfl ?_;show Af4 hS3 (Obj.mapSeq (·.pop)) hS2;have oth:∀b ob,ARn ->rq h1.get? ->rq ((h1.update s.heap.objs.size (Obj.mapSeq (·.push Value.none))).update s.heap.objs.size (Obj.mapSeq (·.pop))).get?:=
  fun b ob q e=>AZS q (AZS q e)
 show ft hNf (s.heap.objs.size∉fp) (by
  show J_ (L.fpn _ q)
  ·exact Si z Nat.ne_of_gt hSl
  ·have z' :ACX jM<=s.heap.objs.size:=z;rw[Heap.size_push] at z';exact Si z' Nat.not_succ_le_self _)
 have Ga:AQ n:=by
  have e1:=L.lem;have e2:es.size=ks.length:=AN O.key.length_eq
  omega
 have W:=L.wk A.in1 AhN
 refine A9 (AwG (codeAny_extend_loopS W.toS Ga _ hNf _ n 0 _ _ _ rfl fF (W.frame 0 h1 _ L.st fun b q ob e=>oth b ob (DH (hNf (z ▸ q))) e) hS3 BI0 BEd));refine DD (load _) (wpAny_load hS' ?_);show ň;have ev:acc.toList=vals:=by
  apply List.ext_getElem?;intro i;show D8 CO
  ·have hi:i<acc.size:=Ä AKd
   have:=hacc.2 i acc[i] (Array.getElem?_eq_getElem hi);rw[Array.getElem?_toList,Ahf,this]
  ·exact OZ List.getElem?_eq_none (by rw[Array.length_toList,AKd];omega) (NI List.getElem?_eq_none (AIL L.len))
 rw[ev];show Ao4;show ApV;show AmZ d;show Ald;refine h vals h' d' tk' L.key L.mem (zG hS') (LS ob e);show AZb;have hbN:ARn:=zK hlt;refine hm.heap b ob ?_ (oth b ob hbN (L.kep b ob NG));show AOv;exact ADf hbN (hbN (by
  subst z;have z2:ACX jM<=b:=L.new;rw[Heap.size_push] at z2;exact absurd hlt (Nat.not_lt_of_ge (Nat.le_of_succ_le z2))))
#where
def Dp:Ñ Int | ANk=>i | _=>0
theorem ygv:∀k v,AGi PySem.intKind k v=true ->Dp v=k:=fun k v h=>by
 show IU (Value.isInt_shape h)
 rfl
theorem z85:FD vs Β (∀v∈vs,(∃k,AGi PySem.intKind k v=true)/\AP1) (IntsAre vs (vs.map Dp))
 | [],_=> BS
 | AFU,h=>by
  obtain⟨⟨k,hk⟩,_⟩:=h v zY;show B8 t rfl Value.isInt_shape hk;exact kr _ _ (z85 fun u hu=>AyW)
theorem yjq(hob:Sf (Â xs n)):∃e,ARe BEb out e:=by
 have hal:a<h.objs.size:=zG hob;have h1:=get?_update_seq hob AcN;have h2:A2G (h.update a (Obj.mapSeq (C6 #[]))).push _:=z8 _ (z8 _ h1);exact A1d h2 out
theorem yea(hb:TM)(hne:Q4):ET BEb:=by
 have h1:ET (h.update a (Obj.mapSeq (C6 (#[]:D7)))).get?:=(ATd hne).trans hb;exact(ATd hne).trans (AM' h1)
section
variable{prog:Program}{w:World}{A:Around}{E:dG}{s:Shared}{S:Addr}{ks:Ξ}
theorem z2o(hh:Qr)(hS:tY (PySem.intKind prog w) Dp (mD w) s.heap S ks)(h64:ks.length<64)
  (h:∀(l:Addr) (h' :Heap) d tk (out:Β) (ms:Ξ) e,YR l ->IntsAre out ms ->JP (ms.Perm ks) AU8 (APb l (Â out.toArray e)) AX0 (EV l BFI)):
  E4 (call ARm (ku S)):=by
 obtain⟨o,es,ep,t,hg,O⟩:=hS;show Aoe ks.length
 show ſ 64
 refine Calls.call_function_entry kind_sorted plain_sorted entry_sorted (args_sorted1 _) (Cc (Mm (Builtin.«sorted» _) _ _) ?_);unfold Builtin.«sorted»;show My (checkCount "sorted" 1 1 _) A9;refine DD (collect _) (zqo AhN hg O ξ fun vals h1 d tk hk hm hlt hold=> ?_)
 have Ga:vals.length=ks.length:=AN hk.length_eq
 refine DD (newList _) (wpAny_newList ?_ ξ)
 have hoL:(h1.push Asa).get? h1.objs.size=some Asa:=KO;have hI:=z85 hm;show BEt (list_sort_tree (ns:=vals.map Dp) hoL hI ξ fun out ms a1 a2 a3=>AL0)
 refine A9 AL0;show B8 e he (yjq (vs:=vals) (out:=out)) hoL;have hle:s.heap.objs.size<=h1.objs.size:=Nat.le_of_lt hlt;refine h h1.objs.size _ d tk out.toList ms e hle a1 (a2.trans hk) a3 (B6 Array.toArray_toList he) (LS ob eb)
 have e1:=hold b ob eb;exact yea Agz (zK (zG e1))
#where
def Gb(ABd)(a:Addr)(ns:Ξ):HO:= AXL (tY (PySem.intKind P w) Dp (mD w) h a (lQ AL' ns.length))
theorem ydn(I:Ε)(d):af AmU:=⟨I.ok,I.os,I.bare,I.base,I.loc,I.cell,I.free,I.freeC,I.pin,I.hok,I.len⟩
inductive Kz (AOa):Prop
 | mk:mS p ns Ξ (Ρ (vs= [Kt]) (kZ X.K H p AAl) (ALf ns.length) (∀q,Po q ->EV q (IA q AlP)) (ABx Kz))
def Vf(gy):SA:=AMq Kz
inductive KC (AOa):Prop
 | mk:mS q ns Ξ (Ρ AiL (KM q AlP) (Hc lQ AL' ns.length<64) (∀(l:Addr) (ms:List Int),H l=none ->ms.Perm (lQ (fun i=>ns.getD i 0) ns.length) ->ms.Pairwise (· <= ·) ->Q (.ref l) (upd H l (.lst (ms.map .int)))) (ABx KC))
def abG(gy):SA:=AMq KC
theorem yc6(yB):fz "set" (Vf X):=by
 rintro pins s σ H xs us Q I r ⟨p,ns,e0,hq,hb,k⟩;subst e0;show L_;cases rx;show Atc;show RF;show Ŧ;have hI:=zr0 rv;show A5H hl.symm
 refine zqb (κ:=Int) (knd:=PySem.intKind X.prog X.w) (kf:=Dp) ygv (val:=D3 kM) gc pl.isList (Α i v hv) (B6 hsz hb) A8o
 ·show IU (IntsAre.int_at hI i v (Bi hv))
  exact ah (EA intKind_is)
 ·rw[hsz] at hS;have I2:ŝ (Aar Gb) OW:=
   xA I.laid hold CC (aI (Aar Gb) (BBv q.stay st))
  exact ACn I2 k
theorem yac(yB):kK "sorted" (abG X):=by
 rintro pins s σ H xs us Q I r ⟨q,ns,e0,hq,h64,k⟩;subst e0;show L_;cases rx;obtain⟨hS,_,_⟩:=k7 q hq;refine z2o (I.ok.hd hc) hS h64 fun l h' d tk out ms e hle a1 a2 a3 hl hold=> ?_;show AML (BI ms.map V.int) (by
  show Ã a2.length_eq;have:iS 64:=Κ
  omega)
 have I2:AKt AgY OW:=
  xA I.laid hold hle (aI (BN AgY) ⟨hlen,out,e,TQ a1,hl⟩)
 exact Az6 (k l ms (AdM hle) a2 a3)
def z6d:I0:=lS (∃ns,AKI/\ASs 63/\Ŵ Ξ (AHz (· < ·)) AvR Tk)
theorem zzm:AFt "set" "set":=ADi
section
variable{X:Cx}{F0 H0:Hp}{a e:Expr}{pos p pos2 p2:Pos}{t:bK}
theorem yg5(ns:Ξ)(k:Int):k∈lQ AL' ns.length↔k∈ns:=by
 rw[ZP];constructor
 ·show ADg j hj;show ASr AT7;exact yU hj
 ·intro h;show ND j hj AfK;exact⟨j,hj,by show ns.getD j 0=k;rw[List.getD_eq_getElem?_getD,AT7];exact e⟩
theorem yih(BDu):
  BAI z6d:=fun z E cx=>by
 have inner:PE (X.wsh z) Ad1 (A9' Vf):=ATr (yc6 hc) hg2 hm2 zzm B3 τ τ he rfl
 refine mQ (ArL yac (YC inner z4d he2) τ τ he2 rfl) (ALh ?_)
 show AMC;refine EI (fun ds Γ1 F1 H1 vs R1 s1 r1 h1=> ?_);unfold z6d at h1;show RO
 ·obtain⟨v,_,rfl,⟨l,us,rfl,hq,rs⟩,rfl⟩:=r1;obtain⟨ns,hns,hlt,h1⟩:=h1;show AlN;refine⟨l,ns,rfl,xC,Afg scanBound,AVh⟩
  have hml:=zst AL' ns.length;refine⟨q,ns,rfl,jJ,ρ,Apc hp hs⟩
  have R2:APR (P3 q AlP):=R1.grow (hV (UU (w9 R1.g hq0) (R1.g b u e)) (UU (Hm hq0) e))
  obtain⟨R3,q1,q2,q3,ap⟩:=Fg R2 hl2 (Zd (K:=X.K) (F:=F1) ms);refine Aqw Zd ap (h1 ms ?_ (D3 (hp.mem_iff.trans (yg5 ns i))));have nd:ms.Nodup:=hp.nodup_iff.mpr (zmr _ _);have:=List.Pairwise.and hs nd;exact this.imp fun{a b} hz=>by obtain⟨q1,q2⟩:=hz;omega
 ·exact h1.elim
#where
def Itv(K:W.Frag)(a:Addr)(xs:χ):It:=AFx (jn (UZ/\mh)) (al xs.reverse) (AJO Acp)
theorem z9t(AGH){K:W.Frag}{tg:Expr}(a it:Addr)(xs:χ):AGm AvV (AL8/\h.IsRevIter it a (Į - 1 - FA)) where
 mem:=AY
 obj:=Ŷ (by
  show ś
  obtain⟨_,o,e,c,d⟩:=st;exact AFi)
 keep:=AQY ⟨X2,dP (st.2).at (AQg it)⟩
 item:=by
  intro X hP hw hK hc i pins s σ H E I hf st hg;show KB;show AAR;show AMk;show RF;show VC
  have hj:AY8<xs.length:=ρ
  show ANx (rv.get (zZ hj));have hit:=st.2;rw[GU (Į - 1 - FA) (B5 AY8)] at hit
  refine wpAny_pyNext_rev_item hit p.isList (x:=u) ATW (Yf hit' sb)
  show AOZ;show KW o e c d hit';show fN u (ASp xs[AY8] ru (Do rfl) (Do hx))
  ·rw[List.getElem?_reverse hx,AT7]
  ·rw[GU (B5 AY8 - 1) (Į - 1 - B5 By)] at hit'
   exact hit'
 done:=by
  intro X hP hw hK hc i pins s σ H E I hf st hg;show KB;show VC
  have hle:xs.length<=i:=hg;have hit:=st.2;rw[show Į - 1 - FA= -1 by have:=X2;omega] at hit
  exact wpAny_pyNext_rev_end (I.ok.hd hc) hit AG6
 self:=fun _ _ _ _ _ st h=>wpAny_pyIter_revIter st.2 h
theorem zk6:AFt "reversed" "reversed":=ADi
def Vg(Akg):TI:=BDV (R AvV H1)
theorem ylq{X:Cx}{a tg:Expr}(ArW)(hg:Gl X "reversed")(hm:Fh "reversed")(ha:AWW)(hs:starEach [a] X.env=E9 (DE a) (E8 []):=by rfl):
  eR (AJ4 "reversed") (Vg X.K ta):=by
 show fe;show Alr zk6;show AM6;show AqU;show AhB;cases rx;show AkD;show RF;show Axn;have hit:(s1.heap.push Aqj).IsRevIter s1.heap.objs.size l (Į - 1 - ALH):=LW KO rfl (by show Data.fields _=_;show AJA;simp [rawInt])
 refine wpAny_pyIter_revIter hit ⟨s1.heap.objs.size,Ĩ,_,_,H1,rfl,Ŭ,z9t l _ xs,⟨DV,hit⟩,FL,q hz⟩;show ADH
 exact AKS
def zmb(UV):bK:=A1a xs.reverse
theorem yg9(BBa):AGP (Itv K a vs) xs.reverse:=by
 show oo hl;show AHU BJ0 e (by show BJL;rw[e,List.length_reverse];omega)
 obtain⟨v,hv,rv⟩:=vI (Zk rs) hd;show AhU (qo (HR hv) List.length_reverse)
 show BO ⟨ANo,hi⟩ (Α y H' z);show Č z z;rw[hv] at z;cases z;exact Alp
section
variable{X:Cx}{F0 H0:Hp}{a e tg:Expr}{pos p pos2 p2:Pos}{t:bK}
theorem zyl(hc:D6)(hg:Gl X "reversed")(hm:Fh "reversed")(ha:ACz)(hs:starEach [a] X.env=E9 (DE a) (E8 []):=by rfl):
  AFn (AJ4 "reversed") (zmb t):=A9K ylq (fun ds Γ1 F1 H1 vs R1 s1 r1 h1=>by
  unfold zmb at*;show RO
  ·obtain⟨v,_,rfl,⟨l,us,rfl,hq,rs⟩,rfl⟩:=r1;exact C3 l us xC (A8z yg9)
  ·exact h1.elim)
#where
theorem z7b:Ads BJA "__len__" none:=AeY
theorem ya6:Ads BJA "__length_hint__" (D' (LP "list_reverseiterator.__length_hint__")):=AeY
section
variable{prog:Program}{w:World}{A:Around}{E:dG}{s:Shared}
abbrev nT:Obj:=AHs #[]
theorem zyn(AN3)(hit:s.heap.IsRevIter I l (AS_ - 1))(hl:AUv items)(hz:Afj)
  (h:∀h' c tk,(AW0 (b≠I)) ->AR_ {cls:= Rc,dict:=none,data:= .seq items.reverse c,slots:= #[]} ->AP2 OW):
  Aj9 "list" (ku I):=by
 show UP hIl I (by show Ī e hit;exact Gc)
 show UP hll l (by show Ī e hl;exact Gc)
 have hne:l≠I:=by
  obtain⟨o,e,c,_⟩:=hit;obtain⟨o',e',c',_⟩:=hl;rintro rfl;rw[e] at e';cases e';rw[c] at c';exact Ya Value.type.inj c' τ
 refine callType_codes (Q₁:=A9s (AIh nT)) PySem.F.called_list (PySem.F.typeCall_list_1 _) PySem.F.entry_list_init (code_list_new _ k_) (Α obj s₁ h₁);show VS rfl h₁;show AXX hS nT nT KO;show AX (HL hS) (PySem.F.args_list_init_2 _ _);show HH (Builtin.List.listItems _) (listItems_at hS rfl ?_);refine DD (Builtin.List.listUpdate _ _) (listUpdate_at hS rfl ?_ fF fF);show Af4 hS2 Adm hS;show My (letGo _) wpAny_letGo;have oth:kA ARn (ET (ABr nT)) (ET (AeG s.heap.objs.size Adm).get?):=
  pr q e (AZS q e)
 have hit2:A3s IsRevIter I l (AS_ - 1):=dP hit.at (oth I o (zK hIl) NG);have hl2:A3s IsList l items:=dP hl.at (oth l o (zK hll) NG);generalize AeG s.heap.objs.size (Obj.mapSeq AcN)=h2 at*;have hT2:Shared.TypeIs (Pe h2) dE "list_reverseiterator" :=hit2.typeIs;refine DD (typeOf _) (wpAny_typeOf hT2 ?_);have n1:Builtin.List.listSameRef YA dE=false:=Q2 Builtin.List.listSameRef (AKb hIl)
 rw[dL (AJx n1)]
 refine DD (pyIter _) (wpAny_pyIter_revIter hit2 ?_);show My (holding _ _) Adw;show AoP z7b;show AoP ya6;dsimp only;rw[A4P "list_reverseiterator.__length_hint__" "list_reverseiterator" "__length_hint__"]
 show tw (isInstance _ _) (wpAny_isInstance (b:=true)) hT2 BHo
 rw[Χ τ,Ap Md]
 show An Md
 show ň;show An Md
 have hSf:s.heap.objs.size∉ [I,l]:=by
  show AOv;exact⟨AKb hIl,AKb hll⟩
 have W:=Walks.listRev (prog:=prog) (w:=w) (A:=A.in1.in1) AhN I l hne items
 refine A9 (AwG (codeAny_extend_loopS W.toS hz _ hSf _ items.size 0 _ _ _ rfl fF ⟨DV,AB (GU (AS_ - 1 - ALH) (AS_ - 1)) hit2,hl2⟩ hS2 BI0 BEd))
 have ev:acc=items.reverse:=by
  apply Array.ext_getElem?;intro i;show D8 (i<items.size)
  ·have hi:i<acc.size:=Ä AKd
   have:=hacc.2 i acc[i] (Array.getElem?_eq_getElem hi);rw[Ahf,Array.getElem?_reverse q,this]
  ·rw[Array.getElem?_eq_none (Tm AKd),Array.getElem?_eq_none (by simp;omega)]
 subst ev;show Ao4;show ApV;show AmZ s.drawn;show Ald;show BO rfl (h h' c' tk' Auv hS');show AZb;exact hm.heap b o (by show AOv;exact⟨zK hlt,hb⟩) (oth b o (zK hlt) NG)
#where
theorem yhs(hc:D6)(hg:Gl X "list")(hm:Fh "list")(hg2:Gl X "reversed")(hm2:Fh "reversed")(ha:AWW)(hb:AFt "list" "list":=by show PV)
  (he:starEach [a] X.env=E9 (DE a) (E8 []):=by rfl) (he2:starEach (sA AJ8 [a] pos2) X.env=E9 (DE (AAm AJ8 [a] pos2)) (E8 []):=by rfl):
  PE X A7y (SL ta vs (∃l xs,vs= [E5]/\kZ X.K H1 l xs/\A'J AfT)):=by
 show ER;show AqZ
 show Akp ?_ he2;rw[he2];show AgF;refine wpAny_Call_Name_kw (Er I hg2 hm2 zk6 ?_ τ τ)
 show Akp (TU (zk ha pos2 H _ I h) us) he;show AM6;show AqU;show AhB;cases rx;show AkD;show RF;show Axn;refine Calls.spliced_nil ?_;have I2:ADu (AHZ s1 (s1.heap.push (revObj l (AJK - 1))) s1.toks):=I1.kept rV;refine zyn (I:=s1.heap.objs.size) (items:=its.toArray) (I2.ok.hd hc) RH (pl.isList.push _) AMj fun h' c tk hold hS=> ?_
 show ANL Qp (Adb Aqj) SY;show AXg kp sB (hold b o AOj NG);have I3:A1G (P3 (Adb Aqj) AfT):=
  xA I1.laid kp Aup (aI AfT ⟨BJ0,its.reverse,c,rv.reverse,ALg hS⟩)
 exact Fk ATA I3 (q _ (I1.hok.fresh Aup))
def ZR:I0:=lS BI1
theorem z62(hc:D6)(hg:Gl X "list")(hm:Fh "list")(hg2:Gl X "reversed")(hm2:Fh "reversed")(ha:ACz)
  (he:starEach [a] X.env=E9 (DE a) (E8 []):=by rfl) (he2:starEach (sA AJ8 [a] pos2) X.env=E9 (DE (AAm AJ8 [a] pos2)) (E8 []):=by rfl):
  AJ3 A7y ZR:=fun z E cx=>by
 refine mQ (BY yhs hc hg hm hg2 hm2 B3 Md he he2) (De vK ?_)
 show OC vK;refine EI (fun ds Γ1 F1 H1 vs R1 s1 r1 h1=> ?_);unfold ZR at h1;show RO
 ·obtain⟨v,_,rfl,⟨l,us,rfl,hq,rs⟩,rfl⟩:=r1;refine C3 l us xC AVh;obtain⟨R2,q1,q2,q3,ap⟩:=Fg R1 hq0 (Zk rs);exact ce _ _ q _ R2 s1 q1 q2 q3 (Zk rs) ap h1
 ·exact h1.elim
structure Vh (xx):Prop where
 cls:RD K C=true
 g:Fo K C
 sa:Anq
 hd:AVW
section
variable{prog:Program}{w:World}{A:Around}{E:dG}{K:W.Frag}{h:Heap}{g:fb}{d:Drawn}{t:Nat}{os:OsState}{x C:Addr}{o:Obj}{name:Str}{v:Value}
#where
section
variable{prog:Program}{w:World}{A:Around}{E:dG}{K:W.Frag}{h:Heap}{g:fb}{d:Drawn}{t:Nat}{os:OsState}{x C dx:Addr}{o:Obj}{name:Str}{v:Value}{mA:CB}
#where
def XO(e C:Addr)(od:JU):HO:= AXL (∃t,AJp e ⟨kX,od,ABe #[.ref t,AJ,AJ,AJ,AMW,AJ],#[]⟩)
section
variable{X:Cx}{pins:c7}{σ:St}{H:Hp}{s:Shared}{A:Around}{E:dG}{a C dx:Addr}{f:Str}{y v:V}{u:Value}{fs:UQ}
#where
def acJ(C:Addr)(f:Str)(ta:TE):TE:=O_ (∃a dx fs v,x= AF/\â Alj/\ARD H1 fs/\ASP/\AT9)
def acK(A'Q):TS:=Aoh (AQE (ADy (XO a C none)) (∀dx,H2 dx=none ->dx≠a ->Sk (upd (i3 a Alj) dx (.xd [(f,y)]))))
structure adS (K:W.Frag) (B:Addr):Prop where
 sp:Axl (AW B) "__getattribute__" "type.__getattribute__"
 rd:W.readsIn K B BI_=true
 fi:W.findCls K (AW B) BI_ "__init__" =some (.val (LP "ValueError.__init__"))
section
variable{X:Cx}{o e value:Expr}{f:Str}{pos pos' apos p:Pos}{ta tv:TE}{C B:Addr}{x:Str}
#where
def ymb(bn:Str)(p apos pos:Pos)(args:AE)(env:Env)(pl:AFH):Prop:=eval (zD (V_ (.Name bn p) "__init__") args) env=(do
   let ov<- eval (.Name bn p) env
   Ť
   let (f,first)<- AAL "__init__" pl
   AAX (backTo pos (starEach args env)) (backToKw pos (keywordEach [] env)))
inductive yD (K:W.Frag) (C:Addr) (f:Str) (sp:cH) (yo):Prop
 | mk:BDq (∀d F' H3 v dx H',Ρ AhF OX (Pd d) (H3 dx=none) (Ard AM2 H3)) yD
def yf3(K:W.Frag)(C:Addr)(f:Str)(sp:cH):Sp:=fun vs H Q E=>(ARZ yD)
section
variable{P:Program}{w:World}{K:W.Frag}{mg:CB}{base:Heap}
#where
def ym6(C:Addr)(sp:cH)(t:bK):aF:=A2R (A2 (E Γ1 (.any C)))
section
variable{X:Cx}{F0 H0:Hp}{e:Expr}{es:AE}{pos np cpos:Pos}{t:bK}{x fl:Str}{C f:Addr}{fd:FuncData}{ps:ο}{k:Nat}{sp:cH}
structure Xk2 (Avt):Prop where
 ex:BDr yf3
#where
section
variable{X:Cx}{F0 H0:Hp}{tg iter elt:Expr}{ifs:AE}{pos:Pos}{sc:Scope}{own:ο}{caps:AT}{N' :ο}{ti:bK}{g:rG}{tc:TT2}{te:aY}
open Classical in
theorem ybu(hN:X.N.Nodup)(hi' :B' X.N y)(hy:AON)(S:AOM)(hc:D6)(hi:AGo (AVP iter ti))
  (hg:AaZ) (ht:Aaa) (he:AaY)
  (hn:AUn:=by rfl) (hsw:swapsWith ub (some AU0) spos.line X.env=pure true:=by rfl) (hs:h_ iter:=by show NU):
  A_l (aX i (FQ (U9 (Aep tc te)))):=by
 subst hn;rintro z E cx pins s σ H Dn I ⟨F,Γ,D2,R,h,k⟩;obtain⟨F1,s1,R1,n1,o1⟩:=z0j R;rw[XG exec_Assign_Name_used hsw];show s_ wpAny_standAt z6;refine z6 (ve (SO zpb use (some (assign AU0 X.env)) (Qv:=FU s' (SP bE pins Dn mP s')) (g:=Amm) (tc:=tX X.K tc) (te:=eX X.K te) (Q:=fun v H' =>Dn.nx AJ' H') (BY fD.cs S) (pig hc (hi F1 H z jG (Qj cx))) ?_ ?_ ?_ rfl hs I ?_ ?_) (fun _ s' hq=>z7 (z7 hq)) AGL)
 ·rintro C s₀ H₀ fp pins s σ H v u Q I r ⟨yx,yC,q⟩;exact pb hg H v u Q I r q
 ·rintro C s₀ H₀ fp pins s σ H Q I ⟨yx,yC,q⟩;exact pb ht H Q I q
 ·rintro C s₀ H₀ fp pins s σ H Q I ⟨yx,yC,q⟩;exact pb he H Q I q
 ·refine⟨F1,gb Γ,_,R1,h,fun ds Γ1 F2 H2 J Hx R2 s2 hx hJ h1 acc ha=>zo9 R2 hJ hx ha h1 fun ys F' H' vs R' sF a1 a2 a3 rs ap hp=> ?_⟩;have s3:=(T7 R'.g a1 a2).1;have R3:=R'.frzA a1 a2 a3 ap;have s' :=OZ s2.trans sF s3;have gr:Gr F H (TH (ACp MU (AZR b))) H' :=by
   show CA F6 F6 R3.gr.h (jS ?_)
   ·show ky (AXO (WB o1)) (AIe s' s1)
   ·show oy (AdF AZR);split at e'
    ·cases e'
    ·exact R3.g _ _ e'
   ·have e' :(AdF AZR)=some o:=e;split at e'
    ·cases e'
    ·show uj hb (A_M R3.gr.n)
  have rep:Rep X.K (jt F1 AZR) AfS vt:=C7 (NJ acc (z5l (R'.gr.f.free a2) (Db (Db jJ))) (ZG (z3t R3.gr.f) ys vs hp.1 (rs.up s3)))
  refine FG ((R.grow gr).set i (rep.up F6)) gr.f hp.2;have hb:¬MU:=fun hb=>by
   obtain⟨_,w,ev,ld⟩:=o1 b hb;exact zz6 e w ld ev
  show An hb;exact zv9 _ _ e
 ·rintro acc C H' s5 I5 q5 ⟨m,hn⟩ c1 c2 c3 c4 c5 c6;refine wpAny_assign_Name (BY zpk I5 hN hi' Af0 (v:= AfO) rfl A5P Af2);show UD a hsb ha;have ha' :a=X.env.locals\/Ahr a:=ha;have hac:C≠a:=by
   show va ha' ha'
   ·exact c2
   ·exact BCe
  show B0 m (hn.sameBut hsb hac) (AhZ (LW H' (I6.turned (t' :=s6.toks) (it:=C) (fun b o hb e=>(AP9 hs')) c1 c2 (CL c3) c4 c5) q5))
#where
section
variable{K:W.Frag}{F H:Hp}
theorem KD:Ap_ (AH_ ATs [])
 | [],_,h=>by subst h;rw[List.map_nil];exact k_
 | Rl,_,h=>by
  show BV v us h1 h2 h;rw[List.map_cons];exact⟨v,us,[],[],rfl,rfl,C7 (HU h1),KD h2⟩
theorem ZS:∀{ts us:EX} {vs ws:χ} {as bs:Ν},x_ ->iw K F H us ws bs ->iw K F H (ts++us) Aig (as++bs)
 | [],us,vs,ws,as,bs,h1,h2=>by
  show VS rfl h1;exact h2
 | PH,us,vs,ws,as,bs,h1,h2=>by
  obtain⟨v,vs',a1,a2,rfl,rfl,q1,q2⟩:=h1;rw[List.cons_append];exact⟨v,vs' ++ws,a1,a2++bs,rfl,Fu List.append_assoc,q1,ZS q2 h2⟩
theorem zyz(h:t_):iw K F H [t] [v] as:=by
 refine⟨v,[],as,[],rfl,AY,h,?_⟩
 exact k_
theorem yec:∀{ts:EX} {vs:χ} {as:Ν} {j:Nat} {t:T},x_ ->HK ts t ->∃v b1 bs b2,HK vs v/\as=ŧ bs/\Ç v bs/\
  ∀{F' H' :Hp} {t' :T} {cs:Ν},DT ->(∀a∈b1++b2,AM_) ->AQ7 v cs ->rS iw (ts.set j t') vs (AQd cs)
 | [],_,_,j,t,_,e=>AFJ
 | t0::ts,_,_,0,t,h,e=>by
  cases e;obtain⟨v,vs',a1,a2,rfl,rfl,q1,q2⟩:=h;refine⟨v,[],a1,a2,rfl,rfl,q1,fun{F' H' t' cs} f k r=> ?_⟩;rw[List.set_cons_zero];exact⟨v,vs',cs,a2,rfl,rfl,r,ACk (iw.move f ts vs' a2) (k a ha) q2⟩
 | t0::ts,_,_,j+1,t,h,e=>by
  obtain⟨v,vs',a1,a2,rfl,rfl,q1,q2⟩:=h;obtain⟨w,b1,bs,b2,g1,rfl,g3,g4⟩:=yec q2 wP
  refine⟨w,a1++b1,bs,b2,AN g1,AY,g3,fun{F' H' t' cs} f k r=> ?_⟩
  rw[List.set_cons_succ];exact⟨v,vs',a1,ŧ cs,rfl,AY,BDf f,BFR f⟩
#where
mutual
def Vi:ķ
 | M_=>pY d
 | Y3=>yE ts
 | AWM=>yE ts
 | Ain=>yE ts
 | AlL=>yE ts
 | Ń=>True
def yE:DO EX
 | []=>True
 | PH=>Vi t/\yE ts
end
section
variable{K:W.Frag}{F F' H:Hp}
#where
abbrev lY:=AHB T
section
variable(K:W.Frag)(F0 H0:Hp)
inductive UpN (t:lY) (E:XW) (σ:St) (H:Hp) (Q:VK):Prop
 | mk:AJk (∀tr Γ' F' H' v as,AIC ->DT ->Ρ as.Nodup A5d (rS TR tr v as) (P tr Γ') kG) UpN
def upN(t:lY)(E:XW):TE:=yT UpN
#where
def QN(NC)(e:Expr)(t:lY):Prop:=AM9 upN
def nOf(UV):lY:=IO (Be (BN ATs))
section
variable{X:Cx}{F0 H0:Hp}{e:Expr}{es:AE}{pos p:Pos}{te:aY}{tf:bK}{tn:lY}
theorem yl4(h:Ak5):Sj e (nOf tf):=fun z E cx=>
 mQ RY (De hq1 (HV hq1 (fun ds Γ1 F1 H1 a vs R1 s1 e1 e2 e3 r1 ap h1=>by
  refine JA _ [a] R1 s1 Η (TC (Ę hb ⟨e2,e3,ap⟩)) ?_ h1
  exact⟨a,vs,[],rfl,rfl,e1,KD r1⟩)))
def Vj:lY:=AL1 (.dic [] [])
theorem ZV:A5G Vj:=fun z E cx=>
 mQ ybb fun σ H Q hq2 q hq=>by
  show OC hq2;have R2:aw F (IA q AMX) Γ:=R.grow (hV (UU (w9 R.g hq) (R.g b u e)) (UU (Hm hq) e))
  refine JA _ [q] R2 ES Η A9k ?_ h
  exact⟨q,[],[],rfl,rfl,jJ,rfl,Afy⟩
def acL(t:lY):lY:=þ t gb tr (Vi tr/\P tr Γ)
def yF(i:Nat)(t:lY):aF:=Sb t tr (∀as,ā as tr)
theorem ZW(o_)(hx:nc)(he:ğ)(hs:Ð e (SG pos'):=by rfl)
  (hf:Zs\/Z_:=by show AGq):AZ0 yF tn:=fun z E cx=>
 sJ (qE SJ hN hi hx K0 hs hf) (PF Ar Ar (fun t Γ1 F1 H1 v as R1 s1 nd hn r1 h1=>
  FG (BDz (XL t)) s1 (h1 as)))
def wz(t:lY):aF:=ib (t Γ (fun tr _=>D.rT (.one tr)) E)
theorem Vk(he:ğ):An_ (wz tn):=fun z E cx=>
 sJ (z40 K0) (PF vK vK (fun t Γ1 F1 H1 v as R1 s1 nd hn r1 h1=>k.rT (.one t) _ _ _ _ R1.gr nd (ę ⟨ASA,(hn a ha).2.1⟩) r1 h1))
def nV(Uf):lY:=SU (ML Γ[i]? (some (.tr _ t)) (P t (Γ.set i υ)))
theorem yd4(AVg):Sj ü (nV i):=fun z E cx=>
 mQ NN (De Ed (by
  show OC Ed;show BC nV;show C4
  ·rename_i as t e;obtain⟨o,e0,v,rfl,nd,hn,r⟩:=AFO;exact⟨v,e0,k t _ F H v as (R.dropAt e0) ES nd (ę ⟨ASA,AJc,R.less e e0 (Cc (gG (Slot.tr as t) cq a) ha)⟩) r h⟩
  ·show EH))
#where
section
variable{prog:Program}{w:World}{κ:Type}[TZ]{knd:pE}{A:Around}{E:dG}{s:Shared}{d:Addr}{ep:Nat}{kvs:ACd}
#where
section
variable{prog:Program}{w:World}{A:Around}{E:dG}{s:Shared}{d:Addr}{ep:Nat}{kvs:AU_}
#where
def acM(gy):SA:=ABn (∃(q:Addr) (kvs:Kx) (ns:Ξ),vs= ku q/\KM q FV/\kvs.map (·.1)=ns.map .inl/\AUj/\
 mS l ms Ξ (ACV ->Ai7 ->AU8 ->ANQ AgY))
def acN(Uf):bK:=SU (ML Γ[i]? (some (.tr _ (.dic ks _))) (∃ns:Ξ,ks=ns.map .inl/\AUj/\∀ms:Ξ,Ai7 ->AU8 ->P (ms.map Tk) Γ))
section
variable{X:Cx}{F0 H0:Hp}{pos p px:Pos}{x:Str}{i:Nat}
theorem zw5:Ċ ks Au M3 (AA ks.zip vs (·.1)=ks)
 | [],[],_=>rfl
 | [],A1,h=>BH
 | A1,[],h=>BH
 | Ŕ,AFU,h=>A5' zw5
#where
section
variable{K:W.Frag}{F0 H0 F H F' H' :Hp}{σ:St}{Γ:UH}
theorem z22(e1:xi)(h:xo):zo ACZ a:=fun j q=>by
 have q' :nP ACZ (sR o) j a:=A4k
 rcases T6 q' with ⟨_,z⟩ | ⟨_,z⟩
 ·exact z
 ·exact h j z
theorem SR.wrT(R:DL)(e:ALn)(e1:xi)(h:ac)(r:pB K F AGG H0 t o)(ht:IS (gG t o b) (gG s o b\/ABJ b)):
  AWF AGG t:=by
 have R1:=R.wrO (t:= υ) (u:=u) e e1 h trivial (FU z z.elim);have R2:=R1.put i r (FX (by
  show J_ (ht b hb)
  ·rw[ui ((io Slot.no)=Γ.set i υ)];exact R.less e e1 z
  ·exact z22 e1 z))
 show AGp R2;exact R2
#where
abbrev tZ:=Amx ķ
inductive Ge (K:W.Frag) (sp:tZ) (yo):Prop
 | mk:Ar3 ((∀t v as F' H',FH cy as.Nodup AlB AXW (P t) kG)) Ge
def uG(K:W.Frag)(sp:tZ):Sp:=ANE Ge
def yG(sp:tZ):cH:=m3 (sp ds (Μ t (P (toD t))) E)
open Classical in
theorem z09(EF){sp:tZ}{vs:χ}{H:Hp}{Q:VK}{E:XK}(h:pQ K (yG sp) vs H Q E):AIT uG:=by
 obtain⟨F,ds,P,Ex,h1,h2,h3,h4,h5⟩:=h;refine⟨F,ds,fun t=>P (toD t),Ex,h1,h2,h3,fun t v as F' H' g nd hn r p=> ?_,h5⟩;have s1:Same F' A5S:=HP (by
  show L4 Anv;show An (fun hb=>(AcV ACW))
  exact e)
 refine h4 (toD t) v A5S H' ⟨g.f.trans s1,F6,g.h,jS ?_⟩ (AkF (fun a ha u hu=> ?_) r) p
 ·show oy Anv;split at e'
  ·exact e'
  ·exact g.g b u e'
 ·have e' :Anv=some o:=e;split at e'
  ·show uj hb (.inl ě)
  ·exact g.n b o e' n
 ·show D1 ha;exact hu
structure xH (YI) (x:Str) (k:Nat) (ps:ο) (sp:tZ):Prop where
 ex:AOf uG
theorem xH.fn(AGH){K:W.Frag}{mg:CB}{base:Heap}{x:Str}{k:Nat}{ps:ο}{sp:tZ}(G:ae xH base x k ps sp):ae dw base x k ps (yG sp):=by
 obtain⟨f,fd,h1,h2⟩:=G.ex;exact⟨f,fd,A2_,h2⟩
section
variable{P:Program}{w:World}{K:W.Frag}{mg:CB}{base:Heap}
theorem Gf(Ana)(AOc){fd:FuncData}{N ps:ο}{k:Nat}{sp:tZ}(Fn:AGh)(S:EJ N ps st)(len:∀ds Q E,sp ds Q E ->AEP)
  (hbody:∀(cdv:Value) (A:Around) (outer:EG) (s:Shared) (H:Hp) (E:XK),AOu (∀F0:Hp,
   Akm H Ù t (AqD (Aos (IV Q))))):
  Ahl uG:=by
 obtain⟨oc,od,kV,doc,pm,an,cdv,ct,osl,rfl,lk,hcd⟩:=Fn.ex;show AbL (fun A outer s H vs Q E hr hq2=> ?_)
 show AsH AY6
 obtain⟨F0,ds,Pd,Ex,sF,rs,hsp,hQ,hE⟩:=hq2;show Alm;show AZ_ (by
  show AN9 (fun pins σ Γ F H1 s1 e s' I R hx=> ?_);show AO5;obtain⟨Γ',F',x,R',_,xr,_,z1⟩:=z;exact AbP)
 exact⟨_,AWr,F0,jh N ds,Aos (IV Pd),ApD,ArQ,⟨fun _ _ _ _ _ _ q=>q.elim,fun _ _ _ _ _ _ q=>q,fun _ _ _ _ _ _ q=>q,fun _ _ _ _ _ _ q=>q.elim,fun _ _ _ _ _ _ q=>q.elim,fun t v as F' H' gr nd hn r q=>by(cases t with | one t=>exact hQ t v as F' H' gr nd hn r q | tp c t=>exact q.elim),fun _ _ _ _ _ _ _ _ q=>q.elim⟩⟩
#where
def xJ(sp:tZ)(t:bK):lY:=IO (AKU (Μ tr (Be tr)))
section
variable{X:Cx}{F0 H0:Hp}{e:Expr}{es:AE}{pos p:Pos}{x:Str}{ps:ο}{k:Nat}{sp:tZ}{t:bK}
theorem zt0(AoQ xH):
  Sj Ts (xJ sp t):=by
 show AOh Fn hm hk hb;rintro z E cx pins s σ H Q I ⟨F,Γ,P,R,h,kk⟩;show AO1;refine W.callWith_K (h₀:=X.base) I.ok.mod.Hv hk (As5 AMY (fun ds Γ1 F1 H1 vs R1 s1 r1 h1=>AV5)) he hpl;obtain⟨vs,H1,I1,r,F1,Γ1,ds,R1,sF,rs,q⟩:=hz1;show ALb;have hs:uG X.K sp vs H1 Q (fun C dx H' =>∃x F',E Γ1 x/\AoA /\AJZ H1):=⟨F1,ds,_,_,R1.g,rs,q,fun t v as F' H' gr nd hn rt hp=>BDt,fun x C dx F' H' hE gr xr=>AZ9⟩;show AG5 (us++ []) A6h
 have hbs:=hb s1 us I1.kIn hl;show Ű;refine wpAny_call (codeAny_mono (BAb ALZ us vs Q _ hr I1.env0 hbs r hs) (gS hq));cases r with
 | error e=>exact Arc I1 R1 hq
 | ok fl=>
  cases fl with
  | ret u=>exact I1.after hq
  | next=>show NV
  | brk=>show NV
  | cont=>show NV
#where
def adT(i:Nat)(t:TE):TS:=bS (∃a vs,AMG/\Ņ/\iE t v (∃l us y,V.ref a= E5/\ [v]= [y]/\H1 l=some Đ/\OA us.length/\Sk (P3 l (BN (us++ [y])))))
section
variable{X:Cx}{F0 H0:Hp}{e:Expr}{pos npos apos cpos:Pos}{x:Str}{i:Nat}{t:TE}{te:aY}{tn:lY}
def cTA(AlH):aF:=A4m (VM te d (BAq (ā as (BN (ts++ [M_])))))
def cTN(i:Nat)(tn:lY):aF:=A4m (VM tn t (BAq (∀cs,ā AWq (BN ASF))))
#where
#print L3
namespace L3
open PySem PySem.Spec PyProof.Rows L2
def mF(ks:Au)(k:Key):Bool:=A1N
theorem uH:AFv↔ANa:=by
 unfold mF;rw[List.any_eq_true];exact im hz (by show ND x h hz;exact A3Q) (B_ AzR)
def gK(ks:Au)(k:Key):Au:=AqC AFv
def dU(FI)(ks:Au)(xs:AG)(k:Key)(x:α):AG:=BFa AFv
theorem zrr:Ċ ks Au M3 BDY
 | [],_,_=>rfl
 | A1,[],h=>BH
 | n_,AFT,h=>by
  rw[List.zip_cons_cons,List.map_cons,List.zipWith_cons_cons,List.zip_cons_cons,AB' zrr]
  by_cases q:k' =k<;>simp [q]
theorem ZX(h:M3):BFQ gK AuM:=by
 unfold putK gK dU;have e:A6b=true↔AFv:=by
  rw[uH,List.any_eq_true];constructor
  ·rintro⟨kv,hm,q⟩;have:=List.mem_map_of_mem (f:=(·.1)) hm;show A_ (zw5 h);rw[<- of_decide_eq_true q];exact this
  ·intro hm;rw[<- zw5 h] at hm;show At kv h1 h2 zB.mp hm;exact tm kv BJk
 show D8 AFv
 ·rw[d5 e.mpr q,EM,EM];exact zrr h
 ·rw[Χ (DH (q (e.mp z))),EE,EE,BIj]
  rfl
theorem zxx(h:ks.length=xs.length):Hc gK ks k=(dU ks xs k x).length:=by
 unfold gK dU;split
 ·rw[List.length_zipWith,<- h,Nat.min_self]
 ·simp [h]
theorem z7l(DM){k:Key}{d:D}{v:V}(r:IH):Aa6 Au A'3
 | [],xs,vs,h=>ALN
 | A1,[],vs,h=>AZG
 | n_,Ee,vs,h=>by
  show BV u us h1 h2 h;rw[List.zipWith_cons_cons,List.zipWith_cons_cons];refine qX ?_ (z7l r h2);show AGe
  ·show AYt r
  ·show AYs h1
theorem zpy(DM){ks:Au}{xs:ψ}{vs:χ}{k:Key}(AAT)(h:XY)(r:IH):F8 (dU ks xs k d) AuM:=by
 unfold dU;split
 ·exact z7l r h
 ·exact zdt h (Hy r)
theorem Qs(ť):∀{xs:ψ} {vs:χ} {as:Ν},AH_ i_ as ->as= []/\XY
 | [],vs,as,h=>by rw[List.map_nil] at h;exact⟨h.2,CF⟩
 | Ee,vs,as,h=>by
  rw[List.map_cons] at h;obtain⟨v,us,bs,cs,rfl,rfl,h1,h2⟩:=h;show Č r h1;show AG9 h2;exact HU (qX r rs)
def cDP(A2j):aF:=A'y (match kd,Γ2[i]? with
 | OS,some Ac6=>∃xs,ts=xs.map rg/\OA ks.length/\A8r (Db k) (Db k)
 | _,_=>False)
section
variable{X:Cx}{F0 H0:Hp}{ke value:Expr}{pos npos pos' :Pos}{x:Str}{i:Nat}{tk tv:aY}
#where
section
variable{K:W.Frag}{F0 H0 F H F' H' :Hp}{σ σ' :St}{Γ Γ' :UH}
open Classical in
noncomputable def adU (Γ:UH) (σ:St) (H:Hp):Hp:=OY (ACp MU (H b))
#where
def Vl(i x:Nat)(a b:Addr)(Dq:EX)(j:Nat)(I:og):đ:=Ê (∃cs' us',A3t/\B' Γ' Atu/\
 ∀q:Ν,I ď (A8g i (Slot.tr (a::q) A3y)))
def acO(A6u):aF:=fun D0 Γ _=>∃as ts,IZ (Slot.tr as AJL)/\∀a bs,AKE ->∃I:og,AOJ/\
 (∀(j:Nat) Γ1,A3h (∃bs1 Dq us,Se (Slot.tr (a::bs1) (BN Dq))/\Dq.length=ts.length/\HK Dq Đ/\
  mS b cs Ν (tb {nx:=Vl i x a b Dq j I,ct:=L7,bk:=L7,rt:=D0.rt,rf:=D0.rf,rT:=D0.rT} (AW2 Atu x (Slot.tr (b::cs) Đ)) jG)))/\
 ∀Γ1,Ay1 ->D0.nx Γ1
section
variable{X:Cx}{F0 H0:Hp}{pos px pn:Pos}{xv xn:Str}{i x:Nat}{body:IQ}{tb:aF}
#where
def nL1(t:lY):lY:=KI t tr (Be (BN [tr]))
section
variable{X:Cx}{F0 H0:Hp}{e:Expr}{pos:Pos}{tn:lY}
#where
#print L3
namespace L3
open PySem PySem.Spec PyProof.Rows L2 PySem.W
structure Ord (lt:eI) (n:Nat):Prop where
 tri:∀i j,Ρ CO (j<n) (i≠j) (lt i j=false) (lt j i=true)
 irr:ANS (j<n ->AlG ->lt j i=false)
 tr:∀i j k,FH CO (j<n) (k<n) AlG (lt j k=true) (lt i k=true)
def Sat(FI)(lt:eI)(n:Nat)(t:KasT α)(Q:DO α):Prop:=Nq lt n t=true/\Q (Qo lt t)
section
variable{lt:eI}{n:Nat}{α β:Type}
theorem Gg(h:Q a):AHF (.ret a):=HU h
theorem Qt(hi:CO)(hj:j<n)(hij:i≠j)(h:AHF (k (lt i j))):AHF (.ask i j k):=by
 show BO ?_ h.2;unfold Nq;show BIZ Bool.and_eq_true;exact⟨hi,hj,hij,CF⟩
theorem Qu:FD t (KasT α) (Sat lt n t (Μ a (AHF (f a)))) (AHF (t.bind f))
 | .ret a,h=>h.2
 | Aas,h=>by
  have h1:=CF;unfold Nq at h1;show Akc h1;exact Qt eh h1.2.1 h1.2.2.1 (Qu ⟨h1.2.2.2,h.2⟩)
theorem Sat.imp(h:AHF t)(k:∀a,Q a ->Q' a):Sat lt n t Q' :=⟨CF,k _ h.2⟩
def Pm(n:Nat)(p:YE):Prop:=ARb p.toList.Perm n
theorem Pm.size(h:Tb):p.size=n:=AN (List.Perm.length_eq h)
theorem Vm{p:YE}{k:Nat}(hk:k<p.size):p.getD k 0=p.toList[k]' ATY:=Q2 Array.getD hk
theorem Pm.below{p:YE}(h:Tb){k:Nat}(hk:k<n):Ail<n:=by
 have hk' :k<p.size:=AB h.size hk
 rw[Vm hk'];exact List.mem_range.mp (h.mem_iff.mp (yU _))
theorem Pm.ne{p:YE}(h:Tb){k j:Nat}(hk:k<n)(hj:j<n)(hkj:k≠j):Ail≠p.getD j 0:=by
 have nd:p.toList.Nodup:=h.nodup_iff.mpr List.nodup_range;rw[Me Vm h.size hk,Me Vm h.size hj]
 show AN5 nd;show Ajo hkj
 ·exact key k j _ _ q
 ·exact AmO (key j k _ _)
def Lp(lt:eI)(p:YE)(i j:Nat):Bool:=AZc (p.getD i 0) j
def Up(BER):Prop:=A2K (RS i j)
def Dn(BER):Prop:=A2K (RS j i)
theorem z5x(Aaf)(hi:CO)(hj:j<n)(hij:i≠j)(h:LL (Lp lt p i j)):RS j i:=O.tri _ _ (P.below hi) (P.below hj) (P.ne hi hj hij) h
theorem Z0(O:tS)(P:Tb)(hi:CO)(hj:j<n)(hk:k<n)(h:RS i j)(h' :RS j k):RS i k:=AcX (O.tr _ _ _ (P.below hi)) hj hk h h'
theorem yis(Aaf)(hr:r<n)(h1:1<=r)(U:Up lt p r)(h:RS ALX r):Up lt p (r+1):=ANu (by
 show X9 (AgX r) q
 ·exact AZB q
 ·show ME j r
  rcases AKv ACx with q' | q'
  ·exact Z0 O P ξ ξ hr BAc h
  ·show ME i (j - 1)
   exact h)
theorem yfv(Aaf)(hr:r<n)(h1:1<=r)(U:AGz r)(h:RS r ALX):AGz (r+1):=ANu (by
 show X9 (AgX r) q
 ·exact AZB q
 ·show ME j r
  rcases AKv ACx with q' | q'
  ·exact Z0 O P hr ξ ξ h BAc
  ·show ME i (j - 1)
   exact h)
theorem ygp(O:tS)(P:Tb):A9w (Up lt p m) (Sat lt n (kas_asc p f m) (Kb (m<=r/\r<=m+f/\Up lt p r/\ (r<m+f ->RS r ALX))))
 | 0,m,h1,_,U=>Gg ⟨E7,E7,U,AC (Ū z)⟩
 | f+1,m,h1,hn,U=>by
  show Aan
  cases q:AZc Am' (m - 1) with
  | true=>
   show XZ;exact Gg ⟨E7,ρ,U,C6 q⟩
  | false=>
   show mw
   refine(ygp O P f (m+1) ξ ξ (yis O P ξ h1 U (z5x O P ξ ξ ξ q))).imp fun r hz=>by obtain⟨a1,a2,a3,a4⟩:=hz;exact⟨ρ,ρ,a3,AC (a4 ξ)⟩
theorem ydo(O:tS)(P:Tb):A9w (AGz m) (Sat lt n (kas_desc f p m 0) (Kb (ω=p/\m<=A3/\A3<=m+f/\LV=0/\AGz A3)))
 | 0,m,h1,_,U=>Gg (IB rfl E7 E7 U)
 | f+1,m,h1,hn,U=>by
  show Aan
  cases q:AZc Am' (m - 1) with
  | true=>
   rw[BU,AK1]
   exact(ydo O P f (m+1) ξ ξ (yfv O P ξ h1 U q)).imp fun r hq1=>by obtain⟨a1,a2,a3,a4,a5⟩:=hq1;exact⟨a1,ρ,ρ,a4,a5⟩
  | false=>
   show mw
   show Aan
   have q' :lt (p.getD (m - 1) 0) Am'=true:=ww (z5x O P) m (m - 1) ξ ξ ξ q
   rw[q',BU];exact Gg (IB rfl E7 (qA (m<=_)) U)
theorem yd8(P:Tb)(i j:Nat):Pm n (kas_rev p i j):=Ayg (mirror_perm p i j ((j - i)/2))
theorem getD_get?{p q:YE}{i j:Nat}(h:p[i]?=q[j]?):p.getD i 0=q.getD j 0:=by
 rw[Array.getD_eq_getD_getElem?,Array.getD_eq_getD_getElem?,h]
theorem ydc{p:YE}{m k:Nat}(hm:m<=p.size)(hk:k<m):(kas_rev p 0 m).getD k 0=p.getD (m - 1 - k) 0:=by
 have e:=getElem?_mirror_all (i:=0) hm k;rw[Ap ⟨DV,hk⟩] at e;have:=ATo;show A_ (GU (0+m - 1 - k) (m - 1 - k))
 exact this
theorem ygs(O:tS)(P:Tb)(h1:1<=m)(hm:m<=n)(D:AGz m):BBm (kas_tail3 m n p):=by
 have U:Up lt (kas_rev p 0 m) m:=ANu (AU9 Lp (ydc Auq ξ) (ydc Auq hj) (D (m - 1 - j) (m - 1 - i) ξ ξ))
 exact Qu ((ygp O (yd8 P 0 m) (n - m) m h1 ξ U).imp fun r hz=>by obtain⟨a1,a2,a3,_⟩:=hz;exact Gg ⟨yd8 P 0 m,qA (1<=r),qA (r<=n),a3⟩)
theorem yh7(O:tS)(P:Tb)(h1:1<=n):BBm (kas_count n p):=by
 refine Qu ((ygp O P (n - 1) 1 CC ξ (fun i j a b=>ρ)).imp (AD r hz1))
 obtain⟨a1,a2,a3,a4⟩:=hz1;show Fs r n
 ·show D1 (TD e)
  exact A2l
 ·show An (TD e)
  by_cases g:r>1
  ·show D1 g;show Aan
   have q:lt (p.getD 0 0) (p.getD ALX 0)=true:=a3 0 ALX ξ ξ
   rw[q,BU];exact A2l
  ·show An g;show ME r 1
   have q:=a4 ξ
   have D:AGz 2:=ANu (by
    show ME i 0
    show ME j 1
    exact q)
   refine Qu ((ydo O P (n - (1+1)) (1+1) ξ ξ D).imp (AD r hq2))
   obtain⟨b1,b2,b3,b4,b5⟩:=hq2;rw[Χ ξ,b1]
   exact ygs O P ξ ξ b5
theorem zxw(Aaf)(hk:k<n)(U:Up lt p k):∀(f l r:Nat),FH (l<=r) (r<=k) (r - l<=f) (∀j,j<l ->RS j k) (∀j,r<=j ->j<k ->RS k j) (Sat lt n (kas_place p k f l r) (IL (x<=k/\ (∀j,j<x ->RS j k)/\∀j,x<=j ->j<k ->RS k j)))
 | 0,l,r,h1,h2,h3,h4,h5=>A'W
 | f+1,l,r,h1,h2,h3,h4,h5=>by
  unfold kas_place;by_cases g:l≥r
  ·show D1 g;exact A'W
  ·show An g;have m1:l<=yb:=ρ
   have m2:yb<r:=ρ
   refine AcX Qt hk ξ (P.ne hk ξ ξ) ?_
   cases q:AZc (p.getD k 0) (yb) with
   | true=>
    show XZ;refine Apx f l _ m1 ξ ξ h4 (Α j a b)
    show J_ (Nat.lt_or_ge (yb) j)
    ·exact Z0 O P hk ξ ξ q (U _ j z b)
    ·show ME j yb
     exact q
   | false=>
    show mw
    have q' :Lp lt p (yb) k=true:=z5x O P hk ξ ξ q
    refine Apx f _ r ξ h2 ξ (Iq j a) h5
    show J_ (AgX (yb))
    ·exact Z0 O P ξ ξ hk (U j _ z ξ) q'
    ·show ME j yb
     exact q'
theorem ykp(P:Tb)(k d:Nat):Pm n (bubble p k d):=Ayg (bubble_perm p k d)
theorem yjp(O:tS):∀(f:Nat) (p:YE) (k:Nat),Tb ->k+f=n ->Up lt p k ->Sat lt n (kas_bin f p k) AzQ
 | 0,p,k,P,h,U=>by
  show ME k n
  exact Gg ⟨P,U⟩
 | f+1,p,k,P,h,U=>by
  have hk:k<n:=ρ
  refine Qu ((Apx k 0 k fF CC ξ (fun j a=>ρ) (fun j a b=>ρ)).imp (AD l hz1))
  show UD a1 a2 a3;refine yjp O f _ EL (ykp P k AYS) ξ (IE i j hij hj)
  have at' :∀x,(bubble p k AYS).getD x 0=E2 x l Ail (if l<x/\x<=k then p.getD (x - 1) 0 else p.getD x 0):=fun x=>by
   have e:=getElem?_bubble (xs:=p) (src:=k) (B6 P.size hk) AYS ξ x
   rw[GU (k - AYS) l] at e
   split
   ·show GN;rw[EM] at e;exact ATo
   ·show GN;rw[EE] at e;split
    ·rename_i q2;rw[Ap q2] at e;exact ATo
    ·rename_i q2;rw[Χ q2] at e;exact ATo
  show lt _ _=true;rw[at',at'];by_cases e1:i=l
  ·rw[Ap e1,UM,RU]
   exact a3 ACx ξ ξ
  ·show An e1;by_cases e2:j=l
   ·rw[Ap e2,UM]
    exact a2 i ξ
   ·show An e2;by_cases e3:l<i/\i<=k
    ·rw[Ap e3,RU]
     exact U (i - 1) ACx ξ ξ
    ·show An e3;by_cases e4:l<j/\j<=k
     ·show D1 e4;exact U i ACx ξ ξ
     ·show An e4;exact AZB ξ
theorem yjk(O:tS):Sat lt n (kas_sort n) AzQ:=by
 have P0:Pm n (List.toArray (List.range n)):=C7 BIq
 by_cases h0:n=0
 ·subst h0;exact⟨rfl,(As BIq),fun i j _ hj=>(AsP hj)⟩
 ·refine Qu ((yh7 O P0 ξ).imp (AD r hz1))
  obtain⟨a1,a2,a3,a4⟩:=hz1;by_cases g:ω<n
  ·rw[Ap g,Afv (max ω 1=ω)]
   exact yjp O _ _ _ a1 ξ a4
  ·show An g;obtain e:ω=n:=ρ
   exact Gg ⟨a1,e ▸ a4⟩
#where
#print L3
namespace L3
open PySem PySem.Spec PyProof.Rows L2
def wA(lt:eI)(is:AT):Prop:=is.Pairwise fun i j=>AlG
theorem yjy(P:Pm n q)(U:Up lt q n):wA lt q.toList:=by
 unfold wA;show BIY;intro i j hi hj hij;have hj' :j<q.size:=AN hj
 show UT q.size ρ
 have:=AZB (BA P.size hj')
 unfold Lp at this;show X_ (Vm hi') (Vm hj');exact this
structure Jq (prog:Program) (w:World) (A:Around) (E:dG) (vs:Β) (lt:eI) (T:AfZ) (κ:SortKind):Prop where
 kind:AN2 Q (D4 SortKind) (Ahn ->2<=vs.length ->Q κ s ->E4 (keyKind' vs.toArray))
 ask:∀(s:Shared) (i j:Nat) (C:D4 Bool),FH Ahn (i<vs.length) (j<vs.length) (i≠j) (C AL4 s) (W.kas_ask prog w A κ vs i j C s)
section
variable{prog:Program}{w:World}{A:Around}{E:dG}{s:Shared}
theorem zsn{a:Addr}{vs:Β}{lt:eI}{T:AfZ}{κ:SortKind}{n:Nat}{P:D4 PySem.Fin}(hob:ARe s.heap.get? vs.toArray n)(O:AzT)(hT:Ahn)
  (hst:∀h',(∀x o,As1 ->x≠a ->Co h'.get? o) ->T h') (K:BHp vs lt T κ) (h64:BJn)
  (h:∀is:AT,AvE ->wA lt is ->P (.done (.ret AJ)) (Pe (sortedHeap s.heap a vs Ak4))):wpAny MO A (Builtin.«list.sort» AJw) P E s:=by
 show UP hal a (zG hob);have Qw:AQ vs.length:=Tm sizeLine_eq
 rw[list_sort_plain];refine z6 (listItems_at (n:=n) hob rfl ?_);show HC (listUpdate_at (n:=n) hob rfl ?_ (B6 List.size_toArray Qw)) fF
 obtain⟨ea,hoa⟩:∃ea,ARe (BGh get?) #[] ea:=A1d hob #[];show AnF hoa;refine z6 (wpAny_newTuple ?_ (Bi Qw))
 refine z6 (wpAny_newList ?_ fF);refine wpAny_holding (m:=_) ?_;have Jr:A2G Ad9 ea:=by
  refine Eq.trans AY7 (Eq.trans AY7 hoa)
  ·show Axa (AXN hal)
  ·rw[Heap.size_update];exact zK hal
 have T2:T ((Ad9 AdI).push Acz):=hst _ fun x o hx hxa=>by
  have hlt:=zG hx;refine Eq.trans AY7 (Eq.trans AY7 (Eq.trans (ATd hxa) hx))
  ·show Axa (AXN hlt)
  ·rw[Heap.size_update];exact zK hlt
 dsimp only;have hsv:vs.toArray.size=vs.length:=List.size_toArray ..;by_cases hfew:vs.toArray.size<2
 ·rw[Ap hfew,Ap hfew];show L1 A9;rw[StateT.run_pure];show L1 A9;show AnF Jr;have eo:AA arrOf (SortSt.mk' general' (vs.toArray.zip vs.toArray) #[] 7 none) (·.2)=We (KF vs.length) AdA:=by
   show BIb;show UE
   ·simp
   ·intro i q1 q2;have:i<vs.length:=AN q2
    simp [this]
  rw[eo];show L1 (listUpdate_at (n:=ea) Jr rfl ?_ fF)
  ·show A3Y;refine A9 (h _ ES ?_);unfold wA;show BIY;intro i j hi hj hij;have:j<vs.length:=AN hj
   omega
  ·simp;omega
 ·rw[Χ hfew,Χ hfew];show L1 (K.kind _ _ T2 ξ)
  show At ok Pq Uq yjk O;refine z6 (wpAny_mono (W.kat_run (Q:=fun st' s' =>∃p:YE,p.size=vs.length/\arrOf st' =p.map (W.kas_item (vs.toArray.zip vs.toArray))/\failedOf st' =none/\p=A2W/\s' =A_b)
   (G:=fun p s' =>p=A2W/\s' =A_b)
   rfl ξ ξ (fun p st' s' a1 a2 a3 a4=>⟨p,a1,a2,a3,a4⟩) ?_) ?_ (FS y y))
  ·exact yef (fun i j C hi hj hij hC=>K.ask _ i j C T2 hi hj hij hC) _ _ ok k_
  ·rintro⟨⟨⟩,st'⟩ s' ⟨p,hp,har,hf,rfl,rfl⟩;have eo:=W.kat_snds (vs:=vs) rfl har;rw[eo];show AnF Jr;show L1 (listUpdate_at (n:=ea) Jr rfl ?_ fF)
   ·rw[hf];show A3Y;exact A9 (h _ Pq (yjy Pq Uq))
   ·exact zO (Nat.le_of_eq (z5m hp)) ξ
theorem zlp{src:Value}{Q:dG}
  (hc:wpAny MO A.in1 (collect src) (fun vs s1=>∃lt T κ,AzT/\BJn/\Jq prog w A.in1.in1 E vs lt T κ/\ (∀h2:Heap,(∀x o,Co s1.heap.get? o ->Co h2.get? o) ->T h2)/\
   ∀(l:Addr) (h' :Heap) (is:AT) e,FH (s1.heap.objs.size<=l) AvE (wA lt is) (APb l (Â Ak4 e)) (∀b ob,rq s1.heap.get? ->rq h'.get?) (EV l (AKC h'))) E s):
  E4 (call ARm [src]):=by
 refine Calls.call_function_entry kind_sorted plain_sorted entry_sorted (args_sorted1 _) (Cc (Mm (Builtin.«sorted» _) _ _) ?_);unfold Builtin.«sorted»;show My (checkCount "sorted" 1 1 _) A9;show HH (collect _) (ve hc (y9 vs vM) (FS y y));obtain⟨lt,T,κ,O,h64,K,hT2,h⟩:=vM;have Qw:AQ vs.length:=Tm sizeLine_eq
 refine z6 (wpAny_newList ?_ Qw);have hoL:(s1.heap.push AsZ).get? s1.heap.objs.size=some AsZ:=KO;show BEt (zsn (T:=T) hoL O (hT2 _ fun x o e=>WF) (fun h' k=>hT2 _ fun x o e=>k x o NG AOj) K h64 fun is a1 a2=>AL0);refine A9 AL0;show B8 e he (yjq (vs:=vs) (out:=Ak4)) hoL;refine h s1.heap.objs.size _ is e CC a1 a2 he (LS ob eb);exact yea (z8 _ eb) (zK (zG eb))
#where
def nM(a b:Str):Bool:=Θ (a.cps.toList<b.cps.toList)
theorem z4p(a:Str):nM a a=false:=by unfold nM;simpa using List.lt_irrefl a.cps.toList
theorem ydv(h1:Ï)(h2:nM b c=true):nM a c=true:=by
 unfold nM at*;simp only [decide_eq_true_eq] at*;exact List.lt_trans h1 h2
theorem yh6(h1:nM a b=false)(h2:a≠b):nM b a=true:=by
 unfold nM at*;simp only [decide_eq_false_iff_not,decide_eq_true_eq] at*;cases q:Θ (b.cps.toList<a.cps.toList) with
 | true=>exact of_decide_eq_true q
 | false=>
  have:=List.le_antisymm (List.not_lt.mp h1) (List.not_lt.mp (of_decide_eq_false q));exact absurd (by cases a;cases b;simp at this;rw[this]) h2
theorem zzn(h:Ï):nM b a=false:=by
 cases q:nM b a with
 | false=>rfl
 | true=>have:=ydv h q;show A_ z4p;show CH
def Nu(xs:ο)(i j:Nat):Bool:=nM AWB (xs.getD j Str.empty)
theorem Dr(FI){xs:AG}{i:Nat}{d:α}(h:mh):xs.getD i d=xs[i]:=Agt d6
theorem zxr{xs:ο}(nd:xs.Nodup):Ord (Nu xs) xs.length:=by
 show AN5 nd;show B0 (fun i j hi hj hij h=> ?_) (fun i j _ _ h=>zzn h) (fun i j k _ _ _ h1 h2=>ydv h1 h2);refine yh6 h ?_;rw[Dr hi,Dr hj];show Ajo hij
 ·exact key i j hi hj q
 ·exact AmO A'7
def pick{α:Type}(d:α)(xs:AG)(is:AT):AG:=is.map fun i=>xs.getD i d
theorem ztc(FI){d:α}{xs:AG}{is:AT}(h:ARb is.Perm xs.length):(pick d xs is).Perm xs:=by
 have e:KF xs.length (Wp (xs.getD i d))=xs:=by
  show UE
  ·simp
  ·intro i q1 q2;show AwM;exact Dr q2
 have:=h.map fun i=>xs.getD i d;show ZH;exact this
theorem zt1(h:wA (Nu xs) is):ANC (pick Str.empty xs is).Pairwise:=by
 unfold pick;rw[List.pairwise_map];exact h
theorem Z1{xs:ο}{vs:Β}(r:AvO){i:Nat}(hi:mh):∃t,vs.getD i Value.none= .str AWB t:=by
 obtain⟨u,e,ru⟩:=r.get (i:=i) (x:= .str AWB) (ē List.getElem?_map Xs (Dr (d:=Str.empty) hi))
 rw[List.getD_eq_getElem?_getD,e];exact ru
theorem z0v(A5T){E:dG}{xs:ο}{vs:Β}(r:AvO):BCd (A2 True) :=by
 have hl:vs.length=xs.length:=Aht r.length
 show BO (fun s Q _ h2 hQ=>(BEx (E1 "str"))) (fun s i j C _ hi hj _ hC=> ?_)
 ·show xI k hk hv;show B8 t e (Z1 r (i:=k)) ξ
  rw[Dr hk] at e;rw[e];exact W.Looks.of_pure rfl
 ·show B8 t e (v4 (Z1 r)) ξ
  show B8 u e' (Z1 r (i:=j)) ξ
  unfold W.kas_ask;rw[e,e',keyLt'_oneType];exact oneLt_str hC
def Js:Ñ Key | ANk=> ADx | ANs=> ka | _=> .inl 0
theorem yh3:∀k v,AGi oW k v=true ->Js v=k:=fun k v h=>by
 rcases BZ h with ⟨i,t,rfl,rfl⟩ | ⟨x,t,rfl,rfl⟩<;>rfl
theorem zv0:∀{vs:Β} {ys:ο},(∀v∈vs,(∃k,AGi oW k v=true)/\AP1) ->vs.map Js=ys.map Sum.inr ->Vals (ys.map V.str) vs
 | [],[],_,_=> BS
 | [],A1,_,h=>BH
 | A1,[],_,h=>BH
 | AFU,AFZ,h,e=>by
  obtain⟨⟨k,hk⟩,_⟩:=h v zY;rw[List.map_cons,List.map_cons] at e;injection e with e1 e2;refine .cons ?_ (zv0 (fun u hu=>AyW) e2);rcases BZ hk with ⟨i,t,rfl,rfl⟩ | ⟨x,t,rfl,rfl⟩
  ·cases e1
  ·have:x=y:=AfB e1
   show UC;exact eB
theorem ycf:∀{ks:Au} {xs:ο},ks.Perm (xs.map Sum.inr) ->∃ys:ο,ks=ys.map Sum.inr/\ys.Perm xs:=fun{ks xs} h=>by
 have e:ks=AA ks.map (YO Aa') Sum.inr:=by
  show ei;show AMw Eq.trans (NI List.map_id ks) Akj;show Ĭ x (zB.mp (h.mem_iff.mp hk))
  rfl
 show fT e;have:=h.map fun k:Key=>Aa'
 show A_ List.map_map;refine this.trans ?_;show JJ ((List.map ((fun k:Key=>Aa') ∘ Sum.inr) xs)=xs) (List.map_id' xs)
def rO(xs:ο):ο:=(lQ Aei xs.length).map fun k=>Aa'
theorem zsr(xs:ο):AzB=AA rO xs Sum.inr:=by
 unfold rO;show ei;show AMw Eq.trans (NI List.map_id _) Akj;show Ĭ j ((ZP _).mp hk)
 rfl
theorem yH{xs:ο}{x:Str}:x∈rO xs↔x∈xs:=by
 have e:x∈rO xs↔ (Sum.inr x:Key)∈AzB:=by
  rw[zsr,List.mem_map];constructor
  ·exact B_ (Hk x h)
  ·rintro⟨y,h,e⟩;have:y=x:=AfB e
   show YU;exact h
 rw[e,ZP];constructor
 ·rintro⟨j,hj,e⟩;have:xs.getD j Str.empty=x:=AfB e
  rw[<- this,Dr hj];exact yU hj
 ·intro h;show ND j hj AfK;exact⟨j,hj,EW (Dr hj) e⟩
theorem zrv(xs:ο):e_ rO xs:=by
 have:=zmr Aei xs.length;show A_ zsr;exact List.Pairwise.imp (fun{a b} h z=>h (by rw[z])) (List.pairwise_map.mp this)
def Gh(ABd)(a:Addr)(xs:ο):HO:= AXL (tY lI Js (mD w) h a (AA rO xs Sum.inr))
inductive Gj (AOa):Prop
 | mk:mS p xs ο (Ρ (vs= [Kt]) (kZ X.K H p AEz) (ALf xs.length) (∀q,Po q ->EV q (IA q AzP)) (ABx Gj))
def KH(gy):SA:=AMq Gj
inductive Gk (AOa):Prop
 | mk:mS q xs ο (JP AiL (KM q AzP) (BI rO xs<64) (mS l ms ο (ACV ->ms.Perm (rO xs) ->AM8 ->ANQ (ms.map .str))) (ABx Gk))
def Vn(gy):SA:=AMq Gk
theorem z58(yB):fz "set" (KH X):=by
 rintro pins s σ H xs us Q I r ⟨p,ns,e0,hq,hb,k⟩;subst e0;show L_;cases rx;show Atc;show RF;show Ŧ;show A5H hl.symm
 refine zqb (κ:=Key) (knd:=AdB) (kf:=Js) yh3 (val:=D3 (.inr AtW)) gc pl.isList (Α i v hv) (B6 hsz hb) A8o
 ·have hi:i<ns.length:=AB hl (HR (Bi hv))
  show M' t (Z1 rv hi);show BJr (show AhP by simpa using hv)
  have e' :v= .str AtW t:=e;subst e';exact ah (EA zpg)
 ·rw[hsz,zsr] at hS;have I2:ŝ (Aar Gh) OW:=
   xA I.laid hold CC (aI (Aar Gh) (BBv q.stay st))
  exact ACn I2 k
theorem zor(r:Vals xs vs)(h:∀i∈is,mh):Vals (pick Ι xs is) (is.map AdA):=zvq r h
theorem Z2{α β:Type}{f:ARr}{d:α}{xs:AG}{is:AT}{e:β}(h:∀i∈is,mh):pick e (xs.map f) is=(pick d xs is).map f:=by
 unfold pick;show ei;show AUU i hi;show(xs.map f).getD i e=f (AQH d);rw[Axj AUd,Dr (h i hi),List.getElem_map]
theorem z4v{X:Cx}(hc:D6):kK "sorted" (Vn X):=by
 rintro pins s σ H xs us Q I r ⟨q,ns,e0,hq,h64,k⟩;subst e0;show L_;cases rx;obtain⟨⟨o,es,ep,t,hg,O⟩,_,_⟩:=k7 q hq;show Aoe Aj4
 show ſ 64
 refine zlp (zqo Axv hg O ξ fun vals h1 d tk hk hm hlt hold=> ?_)
 show At ys e1 hp ycf hk;have rv:=zv0 hm e1;have Ga:vals.length=ys.length:=Aht rv.length
 have hly:ys.length=Aj4:=hp.length_eq;refine⟨Nu ys,_,_,AB Ga (zxr (hp.nodup_iff.mpr (zrv ns))),ρ,z0v rv,BJX,fun l h' is e hle a1 a2 hl yI=> ?_⟩
 show A2k hlt hle;show Ž hix (∀i∈is,i< Aj5) (AJq List.length_map Ga AoX)
 have hrv:=zor rv hix;rw[AZu Str.empty (Z3 AQz)] at hrv
 have hms:(pick Str.empty ys is).Perm (rO ns):=(ztc (BA Ga a1)).trans hp
 show AML (Acn Ace) Aso
 have I2:AKt AUL OW:=
  xA I.laid (Aqe hold) hlt2 (aI (BN AUL) (AqB hl))
 exact Az6 BDI
def uI:AUo Str
 | []=>Ļ
 | T1::r=>AA uI r (x:: ·)
 | A1=>none
theorem zvm(DM):∀{ds:ψ} {vs:χ} {xs:ο},Fm ->uI ds=some xs ->vs=xs.map T0
 | [],vs,xs,r,h=>Amt
 | Rl,vs,xs,r,h=>by
  show BV v us r1 r r;cases d with
  | str x=>
   show BC uI;unfold Rep at r1;subst r1;cases q:uI ds with
   | none=>show oa q
   | some ms=>show AqG zvm
  | _=>cases h
theorem Vo(DM):∀xs:ο,F8 AEz (xs.map V.str)
 | []=>KS
 | n::ns=>qX E3 (Vo ns)
def KJ:I0:=lS (∃ns,uI xs=some ns/\ASs 4095/\ Aj4<64/\Ŵ ο AM8 AvR T0)
section
variable{X:Cx}{F0 H0:Hp}{a e:Expr}{pos p pos2 p2:Pos}{t:bK}
theorem zsj(BDu):
  BAI KJ:=fun z E cx=>by
 have inner:PE (X.wsh z) Ad1 (A9' KH):=ATr (z58 hc) hg2 hm2 zzm B3 τ τ he rfl
 refine mQ (ArL z4v (YC inner z4d he2) τ τ he2 rfl) (ALh ?_)
 show AMC;refine EI (fun ds Γ1 F1 H1 vs R1 s1 r1 h1=> ?_);unfold KJ at h1;show RO
 ·obtain⟨v,_,rfl,⟨l,us,rfl,hq,rs⟩,rfl⟩:=r1;obtain⟨ns,hns,hlt,hme,h1⟩:=h1;show Nw (zvm rs hns);refine⟨l,ns,rfl,xC,Afg scanBound,AVh⟩
  refine⟨q,ns,rfl,jJ,hme,Apc hp hs⟩;have R2:APR (P3 q (Gh X.prog X.w q ns)):=R1.grow (hV (UU (w9 R1.g hq0) (R1.g b u e)) (UU (Hm hq0) e))
  obtain⟨R3,q1,q2,q3,ap⟩:=Fg R2 hl2 (Vo (K:=X.K) (F:=F1) ms);exact Aqw Vo ap (h1 ms hs (D3 (hp.mem_iff.trans yH)))
 ·exact h1.elim
#where
open PySem.AutoSeq1 (wpAny_loadPart')
open PySem.MeetsSeq PySem.MeetsSeq3 in
theorem ya1(BE'):
  AYO Builtin.«list.__eq__.loop» [E5,LE,ARy,ARy] (fun A R s=>AM4 {cls:= Rc,dict:=dd,data:= Ahj,slots:=sl}/\ATD {cls:= Rc,dict:=dd2,data:= Ame,slots:=sl2}/\
    R Ati s):=by
 intro prog w A R s h;show AOg;show Anc
 show Al5
 have hi1:DC items (IG).toNat AKQ:=h1;have hi2:DC items2 (IG).toNat (.str y u):=h2;rw[hi1,hi2];have hne:Aws=false:=by
  cases q:Aws with
  | false=>rfl
  | true=>
   have e:=eq_of_beq q;exact absurd (by cases x;cases y;simp at e;rw[e]) hxy
 refine z6 (SeqRoads2.EqGives.str x y t u prog w _ _ _ _ ?_);rw[hne]
 show Al5
 rw[hi1,hi2];refine DD (richCompare .Lt _ _) (wpAny_richCompare_same (typeIs_str _ x t) (typeIs_str _ y u) slot_str_lt (call_str_lt (Do AY)) rfl)
 wp_walk
 exact h
open PySem.MeetsSeq PySem.MeetsSeq3 in
theorem yad(BE'):
  AYO Builtin.«list.__lt__» [E5,LE] (fun A R s=>AM4 {cls:= Rc,dict:=dd,data:= Ahj,slots:=sl}/\ATD {cls:= Rc,dict:=dd2,data:= Ame,slots:=sl2}/\
    R Ati s):=by
 intro prog w A R s h;show AOg;show Anc;show AwH
 show Al5
 exact Ad8 plain_eq_loop entry_eq_loop (B6 (Around.under_plainId plain_eq_loop _) (ya1 l b items items2 n n2 dd dd2 sl sl2 x y t u h1 h2 hxy prog w A R _ ⟨hl,hb,h⟩))
def HJ(AqE x Str):Prop:=∃a its t,v= AF/\PlainL h a its/\DC its 0 AKQ
theorem yag(h1:HJ s.heap v x)(h2:HJ s.heap v' y)(hxy:x≠y)(hu:Ah9)(h:Q (nM x y) s):E4 (oneLt' true v v'):=by
 obtain⟨a,its,t,rfl,⟨o,n,e1,c1,d1,s1⟩,z1⟩:=h1;obtain⟨b,its2,u,rfl,⟨o2,n2,e2,c2,d2,s2⟩,z2⟩:=h2;obtain⟨cls,dict,data,slots⟩:=o;obtain⟨cls2,acP,data2,Nv⟩:=o2;cases c1;cases d1;cases s1;cases c2;cases d2;cases s2;rw[oneLt'_eq];show NA wpAny_cRoomFor_or (CL hu);refine z6 (wpAny_callSpecialIfBound?_slot (T:= "list") (HL e1) F.slot_list_lt (call_meets F.slot_list_lt (HL e1) F.entry_list_lt (F.args_list_lt_2 _ _) (yad a b its its2 n n2 none none slots Nv x y t u z1 z2 hxy) ⟨e1,e2,?_⟩));exact wpAny_truthy_bool h
theorem HJ.up(q:HJ h v x)(k:iq TM sB):HJ h' v x:=by
 obtain⟨a,its,t,e,p,z⟩:=q;exact⟨a,its,t,e,p.keeps k,z⟩
theorem HJ.looks(q:HJ h v x):W.Looks M h (typeOf v) (LO "list"):=by
 obtain⟨a,its,t,rfl,⟨o,n,e,c,_,_⟩,_⟩:=q;intro A Q E s k hQ;exact wpAny_typeOf_ref (k _ _ e) (B6 c hQ)
theorem yij(hl:vs.length=xs.length)(nd:xs.Nodup)(hu:Ah9):
  BCd (DJ (∀i,mh ->HJ h (vs.getD i Value.none) AWB)) :=by
 show BO (fun s Q hT h2 hQ=>(BEx Rc)) (fun s i j C hT hi hj hij hC=> ?_)
 ·show xI k hk hv;have:=hT k ξ
  show A_ (Dr hk);exact this.looks
 ·unfold W.kas_ask;rw[keyLt'_oneType];refine yag (hT i ξ) (hT j ξ) ?_ hu hC
  show AN5 nd;rw[Dr ξ,Dr ξ]
  show Ajo hij
  ·exact key i j ξ ξ q
  ·exact AmO (key j i ξ ξ)
def gl(g:ο):D:= .lst (g.map .str)
def hdS(g:ο):Str:=g.headD Str.empty
theorem ymw(I:Ε)(sF:Oy)(r:Rep X.K F (gl g) v)(ru:LH)(hg:g≠ []):HJ s.heap u (hdS g):=by
 show BV a vs hq rs r;cases ru;show ASc;cases g with
 | nil=>show AEu hg
 | cons x g=>
  show BV w us rfl rs rs;cases rv with
  | cons r0 rr=>
   show IU r0;exact⟨a,_,t,rfl,pl,BD hdS⟩
def z7d:I0:=lS (∃gs:GV,xs=gs.map gl/\ (∀g∈gs,g≠ [])/\ e_ gs.map hdS/\gs.length<64/\
   Ŵ GV (ms.Perm gs) (AHz (r_ Apj)) gl)
theorem yiz(AmB):kK "sorted" (Di X.K z7d):=by
 rintro pins s σ H xs us Q I r ⟨F,ds,P,sF,rs,h,k⟩;show BC z7d;show C4
 ·obtain⟨v,_,rfl,⟨p,vs,rfl,hq,rs⟩,rfl⟩:=rs;obtain⟨gs,rfl,hne,nd,h64,h⟩:=h;show L_;cases rx;show ASc;show RF;show oo hl2;show APa hl2;show ſ 64
  show Ž hT (∀i,i< Awz ->HJ s.heap (its.getD i Value.none) ((gs.map hdS).getD i Str.empty)) (by
   show APa hi;obtain⟨v,e1,r1⟩:=vI rs (i:=i) (d:=gl gs[i]) (AJz Xs)
   show At u e2 r2 rv.get e1;show AdL e2 (Axj hi) List.getElem_map
   exact ymw I sF r1 r2 (hne _ (yU hi)))
  have hup:∀x o,As1 ->Co ((s.heap.push (seqObj "list" #[] 0)).update s.heap.objs.size (Obj.mapSeq (· ++its.toArray))).get? o:=fun x o e=>by
   show AZb;exact Eq.trans (ATd (zK hlt)) NG
  refine zlp (collect_list (vs:=its) pl.isList ?_ ξ)
  refine⟨Nu (gs.map hdS),_,_,AB (show its.length=Awz by show AJS) (zxr nd),ρ,yij AT4 nd (AdT (AAi (X.A.units+1))),fun h2 k2 i hi=>(hT i hi).up (LX (k2 b o (kH hup))),fun l h' is e hle a1 a2 hl' yI=> ?_⟩
  have hsz:s.heap.objs.size<=l:=zO (Nat.le_succ _) (zO (Nat.le_of_eq (NI (Heap.size_update ..).trans (size_push' ..))) hle);show Ž hix (∀i∈is,i<its.length) AoX;have hrv:=zor rv (is:=is) (Ł Agh)
  have hrs:aJ X.K F (pick Ι (gs.map gl) is) Als:=zuy rs (Ł (Aj_ AQz))
  rw[AZu [] Agh] at hrs
  have hpm:(pick [] gs is).Perm gs:=Me ztc (GU gs.length its.length) a1
  show AML (pick V.non vs is).length (by
   unfold pick;show ADd a1.length_eq List.length_range;omega)
  have I2:AKt Als (Pi h' s.toks):=
   Ag8 (Aqe hup) hsz (aI (BN Als) (AqB hl'))
  refine Fk E5 I2 (k _ _ l hrs (I.hok.fresh hsz) (h _ hpm ?_));have hp:=zt1 a2;rw[AZu [] Agh] at hp
  exact List.pairwise_map.mp hp
 ·show EH
#print L3
namespace L3
open PySem PySem.Spec PyProof.Rows L2
open PySem.AutoSeq1 (wpAny_loadPart')
theorem zow(l:Addr)(items:D7)(n:Nat)(b:Addr)(items2:D7)(n2:Nat)(sl:ADb)(hc0:¬(Atb items.isEmpty Av9))(hc1:Afj)(hs2:Av9<=sizeLine+1):
  AYO Builtin.«list.extend» [E5,LE] (fun _ R s=>AM4 {cls:= Rc,dict:=none,data:= Ahj,slots:= #[]}/\ATD {cls:= Rc,dict:=none,data:= Ame,slots:=sl}/\R (.ok (.ret Value.none)) (Pi (s.heap.update l (Obj.mapSeq (IL (x++items2)))) s.toks)):=
 BD' (by
  show AOg;show Anc;have f1:=AutoSeq1.idx_int;have f2:=AutoSeq1.sub_tuple_tuple;show AwH;have f4:=AutoSeq1.sub_tuple_list;have f5:=AutoSeq1.sub_list_tuple;have hz' :(items++items2).size<=sizeLine+1:=AB Array.size_append hs2
  wp_walk using (wpAny_updateSeq hl rfl (hz:=hc1) (_hz' :=hz')),BGu,BGv;exact Lv h)
theorem z7f:Zq X "list.extend" ztw:=by
 intro pins s σ F H l vs args xs ds us P Q I hl sF rs ra rv h k;show BC ztw;show C4
 ·obtain⟨v,_,rfl,⟨b,zs,rfl,hq,rz⟩,rfl⟩:=ra;show At u rfl ru vals1 rv;cases ru;obtain⟨z,its,n,r,hle,e⟩:=I.lstM hl;obtain⟨its2,r2,⟨o,n2,e2,c2,d2,s2⟩,hz2⟩:=BGT;obtain⟨cls,dict,data,slots⟩:=o;cases c2;cases d2;cases s2;have adV:=r2.length;show oo l1;have l2:=lu rz;have hsz:AQ Av_:=AK0 List.size_toArray List.size_toArray
  have Ez:¬(Atb its.toArray.isEmpty Av_):=IF (z1i hsz) Bool.and_false zJ
  refine AXy PySem.F.slot_list_extend PySem.F.entry_list_extend PySem.F.args_list_extend_2
   (AOS zow b its2.toArray n2 slots Ez AMj ξ) ⟨e,e2,?_⟩
  refine Fk Ι (I.lset (its' :=its++its2) hl e Η (r.append r2) ?_) (A4d rz)
  show Ae3;omega
 ·show EH
def zys:I0:=i8 (qq _) (P (ks.map fP))
theorem Z4:Aqf (AKc us.length ->(∀(i:Nat) (x:V) (u:Value),Sm ->B' us u ->tF) ->Q1)
 | [],[],_,_=> BS
 | [],A1,h,_=>BH
 | A1,[],h,_=>BH
 | Ee,u::us,h,k=> kr (k 0 x u rfl rfl) (Z4 (Bi h) fun i y w e1 e2=>k BE y w (Bi e1) (Bi e2))
theorem Nx:∀{kvs:Q3} {ws:ACd} {i:Nat} {p:κ×Value},Ahy ->ADv p ->∃v,AKu (AM,v)/\RelV v C9
 | _,_,_,_,BS,e=>AFJ
 | _,_,0,p,kr (a:=q) h _,e=>by
  simp at e;subst e;show AGn h;exact⟨q.2,by rw[<- h1];rfl,h2⟩
 | _,_,By,p,.cons _ r,e=>by
  show AS v e1 e2 (v4 Nx) r wP
  exact⟨v,AN e1,e2⟩
theorem Qx:∀{ks:YV} {vs:χ} {i:Nat} {k:κ} {v:V},B' Ũ (k,v) ->B' ks k/\AFM:=fun{ks vs i k v} e=>by
 rw[List.getElem?_zip_eq_some] at e;exact e
theorem yfr(yB):fz "list" (Di X.K zys):=by
 rintro pins s σ H xs us Q I r ⟨F,ds,P,sF,rs,h,k⟩;show BC zys;show C4
 ·rename_i ks ds';obtain⟨v,_,rfl,⟨a,vs,rfl,hq,hkl,rs⟩,rfl⟩:=rs;show L_;cases rx;obtain⟨hz,hsm,ws,kv,hd⟩:=PJ I.hok (sF _ _ hq);show KW ob es ep hd hd;have hm:AHJ s.heap.DictAt:=⟨ob,es,hd⟩;have Ny:AJE=ws.length:=kv.length;have hlk:ks.length=ws.length:=by rw[<- Ny,List.length_zip,<- hkl,Nat.min_self]
  rw[Ny] at hz;refine W.kdl_call (ArX W.kdl_dict hsm) gc hm hz fun h' tk acc c hold hg hac=> ?_;have hv:Vals (ks.map kV) acc.toList:=by
   show Arf (Ato Array.length_toList (hlk.trans (hac.1).symm))
   obtain⟨k,w,e3,e4⟩:=hac.2 i u (AhY e2)
   obtain⟨v5,e5,_⟩:=Nx kv e3;have e5:=(Qx e5).1;show APS e5 e1;cases e1;rcases BZ e4 with ⟨j,t,rfl,rfl⟩ | ⟨x,t,rfl,rfl⟩
   ·exact eB
   ·exact eB
  have I2:Awf Akd OW:=
   xA I.laid hold CC (aI (BN Akd) (A6T Of))
  exact Fk AHu I2 (k _ _ _ (PX ks) (I.hok.fresh CC) h)
 ·show EH
#print L3
namespace L3
open PySem PySem.Spec PyProof.Rows L2
theorem Z5(I:Ε)(e:ń)(ho:AiH):sC a Sn s:=by
 show AZs (∀kvs,u≠ AF') Q4 BAY
 show AsJ fq
 ·rw[cR (DH (by rw[z,e] at n;cases n))];exact n
 ·show AZF
 ·show AZF
 ·rw[cR Acg];simpa using q
 ·show U2
  ·subst hb;rw[jJ] at q;cases q;show CD ho;exact(Aw4 (k7 b e))
  ·rw[ZU] at q;exact ARK (I.hok b u q).stay (fun _ _ _ z=>z) z AbG z AbG
def Itw(Aru):It:=AFx Ajk (∃k,AKu (k,x)) Ajl
theorem Z6(I:Ε)(e:F9 Sn)(Nz:Apd):∃ws,Ahy/\AHJ s.heap.DictAt:=by
 obtain⟨ho,_,_,ws,kv,o',es,ep',h1,h2,h3,h4⟩:=(Cc (WG H s.heap a Sn) (k7 a e));rw[ho] at h1;cases h1;obtain⟨es',h5⟩:=Nz;rw[h3] at h5;cases h5;exact⟨ws,kv,o,es,ho,h2,h3,h4⟩
theorem z5g(eS){tg:Expr}(a it:Addr)(o:Obj)(kvs:Kx)(ep:Nat)(Nz:Apd):AGm (Itw a o kvs) (h.IsValIter it a i kvs.length ep) where
 mem:=AY
 obj:=Ŷ (by
  show ś
  show AO4;exact AFi)
 keep:=AZX
 item:=by
  intro X hP hw hK hc i pins s σ H E I hf st hg;show KB;show AAR;show VC
  show Aao;show ALw;show AaB;obtain⟨⟨k,u⟩,hw⟩:∃p,ADv p:=⟨Os,BD hx⟩
  show è Nx kv hw;refine wpAny_pyNext_values_item st hd hw (Yf hit' sb);show AOZ;show KW o' e c d hit';exact LZ u (ASp v rv ⟨rfl,k,hv⟩ (AB hl hit'))
 done:=by
  intro X hP hw hK hc i pins s σ H E I hf st hg;show KB;show AAR;show VC
  show Aao;show ALw;show AaB;exact wpAny_pyNext_values_end gc st hd (List.getElem?_eq_none hx) AG6
 self:=fun _ _ _ _ _ st h=>wpAny_pyIter_valiter st h
def Vp(AEy):TI:=ASY (Aak (â FV) (ABb ->∀o,R (Itw a o kvs) Aj'))
theorem z4w(he:SB)(hbase:NH e "values" e e:=by rfl)(hline:da:=by rfl):
  eR AQX (Vp te):=by
 show fe;refine wpAny_Call_method0_late hbase hline (Pw nK v hq1);obtain⟨x,H1,I1,r1,a,kvs,ex,ea,q⟩:=hq1;subst ex;show AY1;show Ar6 (.inl ea);refine⟨"dict","dict.values",PySem.F.plainAttrs_dict,PySem.F.slot_dict_values,PySem.F.type_dict_values,hT,hN,Aq5⟩;obtain⟨hz,_,ws,kv,dd⟩:=PJ I1.hok ea;refine call_meetsIn PySem.F.slot_dict_values hT PySem.F.entry_dict_values (PySem.F.args_dict_values_1 _) (meets_dict_values Ú a hsm) (Do ⟨ws,dd⟩);obtain⟨o,es,ep,h1,h2,h3,h4⟩:=id dd;have hm:AHJ s1.heap.DictAt:=AqK h1;have I2:=Z5 I1 ea h1;show A2y;have I3:LJ Aj' (AHZ s1 (BHq "dict_values") s1.toks):=I2.kept rV;refine wpAny_pyIter_values vw (hm.push _) ?_;refine⟨_,[Az'],_,_,_,rfl,Abm I3.kept,A3e z5g,?_,FL,q hz o⟩
 ·rw[kv.length];exact RH
 ·show AbV Az'
  exact I3.fpOk CC (I3.hok.fresh CC)
section
variable{K:W.Frag}{F0 H0 F H:Hp}{σ:St}{Γ:UH}
theorem SR.chg(R:DL)(h2:ō)(h3:eJ)(ap:xo):VU F AGG:=by
 show CA ⟨R.gr.f,fq,fq,xL (R.gr.n b o q n)⟩ R.len (Α j s' q) R.ap
 ·rw[AB_ h2];exact R.g b u q
 ·rw[AB_ h3];exact R.gr.h b u q
 ·show AY4 (R.sl j s' q);show B0 o p1 (Mz p2 ES (XX (AT' p2) (AD u q')));have:Q4:=AC (by subst z;exact ap j BIA)
  rw[cR this];exact q'
#where
theorem ybj(BDO):AGP (Itw a o Ũ) xs:=by
 show oo hl;show Arz vs.length
 show AHU ρ q Acu
 show ANt hd;show AhU (HR hv);show AkP
 obtain⟨rfl,k,z⟩:=z;have:=(Qx z).2;show A_ hv;show CH;exact Alp
def zzj(tn:lY):bK:=AYd (ML t AWM (P (j7 ts) Γ1))
section
variable{X:Cx}{F0 H0:Hp}{e tg:Expr}{apos cpos:Pos}{tn:lY}
open Classical in
theorem z8b(he:ğ)(hbase:NH e "values" e e:=by rfl)(hline:da:=by rfl):
  AFn AQX (zzj tn):=ARj (A5v z4w) (AeZ (fun t Γ1 F1 H1 v as R1 s1 nd hn r h1=>by
  show RO
  ·rename_i ks ts;obtain⟨a,vs,bs,rfl,rfl,ea,hkl,r⟩:=r;refine C3 a _ ea (AD hz o);have nab:a∉bs:=ADQ;have sF:cc (AhO AV1 AXj):=HP (by
    show L4 (AGy AV1 AXj);rw[Χ (DH (AiE (hn a List.mem_cons_self).1)),Χ (AXO (hn b (List.mem_cons_of_mem _ hb)).1)]
    exact e)
   have R2:=BCf R1.chg (.frz o kC) sF (F6) A_f
   ·refine k _ Γ1 _ _ _ R2 Agg (ybj ?_ hkl (Axm (fun c hc u hu=> ?_) r) hz) h1
    ·show XZ
    ·rw[dL (show¬c=a from mv nab hc),Ap hc];exact hu
   ·show oy (AGy AV1 AXj);show U2
    ·subst hb;rw[BU] at e';rw[jJ];exact e'
    ·rw[ul] at e';rw[cR hb];split at e'
     ·exact e'
     ·exact R1.g b u e'
   ·show oy (AGy AV1 AXj);show U2
    ·subst hb;exact(hn b zY).2
    ·show BDG
  ·exact h1.elim))
#where
theorem Ei(EF){F:Hp}{k:Key}{v:V}(h:ic (fP k) v):v=kV k:=by
 cases k with
 | inl i=>exact h
 | inr x=>exact h
theorem zw6(h:M3)(k:Key):AP8 gP Ũ=AU5:=by
 unfold gP mF;rw[Option.isSome_map];induction ks generalizing vs with
 | nil=>rfl
 | cons k' ks ih=>
  cases vs with
  | nil=>cases h
  | cons v vs=>
   rw[List.zip_cons_cons,List.find?_cons,List.any_cons];show AGe
   ·simp [q]
   ·show A3X;exact AB' ih
theorem yj0{ks:Au}{vs:χ}{k:Key}{v:V}{q:Nat}(nd:ks.Nodup)(h1:ci ks k)(h2:ci vs v):Arv:=by
 unfold gP;induction ks generalizing vs q with
 | nil=>simp at h1
 | cons k' ks ih=>
  cases vs with
  | nil=>simp at h2
  | cons u vs=>
   show Ai_;cases q with
   | zero=>
    have e1:k' =k:=AN h1
    have e2:u=v:=AN h2
    simp [e1,e2]
   | succ q=>
    have hm:ANa:=yV ĕ
    have ne:k' ≠k:=AC (ADQ (z ▸ hm));simp only [ne,decide_false];exact ih AYh ĕ AJs
def Vq(i:Nat)(tk:aY):TT2:=AmV (AHD ts (kd=fP k/\Ag4/\Be (! AU5)))
def Vr(i j:Nat)(tn:lY):aF:=Sb tn t (AHD ts (AWD AkK Ag4 (mF ks k=false) (∀cs,oQ (.tr AWq (.dic (ks++ [k]) ASF)))))
def Vt(A3o):aF:=ADL (∃k k2 as ks ts q NK xs,AkK/\AkM/\Ag4/\ks.Nodup/\ci ks k/\
 ci ts (.dic NK i_)/\OA NK.length/\oQ (Ab8 BCl))
section
variable{X:Cx}{F0 H0:Hp}{ke value:Expr}{pos npos yJ KN pos' pos2:Pos}{x y w:Str}{i j l:Nat}{tk tv:aY}{tn:lY}
theorem yl9(AGW)(hk:B1 ke tk)(hN:Ps)(hv:WZ)(hd:BM x "__debug__":=by decide)(hcd:BM x "__classdict__":=by decide)
  (hb:behindInMarks ħ EN=false:=by show APO):
  jb (.Compare ke [ħ] [.Name x npos] pos) (Vq i tk):=fun z E cx=>
 Qd (BY z7o (BY zw2 hu Afr NN) hb) (De hq1 (HV hq1 (fun kd Γ1 F1 H1 v R1 s1 rk hq2=>by
  obtain⟨kk,as,ks,ts,e1,e2,h1⟩:=hq2;subst e1;show o6 rk;subst ev;obtain⟨o,e3,w,rfl,nd,hn,r⟩:=AFl;obtain⟨a,vs,bs,rfl,rfl,ea,hkl,r⟩:=r;refine⟨AF,e3,a,_,rfl,A7k,_,rfl,?_⟩;rw[zw6 hkl];exact JA R1 s1 h1)))
theorem yk3(AGW)(A'g)(hval:Axk)(hs:AGF EN Adf:=by rfl)
  (hd:BM x "__debug__":=by decide) (hcd:BM x "__classdict__":=by decide) (hd2:BM y "__debug__":=by decide) (Ba:BM y "__classdict__":=by decide):
  ADJ (ô EN Adf) (Vr i j tn):=fun z E cx=>
 sJ (AGM TF NN AbK hval hs) (nr Ar Ar (fun t Γ1 F1 H1 v cs R1 s1 ndc hnc rt vK=>by
  obtain⟨kk,as,ks,ts,e1,e2,hh,hl,q⟩:=vK;obtain⟨o,e3,w,rfl,nd,hn,r⟩:=AFl;obtain⟨o2,e4,w2,rfl,rk⟩:=R1.sl j _ e1;show o6 rk;subst ev;obtain⟨a,vs,bs,rfl,rfl,ea,hkl,r⟩:=r;refine⟨AF,e3,kV kk,e4,a,_,rfl,A9R,?_⟩
  show U_ own (ALe A6K) ⟨_,_,e2,e3,hb⟩;have dis:ALe (b∉cs):=fun b hb hc=>A_P;have nab:a∉bs:=ADQ;rw[ZX hkl];unfold gK dU;rw[Ax6,Ax6]
  refine FG (R1.wrT e2 e3 (Cc (gG (AXC KK ts) cK a) zY) (t:= .tr (ABH++cs) (.dic (ks++ [kk]) ASF)) ⟨_,rfl,?_,FL,?_⟩ FL) s1 (q cs)
  ·exact List.nodup_append.mpr (BDw nd)
  ·show AHI
   ·exact hn b hb
   ·exact A3P
  ·refine⟨a,vs++ [v],AYE,rfl,rfl,jJ,BD hkl,?_⟩
   have m:=zt (iw.move (H' :=upd H1 a A4V)) ES (ŷ (AIw cR Q4 (mv nab hb))) r
   have l:=TR.move (H' :=upd H1 a A4V) ES t v cs (ŷ (AX5 (dis a List.mem_cons_self (z ▸ hb)))) rt
   exact A5n
  ·show AHI
   ·show BQ hb
   ·show Bz (AK9 hnc)))
theorem ylk(hu:js)(hN:Ps)(hv:WZ)(NP:ADT)(hv2:ASQ)(hN3:DC X.N l w)(hv3:rF X.env.scope w)(hval:AYY)
  (hs:AGF A5o (.Name w KN):=by rfl)
  (hd:BM x "__debug__":=by decide) (hcd:BM x "__classdict__":=by decide) (hd2:BM y "__debug__":=by decide) (Ba:BM y "__classdict__":=by decide)
  (hd3:BM w "__debug__":=by decide) (abH:BM w "__classdict__":=by decide) (hns:CW (.Name y yJ):=by exact AC'):
  ADJ (ô A5o (.Name w KN)) (Vt i j l tv):=fun z E cx=>
 sJ (AGM TF (BY z4g hu NN AbK hns) (SO um i l hN3 hv3 hd3 abH) hval hs) (nr Ed Ed (fun d Γ1 F1 H1 v R1 s1 rd MK=>by
  obtain⟨kk,k2,as,ks,ts,q,NK,xs,e1,e1',e2,ndk,hq,ht,hl,hnx⟩:=MK;obtain⟨o,e3,w,rfl,nd,hn,r⟩:=AFl;obtain⟨o2,e4,w2,rfl,rk⟩:=R1.sl j _ e1;obtain⟨o3,e5,w3,rfl,rk2⟩:=R1.sl l _ e1';show o6 rk;subst ev;show o6 rk2;subst ev;obtain⟨a,vs,bs,rfl,rfl,ea,hkl,r⟩:=r;obtain⟨u,b1,bs',b2,hu',hbs,rc,back⟩:=yec r ht;subst hbs;obtain⟨c,us,ds,rfl,rfl,ec,NQ,rc⟩:=rc;show AG9 rc;have nab:a∉ŧ [c]:=ADQ;have Vu:=AYh;have hac:a≠c:=AC (WA nab z)
  have hc1:IT (b1++b2) (b≠c):=fun b hb z=>by
   subst z;show Awe Vu;show AHI
   ·exact p.2.2 b hb b Η rfl
   ·have:=AIK p.2.1;exact this hb
  have gd:oY H1 a (kV kk) (D' (AW c)):=qo A7k (yj0 ndk hq hu')
  refine⟨AF,e3,kV kk,e4,a,AKq,rfl,gd,kV k2,e5,c,_,rfl,tM.k (k:=k2) ec (ARw NQ hl),?_⟩
  rw[ZX NQ];refine FG (R1.wrT e2 e3 (Cc (gG (AXC (a::AWe) ts) cK c) (AmX _)) (t:= tI AWe (.dic ks BCl)) ⟨_,rfl,nd,hn,?_⟩ ALY) s1 hnx
  refine⟨a,vs,ŧ [c],rfl,rfl,kg hac ea,hkl,?_⟩
  refine back ES (ŷ (cR (hc1 b hb))) ?_
  exact⟨c,_,[],rfl,rfl,jJ,zxx NQ,An6 rd⟩))
#where
def acQ(Uf):aF:=To (∃as ts,IZ (.tr as AJL)/\AAx Γ.set υ)
section
variable{X:Cx}{F0 H0:Hp}{pos npos apos cpos:Pos}{x:Str}{i:Nat}
#where
abbrev yj:=T ->ψ ->BG (BG T D) (BG T XV)
def ig(as:Ν)(H:Hp):Hp:=OY (ACp Û (H b))
theorem z6g:fI (ig as H):=HP (by
 show LA ig;split at e
 ·cases e
 ·exact e)
theorem ztf(h:Û):ig as H b=none:=AEa ig vv
theorem Z7(h:b∉as):ig as H b=H b:=AEa ig md
theorem TR.root(ť):∀{t:T} {v:V} {a:Addr} {cs:Ν},Ç v bP ->kP
 | .leaf _,_,_,_,h=>XA CF
 | Y2,_,_,_,h=>Arb
 | wx,_,_,_,h=>Arb
 | wy,_,_,_,h=>Arb
 | Ff .ob,_,_,_,h=>by obtain⟨b,_,_,_,rfl,e,_⟩:=h;cases (e);rfl
 | Ń,_,_,_,h=>XA CF
inductive Gp (K:W.Frag) (sp:yj) (yo):Prop
 | mk:∀F a bs t ds rest P Ex,FH (vs=V.ref a::rest) æ (AhL) ((Nn ABH b_)) (Ç Ct KK) (JP BGx (sp t ds P Ex) ((∀t' d v cs F' H',AkQ ->AhM ->Ρ (Nn (a::cs) Ao9) AnX OX (P t' d) kG)) (∀x C dx t' cs F' H',AkQ ->AhM ->Ρ (Nn (a::cs) Ao9) AnX (yu K F' Ĉ H' C dx x) (Ex t' x) AIr) (AIT Gp))
def nU(K:W.Frag)(sp:yj):Sp:=ANE Gp
def startM(n:Nat)(s:Slot)(ds:ψ):G2:=s::(ds.map .pu++AKi (n - 1 - ds.length) υ)
theorem z6m(A6y)(Acd){t:T}{ds:ψ}{vs:χ}(h:fI F0)(nd:AhL)(hn:ALe (MM F0))(rt:TR K F0 H t Ct KK)(r:A4J):
  SR K F0 Ĉ F0 H (L2.start N AiS) Ai4:=by
 have hl:=lu r;have slot:∀(i:Nat) s,B' Ai4 s ->∃o,B' (L2.start N (V.ref a::vs)) o/\pB K F0 H Ĉ s o/\ (i≠0 ->∀o c,¬gG s o c):=fun i s e=>by
  show LA startM;unfold L2.start;cases i with
  | zero=>cases e;exact LW rfl (AyX (XX (hn b hb) (ztf hb))) (AC AWJ)
  | succ i=>
   simp only [List.getElem?_cons_succ] at e;simp only [List.map_cons,List.cons_append,List.getElem?_cons_succ];show AiV
   ·show AI9 List.getElem?_append_left List.getElem?_map
    cases q:ds[i]? with
    | none=>show gN
    | some d=>
     show MZ;cases e;show AS v e1 r1 vI r q;show CA ļ ?_ (xD r1) (fun _ _ _ z=>z);show A9p e1;rfl
   ·show AVy List.getElem?_append_right
    split at e
    ·cases e;rename_i hlt;show Ae6 hlt;show CA none ?_ trivial (fun _ _ _ z=>z);show A0n (if_pos (by simp only [List.length_map,List.length_cons];omega))
    ·cases e
 show CA (hV h z6g) (by simp [L2.start,startM,hl];omega) (Qb i s) (fun i j c ⟨s,o,e,_,hs⟩ ⟨s',o',e',_,hs'⟩=> ?_)
 ·obtain⟨o,h1,h2,_⟩:=slot i s e;exact⟨o,h1,h2⟩
 ·by_cases hi:i=0
  ·by_cases hj:j=0
   ·rw[hi,hj]
   ·show AKl h3 (slot j s' e') (h3 hj _ _ hs').elim
  ·show AKl h3 (slot i s e) (h3 hi _ _ hs).elim
section
variable{K:W.Frag}{F0 H0 F H F' H' :Hp}{σ:St}{Γ:UH}
theorem SR.back{i:Nat}{a:Addr}{bs cs:Ν}{t t' :T}(R:DL)(e:IZ APp)(gr:AkQ)(nd:AhM)(hn:IT (a::cs) Ao9)(rt:AnX):
  pj F' H' AkR:=by
 obtain⟨o,e1,v,rfl,nd0,hn0,rt0⟩:=AFO;have hv:=rt0.root;subst hv;have R0:=R.dropAt e1;have Vv:Same H0 (ig KK H):=N9 u (KL Z7 (fun hb=>(AM1 (re hn0))) (R.gr.h b u q))
 have R1:Aij Ĉ:=by
  show CA ⟨R0.gr.f,fq,Vv,xL (R0.gr.n b o q n)⟩ R0.len (Α j s' q) R0.ap
  ·rw[Z7 fun hb=>(AM1 (WB hn0))];exact R0.g b u q
  ·show AY4 AvN;show B0 o p1 (Mz p2 ES (XX (AT' p2) (AD u q')));rw[Z7 fun hm=>(A7w (Cc (gG (Slot.tr KK t) cK b) hm))];exact q'
 have R2:=(R1.grow gr).put i (s:= .tr bP t') (o:=some Ct) (AyX (XX ACW (Vv.free ě))) (FX (R1.apart ě));show AGp R2;exact R2
#where
structure NT (YI) (x:Str) (k:Nat) (ps:ο) (sp:yj):Prop where
 ex:AOf nU
structure Gq (ArP yj):Prop where
 ex:Arq nU
abbrev Ds(a:Addr)(Q:BG T D):oZ:={nx:=fun Γ=>(Apb (Q t' Ι)),rt:=L7,rm:=fun d Γ=>(Apb (Q t' d))}
abbrev Dt(a:Addr)(Ex:BG T XV):XW:=fun Γ C=>(Apb (Ex t' C))
section
variable{P:Program}{w:World}{K:W.Frag}{mg:CB}{base:Heap}
theorem Jt{x qual p0:Str}(AOc){fd:FuncData}{N ps:ο}{k:Nat}{sp:yj}(Fn:AGh)(S:EJ N (p0::ps) st)(len:∀t ds Q E,sp t ds Q E ->AEP)
  (hbody:∀(cdv:Value) (A:Around) (outer:EG) (s:Shared) (H:Hp) (E:XK),AOu (∀F0 H0:Hp,
   ∃tt,uw (kB AHp) F0 H0 Ù tt/\∀a bs t ds Q Ex,sp t ds Q Ex ->tt (Ds a Q) Ai4 Acb)):
  IC fO av EL f fd (p0::ps) (nU K sp):=by
 obtain⟨oc,od,kV,doc,pm,an,cdv,ct,osl,rfl,lk,hcd⟩:=Fn.ex;refine Td lk hcd S (fun vs H Q E hh=>by
  obtain⟨F,a,bs,t,ds,rest,P',Ex,ev,_,_,_,_,rs,hs,_⟩:=hh;rw[ev,List.length_cons,List.length_cons,<- lP,XG len hs]) fun A outer s H vs Q E hr hh=> ?_
 obtain⟨F0,a,bs,t,ds,rest,Pd,Ex,ev,sF,nd,hn,rt,rs,hsp,hQ,hE⟩:=hh;subst ev;obtain⟨tt,ht,hq⟩:=BGn H E hr F0 Ĉ;have cx:Ctx (AIS wsh (FY (AIS xe))) F0 Ĉ Acb:=by
  show AN9 (fun pins σ Γ F H1 s1 e s' I R hx=> ?_);show AO5;obtain⟨Γ',F',x,R',_,xr,_,⟨cs,t',e0,z1⟩⟩:=z;obtain⟨o,e1,v,rfl,nd',hn',Ej⟩:=Aob;have hv:=Ej.root;subst hv;exact hE x C dx t' cs F' H' R'.gr nd' hn' Ej (xr.back R.gr.h) z1
 refine⟨_,AWr,F0,startM N.length APp ds,Ds a Pd,z6m sF nd hn rt rs,hq a bs t ds Pd Ex hsp,⟨fun Γ F' H' σ R' _ A9o=> ?_,fun _ _ _ _ _ _ q=>q,fun _ _ _ _ _ _ q=>q,fun d v F' H' gr rv q=>q.elim,fun _ _ _ _ _ _ q=>q.elim,fun _ _ _ _ _ _ _ _ _ q=>q.elim,fun d v Γ F' H' σ R' rv A9o=> ?_⟩⟩
 ·obtain⟨o,e1,v,rfl,nd',hn',Ej⟩:=Aob;have hv:=Ej.root;subst hv;exact hQ t' Ι Ι cs F' H' R'.gr nd' hn' Ej E3 q
 ·obtain⟨o,e1,u,rfl,nd',hn',Ej⟩:=Aob;have hv:=Ej.root;subst hv;exact hQ t' d v cs F' H' R'.gr nd' hn' Ej rv q
#where
def yK(Hn):aF:=AFb (D.rm d Γ1)
def Bb(dS)(m:Str)(i:Nat)(sp:yj)(t:bK):aY:=SE ((∃as fs ts,AUB/\m∉fs)/\km Aqc)
def Bc(i:Nat)(sp:yj)(t:bK):aY:=SE ((∃a bs tt,IZ AQ1)/\km Aqc)
section
variable{X:Cx}{F0 H0:Hp}{e:Expr}{es:AE}{pos p apos:Pos}{x m:Str}{C f:Addr}{fd:FuncData}{ps:ο}{k i:Nat}{sp:yj}{te:aY}{t:bK}
theorem Z8(he:L9):An_ (yK te):=fun z E cx=>by
 refine sJ (fun pins s σ H D I q=>zk (z40 (te:=ai (SI Ec te E σ H Q))) K0 H D I q) (PF hq1 hq1 (fun d Γ1 F1 H1 v R1 s1 r1 h1=>EA k.rm _ _ R1 r1 h1))
theorem KQ{z:Qc}{E:XW}(Ay9){σ:St}{F H:Hp}{Γ:G2}{us:Β}{vs:χ}{ds:ψ}(Acd){tt:T}{P:BG D G2}{Q:VK}(Fn:AeA (nU X.K sp))(hr:Ø)(hb:AOx)(cx:AbR)
  (I:AZp) (R:AG3) (r:AC_) (rs:Adq) (e0:IZ AQ1) (h:sp tt ds (fun t' d=>(AQ2 AkR)) (ARV AkR))
  (hQ:∀d Γ' F' H' v,Ρ Ad' DT (AIk F') (P d Γ') kG):
  A_T AMK:=by
 obtain⟨o,e1,v,rfl,nd,hn,rt⟩:=ox;have hv:=rt.root;subst hv;have hs:nU X.K sp AiS H Q A'1:=
  ⟨F,a,bs,tt,ds,vs,_,_,rfl,R.g,nd,AIi hn,rt,rs,h,fun t' d v cs F' H' gr nd' hn' Ej rv hp=>hQ d _ F' H' v (R.back e0 gr nd' hn' Ej) gr.f rv (hp cs),fun x C dx t' cs F' H' gr nd' hn' Ej xr hE=>⟨_,F',x.bare,R.back e0 gr nd' hn' Ej,gr.f,xr.bare,.inl (by cases x<;>rfl),hE cs⟩⟩
 show AG5 ((ATf::us)++ []) (by
  rw[List.append_nil];have:=ADU;rw[List.length_cons,<- r.length,<- List.length_cons (a:=V.ref a),this])
 have hbs:=hb s AMK I.kIn hl;show Ű;refine wpAny_call (codeAny_mono (A7m (FY (AF::us)) AMK AiS Q _ hr I.env0 hbs (AoF Ct a) hs) (gS hq));cases r with
 | error e=>exact A1t H s e s' I R hq
 | ok fl=>
  cases fl with
  | ret u=>exact I.after hq
  | next=>show NV
  | brk=>show NV
  | cont=>show NV
theorem z0y{np:Pos}{pl:AFH}(G:ASe Gq)(Ann)(ABy)(ha:i')
  (hd:BM x "__debug__":=by decide) (hcd:BM x "__classdict__":=by decide)
  (hst:starEach Da X.env=E9 (DE e) (E8 es):=by rfl) (hpl:AHl:=by rfl)
  (ht:eval Axi X.env=(do
   let ov<- DE (SG np)
   Ť
   let (f,first)<- AAL m pl
   AAX (WC Da) AFr):=by rfl):
  B1 Axi (Bb C m i sp t):=by
 show Aa_;rintro z E cx pins s σ H Q I ⟨F,Γ,P,R,⟨⟨as,fs,ts,e0,Jl⟩,h⟩,kk⟩;obtain⟨o,e1,v,rfl,nd,hn,rt⟩:=ox;obtain⟨a,dx,vs,bs,rfl,rfl,ea,_,HN,_,_⟩:=rt;show AX_ (EB (qE um hN hv hd hcd) (fun v H1=>v= AF/\H1=H) I (AbU e1)) vM;obtain⟨x,H1,I1,rx,ex,eH⟩:=vM;subst ex eH;show SC;refine S7 I1 ea hc hm (Qn Jl) ?_;show Ar' (bV (N3 AJj (fun vs H2=>(BIN (VQ F2) (∃a bs tt,B' Γ2 AQ1/\sp tt es (fun t' d=>(AQ2 Atk)) (ARV Atk)))) I1 (EI (fun es Γ2 F2 H2 vs R2 s2 r2 h2=>AsE)))
  (Α us s2 vM))
 obtain⟨ws,H2,I2,r,F2,Γ2,es,R2,Dl,Ef,a',bs',tt,e2,q2⟩:=vM;show CD I2.kIn;have ha' :a' =a:=by
  obtain⟨o,e3,v,rfl,_,_,rt⟩:=Amh;rw[e1] at e3;cases e3;have:=rt.root;show CH;rfl
 subst ha';exact AOn KQ I2 R2 r Ef e2 q2 fun d Γ' F' H' v R' s' rv hp=>(ASJ Γ' R' (Dl.trans s'))
#where
def qH(h:Heap)(d:Addr)(es:ł)(ep:Nat):Prop:=∃o,wq d/\o.ExactDict/\AiC
theorem qH.at(x:Aa0)(k:∀o,wq d ->si d):qH h' d es ep:=let ⟨o,e,r⟩:=x;Pl (k o e) r
theorem qH.lt(x:Aa0):d<h.objs.size:=let ⟨_,e,_⟩:=x;Gc
theorem qH.typeIs{s:Shared}{d:Addr}{es:ł}{ep:Nat}(x:ASm):s.TypeIs (AW d) "dict" :=let ⟨o,e,c,_⟩:=x;Ü c.1
section
variable{prog:Program}{w:World}{A:Around}{E:dG}{s:Shared}{d it:Addr}{es:ł}{ep i:Nat}
theorem zy9{Q:dG}(hd:Aba d)(hm:ASm)
  (hQ:AM5 (MX "dict_keyiterator" #[.ref d,u7,cS es.size,cS ep])):AUg (AW d):=by
 show KW o ho hc hdat hm;have hT:=hm.typeIs;refine wpAny_pyIter_slot hT PySem.F.slot_dict_iter (ABt PySem.F.slot_dict_iter hT PySem.F.entry_dict_iter (PySem.F.args_dict_iter_1 _));unfold Builtin.«dict.__iter__»;show LG;show NA wpAny_notOrdered_dict hT;refine z7 ?_;show AFd (Builtin.Dict.showsAll d);unfold Builtin.Dict.showsAll;rw[ANl hd]
 show tz;show TN wpAny_dictEntries ho hdat;show TN wpAny_dictEpoch ho hdat;show HC wpAny_newObj_type (z7 (BHJ "dict_keyiterator" PySem.F.slot_dict_keyiterator_next.lookup))
 simpa [rawInt] using hQ
theorem zzi(A1P)(hlt:AcO)
  (hQ:∀h',AuF h'.IsKeyIter ->ū it ->Q (some Acf) MT):AJV P8:=by
 show KW o ho hc hd hit;show KW od hod hcd hdd hm;show AgD (ASO hit.typeIs PySem.F.slot_dict_keyiterator_next PySem.F.slot_dict_keyiterator_next hit.typeIs PySem.F.entry_dict_keyiterator_next PySem.F.args_dict_keyiterator_next_1)
 show tz;show LG;show LG;show BEG;simp only [AcL (FA<0) ρ,if_false,Int.toNat_natCast,BJ7]
 show LG;show AeU;show NA wpAny_isOneOf_keyiter hit.typeIs;show AFd (ASV P8 1 (FA+1));refine z6 (wpAny_setField ho hd Η ?_)
 have hit' :AuF (s.heap.update it (Obj.mapFields (·.setIfInBounds 1 (rawInt ((i:Int)+1))))).IsKeyIter:=
  Ao7
 show L1 wpAny_holding;refine z6 (wpAny_isOneOf_keyiter (s:={s with heap:=s.heap.update it (Obj.mapFields (·.setIfInBounds 1 (rawInt ((i:Int)+1))))}) hit'.typeIs ?_);exact z7 (z7 (Lv (z7 (hQ _ hit' Adk))))
theorem z81(AN3)(A1P)(hge:es.size<=i)
  (hQ:∀h',AiA it ->AVS):AJV P8:=by
 show KW o ho hc hd hit;show KW od hod hcd hdd hm;show AgD (ASO hit.typeIs PySem.F.slot_dict_keyiterator_next PySem.F.slot_dict_keyiterator_next hit.typeIs PySem.F.entry_dict_keyiterator_next PySem.F.args_dict_keyiterator_next_1)
 show tz;show LG;show LG;show BEG;simp only [AcL (FA<0) ρ,if_false,Int.toNat_natCast,Array.getElem?_eq_none hge]
 show LG;show AeU;show AFd (setField P8 0 AJ);refine z6 (wpAny_setField ho hd Η ?_)
 show LG;show AWI ADj
 show ArH
 show AWs ADj
 show L1 wpAny_handled;show JJ AT3 hh;show s_ z7 wpAny_throw;show TN ArI AQL isSubtype_stop;exact z7 (hQ _ A2Y)
theorem z7e(AN3)(I d:Addr)(hne:d≠I)(es:ł)(ep:Nat):
  Walks prog w A I [I,d] [I] es.size Aej (MV h (h.IsKeyIter I d i es.size ep/\Aa0)) where
 sub:=A4e
 frame:=sw st hk ⟨A'P,dP (st.2).at (hk d Η o e)⟩
 item:=fun i s Q E hi st hQ=>zzi X2 st.2 hi fun h' hit' hs' =>hQ _ h' s.toks (ah hi) ⟨hit',dP (st.2).at (hs'.extBut d o hne e)⟩ (ASG (Ax9 hs'.extBut))
 done:=fun s Q E st hQ=>z81 hh X2 st.2 CC fun h' he' =>(A_B (Ax9 he'))
 self:=fun _ _ _ _ st hQ=>wpAny_pyIter_keyiter X2 hQ
theorem zyw{Q:D4 Β}(hh:Qr)(hsm:Aba d)(hm:ASm)(hb:AQ es.size)
  (h:∀(vals:Β) (h' :Heap) tk,vals=es.toList.map (·.key) ->AwE ->(AX0) ->Q vals OW):
  E4 (collect (AW d)):=by
 have K:W.KdlSrc prog w "dict" d d es.size Aej (DJ Aa0):={
  type:=FU hm hm.typeIs
  there:=FU hm ⟨hm.lt,hm.lt⟩
  keep:=fun _ _ hm hk=>(dP hm.at (hk d WU o e))
  notList:=Κ
  notTuple:=Κ
  hint:=fun _ _ _ _ hm hq=>W.kdl_hint_dict hm.typeIs hq
  iter:=fun _ _ hh hm=>⟨_,_,(FS hq (zy9 hsm hm hq)),z7e hh _ d (zK hm.lt) es ep,⟨RH,dP hm.at WF⟩⟩}
 have key:Avn "proto.collect" (FY (ku d)) (OM s' (BFM {cls:= Rc,dict:=none,data:= .seq acc c',slots:= #[]})):=by
  refine codeAny_builtin PySem.F.entry_proto_collect ?_;show As7;show A5K;refine A9 A2O;show As8;have hm1:qH (s.heap.push jM) d es ep:=dP hm.at WF;have hSl:=hm.lt;show AXX hS jM jM KO;exact W.kdl_extend (s:=AIh jM) (R:=fun r s' =>(BFM {cls:= Rc,dict:=none,data:= .seq acc c',slots:= #[]})) K hh hm1 s.heap.objs.size (ADh hSl) (Nat.ne_of_gt hSl) YA 0 hS (fun h' tk acc c' hold hS' hacc=>⟨h',tk,acc,c',rfl,rfl,hold,hS',hacc⟩) hb
 show A1S (codeAny_mono key (gS hq1));obtain⟨h',tk,acc,c',er,es',hold,hS',hacc⟩:=hq1;subst er es';refine DD (load _) (wpAny_load hS' ?_);show ň;refine h acc.toList h' tk ?_ (zG hS') (pf ob (hold b ob AOj NG));show UE
 ·rw[Array.length_toList,List.length_map,Array.length_toList];exact AKd
 ·intro j q1 q2;have hj:j<acc.size:=AN q1
  show M' hlt (hacc.2 j acc[j] (TD hj))
  simp [e]
#where
section
variable{κ:Type}[TZ]
variable{prog:Program}{w:World}{knd:HeapKind prog w κ}{A:Around}{E:dG}{s:Shared}{d a:Addr}{xs:iA κ AH2}{k:κ}{p:AH2}
#where
def wB(K:W.Frag)(H:Hp)(y:V)(k:Au):Prop:=∃b,y= LE/\pO K H b (k.map kV)
section
variable{X:Cx}{pins:c7}{σ:St}{H:Hp}{s:Shared}{a:Addr}{y v:V}{u r:Value}{A:Around}{E:dG}{kvs:NE}{k:Au}
theorem z93(I:Ε)(h:A5N)(ry:IN):∃b,u= LE/\ AmA Ú s.heap k b:=by
 show xE b hq;show AHO;obtain⟨its,rv,⟨o,h1,h2,n,h3⟩,_⟩:=I.tuple hq;exact⟨b,rfl,o,its.toArray,n,h1,h2,h3,AN (zoh rv)⟩
theorem ykx(hu:AEv)(I:Ε)(e:AU7)(hk:A5N)(l:AOe)(ry:IN)(h:Avi):
  A5q:=by
 show JO b hb (z93 I hk ry);show ANq;obtain⟨w',hw,o9⟩:=AaU BBL (BA l Aga)
 show At p hp hp2 zE.mp hw;show AY5 wpAny_getItem_heap hb dd hp;rw[hp2];exact A6k
#where
def NZ(A'q):TE:=p_ td (APq (∃a kvs k v,x= AF/\Rd H2 a WS/\Aq4/\AOe/\AQK))
def acR(K_)(neg:Bool)(ty td:TE):TE:=BH3 (∃a kvs k,x= AF/\Rd H2 a WS/\Aq4/\Q (AgC AW8 AW8) H2)
def abI(A'q):TE:=AOq (∃kvs k v,ADy WS/\Aq4/\AOe/\Q v (i3 a (.dT (Ce kvs k))))
section
variable{X:Cx}{o i e:Expr}{pos apos cpos:Pos}{td ty:TE}
theorem yc7(BCN):AU2 o i (NZ X.K td ty):=by
 show ER;show Az3 (TU ALk u);show ALs x rx;show QY Ah7 iv s2 hz2;obtain⟨y,H2,I2,ry,a,kvs,k,v,ex,ea,hk,l,q2⟩:=hz2;subst ex;show SC;exact⟨(TJ I2 (CL ⟨kvs,ea⟩)).1,ykx hu I2 ea hk l ry A9U⟩
#where
def p7(Anr):Bool:=A1N
theorem z97:AVd↔ANa:=by
 unfold p7;rw[List.any_eq_true];exact im hz (by show ND x h hz;exact A3Q) (B_ AzR)
def pI(FI):OO ->AG ->Au ->Ev α
 | n_,Ee,k=>ABj (some x) (pI ks xs k)
 | _,_,_=>none
theorem yay(h:M3)(k:Au):AP8 gP Ũ=AP6:=by
 unfold gP p7;rw[Option.isSome_map];induction ks generalizing vs with
 | nil=>rfl
 | cons k' ks ih=>
  cases vs with
  | nil=>cases h
  | cons v vs=>
   rw[List.zip_cons_cons,List.find?_cons,List.any_cons];show AGe
   ·simp [q]
   ·show A3X;exact AB' ih
theorem zwi(DM){k:Au}{x:D}:Aa6 OO (pI ks xs k=some x ->XY ->∃v,Arv/\ic x v)
 | [],_,_,h,_=>BH
 | A1,[],_,h,_=>BH
 | n_,d::xs,vs,h,r=>by
  show AGg;show BC pI;unfold gP;show Ai_;show AGe
  ·rw[EM] at h;cases h;simp only [q,decide_true];exact xD r1
  ·rw[EE] at h;show Aub;exact zwi h r2
theorem z4a(ť){k:Au}{y:V}(s:Oy)(r:ic (.tup (k.map fP)) y):wB K H y k:=by
 show BV b vs hq rs r;have e:vs=k.map kV:=by
  clear hq;induction k generalizing vs with
  | nil=>exact rs
  | cons q k ih=>
   rw[List.map_cons] at rs;show BV v us r1 r2 rs;show ASq (Ei r1) (ih us r2)
 subst e;exact LZ b (sI s hq)
def putL(Anr):OO:=AqC AVd
def lC(FI)(ks:OO)(xs:AG)(k:Au)(x:α):AG:=BFa AVd
def uJ(FI):OO ->AG ->Au ->AG
 | n_,Ee,k=>ABj (uJ ks xs k) (x::uJ ks xs k)
 | _,_,_=> []
def Gs(Anr):OO:=ks.filter fun k' =>(Θ (k' ≠k))
theorem z0m:Ċ ks OO M3 BDY
 | [],_,_=>rfl
 | A1,[],h=>BH
 | n_,AFT,h=>by
  rw[List.zip_cons_cons,List.map_cons,List.zipWith_cons_cons,List.zip_cons_cons,AB' z0m]
  by_cases q:k' =k<;>simp [q]
theorem ybk(h:M3):BFQ putL AuN/\ Hc putL ks k=(lC ks vs k v).length:=by
 unfold putK putL lC;have e:A6b=AP6:=by
  rw[zsa,yay h]
 rw[e];show D8 AVd
 ·rw[EM,EM,EM];exact⟨z0m h,by rw[List.length_zipWith,<- h,Nat.min_self]⟩
 ·rw[EE,EE,EE,BIj];exact HU (BD h)
theorem zzh(DM){k:Au}{d:D}{v:V}(r:IH):Aa6 OO A'3
 | [],xs,vs,h=>ALN
 | A1,[],vs,h=>AZG
 | n_,Ee,vs,h=>by
  show BV u us h1 h2 h;rw[List.zipWith_cons_cons,List.zipWith_cons_cons];refine qX ?_ (zzh r h2);show AGe
  ·show AYt r
  ·show AYs h1
theorem z3l(DM){ks:OO}{xs:ψ}{vs:χ}{k:Au}(AAT)(h:XY)(r:IH):F8 (lC ks xs k d) AuN:=by
 unfold lC;split
 ·exact zzh r h
 ·exact zdt h (Hy r)
def N5:DB:=NL (match x,y with | AhT,we=>∃k d,ds=k.map fP/\ASN k/\P d | _,_=>False)
section
variable{X:Cx}{F0 H0:Hp}{a b:Expr}{pos:Pos}{ta tb:aY}
theorem yly(A8N):AMi a b (cB N5 ta tb):=fun z E cx=>
 mQ (BY yc7 hu B3 FK hs) (De yq (HV yq (fun d1 Γ1 F1 H1 v1 R1 s1 r1 h1=>(gT (fun d2 Γ2 F2 H2 v2 R2 s2 r2 h2=>by
  unfold N5 at h2;split at h2
  ·show BV kk d hl hp h2;have r1' :=r1.up s2;show Abt r1';show è zwi hl rs;exact⟨c,_,kk,v,rfl,Ea R2.g ec,z4a R2.g r2,hv,A6Q⟩
  ·exact h2.elim)))))
#where
def nW:ο ->EX ->Str ->Ev T
 | VA,PH,g=>AN_ (some t) (nW fs ts g)
 | _,_,_=>none
def m7 :Ρ ο EX Str T EX
 | VA,PH,g,t' =>AN_ (t' ::ts) (t::m7 fs ts g t')
 | _,ts,_,_=>ts
theorem zzl(ť){g:Str}{t:T}:∀{fs:ο} {ts:EX} {vs:χ} {bs:Ν},AH_ ts bs ->nW fs ts g=some t ->∃v b1 cs b2,AXl g=some v/\bs=ŧ cs/\Ç v cs/\
  ∀{F' H' :Hp} {t' :T} {ds:Ν},DT ->(∀a∈b1++b2,AM_) ->AQ7 v ds ->rS iw (m7 fs ts g t') vs (AQd ds)
 | [],_,_,_,_,e=>AS2
 | A1,[],_,_,_,e=>AS2
 | VA,t0::ts,_,_,h,e=>by
  obtain⟨v,vs',a1,a2,rfl,rfl,q1,q2⟩:=h;show LA nW;show Ai';by_cases hg:g=f
  ·rw[Ap hg] at e;cases e;subst hg;refine⟨v,[],a1,a2,AY,rfl,q1,fun{F' H' t' ds} s k r=> ?_⟩
   unfold m7;show XZ;exact⟨v,vs',ds,a2,rfl,rfl,r,ACk (iw.move s ts vs' a2) (k a ha) q2⟩
  ·rw[Χ hg] at e;obtain⟨w,b1,cs,b2,g1,rfl,g3,g4⟩:=zzl q2 e;refine⟨w,a1++b1,cs,b2,BJR hg g1,AY,g3,fun{F' H' t' ds} s k r=> ?_⟩
   unfold m7;show An hg;exact⟨v,vs',a1,ŧ ds,rfl,AY,BDf s,BFR s⟩
def acS(C:Addr)(i:Nat)(f:Str):aY:=A4u AUB (ACj AjE)
def adW(dS)(neg:Bool)(i:Nat)(f:Str)(tk:aY):TT2:=AmV (∃k as fs ts ks us,kd= AEU/\AJ1/\Aia us/\Be AnN)
def acT(Apz)(j l:Nat)(tv:aY):aF:=ADL (∃k1 k2 as fs ts ks xs,AJT Γ1 k1/\AWD AkM AJ1 (Aia i_) (Aji (.iB (putL ks mI) Avr)))
def acU(AeO)(f:Str)(j l:Nat):aF:=To (∃k1 k2 as fs ts ks xs d,AJT Γ k1/\Ac9 Γ/\AUB/\Aia i_/\ASN mI/\
 D.nx (Γ.set i (.tr as (AJH (.iB (Gs ks mI) (HA (uJ ks xs mI).map))))))
section
variable{X:Cx}{F0 H0:Hp}{ke value e:Expr}{es:AE}{pos npos Ju apos cpos pos' x1:Pos}{x f:Str}{C:Addr}{i:Nat}{tk tv:aY}{tf:bK}
theorem ygn(A8S){fs:ο}{ts:EX}{t:T}(R:DL)(e0:AUB)(hl:ACj t):
  ∃a dx vs v bs b1 cs b2,AMG/\as=ALQ/\F9 Aml/\ AXl f=some v/\bs=ŧ cs/\as.Nodup/\ AX1/\Ç v cs/\
  ∀{F' H' :Hp} {t' :T} {ds:Ν},DT ->(∀c∈a::dx::(b1++b2),∀u,KM c u ->H' c=some u) ->AQ7 v ds ->rS TR (AJH t') Ct (a::dx::(AQd ds)):=by
 obtain⟨o,e1,v,rfl,nd,hn,r⟩:=ox;obtain⟨a,dx,vs,bs,rfl,rfl,ea,ed,HN,Vw,r⟩:=r;obtain⟨v,b1,cs,b2,g1,g2,g3,g4⟩:=zzl r hl;refine⟨a,dx,vs,v,bs,b1,cs,b2,e1,rfl,ea,g1,g2,nd,hn,g3,fun{F' H' t' ds} s k rt=> ?_⟩;exact⟨a,dx,vs,_,rfl,rfl,xN a ea,xN dx ed,HN,Vw,g4 s (fun c hc=>k c (by simp at hc⊢;exact í hc)) rt⟩
#where
theorem zs5:∀{fs:ο} {vs:χ},AEt ->f∉fs ->nF f y (fs.zip vs)=(AIV).zip (vs++ [y])
 | [],[],_,_=>rfl
 | [],A1,h,_=>BH
 | A1,[],h,_=>BH
 | g::fs,AFU,h,hf=>by
  have hg:g≠f:=fun e=>(WA hf e)
  rw[List.zip_cons_cons];unfold nF;rw[Χ hg,zs5 (Bi h) fun e=>(BJf hf e)]
  rfl
def nDT:lY:=AL1 (.iB [] [])
def wC(A0e):aF:=AFb (A9M (ā as At2))
def Bf(AeO)(f:Str)(tn:lY):aF:=Sb tn t (A9M (∀cs,ā AWq At1))
section
variable{X:Cx}{F0 H0:Hp}{value e:Expr}{es:AE}{pos npos pos' p:Pos}{x f:Str}{C fa:Addr}{fd:FuncData}{ps:ο}{i k:Nat}{te:aY}{tn:lY}{sp:yj}{t:bK}
theorem yax:A5G nDT:=fun z E cx=>
 mQ yc1 fun σ H Q hq1 q hq=>by
  show AMC;have R2:aw F (IA q AjD) Γ:=R.grow (hV (UU (w9 R.g hq) (R.g b u e)) (UU (Hm hq) e))
  refine JA _ [q] R2 ES Η A9k ?_ h
  exact⟨q,[],[],rfl,rfl,jJ,rfl,Afy⟩
theorem zy3(hc:õ)(hn:AGl)(he:Axk)(hN:Ps)(hv:WZ)(hd:BM x "__debug__":=by decide)(hcd:BM x "__classdict__":=by decide)
  (hs:APr (AAc EN f pos'):=by rfl):A6Z Bf tn:=fun z E cx=>
 sJ (BY z9j NN K0 hs) (nr hq2 hq2 (fun t Γ1 F1 H1 v cs R1 s1 ndc hnc rt Ar=>by
  obtain⟨as,fs,ts,e0,hf,hl,Vw,q⟩:=Ar;obtain⟨o,e1,w,rfl,nd,hn',r⟩:=AVJ;obtain⟨a,dx,vs,bs,rfl,rfl,ea,ed,HN,_,r⟩:=r;refine⟨AF,e1,a,C,dx,_,rfl,ea,hc,hn,A3l,?_⟩
  show U_ own (IT ALQ A6K) ⟨_,_,e0,e1,hb⟩;have dis:IT ALQ (b∉cs):=fun b hb hc=>A_P;show AlQ;show Aq0;rw[zs5 HN hf];refine FG (A9H (t:= .tr (ALQ++cs) At1) ⟨_,rfl,?_,FL,?_⟩ FL) s1 (q cs)
  ·exact List.nodup_append.mpr (BDw (Agw n1 (Agw n2 n3)))
  ·show AHI
   ·exact hn' b hb
   ·exact A3P
  ·have na:IS APe Q4:=fun b hb z=>n1 (z ▸ AUz);refine⟨a,dx,vs++ [v],AYE,rfl,rfl,jJ,?_,BD HN,Vw,?_⟩
   ·rw[cR (AQs n1)];exact ed
   ·have m:=zt (iw.move (H' :=upd H1 a AYu)) ES (ŷ (cR (na b hb))) r
    have l:=TR.move (H' :=upd H1 a AYu) ES t v cs (ŷ (AX5 (dis a List.mem_cons_self (z ▸ hb)))) rt
    exact A5n
  ·show AHI
   ·show BQ hb
   ·show Bz (AK9 hnc)))
theorem Vx(hc:õ)(hn:AGl)(he:AHc value)(hN:Ps)(hv:WZ)(hd:BM x "__debug__":=by decide)(hcd:BM x "__classdict__":=by decide)
  (hs:APr (AAc EN f pos'):=by rfl):A6Z wC te:=fun z E cx=>
 sJ (BY z9j NN K0 hs) (nr vK vK (fun d Γ1 F1 H1 v R1 s1 rd Ed=>by
  obtain⟨as,fs,ts,e0,hf,hl,Vw,q⟩:=Ed;obtain⟨o,e1,w,rfl,nd,hn',r⟩:=AVJ;obtain⟨a,dx,vs,bs,rfl,rfl,ea,ed,HN,_,r⟩:=r;refine⟨AF,e1,a,C,dx,_,rfl,ea,hc,hn,A3l,?_⟩
  have nd0:=nd;show AlQ;show Aq0;rw[zs5 HN hf];refine FG (A9H (t:= tI (dx::bs) At2) ⟨_,rfl,nd0,hn',?_⟩ ALY) s1 q;have na:IS APe Q4:=fun b hb z=>n1 (z ▸ AUz);refine⟨a,dx,vs++ [v],bs,rfl,rfl,jJ,?_,BD HN,Vw,?_⟩
  ·rw[cR (AQs n1)];exact ed
  ·have m:=zt (iw.move (H' :=upd H1 a AYu)) ES (ŷ (cR (na b hb))) r
   have l:iw X.K F1 (P3 a AYu) [M_] [v] []:=zyz (As (HU rd))
   have:=ZS m l
   rwa [List.append_nil] at this))
def Bg(C:Addr)(sp:yj)(t:bK):lY:=IO A'0
structure N6 (AQR) (base:Heap) (x:Str) (C:Addr) (k:Nat) (ps:ο) (sp:yj):Prop where
 ex:AQC (APi nU) (Mk K C f) Adi
 non:∀ds Q Ex,sp AeF ds Q Ex ->sp AeF ds (fun t d=>d= Ι/\Q t d) Ex
theorem z8z(G:AIE N6 x C k ps sp)(hr:dH EL X.A)(hg:Gl X x)
  (AJi):
  Sj Ts (Bg C sp t):=by
 show AOh Fn M hm hb;rintro z E cx pins s σ H Q I ⟨F,Γ,P,R,h,kk⟩;show AO1;refine W.callWith_K (h₀:=X.base) I.ok.mod.Hv M.kp (Pw (EB AJj (fun vs H1=>∃F1 Γ1 ds,AIl/\TK/\AR'/\A'0) I (EI (fun ds Γ1 F1 H1 vs R1 s1 r1 h1=>AV5))) us vM) he hpl;obtain⟨vs,H1,I1,r,F1,Γ1,ds,R1,sF,rs,q⟩:=vM;show ALb;have I2:=Inv.made (C:=C) I1;show A6z;have n2:di s1.heap.objs.size:=I1.hok.fresh (zN _);have ne:s1.heap.objs.size≠SY:=AYv;show AXg kp (ET (ARR AVn).get?) (z8 _ NG);have sH:Same H1 ADa:=LX (IF (Hm n1) (Hm n2) e)
 have hid:ig AwL ADa=H1:=by
  funext b
  by_cases hb1:b=SY
  ·subst hb1;rw[ztf Η,n1]
  ·show Amk
   ·subst hb2;rw[ztf Η,n2]
   ·rw[Z7 (by simp [hb1,hb2]),cR hb1,AVF]
 have hs:nU X.K sp Asm ADa (fun v H' =>Au_) (fun C' J9 H' =>∃Γ' F' x,Ad' /\cc F' /\A_j/\ (x.bare=x\/IS (MM H1) (zo Γ' b))/\E Γ' x):=by
  refine⟨F1,SY,Ĩ,.ob C [] [],ds,vs,_,_,rfl,Atm,BD ne.symm,FL,?_,rs,G.non _ _ _ q,?_,?_⟩
  ·have:MM H1:=by
    show hG
    ·exact n1
    ·show YY hb;exact n2
   exact R1.g.free this
  ·exact⟨_,_,[],[],rfl,rfl,jJ,Amf,rfl,rfl,Afy⟩
  ·rintro t' d v cs F' H' gr nd hn rt rv ⟨ed,hp⟩;rw[hid] at gr hn;subst ed;exact⟨rv,kk t' Γ1 F' H' _ _ ASE Ac0 nd (TC ⟨ACW,R1.gr.h.free ě,R1.apart ě⟩) rt hp⟩
  ·intro x C' J9 t' cs F' H' gr nd hn rt xr hE;rw[hid] at gr xr;exact⟨Γ1,F',x,R1.grow gr,gr.f,xr,.inr (FX (R1.apart hb)),hE⟩
 show AG5 AFL (by
  have e:=ADU;rw[List.length_cons,<- r.length,<- List.length_cons (a:=AUy),e])
 show A6e AFL I2.kIn AxD
 show Ű;show BFg;show ATV (Fn.run _ X.stack _ _ (FY (Abw::us)) AFL _ _ _ (hr.make C us []) (I2.env0.make C us []) hbs (AoF (AW MR) MR) hs) (gS hq');cases r with
 | error e=>
  refine cx.pX pins σ Γ1 F1 H1 s1 e s' I1 R1 (zry hq' rfl ?_ kp);show BEz CC n2;have u2:BEW AVn:=Un.laid AKJ Aox (kg ne.symm n1)
  exact u1.trans u2
 | ok fl' =>
  cases fl' with
  | ret u=>
   obtain⟨v,H',I3,rv,ev,q3⟩:=I2.after hq';subst ev;exact⟨rv,IB AUy H' I3 q3⟩
  | next=>show AEg
  | brk=>show AEg
  | cont=>show AEg
#where
def xK(C:Addr)(m:Str)(sp:cH)(te:aY):aY:=AMN (pV Ap8)
section
variable{X:Cx}{F0 H0:Hp}{o:Expr}{pos apos:Pos}{m:Str}{C:Addr}{ps:ο}{k:Nat}{sp:cH}{te:aY}
theorem zt9(G:ASe Az)(Ann)(ho:ARt)
  (ht:eval AYg X.env=(do
   let ov<- DE o
   Ť
   let (f,first)<- AAL m pl
   AAX (WC []) AFr):=by rfl):
  B1 AYg (xK C m sp te):=by
 show Aa_;rintro z E cx pins s σ H Q I ⟨F,Γ,P,R,h,kk⟩;show AX_ (AZr (Nl bv (pV Ap8)) (fun d Γ1 F1 H1 v R1 s1 r1 h1=>AV4)) vM
 obtain⟨x,H1,I1,rx,F1,Γ1,d,R1,sF,rd,q⟩:=vM;cases d with
 | obj C' fs ds=>
  show AZ1;have Nm:=rd;obtain⟨a,dx,vs,rfl,ea,hl,rs⟩:=rd;show SC;show AYC;show BCu;exact AOn (MP (us:= Id) (vs:= Id)) I1 R1 Ajd (qX Nm E3) q fun d v F' H' gr rv hp=>A7V
 | _=>show ff
#where
abbrev P2:=OK
def ltP(a b:P2):Bool:=nM a.1 b.1 || (Θ (a.1=b.1)&&nM a.2 b.2)
def pNo:P2:=(Str.empty,Str.empty)
def adX(xs:AKk)(i j:Nat):Bool:=ltP (AQH pNo) (xs.getD j pNo)
def adY(AqE p P2):Prop:=∃(a:Addr) (o:Obj) (m:Nat) (t u:Tok),v= AF/\nv/\Ai1 /\o.data= .seq #[.str AM t,.str C9 u] m
def pkK(p:P2):Au:= A3T
def pairD(p:P2):D:= .tup AZW
def N7(H:Hp)(w:V)(p:P2):Prop:=∃b,w= LE/\N1 (.tup AZW)
def abJ(gy):SA:=ABn (∃(q:Addr) (kvs:NE) (ps:AKk),vs= ku q/\Rd H q WS/\kvs.map (·.1)=ps.map pkK/\BJo/\
 ∀(l:Addr) (ms:AKk) (ws:χ),FH ACV (ms.Perm ps) A6P (ws.length=ms.length) (∀(i:Nat) w p,ADv w ->B' ms p ->N7 H w p) (ANQ ws))
theorem zxe:∀{kvs:NE} {xs:Ć},Ħ ->xs.map (·.1)=kvs.map (·.1)
 | _,_,BS=>rfl
 | _,_,AYq=>by rw[List.map_cons,List.map_cons,zxe r,CF]
theorem yj2:∀{kvs:NE} {xs:Ć} {i:Nat} {x:Au×AH2},Ħ ->Sm ->KM ĵ (AH4 (x.1).map)
 | _,_,_,_,BS,e=>AFJ
 | _,_,0,_,AYq,e=>by simp at e;subst e;rw[<- CF];exact h.2.1
 | _,_,By,_,AYq,e=>v4 yj2 r wP
def ym7:I0:=i8 (.iB ks _) (∃ps:AKk,ks=ps.map pkK/\BJo/\Ŵ AKk (ms.Perm ps) A6P pairD)
section
variable{X:Cx}{F0 H0:Hp}{a:Expr}{pos p:Pos}{t:bK}
#where
def signs(x:Str):ο:=x.cps.toList.map fun c=>AF_
def Itx(x:Str):It:=⟨AJO (i<x.cps.size),fun i H v H' =>H' =H/\∃c,B' x.cps c/\v= .str AF_,AJO (x.cps.size<=i)⟩
def adZ(AEy):TI:=ASY (∃x,v= T1/\R (Itx x) H1)
def ynm(Hn):bK:=XT T1 (AQ x.length/\P (AA signs x T0) Γ1)
section
variable{X:Cx}{F0 H0:Hp}{e tg:Expr}{te:aY}
#where
def ad0:DB:=NL (match x,y with | AK3,AK4=>Ki (! nM b a) | _,_=>False)
def Vy(x:Str)(b:Nat):Str:=ASv x.cps.toList.take b
def Vz(x:Str)(a:Nat):Str:=ASv x.cps.toList.drop a
def ad1:AHP:=ArK (∃z:Str,x= mo/\ATJ/\ ((∃b:Nat,lo=none/\hi=some ADn/\Q (HE (Vy z b)) H)\/∃a:Nat,lo=some ADm/\hi=none/\Q (HE (Vz z a)) H))
def ad2(Aoz):aY:=Ar8 mo (AQ z.length/\ ((∃b:Nat,l=none/\u=some ADn/\P (HE (Vy z b)) Γ3)\/∃a:Nat,l=some ADm/\u=none/\P (HE (Vz z a)) Γ3))
section
variable{X:Cx}{F0 H0:Hp}{e:Expr}{lo hi:ADw}{pos p2:Pos}{te:aY}{tl th:Ft}
#where
def cUp(Hn):aY:=XT mo (∃c:Nat,z=AF_/\97<=c/\c<=122/\Be (HE ⟨#[c - 32]⟩))
section
variable{X:Cx}{F0 H0:Hp}{o:Expr}{apos cpos:Pos}{te:aY}
#where
def yh1:ψ ->AO9:=fun xs y P=>(ML y lj (∃(bs:vi) (j:Nat),xs=bs.map .bl/\HK bs true/\ (∀m,m<j ->DC bs m false)/\bs.length<1000/\I_ j))
def ad3(AMu):aY:=ARF Ic (QP tb y (yh1 xs y (Kb (P r Γ2))))
section
variable{X:Cx}{F0 H0:Hp}{o e:Expr}{apos cpos:Pos}{ta tb:aY}
#where
section
variable{X:Cx}{F0 H0:Hp}{e:Expr}{es:AE}{pos p np:Pos}{x y:Str}{ps:ο}{k i:Nat}{sp:yj}{t:bK}
theorem zzr(G:BHP NT)(hr:Ø)(hg:Gl X x)(hN:B' X.N y)(hv:ASQ)(BGC)
  (hd:BM y "__debug__":=by decide) (hcd:BM y "__classdict__":=by decide)
  (he0:starEach ApJ X.env=E9 (DE (sD np)) (E8 Da):=by rfl) (hpl:zn (WC Da):=by rfl):
  B1 (zD (SG p) ApJ) (Bc i sp t):=by
 show AOh Fn hm hk hb;rintro z E cx pins s σ H Q I ⟨F,Γ,P,R,⟨⟨a,bs,tt,e0⟩,h⟩,kk⟩;obtain⟨o,e1,v,rfl,nd,hn,rt⟩:=ox;have hv' :=rt.root;subst hv';show AO1;have pa:PA (X.wsh z) ApJ (Ka (Mf i) BHY):=YC NN B3 he0;refine W.callWith_K (h₀:=X.base) I.ok.mod.Hv hk (Pw (APf pa H (fun vs H1=>∃F1 Γ1 ds ws,vs= AF::ws/\AIl/\TK/\aJ X.K F1 ds ws/\Aqc) I ⟨_,e1,F,Γ,_,R,h,fun ds Γ1 F1 H1 vs R1 s1 r1 h1=>⟨F1,Γ1,ds,vs,rfl,R1,s1,r1,h1⟩⟩) us vM) he0 hpl;obtain⟨vs,H1,I1,r,F1,Γ1,ds,ws,ev,R1,sF,rs,a',bs',tt',e2,q⟩:=vM;show ALb;subst ev;cases r with
 | cons r0 rr=>
  cases r0;have ha' :a' =a:=by
   obtain⟨o,e3,v,rfl,_,_,rt⟩:=AFl;rw[e1] at e3;cases e3;have:=rt.root;show CH;rfl
  subst ha';exact AOn KQ I1 R1 rr rs e2 q fun d Γ' F' H' v R' s' rv hp=>(ASJ Γ' R' (APz s'))
#where
section
variable{prog:Program}{w:World}{A:Around}{E:dG}{s:Shared}
#where
def acV(A'b):TG:=AzK UZ
def ad4(n:Nat)(gs:uz):rG:=fun d Γ Q E=>(Nl Ĺ A3z)
section
variable{X:Cx}{F0 H0:Hp}{es:AE}{gs:uz}{pos:Pos}
#where
def VB:ο ->Str
 | []=>Str.empty
 | Ee=>x++VB xs
def VD:ο ->Nat
 | []=>0
 | Ee=>x.length+VD xs
def acW(Hn):aY:=XT Ĺ (A_v (VD xs) (Be (.str (VB xs))))
section
variable{X:Cx}{F0 H0:Hp}{e:Expr}{apos cpos spos:Pos}{j}{te:aY}
#where
section
variable{prog:Program}{w:World}{A:Around}{E:dG}{s:Shared}
#where
def Gu(i:Nat)(t:lY):aF:=Sb t tr ((Aau tr tr)/\∀a bs,ā KK tr)
theorem TR.cons(ť):∀{t:T} {v:V} {as:Ν},t_ ->(Aau t t) ->∃a bs,AKE
 | M_,_,_,_,n=>Si rfl n.1 d
 | .kt d,_,_,_,n=>Si rfl n.2 d
 | Y2,_,_,h,_=>AqS
 | wx,_,_,h,_=>AqS
 | wy,_,_,h,_=>AqS
 | Ff .ob,_,_,h,_=>by obtain⟨b,_,_,_,_,e,_⟩:=h;exact Cb _ e
theorem z3g(A_y){e:Expr}{pos:Pos}{tn:lY}{i:Nat}{x:Str}{pos' :Pos}(o_)(hx:nc)(he:ğ)(hs:Ð e (SG pos'):=by rfl)
  (hf:Zs\/Z_:=by show AGq):AZ0 Gu tn:=fun z E cx=>
 sJ (qE SJ hN hi hx K0 hs hf) (PF hq2 hq2 (fun t Γ1 F1 H1 v as R1 s1 nd hn r1 h1=>by
  show At a bs rfl r1.cons eh;exact FG (BDz (.tr KK t)) s1 (h1.2 a bs)))
def KR(j:Nat)(t:bK):aF:=Sb t ds (ADG (∃k:Au,ds=k.map fP/\D.nx (Γ1.set j (.tr [] (.kt k)))))
def ad5(neg:Bool)(i j:Nat):TT2:=SU (AHD us (ASX Γ/\IZ Asb/\P AnN Γ))
def ad6(i j:Nat):aY:=SU (BDy ñ)
def KY(i j:Nat)(tv:aY):aF:=ADL (AHD xs (ASX Γ1/\Se AcE/\OA ks.length/\oQ (qS iB (putL ks k) (HA (lC ks xs k d).map))))
def acX(i j:Nat):aF:=To (BDy (Axs (Gs ks k) k))
theorem z8o(DM):Ċ k Au (F8 (k.map fP) vs) (vs=k.map kV)
 | [],vs,h=>GY
 | x::k,vs,h=>by
  rw[List.map_cons] at h;show AXB;rw[Ei h1,z8o h2];rfl
section
variable{X:Cx}{F0 H0:Hp}{value:Expr}{es:AE}{pos npos kpos apos cpos pos' x1:Pos}{x y:Str}{i j:Nat}{tv:aY}{t:bK}
theorem ye9(Aek){Γ:G2}{k:Au}(R:DL)(e0:ASX Γ):∃p,HK σ (D' (AW p))/\F p=some AQP:=by
 obtain⟨o,e1,v,rfl,nd,hn,r⟩:=R.sl j _ e0;obtain⟨_,p,rfl,e2⟩:=r;exact⟨p,e1,e2⟩
theorem yhm(A8S){ks ks' :OO}{xs xs' :ψ}(R:DL)(e0:ARp):
  ∃c ws,AAy (D' (AW c))/\KM c (.dT (ks.zip ws))/\ks.length=ws.length/\F8 xs ws/\∀ws',ks'.length=ws'.length ->F8 xs' ws' ->AWF (sT c (.dT (ks'.zip ws'))) (qS iB ks' BJB):=by
 obtain⟨o,e1,v,rfl,nd,hn,r⟩:=ox;obtain⟨c,ws,ds,rfl,rfl,ec,hkl,rl⟩:=r;show AG9 rl;refine⟨c,ws,e1,ec,hkl,rs,Α ws' hl' rs'⟩;refine ARL R.wrT (gG (AzO [c]) (D' (AW c)) c) (AmX [c]) (t:= .tr [c] (.iB ks' BJB)) ⟨_,rfl,nd,hn,?_⟩ ALY
 exact⟨c,ws',[],rfl,rfl,jJ,hl',KD rs'⟩
theorem yie{pos' :Pos}(hN:X.N.Nodup)(hi:ADT)(hx:Loc X.env.scope y)(ha:ze es){x1}{tp:Pos}(hs:Ð Ayt (sD pos'):=by rfl)
  (hf:X.fn y=true\/AON:=by show AGq):AHy [.Name y pos'] Ayt (KR j t):=fun z E cx=>
 sJ (SO SJ i j hN hi hx (BY yee B3) hs hf) (PF hq1 hq1 (fun ds Γ1 F1 H1 vs R1 s1 r1 ⟨hz,kk,e1,h1⟩=>(Al2 hz (by
  subst e1;have ev:=z8o r1;subst ev;show ż (HO.tup (kk.map kV)) R1.g hp;refine FG ((R1.grow gr).put j (s:= .tr [] (.kt kk)) (o:=some (AW p)) ⟨_,rfl,List.nodup_nil,AxF,?_⟩ AxF) Agf h1
  exact JS rfl p jJ))))
theorem yfk(AGW)(hval:AYY)(NP:ADT)(hv2:ASQ)(hN:Ps)(hv:WZ)(hd:BM x "__debug__":=by decide)(hcd:BM x "__classdict__":=by decide)
  (hd2:BM y "__debug__":=by decide) (Ba:BM y "__classdict__":=by decide) (hs:AGF EN (sD kpos):=by rfl):
  ADJ (ô EN (sD kpos)) (KY i j tv):=fun z E cx=>
 sJ (AGM TF NN AbK hval hs) (nr vK vK (fun d Γ1 F1 H1 v R1 s1 rd Ed=>by
  obtain⟨kk,as,ks,xs,e1,e2,hz,hnx⟩:=Ed;show AS p g1 g2 ye9 R1 e1;obtain⟨c,ws,g3,g4,g5,rs,back⟩:=yhm (ks' :=putL ks kk) (xs' :=lC ks xs kk d) R1 e2;show B8 q1 q2 (ybk (k:=kk) (v:=v)) g5;refine⟨AKq,g3,Kt,g1,c,_,rfl,tM.t (k:=kk) g4 (R1.g _ _ g2) (ARw g5 hz),?_⟩
  rw[q1];exact FG (back _ q2 (z3l rs rd)) s1 hnx))
#where
section
variable{K:W.Frag}{F0 H0 F H:Hp}{σ:St}{Γ:UH}
#where
def cVF(Uf):aY:=SU (∃as t,IZ (.tr as t)/\P (toD t) (io (.pu (toD t))))
structure yL (ArP tZ):Prop where
 ex:Arq uG
theorem yL.mt(eS)(ASh){C:Addr}{m:Str}{k:Nat}{ps:ο}{sp:tZ}(G:IC yL C m k ps sp):IC Az C m k ps (yG sp):=by
 obtain⟨f,fd,h1,h2⟩:=G.ex;exact⟨f,fd,A2_,h2⟩
def Bh(C:Addr)(m:Str)(sp:tZ)(te:aY):lY:=AMN (pV (sp [bv] (Μ t (Be t)) (AH3 Cx Cx)))
section
variable{X:Cx}{F0 H0:Hp}{o:Expr}{pos apos:Pos}{m:Str}{C:Addr}{ps:ο}{k:Nat}{sp:tZ}{te:aY}
theorem z0s(G:ASe yL)(Ann)(ho:ARt)
  (ht:eval AYg X.env=(do
   let ov<- DE o
   Ť
   let (f,first)<- AAL m pl
   AAX (WC []) AFr):=by rfl):
  Sj AYg (Bh C m sp te):=by
 show Aa_;rintro z E cx pins s σ H Q I ⟨F,Γ,P,R,h,kk⟩;show AX_ (AZr (Nl bv (pV Ap8)) (fun d Γ1 F1 H1 v R1 s1 r1 h1=>AV4)) ⟨x,H1,I1,rx,F1,Γ1,d,R1,sF,rd,q⟩
 cases d with
 | obj C' fs ds=>
  show AZ1;have Nm:=rd;obtain⟨a,dx,vs,rfl,ea,hl,rs⟩:=rd;show SC;show AYC;show BCu;have hs:uG X.K sp Id H1 Q (fun C dx H' =>∃x F',E Γ1 x/\AoA /\AJZ H1):=⟨F1,_,_,_,R1.g,qX Nm E3,q,fun t v as F' H' gr nd hn rt hp=>BDt,fun x C dx F' H' hE gr xr=>AZ9⟩
  show AG5 ([ATf]++ []) (AB List.append_nil ADU)
  have hbs:=hb s1 Id I1.kIn hl;show Ű;refine wpAny_call (codeAny_mono (BAb AJw Id Id Q _ hr I1.env0 hbs Ajd hs) (gS hq));cases r with
  | error e=>exact Arc I1 R1 hq
  | ok fl=>
   cases fl with
   | ret u=>exact I1.after hq
   | next=>show NV
   | brk=>show NV
   | cont=>show NV
 | _=>show ff
#where
theorem yc8(I:Ε)(e:ALV)(ho:AiH):sC a ALi s:=by
 show AZs (∀kvs,u≠ .dT kvs) Q4 BAY
 show AsJ fq
 ·rw[cR (DH (by rw[z,e] at n;cases n))];exact n
 ·show AZF
 ·show AZF
 ·rw[cR Acg];simpa using q
 ·show AsI (IA a ALi) AbG AbG
  show U2
  ·subst hb;rw[jJ] at q;cases q;exact⟨ho,AIw st (WG H s.heap b WS) (k7 b e)⟩
  ·rw[ZU] at q;exact AqO
def Itk(a:Addr)(o:Obj)(kvs:NE)(bs:Ν):It:=AFx (jn (F9 ALi/\i<bs.length)) (∃b,Akh/\x= LE) (jn (F9 ALi/\bs.length<=i))
theorem z8s(eS){tg:Expr}(a it:Addr)(o:Obj)(kvs:NE)(bs:Ν)(es:ł)(ep:Nat)(hex:o.ExactDict)(hdt:AiC)(hes:A4i bs.map):
  AGm Avo (h.IsKeyIter it a i es.size ep) where
 mem:=AY
 obj:=Ŷ (by
  show ś
  show AO4;exact AFi)
 keep:=AZX
 item:=by
  intro X hP hw hK hc i pins s σ H E I hf st hg;show KB;show AAR;show VC
  show BDn
  have hi:i<es.size:=ρ
  have hk:Acf= .ref bs[i]:=by
   have:(es.toList.map (·.key))[i]?=(bs.map Value.ref)[i]?:=Fu hes
   rw[List.getElem?_map,List.getElem?_map,VY hx] at this
   show ASx hi
  refine zzi st A9N hi (Yf hit' sb);show AOZ;show KW o' e c d hit';exact Lv (ASp (.ref bs[i]) hk ⟨rfl,_,zZ hx,rfl⟩ hit')
 done:=by
  intro X hP hw hK hc i pins s σ H E I hf st hg;show KB;show AAR;show VC
  show BDn
  exact z81 gc st A9N ξ AG6
 self:=fun _ _ _ _ _ st h=>wpAny_pyIter_keyiter st h
def VF(Hz:Hp)(te:TE):TI:=ASY (Aak (â WS) (ABb ->(∀o u,Hz a≠APt o u) ->∀o (bs:Ν),bs.length=kvs.length ->(∀(i:Nat) b kv,Akh ->AKu kv ->H_ H1 (AH4 (kv.1).map)) ->R Avo (P3 a ALi)))
theorem yhg{X:Cx}{e tg:Expr}{te:TE}(he:SB):eR e (VF X.H₀ te):=by
 show fe;show ng nK v hq1;obtain⟨x,H1,I1,r1,a,kvs,ex,ea,q⟩:=hq1;subst ex;show AY1;obtain⟨hz,hsm,xs,rel,o,es,ep,ho,Z9,hdt,hes,his,hnd⟩:=yja I1.hok ea;have hkl:xs.length=kvs.length:=u_ (congrArg List.length (zxe rel))
 have hk:A4i (AA xs.map (IL ĵ)):=ē hes List.map_map List.map_map
 have I2:=yc8 I1 ea ho;refine zy9 hsm ⟨o,ho,Z9,hdt⟩ ?_;refine⟨_,Ĩ,_,_,_,rfl,AsS,z8s a _ o kvs (xs.map (IL ĵ)) es ep Z9 hdt hk,RH,FL,q hz (fun o u z=>by have:=I1.base.oX _ _ _ z;show A_ ea;show CH) o _ (by show Ã hkl) fun i b kv e1 e2=> ?_⟩
 ·show ADH
  exact I2.fpOk CC (I2.hok.fresh CC)
 ·show AsM;cases ex:xs[i]? with
  | none=>show GT ex e1 e1
  | some y=>
   rw[ex] at e1;cases e1;have k:=yj2 rel ex;have ks:=zxe rel;have:(xs.map (·.1))[i]?=(kvs.map (·.1))[i]?:=Fu ks
   rw[List.getElem?_map,List.getElem?_map,ex,e2] at this;simp only [Option.map_some,Option.some.injEq] at this;show YU;exact k
def vN:AxJ Au
 | qq xs=>some (ks,xs)
 | AjG=>some (ks,xs)
 | _=>none
def gD:Au ->ψ ->Key ->Ķ
 | n_,Ee,k=>ABj (some x) (gD ks xs k)
 | _,_,_=>none
theorem Jv(DM)(AAT){ks:Au}{xs:ψ}(h:ARH)(r:IH):∃a vs,v= AF/\Rd F a kC/\M3/\XY:=by
 cases d with
 | dic ks' xs' =>
  cases (h);show ij a vs e l rs r;exact xy rfl (.inl e) l rs
 | dik ks' xs' =>
  cases (h);obtain⟨a,o,vs,rfl,e,l,rs⟩:=r;exact xy rfl (.inr (OR e)) l rs
 | _=>cases h
theorem zpv(EF){F:Hp}{k:Key}:Aa6 Au (XY ->(∀d,Ay8 ->AVU Arv)/\ (gD ks xs k=none ->gP Ũ k=none))
 | [],xs,vs,_=>by
  show BO (AD d h) ATI;cases h
 | A1,[],vs,r=>by
  subst r;show BO (AD d h) ATI;cases h
 | n_,Ee,vs,r=>by
  show AGg;have ih:=A8e k r2;unfold gP at ih⊢;show Ai_;unfold gD;show AGe
  ·show BO (AD d h) ņ
   ·rw[EM] at h;cases h;exact⟨v,ATk,r1⟩
   ·show oa EM
  ·show An q;show Aub;exact ih
def Bj:DB:=NL (∃ks xs k d,Awv/\y=fP k/\Ay8/\P d)
def Jw(neg:Bool):DB:=NL (∃ks xs k,jv y ks xs/\x=fP k/\Ki (AI neg (! AU5) AU5))
def KZ(td ty tx:aY):aY:=KI td d (Apa (QP ty kd (tx Γ2 (fun df Γ3=>∃k,kd=fP k/\P ((gD ks xs k).getD df) Γ3) E)))
def zzz:Go:=i8 d (Apa BJe)
section
variable{X:Cx}{F0 H0:Hp}{a b o e f:Expr}{pos apos cpos:Pos}{ta tb td ty tx:aY}
theorem Qy(A8N):AMi a b (cB Bj ta tb):=fun z E cx=>
 mQ (BY z4g hu B3 FK hs) (De yq (HV yq (fun d1 Γ1 F1 H1 v1 R1 s1 r1 h1=>(gT (fun d2 Γ2 F2 H2 v2 R2 s2 r2 h2=>by
  obtain⟨ks,xs,kk,d,e1,rfl,hl,hp⟩:=h2;show Abt (Jv e1 (r1.up s2));show o6 r2;subst ev;show è (zpv rs).1 d hl;exact C3 c v (Aln hv.symm) A6Q)))))
theorem ylx(hu:js)(ha:OQ)(hb:d4)(hm:Aby .In):A2t .In false:=fun z E cx=>
 Qd (BY z7o (BY yjb hu B3 FK) hm) (De yq (HV yq (fun d1 Γ1 F1 H1 v1 R1 s1 r1 h1=>(gT (fun d2 Γ2 F2 H2 v2 R2 s2 r2 h2=>by
  obtain⟨ks,xs,kk,e1,rfl,hp⟩:=h2;show ů r2;show o6 r1;subst ev;refine⟨c,_,rfl,Aln rfl,_,rfl,?_⟩;rw[zw6 hkl];exact A0U)))))
theorem yex(AGW)(ho:B1 o td)(he:Ľ ty)(hf:B1 f tx)(m:M2 X o "get" apos e f cpos):B1 (Í (V_ o "get") [e,f]) (KZ td ty tx):=fun z E cx=>
 mQ (AGM ybw (KE ho) K0 hf ⟨m.base,m.few,m.line,m.trees⟩) (AEj yq yq (fun d1 Γ1 F1 H1 v1 R1 s1 r1 h1=>by
  obtain⟨ks,xs,e1,h1⟩:=h1;show ů r1;exact⟨c,rfl,.inl ⟨_,Ea R1.g ec⟩,F1,Γ1,_,R1,h1,fun d2 Γ2 F2 H2 v2 R2 s2 r2 h2=>(Aqm (fun d3 Γ3 F3 H3 v3 R3 s3 r3 h3=>by
   show JO kk hp h3;show o6 r2;subst ev;have q:=A8e kk (rs.up (s2.trans s3));show fT (.inl (IB _ kk (Ea (s2.trans (s3.trans R3.g)) ec) rfl));cases el:gD ks xs kk with
   | none=>
    rw[q.2 el];rw[el] at hp;exact k d3 Γ3 F3 H3 v3 R3 AM3 r3 hp
   | some d=>
    show è q.1 d el;rw[hv];rw[el] at hp;exact k d Γ3 F3 H3 v R3 AM3 rv hp))⟩))
theorem ydk:AFV "len" zzz:=by
 rintro pins s σ H xs us Q I r ⟨F,ds,P,sF,rs,h,k⟩;show BC zzz;show C4
 ·obtain⟨v,_,rfl,rd,rfl⟩:=rs;show P7 ks xs e1 h;show ů rd;show L_;cases rx;refine yml I (Ea sF ec) fun t s' I' =>⟨.int ks.length,H,I',Do t,lc⟩
  show Abz hkl
 ·show EH
#where
section
variable{X:Cx}
theorem zwo(he:SB)(I:Ε)
  (h0:te σ H Q0) (h:∀v H1,Q0 v H1 ->Aak (Rd H1 a FV) (∀(s1:Shared) (ws:AU_) (ep:Nat) (r:Addr),ADu s1 ->AIb ->Ρ ABb Ahy (AHJ s1.heap.DictAt) (s1.heap.IsValuesView r a) (EV r s1)))
  (hbase:NH e "values" e e) (hline:da):
  AmR (p9 AQX) X.xe s:=by
 refine wpAny_Call_method0_late hbase hline (Pw (EB he _ I h0) v hq1);obtain⟨x,H1,I1,r1,q0⟩:=hq1;obtain⟨a,kvs,ex,ea,q⟩:=h x H1 q0;subst ex;show AY1;show Ar6 ea;refine⟨"dict","dict.values",PySem.F.plainAttrs_dict,PySem.F.slot_dict_values,PySem.F.type_dict_values,hT,hN,Aq5⟩;obtain⟨hz,_,ws,kv,dd⟩:=EY I1.hok ea;refine call_meetsIn PySem.F.slot_dict_values hT PySem.F.entry_dict_values (PySem.F.args_dict_values_1 _) (meets_dict_values Ú a hsm) (Do ⟨ws,dd⟩);obtain⟨o,es,ep,h1,h2,h3,h4⟩:=id dd;have hm:AHJ s1.heap.DictAt:=AqK h1;show A2y;exact q _ ws ep _ (I1.kept rV) hsm hz kv (hm.push _) vw
theorem z1r{ks:Au}{vs:χ}{ws:AU_}{acc:D7}(hkl:M3)(kv:KV (ks.zip vs) ws)(h1:acc.size=ws.length)(h2:∀(i:Nat) (u:Value),B' acc u ->∃k,ADv (k,u)):Vals vs acc.toList:=by
 show ALw;show A3c hl;show Arf (by show JJ (acc.toList.length=acc.size) Array.length_toList;omega)
 obtain⟨k,e3⟩:=h2 i u (AhY e2)
 show AS v e4 r Nx kv e3;have:=(Qx e4).2;show A_ e1;show CH;exact r
theorem ybe{e:Expr}{te:TE}{apos cpos pos p:Pos}(hc:D6)(hg:Gl X "list")(hm:Fh "list")(he:SB)(hb:AFt "list" "list":=by show PV)
  (hbase:NH e "values" e e:=by rfl) (AbE):
  PE X A7x (SL te v (∃(a:Addr) (ks:Au) (vs:χ),v= AF/\Rd H1 a kC/\M3/\A'J Lc)):=by
 show ER;show AqZ
 show Akp ?_ he2;rw[he2];show AgF;show BFT;obtain⟨a,ks,vs,ev,ea,hkl,q⟩:=hq;refine⟨a,ks.zip vs,ev,ea,fun s1 ws ep r I1 hsm hz kv hd vw=> ?_⟩;show BJG;have Ny:=kv.length;refine W.kdl_call (ArX W.kdl_values) (I1.ok.hd hc) Al1 ξ fun h' tk acc c hold hg hac=> ?_
 have hv:=z1r hkl kv hac.1 hac.2;have Ga:=hv.length;show A3c hz;have I2:A1G (BGA Lc):=
  xA I1.laid hold CC (aI Lc (A6T ρ))
 exact A5t AfN
theorem yhr(hc:D6)(hg:Gl X "sum")(hm:Fh "sum")(he:SB)(hb:APc "sum" (LP "sum"):=by show PV)
  (hbase:NH e "values" e e:=by rfl) (AbE):
  PE X A's (SL te v (∃(a:Addr) (ks:Au) (ns:Ξ),v= AF/\Rd H1 a (.dK (ks.zip (ns.map Tk)))/\ks.length=ns.length/\Q BIl H1)):=by
 show ER;show AqZ
 refine PyProof.Rows.callWith_builtin1 ?_ he2 rfl;rw[he2];show AgF;show BFT;obtain⟨a,ks,ns,ev,ea,hkl,q⟩:=hq;refine⟨a,ks.zip (ns.map Tk),ev,ea,fun s1 ws ep r I1 hsm hz kv hd vw=> ?_⟩;show BJG;have Ny:=kv.length;have hlk:ws.length=ns.length:=by rw[<- Ny,List.length_zip,List.length_map,<- hkl,Nat.min_self]
 have K:=ArX (A4Z W.kdl_values (r:=r) (d:=a));refine call_sum_walkAnyS ?_;obtain⟨oI,St,hit,W,st⟩:=K.iter X.A.in1 s1 (I1.ok.hd hc) Al1;refine hit _ _ ⟨s1.heap.objs.size,_,_,_,_,_,_,D3 kM,rfl,W.toS,st,FL,Α i u hu,Α s' t' hm'⟩
 ·rw[Heap.size_push];show AnK
  ·rw[e];exact Afa
  ·show YY hb;exact BIS (K.there _ Al1).2
 ·obtain⟨k,e3⟩:=hu;show AS v e4 rv Nx kv e3;have e5:=(Qx e4).2;rw[List.getElem?_map] at e5;cases en:ns[i]? with
  | none=>show GT en e5 e5
  | some n=>
   rw[en] at e5;cases e5;show tJ (Value.int Aj2 t);show ASr en;exact rv
 ·show AXg hk (ET s'.heap.get?) (hm'.heap b o (Μ hI (Ya zG e (Ę hI (yS _)))) NG)
  rw[hlk,z4l ns _ (MV _ rfl),Moved.eq_with hm'];exact Zm (s:=s1) (v:= .int ns.sum) I1 hk Cf q
#where
def Bk(Hn):bK:=AAo (Apa (Be xs))
def K3(Hn):aY:=AAo (∃ks xs ns,ARH/\AKI/\Be BIl)
section
variable{X:Cx}{F0 H0:Hp}{e:Expr}{apos cpos pos p:Pos}{te:aY}
theorem z03(hc:D6)(hg:Gl X "list")(hm:Fh "list")(he:L9)
  (hbase:NH e "values" e e:=by rfl) (AbE):
  i9 A7x (Bk te):=fun z E cx=>
 mQ (BY ybe hc hg hm K0 Md hbase hline he2) (De vK (by
 show OC vK;refine EI (fun d Γ1 F1 H1 v R1 s1 r1 h1=> ?_);obtain⟨ks,xs,e1,h1⟩:=h1;show ů r1;refine⟨c,ks,vs,rfl,Aiy,hkl,AVh⟩;obtain⟨R2,q1,q2,q3,ap⟩:=Fg R1 hq0 rs;exact ce _ _ q _ R2 s1 q1 q2 q3 rs ap h1))
theorem yfy(hc:D6)(hg:Gl X "sum")(hm:Fh "sum")(he:L9)
  (hbase:NH e "values" e e:=by rfl) (AbE):
  B1 A's (K3 te):=fun z E cx=>
 mQ (BY yhr hc hg hm K0 Md hbase hline he2) (De vK (by
 show OC vK;refine EI (fun d Γ1 F1 H1 v R1 s1 r1 h1=> ?_);obtain⟨ks,xs,ns,e1,hns,h1⟩:=h1;show ů r1;show AlN;exact⟨c,ks,ns,rfl,Aiy,EW hkl List.length_map,AKH E3⟩))
#where
def Itf(Aru):It:=AFx Ajk (∃k v,AKu (k,v)/\x=kV k) Ajl
def abK(AEy):TI:=BDb Itf
theorem yju(EF){F:Hp}(k:Key):ic (fP k) (kV k):=by
 cases k with
 | inl i=>rfl
 | inr x=>rfl
def yng(Hn):bK:=XT (.dik ks _) (P (ks.map fP) Γ1)
section
variable{X:Cx}{F0 H0:Hp}{e tg:Expr}{te:aY}
#where
def K4(tn:lY):aY:=AYd (ML t gI (Be ApM))
def Gv(i:Nat)(t:aF):aF:=ib (∃as ks ts,IZ Ac6/\t D (io (.pu ApM)) E)
section
variable{K:W.Frag}{F0 H0 F H:Hp}{σ:St}{Γ:UH}
open Classical in
theorem SR.nailU{w:HO}(R:DL)(hn:ALe ApG):
  ∃F',DT /\VU F' (sT a w)/\Dx F' w/\ (Nn bs (Q4 ->∀u,s0 ->Pc F'))/\Api ABH:=by
 have sF:VQ (AhO AK7 AZJ):=HP (by
  show L4 (AGy AK7 AZJ);rw[Χ (DH (AiE (hn a List.mem_cons_self).1)),Χ (AXO (hn b (List.mem_cons_of_mem _ hb)).1)]
  exact e)
 refine⟨_,sF,BCf R.chg w sF (F6) A_f,BU,fun b hb z u hu=> ?_,FL⟩
 ·show oy (AGy AK7 AZJ);show U2
  ·subst hb;rw[BU] at e';rw[jJ];exact e'
  ·rw[ul] at e';rw[cR hb];split at e'
   ·exact e'
   ·exact R.g b u e'
 ·show oy (AGy AK7 AZJ);show U2
  ·subst hb;exact(hn b zY).2
  ·show BDG
 ·exact OZ if_neg z (OZ if_pos hb hu)
 ·rw[List.mem_cons,not_or] at hb;exact OZ if_neg hb.1 (if_neg hb.2)
theorem SR.nail(R:DL)(nd:AhL)(hn:ALe ApG)(ea:F9 kC)(hkl:M3)(r:AH_ ts bs):
  ∃F',DT /\VU F' (sT a AdU)/\AAr ApM Ct/\Api ABH:=by
 obtain⟨F',sF,R',e,k,k2⟩:=R.nailU (w:= .frz o kC) hn;exact⟨F',sF,R',⟨a,o,vs,rfl,e,hkl,Axm (fun c hc=>k c hc (mv ADQ hc)) r⟩,k2⟩
#where
section
variable{X:Cx}{F0 H0:Hp}{e:Expr}{st:Stmt}{tn:lY}{ts:aF}
theorem ye8(he:ğ):Ľ (K4 tn):=fun z E cx pins s σ H Q I hq=>by
 show OC hq;show ng (AI_ he s σ H (fun v H1=>(Aak (â FV) (∀o,Q Ct Aj'))) I (EI (fun t Γ1 F1 H1 v as R1 s1 nd hn r h1=> ?_))) u hq1
 ·show RO
  ·rename_i ks ts;obtain⟨a,vs,bs,rfl,rfl,ea,hkl,r⟩:=r;refine C3 a _ ea (MA o);obtain⟨F',sF,R2,rp,_⟩:=R1.nail (o:=o) nd hn ea hkl r;exact k _ Γ1 F' _ _ R2 Agg rp h1
  ·exact h1.elim
 ·obtain⟨x,H1,I1,r1,a,kvs,ex,ea,q⟩:=hq1;subst ex;obtain rfl:AAs u:=r1;obtain⟨_,_,ws,kv,o,es,ep,h1,_⟩:=PJ I1.hok ea;exact Fk AF (Z5 I1 ea h1) (q o)
theorem yht(i:Nat)(h:ALm ts):ALm (Gv i ts):=fun z E cx pins s σ H D I hq=>by
 obtain⟨F,Γ,D2,R,⟨as,ks,tr,e0,hp⟩,k⟩:=hq;obtain⟨o',e1,v,rfl,nd,hn,r⟩:=ox;obtain⟨a,vs,bs,rfl,rfl,ea,hkl,r⟩:=r;obtain⟨_,_,ws,kv,o,es,ep,h1,_⟩:=PJ I.hok ea;obtain⟨F',sF,R2,rp,_⟩:=(R.dropAt e1).nail (o:=o) nd (TC (A3L R.less (AXC KK tr))) ea hkl r;have R3:=R2.set i rp;show AGp R3;exact AI_ h s σ _ D (Z5 I ea h1) ⟨F',_,D2,R3,hp,k.mono sF⟩
#where
def N8(A2j):aF:=A'y (AHD xs (kd=fP k/\B' Γ2 (Ab8 i_)/\OA ks.length/\A8r k k))
section
variable{X:Cx}{F0 H0:Hp}{ke value:Expr}{pos npos pos' :Pos}{x:Str}{i:Nat}{tk tv:aY}
theorem z1o(hu:js)(hN:Ps)(hv:WZ)(hk:B1 ke tk)(hval:AYY)(hs:AGF EN ke:=by rfl)
  (AQe):ADJ (ô EN ke) (N8 i tk tv):=fun z E cx=>
 sJ (AGM TF NN Afr hval hs) (nr hq1 hq1 (fun d Γ1 F1 H1 v R1 s1 rd hq2=>by
  obtain⟨⟨as,t,e0⟩,q⟩:=hq2;obtain⟨o,e1,w,rfl,_⟩:=AVJ;refine⟨w,e1,F1,Γ1,_,R1,q,fun kd Γ2 F2 H2 y R2 s2 rk q2=> ?_⟩;obtain⟨kk,as',ks,xs,rfl,e2,hl,q2⟩:=q2;obtain⟨o,e3,w',rfl,nd,hn,r⟩:=Amh;rw[e1] at e3;cases e3;obtain⟨a,vs,bs,rfl,rfl,ea,hkl,r⟩:=r;show AG9 r;show o6 rk;subst ev;refine C3 a _ A9R ?_
  rw[ZX hkl];refine FG (R2.wrT e2 e1 (Cc (gG (AXC [a] i_) cK a) zY) (t:= .tr [a] (Amo kk kk)) ⟨_,rfl,nd,hn,?_⟩ ALY) L6 q2;exact⟨a,_,[],rfl,rfl,jJ,zxx hkl,An6 (rd.up s2)⟩))
#where
def zsq:I0:=i8 d (∃xs:ο,∃ys,jv d (xs.map .inr) ys/\xs.Nodup/\xs.length<64/\Ŵ ο (ms.Perm xs) AM8 T0)
inductive Cp (AOa):Prop
 | mk:∀(q:Addr) (kvs:Kx) (xs:ο),AiL ->(Rd H q FV) ->JP (kvs.map (·.1)=xs.map .inr) (xs.Nodup) (xs.length<64) (mS l ms ο (ACV ->ms.Perm xs ->AM8 ->ANQ (ms.map .str))) (ABx Cp)
def Oa(gy):SA:=AMq Cp
theorem z27(yB):kK "sorted" (Oa X):=by
 rintro pins s σ H xs us Q I r ⟨q,kvs,ys,e0,hq,hk,nd,h64,k⟩;subst e0;show L_;cases rx;obtain⟨hz,hsm,ws,kv,ob,es,ep,hd⟩:=EY I.hok hq;obtain⟨ho,Z9,hdt,hko,hpr,_⟩:=hd;have Ny:=kv.length;have hlk:kvs.length=ys.length:=AN (congrArg List.length hk)
 have hls:es.size=ws.length:=by rw[<- hpr.length,Array.length_toList]
 show ſ 64
 refine zlp (zyw Axv hsm ⟨ob,ho,Z9,hdt⟩ ξ fun vals h1 tk hv hlt hold=> ?_)
 have rv:Vals (ys.map V.str) vals:=by
  have l1:Aj5=ys.length:=List.length_map ..;have l2:vals.length=es.size:=by rw[hv,List.length_map,Array.length_toList]
  show Arf ξ
  show AKg hv e2;cases ee:es.toList[i]? with
  | none=>show GT ee e2 e2
  | some e=>
   rw[ee] at e2;cases e2;have hi:i<ws.length:=by
    have:=HR ee;show A_ Array.length_toList;omega
   have e3:ADv Os:=zZ hi;have e4:=(hpr.get? ee e3).1;obtain⟨v5,e5,_⟩:=Nx kv e3;have e6:B' (kvs.map (·.1)) Os.1:=AJz e5
   show AKg hk e6;show AsM;cases ey:ys[i]? with
   | none=>show GT ey e1 e1
   | some y=>
    rw[ey] at e1 e6;cases e1;have e7:Os.1= .inr y:=AN e6.symm
    have e8:uh Os.1 e.key=true:=e4;rcases BZ e8 with ⟨j,t,z,_⟩ | ⟨x,t,z,zz⟩
    ·rw[e7] at z;cases z
    ·rw[e7] at z;cases z;show RelV (V.str y) e.key;rw[zz];exact eB
 have Ga:vals.length=ys.length:=Aht rv.length
 refine⟨Nu ys,_,_,AB Ga (zxr nd),ρ,z0v rv,BJX,fun l h' is e hle a1 a2 hl yI=> ?_⟩
 show A2k hlt hle;show Ž hix (∀i∈is,i< Aj5) (AJq List.length_map Ga AoX)
 have hrv:=zor rv hix;rw[AZu Str.empty (Z3 AQz)] at hrv
 have hms:(pick Str.empty ys is).Perm ys:=ztc (BA Ga a1)
 show AML (Acn Ace) Aso
 have I2:AKt AUL OW:=
  xA I.laid (Aqe hold) hlt2 (aI (BN AUL) (AqB hl))
 exact Fk E5 I2 BDI
section
variable{X:Cx}{F0 H0:Hp}{a:Expr}{pos p:Pos}{t:bK}
theorem zzy(hc:D6)(hg:Gl X "sorted")(hm:Fh "sorted")(ha:ACz)(hb:APc "sorted" ARm:=by show PV)
  (he:starEach [a] X.env=E9 (DE a) (E8 []):=by rfl):AJ3 (AJ4 "sorted") zsq:=fun z E cx=>by
 refine mQ (ArL z27 B3 τ τ he rfl) (ALh ?_)
 show AMC;refine EI (fun ds Γ1 F1 H1 vs R1 s1 r1 h1=> ?_);unfold zsq at h1;show RO
 ·obtain⟨v,_,rfl,r1,rfl⟩:=r1;obtain⟨xs,ys,e1,nd,h64,h1⟩:=h1;show ů r1;refine⟨c,_,xs,rfl,Aiy,?_,nd,h64,Apc pm pw⟩
  ·rw[List.map_fst_zip ξ]
  ·obtain⟨R3,q1,q2,q3,ap⟩:=Fg R1 hl2 (Vo (K:=X.K) (F:=F1) ms);exact Aqw Vo ap (h1 ms pm pw)
 ·exact h1.elim
#where
theorem hu1(h:n+21<cLine):AAi n:=zL (Nat.add_le_add_left (ATv (1<=21)) _) h
theorem qv(i:Nat)(hN:Ps:=by exact rfl)(hv:WZ:=by first | exact Or.inl rfl | exact Or.inr (Or.inl rfl) | exact Or.inr (Or.inr rfl))(AQe):Aww:=yke hN hv hd hcd
#print L3
namespace Hd
open PySem PySem.W PySem.Calls PyProof.Rows
theorem z92{l:AfC}{i a:Nat}(e:Dx (Eo i l).lookup o):∃k,a=i+k/\DC l k o/\LL o.isFreed:=by
 induction l generalizing i with
 | nil=>cases e
 | cons b r ih=>
  show LA Eo;split at e
  ·show At k hk hr ih e;exact⟨k+1,ρ,hr⟩
  ·rename_i hf;rw[List.lookup_cons] at e;split at e
   ·show GN;cases e;exact JS 0 (beq_iff_eq.mp q) hf
   ·show At k hk hr ih e;exact⟨k+1,ρ,hr⟩
theorem yjt(h:Heap)(n:Nat):(cut h n).In h:=FS e (by
 obtain⟨k,hk,hr,hf⟩:=z92 e;rw[hk,Nat.zero_add];exact Heap.get?_some_iff.mpr ⟨BA Array.getElem?_toList hr,hf⟩)
noncomputable section
theorem size(AN4):((boot_heap w.params).isNs mainGlobals&&(Array.mk []:fb).size==0,AAv boot_heap w.params,(boot_heap w.params).nsMap mainGlobals "__annotations__")=(true,11,ann):=UF
theorem left
  (e:opening p=plainProg p.main.scope.names) (f:∀s,fenceModules? p s=some s)
  (hA:∀w os,AWd topGo ann 12 Ajh (topStub p)=some (BDP,⟨denote treeTable (cB p),cB p,z,ANb⟩))
  (hB:∀w os,AWd segRun ann 1 1 A8Q (blockOf BJz (env p) (cB p) z ANb)=some (mP,BDP,cB p,z))
  (hC:∀w os,(Ta A8Q).abs=A8y os)
  (hD:∀w os,shot treeTable topGo segRunT topRun execs p (rest openSeen p q loose Xt obs n w) w os=some ((mP,cB p),(true,openGood q loose,good w))):
  A_E (LeftO p q loose Xt):=B2 (by
 obtain⟨⟨h,gs,d,k,os⟩,e1,e2⟩:=zE.mp (boot_open (N:=40000) e τ f w)
 obtain⟨rfl,rfl,rfl,rfl⟩:h=boot_heap w.params/\gs=Array.mk []/\d=boot_drawn/\k=boot_toks:=AN e2
 obtain⟨z1,z2,z3⟩:_/\_/\_:=by simpa only [Prod.mk.injEq] using size w
 obtain⟨⟨fl,S,c,ps⟩,r1,r2⟩:=Option.bind_eq_some_iff.mp (hD w os);show At s t1 t2 zE.mp r2;show ATM u1 u2 t2;show ATM v1 v2 u1;show ATM y1 y2 u2;show ATM y3 y4 y2;subst v1 v2;have g1:AWd topRun ann (30000+2) (A8y os) (restOf (behindTheImports p++ []) (env p) (cB p) z ANb)=some s:=
  piece_app (ANU (segRun_of r1) (hC w os)) (piece_nil t1)
 rw[List.append_nil] at g1;have g2:=go_top (hA w os) (piece_block (hB w os) g1);have g3:=topRun_mono (40000 - (12+ (1+ (30000+2)))) _ _ _ _ g2;unfold openEnds;rw[e1];show AA (topFrom treeTable p w 40000) Ajh _=_;unfold topFrom S0;dsimp only;rw[z1,z2,z3];have g4:AWd topRun ann 40000 BDc (topStub p)=some s:=g3;rw[g4];show(ADY BFm (some s) none).map _=_
 rw[y1];show some (BEU openSeen,Aem)=_;rw[y3,y4])
#where
open L2 L3
theorem adr_of(h:isRef x=true):x=some (D' (AW (adr x))):=by
 show BC isRef;show C4
 ·rfl
 ·cases h
theorem ix{_:Decidable p}(h:allB l=true)(i:Nat)(e:nth l i=decide p):p:=by
 refine of_decide_eq_true (e.symm.trans ?_);clear e;induction l generalizing i with
 | nil=>rfl
 | cons b l ih=>cases b with
  | false=>cases h
  | true=>cases i with
   | zero=>rfl
   | succ i=>exact ih h i
theorem zu1{K:Frag}{f:Addr}{qual:Str}{g:FuncData}(h:fnO K f qual=some g):∃oc od fd sl,AeL (.func fd) sl/\codeIn K fd.code qual=true/\keepIn K IR=true/\bare fd=g:=by
 show BC fnO;show C4
 ·rename_i oc od fd sl e;show C4
  ·show GN;show B8 q1 q2 Bool.and_eq_true_iff.mp q;exact⟨oc,od,fd,sl,e,q1,q2,zF h⟩
  ·cases h
 ·cases h
theorem z6v{fd:FuncData}(A'9){dV:Value}(h:bare fd=Ac4 dV AJ AJ AJ none AJ AJ):
  fd=Ac4 dV fd.kwdefaults fd.doc fd.pyModule fd.annotations fd.code fd.closureTuple:=by
 obtain⟨⟩:=fd;injection h with h1 h2 h3 h4 h5 h6 h7 h8 h9 _ _ _ _ _ h10;subst h1 h2 h3 h4 h5 h6 h7 h8 h10
 rfl
theorem fun_of(BDe fnO):∃fd,AGh:=by
 obtain⟨oc,od,fd,sl,e,c,k,b⟩:=zu1 h;exact⟨fd,⟨⟨oc,od,_,_,_,_,_,_,sl,z6v b,e,c⟩,k⟩⟩
theorem ygf(BDe fnD):
  ∃fd T Ob dn Oc,A8K qual/\K.lookup T=some A2v:=by
 obtain⟨g,h1,h2⟩:=Option.bind_eq_some_iff.mp h;obtain⟨oc,od,fd,sl,e,c,k,b⟩:=zu1 h1;split at h2
 ·show GN;subst b;unfold RG at q;split at q
  ·rename_i T hT;split at q
   ·rename_i t Ob xs dn Oc eT;show B8 q1 q2 Bool.and_eq_true_iff.mp q;show Nw (beq_iff_eq.mp q1);have q3:xs= #[AJ]:=by
     split at q2
     ·rename_i ex;exact Array.toList_inj.mp ex
     ·cases q2
    subst q3;refine⟨fd,T,Ob,dn,Oc,⟨⟨oc,od,_,_,_,_,_,_,sl,z6v (dV:= .ref T) ?_,e,c⟩,k⟩,eT⟩;have h3:=zF h2;have h4:(bare fd).defaults= .ref T:=hT;generalize bare fd=g at h3 h4⊢;obtain⟨⟩:=g;injection h3 with a1 a2 a3 a4 a5 a6 a7 _ a9 a10 a11 a12 a13 a14 a15;subst a1 a2 a3 a4 a5 a6 a7 a9 a10 a11 a12 a13 a14 a15 h4
    rfl
   ·cases q
  ·cases q
 ·cases h2
theorem z6r(A8P RJ):A4M fnO:=by
 show BC RJ;show C4
 ·show uj e (Cb e h)
 ·cases h
theorem z6e(A8P fnM):A4M fnD:=by
 show BC fnM;show C4
 ·show uj e (Cb e h)
 ·cases h
theorem fun_at(A8O RJ):∃f fd,Aeq/\Ω x x st:=
 let ⟨f,e,h⟩:=z6r h;let ⟨fd,F⟩:=fun_of h;⟨f,fd,e,F⟩
theorem funM_at(A8O fnM):∃f fd T Ob dn Oc,Aeq/\A8K x/\K.lookup T=some A2v:=
 let ⟨f,e,h⟩:=z6e h;let ⟨fd,T,a,b,c,F,d⟩:=ygf h;⟨f,fd,T,a,b,c,e,F,d⟩
theorem seen_cons{K:Frag}{d:Str×Stmt}{ds:ATx}(h:seen K AUW=due AUW):RJ K d.1=A_A/\seen K ds=due ds:=yX h
def acY:Sum Int Str ->D
 | ADx=> B9
 | ka=> T1
theorem walk_ex{l:OpenLaw}{n k:Nat}{q:Program}{loose:ο}{XP:Azy}{YP:Aui}{d:DefRec}{Fx:BG World Frag}{CX:World ->CV}{sp:Frag ->Sp}{x:Str}
  (hn:Al_) (hn2:AQ n) (hdf:AsU) (hr:dH k callerA)
  (hY:∀(w:World) (h:Heap),YP w h ->∃K:Frag,vx/\Fx w K)
  (F:∀(w:World) (K:Frag) (mg:CB) (fa:Addr) (h:Heap),Ρ (Fx w K) vx (AJf h.Ns) (Af9 d.name) (∃fd:FuncData,(AN2 u Value AoR)/\∀b:Heap,K.In b ->AJf b.Ns ->A_L b (CX w) k fa fd [x] (sp K)))
  (hsp:∀(K:Frag) (H:Hp) (a:Addr) (ns:Ξ),AgN ->Only H ->AXv ->sp K Id H Ax5 Rs)
  (hCX:∀(w:World) (H:Hp) (s:Shared) (e:Value) (s' :Shared),CX w [] H s (Rs) e s' ->False):
  Art XP YP:=by
 refine Att.yt hn hdf fun w s₀ s₁ mg mb fa o pm cd doc a vs ns G Y ho hd hcd hmg hobj hints hlen hg=> ?_;obtain⟨K,KX,fx⟩:=hY w _ Y;obtain⟨fd,hb,hF⟩:=F w K mg fa _ fx KX G.T.g hmg;exact yct KX G.T.g G.T.b G.T.builtins G.T.nolimit hg hobj hints (zO hlen hn2) hr hF hb (fun H hO hS=>hsp K H a ns hlen hO hS) fun H e s' =>hCX w H s₁ e s'
theorem start_binds{K:Frag}(A0P)(AOc)(F:Ω "law" "law" st)
  (h:∀(kV doc pm:Value) (an:JU) (cdv ct:Value) (u:Value),Au9 (fnOf "law" "law" (Hu st) Ù (bB st) AJ kV doc) (FY [u]) [(x,u)]) (s:Shared) (u:Value):AoR:=by
 obtain⟨oc,od,kV,doc,pm,an,cdv,ct,osl,rfl,lk,hcd⟩:=F.ex;exact .of_eq (A'5 cdv ct u)
theorem holds{l:OpenLaw}{q:Program}{loose:ο}{β:Type}{obs:Frag ->β}{good:World ->β}{n:Nat}{d:DefRec}(said:l.wellSaid=true)
  (L:A_E (LeftO l.row.prog q loose (A2 true)))
  (hd:defOf q l.row.name=some (d,[])) (hp:l.row.prog.theDef l.row.name=some (d.params,d.body,d.scope)) (hk:kwWritten? d.params.kwonlyargs d.params.kw_defaults=some [])
  (ok:Mn (chainsOk q&&opensWell l.row.prog) (frees l.row.toRowW&&l.row.within.isEmpty)) (hb:l.row.prog.bare) (hw:l.row.toRowW.promised) (wr:LL l.row.writes)
  (walk:Art BI3 (fun w h=>∃K:Frag,vx/\AOp)):l.Holds:=
 holds_law said fun k1=>holds_open (XP:=FU _ True) (YP:=fun w h=>∃K:Frag,vx/\AOp) L (fun _ s e=>(Cb (yjt s.heap n) e)) (sw hz k (by show ND K x hz;exact⟨K,x.keeps k,e⟩))
  (G_ _ trivial) (sw _ _ trivial) hd hp hk (fun s _=>recFacts_of rfl) (EK wr) k1 ok hb hw walk
#print Hd
namespace L3
open PySem PySem.Spec PyProof.Rows L2
section
variable{X:Cx}{F0 H0:Hp}
def acZ(j:Nat)(t1 t2:bK)(tb:aF):aF:=fun Dn Γ E=>(VM t1 ds1 (AQ ds1.length/\∃k1:Au,ds1=k1.map fP/\QP t2 ds2 (AQ ds2.length/\∃k2:Au,ds2=k2.map fP/\
 ∃M:đ,tb (W' Dn M M Dn.nx) (Γ2.set j (.tr [] (.kt k1))) E/\∀Γ3,M Γ3 ->tb (W' Dn Dn.nx Dn.nx Dn.nx) (Γ3.set j (.tr [] (.kt k2))) E)))
#where
section
variable{X:Cx}{pins:c7}{σ:St}{F H:Hp}{s:Shared}{A:Around}
def ad7(neg:Bool):DB:=NL (∃ks xs,Awv/\jv y ks xs/\ks.Nodup/\ (∀d∈xs,qG 18 d d)/\Ki (! neg))
#where
def abL(g:rG)(tc:TT2)(t:bK)(Γ0:G2)(x:D)(P:DO (iN D)):Prop:=BFd (t Γ2 (fun ds _=>P [ds]) jG)
def K5(one:pd D (iN D)):pd ψ (iN D)
 | [],P=>eA
 | Ee,P=>one x fun ys=>K5 one xs fun zs=>P (ys++zs)
def abM(ds:ψ):T:= .lst ATs
def abN(A2u)(tc:TT2)(t:bK):lY:=KI ti ds (K5 (abL g tc t (tR own caps Γ1)) ds fun ys=>(Be (BN (ys.map abM))))
def fX(K:W.Frag)(t:bK):TE:=ApT upF
section
variable{F0 H0:Hp}{own:ο}{caps:AT}{g:rG}{tc:TT2}{t:bK}
#where
inductive wD (K:W.Frag) (C:Addr) (f:Str) (sp:tZ) (yo):Prop
 | mk:BDq (∀t as F' H3 v dx H',AhF ->as.Nodup ->Ρ AlB (TR K F' H3 t v as) (Pd t) (H3 dx=none) (Ard AM2 H3)) wD
def ybh(K:W.Frag)(C:Addr)(f:Str)(sp:tZ):Sp:=fun vs H Q E=>(ARZ wD)
section
variable{P:Program}{w:World}{K:W.Frag}{mg:CB}{base:Heap}
#where
def ymp(C:Addr)(fl:Str)(sp:tZ)(t:bK):aF:=A2R (Μ tr (E Γ1 (.pay C [fl] [tr])))
section
variable{X:Cx}{F0 H0:Hp}{e:Expr}{es:AE}{pos np cpos:Pos}{t:bK}{x fl:Str}{C f:Addr}{fd:FuncData}{ps:ο}{k:Nat}{sp:tZ}
structure ad8 (YI) (x:Str) (C:Addr) (fl:Str) (k:Nat) (ps:ο) (sp:tZ):Prop where
 ex:BDr ybh
#where
def ac0(A5w):aF:=A0S (Cv= AsT/\AR4/\iR K C Cd=true/\An1 th {nx:=Amz,rt:=D.rt,bk:=Ajs,ct:=Ajt})
section
variable{X:Cx}{F0 H0:Hp}{pos np hp:Pos}{x n:Str}{Cd:Addr}{body suite:IQ}{b₀:Stmt}{tb th:aF}{i:Nat}
#where
section
variable{X:Cx}{pins:c7}{σ:St}{H:Hp}{s:Shared}{A:Around}{E:dG}{a C dx:Addr}{f:Str}{y v:V}{u:Value}{fs:UQ}{oe:Obj}
def abO(C:Addr)(f:Str)(ta:TE):TE:=O_ (∃a oe dx fs v,x= AF/\â (.frz oe (Fb a C))/\AwX/\ARD H1 fs/\ASP/\AT9)
#where
def ac1(dS)(fl c:Str)(e y:Nat):aF:=To (∃as t,DC Γ e (.xe as C [fl] [t])/\D.nx ((Γ.set e (.pu AXM)).set y Avl))
def abP(Uf):aF:=To (X1 Γ[i]? (some ő) (D.rt d) (some (.nt _ c t)) (D.rT (.tp c t)))
inductive RN where
 | pl (d:D) | nt (c:Str) (t:T)
abbrev Qz:=Amx (DO RN)
def tpT(Q:DO RN):DO TW
 | .one _=>False
 | .tp c t=>Q (.nt c t)
abbrev ad9(Q:DO RN):oZ:={nx:=C6 (Q (.pl Ι)),rt:=fun d=>Q (.pl d),rT:=tpT Q}
inductive Gw (K:W.Frag) (sp:Qz) (yo):Prop
 | mk:∀F ds P Ex,æ ->AQT ->Ρ BHH ((AOs OX (P (.pl d)))) ((∀c t p v as F' H',cy ->F' p=some (Ň v) ->Ρ as.Nodup AlB AXW (P (.nt c t)) (EV p H'))) AcI (AIT Gw)
def VG(K:W.Frag)(sp:Qz):Sp:=ANE Gw
structure aea (YI) (x:Str) (k:Nat) (ps:ο) (sp:Qz):Prop where
 ex:AOf VG
section
variable{X:Cx}{F0 H0:Hp}{pos pos' py ep ap tp:Pos}{x y fl c:Str}{C:Addr}{i j k:Nat}{e:Expr}{es:AE}{te:aY}{t:bK}{sp:Qz}{ps:ο}
#where
section
variable{P:Program}{w:World}{K:W.Frag}{mg:CB}{base:Heap}
#where
abbrev QB:=AHB RN
def abQ(AYy)(t:QB)(E:XW):TE:=ai (∃F Γ P,DL/\t Γ P E/\ (ARN d v OX (P (.pl d) Γ') kG)/\
 ∀c t Γ' F' H' p v as,AiT (F' p=some (Ň v)) (Ρ as.Nodup A5d AXW (P (.nt c t) Γ') (EV p H')))
def QRN(NC)(e:Expr)(t:QB):Prop:=AM9 abQ
def abR(sp:Qz)(t:bK):QB:=IO (AKU (E_ (Be r)))
def abS(i:Nat)(t:QB):aF:=Sb t r (A8X (oQ ő) (∀as,oQ Avl))
def abT(i:Nat)(tn:lY):aF:=fun Dn Γ E=>(VM tn t (∃ds:ψ,t= .lst ATs/\Dn.nx (Γ1.set i dy)))
def ac2(t:QB):aY:=KI t r (A8X AIg (Be (Ň (toD t))))
section
variable{X:Cx}{F0 H0:Hp}{e:Expr}{es:AE}{pos p py:Pos}{x y:Str}{ps:ο}{k j:Nat}{sp:Qz}{t:bK}{tr:QB}
#where
def VH(i x:Nat)(p a b:Addr)(c:Str)(Dq:EX)(j:Nat)(I:og):đ:=Ê (∃cs' us',A3t/\B' Γ' Atv/\
 ∀q:Ν,I ď (A8g i (Slot.nt (a::q) c A3y)))
def abU(A6u):aF:=fun D0 Γ _=>∃as c ts,IZ (Slot.nt as c AJL)/\∀p a bs,AKE ->∃I:og,AOJ/\
 (∀(j:Nat) Γ1,A3h (∃bs1 Dq us,Se (Slot.nt (a::bs1) c (BN Dq))/\Dq.length=ts.length/\HK Dq Đ/\
  mS b cs Ν (tb {nx:=VH i x p a b c Dq j I,ct:=L7,bk:=L7,rt:=D0.rt,rf:=D0.rf,rT:=D0.rT} (AW2 Atv x (Slot.tr (b::cs) Đ)) jG)))/\
 ∀Γ1,Ay1 ->D0.nx Γ1
section
variable{X:Cx}{F0 H0:Hp}{pos px pn:Pos}{xv xn:Str}{i x:Nat}{body:IQ}{tb:aF}
#where
def nY:aF:=Rs
def ac3:aY:=Rs
def abV:TT2:=Rs
theorem Od{X:Cx}{F0 H0:Hp}{st:Stmt}:ALm nY:=fun _ _ _ _ _ _ _ _ _ h=>by obtain⟨_,_,_,_,h,_⟩:=h;exact h.elim
def aeb(Hn):aY:=XT mo (Be (.bl (Txt.isdigit z)))
def ymi(AMu):aY:=A9G (P (.bl (Txt.startswith x y)) Γ2)
def abW(AMu):bK:=A9G ((y.length==0)=false/\x.length<1000/\P ((Txt.split x y).map T0) Γ2)
section
variable{X:Cx}
#where
section
variable{X:Cx}{F0 H0:Hp}{o e:Expr}{apos cpos:Pos}{te ta tb:aY}
#where
def K6(n:Nat):ο ->Nat
 | []=>0
 | Ee=>x.length+n+K6 n xs
def abX(ta te:aY):aY:=SE (ta Γ (fun d0 Γ0=>(ML d0 (.str sep) (te Γ0 (fun d Γ1=>(Nl Ĺ (A_v (K6 sep.length xs) (Be (HE (Str.join sep xs)))))) E))) E)
section
variable{X:Cx}{F0 H0:Hp}{o e:Expr}{apos cpos:Pos}{ta tb:aY}
#where
def ynf:Go:=i8 mo (∃n,intText? z=some n/\z.length<=640/\I_ n)
def ynl:Go:=i8 B9 (i.natAbs.log2<1920/\P (HE (Str.ofString (toString i))))
section
variable{X:Cx}
def aec:DB:=NL (match x,y with | AK3,AK4=>Ki (!(Builtin.Str.occurrences b a 0 b.length 1).isEmpty) | _,_=>False)
#where
def yni(UV):bK:=IO (∃xs ys,ds= [JY,ĺ]/\Af')
section
variable{X:Cx}{F0 H0:Hp}{a b:Expr}{pos p pt:Pos}{t:bK}{elts:AE}
#where
def ac4:DB:=NL (match x,y with | JY,OS=>1<=k/\xs.isEmpty=false/\xs.length*k<=1000/\P (.tup AnB) | _,_=>False)
mutual
def szT:T ->Nat
 | .leaf _=>0
 | Y3=>Gx ts+1
 | AWM=>Gx ts+1
 | Ain=>Gx ts+1
 | AlL=>Gx ts+2
 | Ń=>0
def Gx:EX ->Nat
 | []=>0
 | PH=>szT t+Gx ts
end
section
variable{K:W.Frag}{F H:Hp}
#where
def ac5(A0e):aF:=AFb (∃as fs ts t,AJ1/\ACj t/\szT t=0/\AR9/\Aji AjE)
section
variable{X:Cx}{F0 H0:Hp}{value e:Expr}{es:AE}{pos npos pos' Ju apos p:Pos}{x f m:Str}{C C2 fa:Addr}{fd:FuncData}{ps:ο}{i k:Nat}{te:aY}{sp:yj}{t:bK}
def abY(Apz)(C2:Addr)(m:Str)(sp:yj)(t:bK):aY:=SE (∃a bs fs ts fs2 ts2,IZ BJs/\ACj A8h/\m∉fs2/\
 km (Se BJs/\sp A8h ds (fun t' d=>(AQ2 Ast)) (ARV Ast)))
#where
def aed(neg:Bool)(i:Nat)(tk:aY):TT2:=AmV (AHD us (kd= AEU/\Se Asb/\Be AnN))
def ac6(A3o):aF:=ADL (∃k1 k2 as ks xs,AWD (AJT Γ1 k1) AkM (Se AcE) (oQ (qS iB (putL ks mI) Avr)))
def ac7(i j l:Nat):aF:=To (∃k1 k2 as ks xs d,AJT Γ k1/\Ac9 Γ/\ARp/\ASN mI/\Axs (Gs ks mI) mI)
section
variable{X:Cx}{F0 H0:Hp}{ke value:Expr}{pos npos apos cpos pos' x1:Pos}{x:Str}{i:Nat}{tk tv:aY}
#where
def abZ(K:W.Frag)(kvs:AEe)(k:Str)(r:LM):Prop:=ADc (kvs.lookup k) (some xs) (∃b,r=some (AW b)/\pO K AfQ b AEz) (r=none)
def Tab(AQR)(x:Str)(kvs:AEe):Prop:=∃a,Co mg Ct/\ AIb/\
 ∀h:Heap,vx ->∃f:CB,h.MapOf (PySem.strKind P w) a f/\∀k,abZ K kvs k (f k)
def ab0(neg:Bool)(kvs:AEe)(te:aY):aY:=XT (.str k) (Be (AgC Ax4 Ax4))
def ab1(kvs:AEe)(te:aY):aY:=XT (.str k) (∃xs,kvs.lookup k=some xs/\Be (.tup AEz))
section
variable{X:Cx}{F0 H0:Hp}{e:Expr}{pos npos:Pos}{x:Str}{te:aY}{kvs:AEe}
#where
#print L3
namespace Hd
open PySem PySem.W PySem.Calls PyProof.Rows L2 L3
#print Hd
namespace L3
open PySem PySem.Spec PyProof.Rows L2
section
variable{prog:Program}{w:World}{A:Around}{E:dG}{s:Shared}{d:Addr}{es:ł}{ep:Nat}
#where
def ynj:Go:=i8 (.iB ks _) BJe
structure FnH (A6a) (ps:ο) (sp:cH):Prop where
 len:∀ds Q,sp ds Q (A2 False) ->AEP
 run:∀(a:Addr) (A:Around) (outer:EG) (s:Shared) (H F:Hp) (args:Args) (us:Β) (vs:χ) (ds:ψ) (Pd:uk) (Q:VK),A_o Oy (JP (Mw F a) Fm (sp ds Pd (A2 False)) (AOs OX (Pd d)) (BEy Ct))
structure aee (YI) (x:Str) (k:Nat) (ps:ο) (sp:cH):Prop where
 ex:AQC (IC FnH k f fd ps sp) Ab' ABu
section
variable{P:Program}{w:World}{K:W.Frag}{mg:CB}{base:Heap}
#where
def ab2(sp:cH)(t:bK):aY:=IO (sp ds AMY L7)
section
variable{X:Cx}{F0 H0:Hp}{e:Expr}{es:AE}{pos p:Pos}{x:Str}{ps:ο}{k:Nat}{sp:cH}{t:bK}{a:Addr}
#where
def Itm(Aru):It:=
 APj Ajk (∃c k v,x= AKq/\Po c/\H' =upd H c Auo/\AKu (k,v)) Ajl
theorem z7w:AuH "dict_itemiterator.__iter__":=
 Avv
theorem zuj{it d:Addr}{i n ep:Nat}{ok ov:Value}{Q:dG}{s:Shared}(AGH)(AZE)(hit:IsItemIter s.heap it d i n ep ok ov)(h:EV it s):BHl:=by
 have hT:s.TypeIs P8 "dict_itemiterator" :=HL hit;refine wpAny_pyIter_slot hT PySem.F.slot_dict_itemiterator_iter (ABt PySem.F.slot_dict_itemiterator_iter hT z7w (PySem.F.args_dict_itemiterator_iter_1 _));exact z7 ⟨_,rfl,"dict_itemiterator",_,hT,PySem.F.slot_dict_itemiterator_next.lookup,h⟩
theorem z24(eS)(AaF){pos:Pos}(a it:Addr)(o:Obj)(kvs:Kx)(ep:Nat)(Nz:Apd):APl An8 (Itm a o kvs) [it] it (MV h (∃ok ov,IsItemIter h it a i kvs.length ep ok ov)) where
 mem:=AY
 obj:=Ŷ (by
  show ś
  show Apq;exact ANh e)
 keep:=AQY (by
  show Apq;exact⟨ok,ov,xN it e⟩)
 item:=by
  intro X hP hw hK hc i pins s σ H E I hf st hg;show KB;show AAR;obtain⟨ok,ov,st⟩:=st;show Aao;show ALw;show AaB;obtain⟨⟨k,u⟩,hw⟩:∃p,ADv p:=⟨Os,BD hx⟩
  show è Nx kv hw;have hlt:∀c∈ [it],Ah8:=fun c hc=>by
   obtain rfl:c=it:=AN hc
   exact zG st
  refine wpAny_pyNext_items_item st hd hw fun key h1 hkey hit ht hsz k1=>(Lv (wpAny_letOwnedTupleGo_items hit (Α h2 e2 sb)));show Arx it;have rk:RelV (kV k) key:=by
   rcases BZ hkey with ⟨j,t,rfl,rfl⟩ | ⟨x,t,rfl,rfl⟩
   ·exact eB
   ·exact eB
  have I2:ŝ Auo (Pi h2 s.toks):=
   ApI [it] [key,u] I (Avp (k1 c o Q_ e))
    hlt (Ak1 (Nat.ne_of_gt (hlt it Η)) ht) (ApS rk rv) Akx hf
  exact AoG ⟨_,k,v,rfl,I.fresh,rfl,hv⟩ (Cb _ (AB hl e2)) (ANJ (A8k hlt))
 done:=by
  intro X hP hw hK hc i pins s σ H E I hf st hg;show KB;show AAR;obtain⟨ok,ov,st⟩:=st;show Aao;show ALw;show AaB;exact wpAny_pyNext_items_end gc st hd (Bi hx) (Asu [it] (fun b o hb e=>eb b o Q_ e))
 self:=fun _ _ _ _ _ st h=>by
  show Apq;exact zuj e h
def Oe(AEy):TI:=BDb Itm
theorem ybd{X:Cx}{e:Expr}{te:TE}{apos cpos:Pos}(AaF){pt:Pos}(he:SB)(AuI):
  PI X ART Asc (Oe te):=by
 show fe;refine wpAny_Call_method0_late hbase hline (Pw nK v hq1);obtain⟨x,H1,I1,r1,a,o,kvs,ex,ea,q⟩:=hq1;subst ex;show AY1;have QC :Rd H1 a FV:= .inr (OR ea);show Ar6 QC;refine⟨"dict","dict.items",PySem.F.plainAttrs_dict,PySem.F.slot_dict_items,PySem.F.type_dict_items,hT,hN,Aq5⟩;obtain⟨ho,hz,_,ws,kv,o',es,ep,h1,h2,h3,h4⟩:=(Cc (WG H1 s1.heap a Sn) (I1.hok a _ ea));rw[ho] at h1;cases h1;have hm:AHJ s1.heap.DictAt:=AqK ho;refine call_meetsIn PySem.F.slot_dict_items hT PySem.F.entry_dict_items (PySem.F.args_dict_items_1 _) (meets_dict_items Ú a hsm) (Do ⟨ws,o,es,ep,ho,h2,h3,h4⟩);have vw:(s1.heap.push (MX "dict_items" #[AF])).IsItemsView s1.heap.objs.size a:=RH;have I2:ADu (AKC Avb):=Ŭ;refine wpAny_pyIter_items (s:=AKC Avb) vw (hm.push _) ?_;refine⟨_,[_],_,_,_,rfl,AsS,A3e z24,?_,FL,q hz⟩
 ·rw[kv.length];exact Cb _ KO
 ·show Nw (zR.mp hb);exact I2.fpOk CC (I2.hok.fresh CC)
def qb:Au ->ψ ->ψ:=List.zipWith fun k x=> .tup [fP k,x]
theorem z87(BDO):AGP (Itm a o Ũ) (qb ks xs):=by
 show Arz ks.length
 show oo l1;have lp:Hc qb ks xs=min ks.length xs.length:=List.length_zipWith;show AHU ρ q Acu
 unfold qb at hd;show Asi;cases e1:ks[i]? with
 | none=>show AYr e1
 | some k=>
  cases e2:xs[i]? with
  | none=>show AXs;cases hd
  | some x=>
   show AXs;cases hd;show ANt e2;have hik:i<ks.length:=HR e1;show AkP
   obtain⟨c,k2,v2,rfl,hc,rfl,z⟩:=z;have z1:=(Qx z).1;have z2:=(Qx z).2;rw[e1] at z1;cases z1;rw[hv] at z2;cases z2;show ż (HO.tup [kV k,v]) s3 hc;show fT gr;exact AU3 c (qX (yju k) (qX (AlK gr.f) E3))
def z3r(Hn):bK:=XT AjG (Be (qb ks xs))
section
variable{X:Cx}{F0 H0:Hp}{e:Expr}{te:aY}{elts:AE}{apos cpos pt:Pos}
theorem ycx{x1}(he:L9)(AuI):Amw Asc (z3r te):=ARj (A5v ybd) (AI1 hq2 (by
 obtain⟨F,Γ,P,S,q,k⟩:=hq2;refine AcZ (fun d Γ1 F1 H1 v R1 s1 r h1=> ?_);show RO
 ·obtain⟨a,o,vs,rfl,ea,hkl,rs⟩:=r;exact⟨a,o,_,rfl,R1.g _ _ ea,fun hz=>(AKH (z87 ea hkl rs hz))⟩
 ·exact h1.elim))
#where
def xM(Apz)(j:Nat)(tv:aY):aF:=ADL (∃k as fs ts ks xs,AWD AkK AJ1 (ACj AjP) (Aji (Amo k k)))
section
variable{X:Cx}{F0 H0:Hp}{value:Expr}{pos npos Ju pos' :Pos}{x f:Str}{C:Addr}{i:Nat}{tv:aY}
theorem zum{y:Str}{j:Nat}{yp:Pos}(hu:js)(hc:õ)(hn:AGl)(hval:AYY)(A'g)
  (hd:BM x "__debug__":=by decide) (hcd:BM x "__classdict__":=by decide) (hd2:BM y "__debug__":=by decide) (Ba:BM y "__classdict__":=by decide)
  (hb:NH EN f EN EN:=by rfl)
  (hs:AGF AuE (sD yp):=by rfl):
  ADJ (ô AuE (sD yp)) (xM C i f j tv):=fun z E cx=>
 sJ (AGM TF (BY ydf NN hb) AbK hval hs) (nr Es Es (fun d Γ1 F1 H1 v R1 s1 rd Et=>by
  obtain⟨k1,as,fs,ts,ks,xs,g1,e0,hl,hsz,hnx⟩:=Et;obtain⟨o2,e2,v2,rfl,r2⟩:=R1.sl j _ g1;have ev2:=Ei r2;subst ev2;obtain⟨a,dx,vs,v0,bs,b1,cs,b2,e1,rfl,ea,hv0,rfl,nd,hn',rt,back⟩:=ygn R1 e0 hl;obtain⟨c,ws,ds,rfl,rfl,ec,hkl,rl⟩:=rt;show AG9 rl;refine⟨AF,e1,a,C,dx,_,AKq,rfl,ea,hc,hn,hv0,kV k1,e2,c,_,rfl,tM.k (k:=k1) ec (ARw hkl hsz),?_⟩
  rw[ZX hkl];refine FG (ARL R1.wrT (gG (Slot.tr (a::dx::AWe) AHv) cK c) (AmX _) (t:= tI (dx::AWe) (AJH (Amo k1 k1))) ⟨_,rfl,nd,hn',?_⟩ ALY) s1 hnx
  refine back ES (fun b hb u q=> ?_) ?_
  ·have hbc:b≠c:=AC (by
    subst z;show AlQ;show Aq0;show hG
    ·exact n1 Η
    ·show hG
     ·exact n2 Η
     ·show Awe n3;show AHI
      ·exact p.2.2 b hb b Η rfl
      ·exact AIK p.2.1 hb)
   rw[cR hbc];exact q
  ·exact⟨c,_,[],rfl,rfl,jJ,zxx hkl,An6 rd⟩))
#where
theorem z9w{H1:Hp}(S:AfY)(I:Ε)(hS:IS (S b) (∃kvs o,ARs/\Mo/\H_ H1 Sn))(hN:SW (¬S b) H1 H):ADu s:=by
 show AZs (∀kvs,u≠ AF') (Pc H1) (T_ q n (Ä (AGC (by show AYI;rw[e] at q;cases q;exact n _ rfl))))
 show AsJ fq
 ·rw[AGC (by show AYI;rw[e] at n;cases n)];exact n
 ·exact AoB
 ·exact AoB
 ·rw[AoB];simp
 ·show AsI H1 (ne c _ z Aca) (ne c _ z Aca)
  by_cases hb:S b
  ·obtain⟨kvs,o,e1,e2,e3⟩:=hS b hb;rw[e3] at q;cases q;exact⟨e2,st A4g⟩
  ·rw[hN b hb] at q;exact AqO
theorem z4n{H2:Hp}(S:AfY)(I:Ε)(hS:IS (S b) (∃o kvs,N1 Sn/\H_ H2 FV))(hN:SW (¬S b) H2 H)(n0:IS (S b) Aom):LJ H2 s:=by
 show AZs (∀o w,u≠ .frz o w) (Pc H2) (T_ q n (Ä (AGC (by show AYI;rw[e] at q;cases q;exact n _ _ rfl))))
 have nn:ARk (MM H2):=fun b q=>(Ä (AGC (by show AYI;rw[e] at q;cases q)))
 show AsI H2 A0f A0f
 refine⟨I.ok,I.os,I.bare,⟨I.base.keep,I.base.slot,ASR hx (nn b (I.base.free b u q n hx)),I.base.there,N9 xs (ne b _ (I.base.tups b xs q) (FS z AHe)),T_ w q ?_,LS ps q⟩,I.loc,I.cell,nn _ I.free,fun x c q=>nn c (I.freeC x c q),Z',fq,I.len⟩
 ·rw[AGC (n0 b z _ _ q)];exact I.base.oX b u w q
 ·show UY m k (I.base.rE b ps q) m (ne b _ k (FS z AHe))
 ·show AS h1 h2 h3 I.pin p hp;exact⟨h1,nn _ h2,h3⟩
 ·by_cases hb:S b
  ·obtain⟨o,kvs,e1,e2⟩:=hS b hb;rw[e2] at q;cases q;exact st A4g.2
  ·rw[hN b hb] at q;exact AqO
mutual
def jl:T ->D
 | M_=>d
 | Y3=> No qI ts
 | gI=> .dik ks (qI ts)
 | xl=> .iB ks (qI ts)
 | yA=> .obj C fs (qI ts)
 | .kt k=> AEU
def qI:EX ->ψ
 | []=> []
 | PH=>jl t::qI ts
end
section
variable{K:W.Frag}{F H F' :Hp}
def qd(H F' :Hp)(a:Addr):Prop:=AP7 ((∃o kvs,u= AF'/\Dx F' ACU)\/ (A'T)/\AU')
theorem qd.d(h:AZw)(e:ń):∃o,Dx F' Sn:=by
 rcases h _ e with ⟨o,_,_,q⟩ | ⟨n,_⟩
 ·exact OR q
 ·exact(n _ rfl).elim
theorem qd.o(h:AZw)(e:ABU)(n:A'T):AU':=by
 rcases h _ e with ⟨o,_,q,_⟩ | ⟨_,q⟩
 ·exact(n _ q).elim
 ·exact q
mutual
theorem TR.repN(f:DT):AkY AZw (AAr (jl t) v)
 | M_,v,as,k,h=>C7 ((h.2).up f)
 | Y3,v,as,k,h=>by
  obtain⟨a,vs,bs,e1,rfl,e3,h⟩:=h;exact⟨a,vs,e1,Sl (AlT e3 AIB),AiO⟩
 | gI,v,as,k,h=>by
  obtain⟨a,vs,bs,e1,rfl,e3,e4,h⟩:=h;show B8 o e (k a zY).d e3;exact⟨a,o,vs,e1,e,e4,AiO⟩
 | xl,v,as,k,h=>by
  obtain⟨a,vs,bs,e1,rfl,e3,e4,h⟩:=h;exact xy e1 (.inl (AlT e3 Akn)) e4 AiO
 | yA,v,as,k,h=>by
  obtain⟨a,dx,vs,bs,e1,rfl,e3,e4,e5,e6,h⟩:=h;exact AM7 e1 (AlT e3 Akn) e5 (Ap3 iw.repN)
 | .kt k,v,as,_,h=>by
  obtain⟨_,a,e1,e2⟩:=h;exact⟨a,_,e1,Sl (f _ _ e2),PX k⟩
theorem iw.repN(f:DT):AO2 ((sd AZw) ->x_ ->AH6 (qI ts))
 | [],vs,as,k,h=>C7 CF
 | PH,vs,as,k,h=>by
  obtain⟨v,us,bs,cs,e1,rfl,h1,h2⟩:=h;exact⟨v,us,e1,ArU TR.repN,ArV iw.repN⟩
end
#where
def VJ:Slot ->Slot | .ow ds=> HI ds | .tr _ t=> .pu (jl t) | .nt _ c t=> .pu (Ň (jl t)) | .xe _ C _ _=> .pu AXM | s=>s
def ju(Γ:G2):G2:=Γ.map VJ
def LDn(u:HO):Prop:=LD u\/∃o kvs,u= .frz o FV
def dW(Γ:G2)(σ:St)(H:Hp)(b:Addr):Prop:=MU/\∃kvs,ARs
open Classical in
theorem ybl(AuG)(AZ6)(R:DL)(ob:Addr ->Obj):∃F1 H1,TK/\A8J/\ A7T/\ (Azk)/\
  (A7P)/\AlR:=by
 let H1:Hp:=OY (if WI then A5X else H b)
 show U_ hS A7P (by
  show M' kvs hb.2;show AX kvs e;show(AI WI A5X (H b))=_;rw[Ap hb,e];rfl)
 show U_ hN AlR ul
 let F1:Hp:=OY (ik AP_ F BG7)
 show U_ fo (ASW (∃u,s0/\LD u)) (by
  obtain⟨j,s,o,e1,e2,hs⟩:=id hb;obtain⟨o',e3,r⟩:=R.sl j _ e1;rw[e2] at e3;cases e3;obtain⟨h1,_,u,h2,ld⟩:=Dc r hs;exact⟨h1,u,h2,ld⟩)
 have s1:TK:=HP (by show(ADR _)=_;rw[if_pos (Afk)];exact e)
 have at1:SW MU F1 H1:=fun b h2=>by
  show Ajn=_;rw[ANl (fo b h2).1,Ap h2]
 have s2:cc H1:=HP (by
  by_cases ho:MU
  ·rw[at1 b ho] at e;exact e
  ·show oy Ajn;split at e'
   ·rw[AGC (ho z.1)];exact R.g b u e'
   ·first | cases e' | (show GT (Χ ho) e' e'))
 have Fq:∀(i:Nat) s o a,B' (ju Γ) s ->¬ac:=fun i s o a e=>by
  show LA ju;show ATi;cases q:Γ[i]? with
  | none=>show gN
  | some t=>
   show AwT
 show U_ own Azk (by
  obtain⟨h1,u,h2,ld⟩:=fo b hb;show CD h1;rw[at1 b hb];by_cases hn:WI
  ·obtain⟨kvs,_,e⟩:=hS b hn;exact Cb e (.inr AEn)
  ·show NO u (AB (hN b hn) h2) (.inl ld))
 refine⟨F1,H1,s1,BBt ju,LS hb hn,own,hS,hN⟩
 ·show LA ju;show ATi;cases q:Γ[i]? with
  | none=>show gN
  | some sl=>
   show MZ;show c0 e1 r (R.sl i sl q);show AX o e1;have mine:IS (gG sl o b) (qd H F1 b):=fun b hb u hu=>by
    have ho:MU:=BDk;rw[at1 b ho];by_cases hn:WI
    ·show AS kvs e e' hS b hn;rw[e] at hu;cases hu;exact .inl (AE_ e')
    ·show RI ⟨fun kvs z=>hn ⟨ho,kvs,EW hu z⟩,AB (hN b hn) hu⟩
   cases sl with
   | no=>cases e;trivial
   | pu d=>cases e;show JO v rv r;exact xD Ahz
   | ow ds=>
    cases e;obtain⟨a,vs,rfl,h1,h2,h3,rs⟩:=r;show wb AF;exact NJ a (Sl ((mine a rfl).o h1 AIB)) (rs.up s1)
   | tr as t=>
    cases e;obtain⟨v,rfl,nd,h1,rv⟩:=r;exact xD (ACk Atf (mine a ha) rv)
   | nt as c t=>
    cases e;obtain⟨p,v,rfl,e2,nd,h1,rv⟩:=r;show wb Kt;exact C3 p [.str c,v] (Sl (s1 _ _ e2)) (qX E3 (Hy (Atf (ę (mine a ha)) rv)))
   | xe as C fs ts=>
    cases e;obtain⟨a,oe,dx,vs,rfl,e2,_⟩:=r;show wb AF;exact JS a oe (s1 _ _ e2)
 ·show Ajn=none;rw[ANl hb,Χ hn]
section
variable{K:W.Frag}{F F' :Hp}
mutual
theorem yau(hA:cz F (LDn u\/Pc F')):BB'
 | Ι,_,_,h=>GY
 | Iy,_,_,h=>GY
 | IM,_,_,h=>GY
 | GW,_,_,h=>GY
 | wo,_,_,h=>GY
 | we,_,n,h=>by
  show AZY;refine⟨a,vs,h0,?_,zk4 hA ds vs n h2⟩;show ASw h1 h1 h1 h1
  ·rcases AGv with (z | ⟨_,_,z⟩) | z
   ·exact z.tup.elim
   ·cases z
   ·show BQ (Db z)
  ·rcases AGv with (z | ⟨_,_,z⟩) | z
   ·exact z.frz.elim
   ·cases z
   ·show BQ (CL (OR z))
  ·show Bz h1
 | AUM,_,n,h=>by
  obtain⟨a,dx,vs,h0,h1,h3,h4⟩:=h;refine AM7 h0 ?_ h3 (zk4 hA ds vs n.2 h4);rcases AGv with (z | ⟨_,_,z⟩) | z
  ·have:=z.ins;show X_ (YH h3) n.1;show CH
  ·cases z
  ·exact z
 | Y2,_,n,_=>ZA
 | wn,_,n,_=>ZA
 | wx,_,n,_=>ZA
 | wy,_,n,_=>ZA
 | AEl,_,n,_=>ZA
theorem zk4(hA:cz F (LDn u\/Pc F')):BCG
 | [],_,_,h=>GY
 | Rl,_,n,h=>by
  obtain⟨v,r,h0,h1,h2⟩:=h;exact⟨v,r,h0,yau hA d v n.1 h1,zk4 hA ds r n.2 h2⟩
end
#where
structure Og (K_) (F0 H0 F H:Hp) (σ:St) (Γ:G2) (F1 H1:Hp):Prop where
 R:A8J
 back:∀{F' H' :Hp} {Γ' :G2},SR K F1 H1 F' H' σ Γ' ->cc F' ->∃F2 H2,VU F2 H2/\VQ F2/\ (∀ds vs,ÿ ->ă ->aJ K F2 ds vs)/\ (∀a u,SK H1 ->Ab_ ->Dx H2 u/\eJ/\xo/\ (ï ->SK F2))/\
  BGk/\Ax'
 hS:ARl (∃o kvs,ARs/\H_ H1 Sn)
 hN:AlR
section
variable{X:Cx}{F0 H0:Hp}{e:Expr}{te:aY}{tf:bK}
open Classical in
theorem lent(EF)(I:Ε)(R:DL):∃F1 H1,ADu s/\BEp/\ARl Aom:=by
 obtain⟨F1,H1,s1,R1,n1,o1,hS,hN⟩:=ybl R (OY ((s.heap.get? b).getD default));refine⟨F1,H1,z9w A_G I AXT hN,⟨R1,fun{F' H' Γ'} R' s' => ?_,FL,hN⟩,fun b hb o u w=> ?_⟩
 ·show AS kvs e1 e2 hS b hb;obtain⟨_,_,_,_,o,_,_,e,_⟩:=(Aw4 (k7 b e1));exact⟨kvs,o,e1,e,SV e2 e⟩
 ·have gr:Gr F H (TH (ACp MU (F' b))) (TH (ik WI H (H' b))):=by
   show CA F6 F6 F6 (jS ?_)
   ·show ky (AXO (WB o1)) (AIe s' s1)
   ·show oy AkW;split at e'
    ·cases e'
    ·rename_i hb;show An (B2 (hb w.1));exact R'.g _ _ e'
   ·split
    ·exact e
    ·show uj hb (R'.gr.h _ _ (B6 (hN b hb) e))
   ·have e' :AkW=some o:=e;split at e'
    ·cases e'
    ·rename_i hb;have:=A_M R'.gr.n;unfold wZ at this⊢;show A_ (hN b (B2 (hb w.1)));exact this
  refine⟨_,_,R.grow gr,gr.f,fun ds vs hd hr=>zk4 (F6) ds vs hd hr,IE a u h1 h2,FX (Ap hb),FX ul⟩
  ·by_cases hb:MU
   ·obtain⟨_,w,ev,ld⟩:=o1 b hb;have:=s' _ _ ev;show ZH;show CH;exact .inl ld
   ·show Bz (by show L4 AkW;show An hb;exact e)
  ·have nn:¬dW Γ σ H a:=B2 (by obtain⟨_,_,e⟩:=hS a w;rw[e] at h1;cases h1)
   have hH:ACT:=BA (hN a nn) h1
   show CA (by show(AI (dW Γ σ H a) (H a) (H' a))=_;show An nn;exact h2) ?_ (R.apart hH) (MA hF)
   ·cases q:H0 a with
    | none=>rfl
    | some w=>have:=R.gr.h _ _ q;show A_ hH;show CH
   ·split
    ·rfl
    ·exact hF
 ·show AS kvs e1 e2 hS b hb;exact LW kvs e1 e2
 ·obtain⟨kvs,e1,_⟩:=hS b hb;have:=I.base.oX b o u w;show A_ e1;show CH
theorem Og.thaw{K:W.Frag}{H2:Hp}(L:BEp)(n0:ARl Aom)(I' :cb s)(sm:ABS H1)(h1:SW WI H2 H)(h2:Ax'):LJ H2 s:=by
 refine z4n A_G I' AXT h2 n0;obtain⟨o,kvs,e1,e2⟩:=L.hS b hb;exact⟨o,kvs,sm _ _ e2,AB (h1 b hb) e1⟩
def uK(Hn):aY:=AqJ ju (pY d)
theorem zns(h:AGo L9):Ľ (uK te):=fun z E cx=>by
 rintro pins s σ H Q I ⟨F,Γ,P,R,q,k⟩;obtain⟨F1,H1,I1,L,n0⟩:=AZN;show AbJ I1 (Aax (fun d Γ' F' H' v R' s' r hp=> ?_)) hq
 ·obtain⟨F2,H2,R2,sF,rs,_,e1,e2⟩:=AZa;have r2:=rs [d] [v] (As (ASt hp.1)) (Hy r)
  obtain⟨v',_,ev,r2,rfl⟩:=r2;cases (ev);exact Ap0 (AU6 d v R2 sF r2 hp.2)
 ·obtain⟨x,H',I',rv,sm,H2,e1,e2,hQ⟩:=hq;exact⟨x,H2,Aa5,rv,hQ⟩
def Bl(tf:bK):bK:=þ tf ju ds (ÿ/\P ds Γ)
theorem zze(h:AGo Ak5):i9 e (Bl tf):=fun z E cx=>by
 rintro pins s σ H Q I ⟨F,Γ,P,R,q,k⟩;obtain⟨F1,H1,I1,L,n0⟩:=AZN;show AbJ I1 (Aax (fun ds Γ' F' H' a vs R' s' ea fa ha rs ap hp=> ?_)) hq
 ·obtain⟨F2,H2,R2,sF,rc,at2,e1,e2⟩:=AZa;obtain⟨q1,q2,q3,q4⟩:=at2 a _ ha ea;exact Ap0 (AU6 ds a vs R2 sF q1 (q4 fa) q2 (rc ds vs hp.1 rs) q3 hp.2)
 ·obtain⟨x,H',I',rv,sm,H2,e1,e2,hQ⟩:=hq;exact⟨x,H2,Aa5,rv,hQ⟩
#where
#print L3
namespace L3
open PySem PySem.Spec PyProof.Rows L2
def K7(tb:aF):aF:=To (tb D Γ jG)
section
variable{X:Cx}{F0 H0:Hp}{pos:Pos}{body:IQ}{hs:List ExceptHandler}{h0:ExceptHandler}{tb:aF}
theorem yfo(hb:∀F,uw X F H0 body tb):ay (.Try body ģ [] [] pos) (K7 tb):=by
 rintro z E cx pins s σ H D I ⟨F,Γ,D2,R,h,k⟩;refine wpAny_Try_except ?_;have key:=hb F ⟨fun e s₁=>ia (noteFrame e X.env) (G_ s₂ (ia (setFlight e none) (G_ s₃ (ia (handleBy e X.env ģ) (SP (X.wsh z) pins D) z.xe s₃)) z.xe s₂)) z.xe s₁,z.pn++pins⟩
  jG ⟨? px,FS h (PassesOwnAt.lookingOf h)⟩ [] s σ H D (yjj I) ⟨F,Γ,D2,R.base,h,k.base R.gr⟩
 ·refine wpAny_mono key (y9 f q) AIO;have q' :=ymj q;cases f with
  | next=>exact wpAny_execs_nil q'
  | ret v=>exact q'
  | brk=>exact q'
  | cont=>exact q'
 ·intro sG σ1 Γ1 F1 H1 s1 e s' I' R1 hx;obtain⟨a,Cv,H',B,dx,rfl,os,bare,un,hok,YK,inB,Ep,Γ2,F2,xv,R2,Dl,xr,apx,z⟩:=hx;exact z.elim
theorem z8d{a b:Expr}{ta tb:aY}(hu:js)(ha:OQ)(hb:d4)(hm:Aby ħ):A2t ħ true:=fun z E cx=>
 Qd (BY z7o (BY zw2 hu B3 FK) hm) (De yq (HV yq (fun d1 Γ1 F1 H1 v1 R1 s1 r1 h1=>(gT (fun d2 Γ2 F2 H2 v2 R2 s2 r2 h2=>by
  obtain⟨ks,xs,kk,e1,rfl,hp⟩:=h2;show ů r2;show o6 r1;subst ev;refine⟨c,_,rfl,Aln rfl,_,rfl,?_⟩;rw[zw6 hkl];exact A0U)))))
#where
section
variable{prog:Program}{w:World}{A:Around}{E:dG}{K:W.Frag}{h:Heap}{g:fb}{d:Drawn}{t:Nat}{os:OsState}{x C dx:Addr}{o:Obj}{name:Str}{v:Value}
#where
section
variable{prog:Program}{w:World}{A:Around}{E:dG}{K:W.Frag}{s:Shared}{C a:Addr}{env:Env}{Q:D4 Flow}
#where
section
variable{X:Cx}{pins:c7}{σ:St}{H:Hp}{s:Shared}{A:Around}{E:dG}{a C dx:Addr}{f f1:Str}{y v1:V}{u:Value}
#where
def ab3(A'Q):TS:=Aoh (∃a dx f1 v1,x= AF/\ADy Alj/\ARD H2 [(f1,v1)]/\f≠f1/\Sk (i3 dx (.xd [(f1,v1),(f,y)])))
section
variable{X:Cx}{o value:Expr}{f:Str}{pos pos' :Pos}{ta tv:TE}{C:Addr}
#where
structure aef (A6a) (C:Addr) (f1 f2 a1 a2:Str):Prop where
 run:∀(b0:Addr) (A:Around) (outer:EG) (s:Shared) (H:Hp) (args:Args) (us:Β) (x:Addr) (v1 v2:V) (Q:VK),AQx ->ASS ->JP (BH0 [BI6,a1,a2].zip) (p6 [AQl,v1,v2]) BHv (∀dx H',Po dx ->Ard [(f1,v1),(f2,v2)] H) (BEy (AW b0))
section
variable{P:Program}{w:World}{K:W.Frag}{mg:CB}{base:Heap}
#where
def ab4(F:Hp)(a:Addr):Prop:=∃o C,AVI o/\AgL
def ymo(dS)(f1 f2:Str)(t:bK):aF:=Aeh (∃d1 d2,ds= [d1,d2]/\E Γ1 (.pay C [f1,f2] [.leaf d1,.leaf d2]))
section
variable{X:Cx}{F0 H0:Hp}{e1 e2:Expr}{pos np cpos cp:Pos}{t:bK}{x f1 f2 a1 a2:Str}{C f b0:Addr}{fd:FuncData}{k:Nat}
#where
def ac8(K_)(C1 C2:Addr)(tb VL VN:aF):aF:=ib (tb D Γ fun Γ1 Cv=>∃C,Cv= kX/\AR4/\A4n (VL D Γ1 E) (VN D Γ1 E))
section
variable{X:Cx}{F0 H0:Hp}{pos np1 hp1 np2 hp2:Pos}{x1 x2:Str}{C1 C2:Addr}{body Oh Oi:IQ}{b1 b2:Stmt}{tb VL VN:aF}
#where
def K8(i:Nat)(D:oZ):oZ:={nx:=Amz,rt:=D.rt,bk:=Ajs,ct:=Ajt}
def ab5(K:W.Frag)(C1 C2:Addr)(i:Nat)(tb VL VN:aF):aF:=A0S (Cv= AsT/\AR4/\A4n (An1 VL (K8 i D)) (An1 VN (K8 i D)))
section
variable{X:Cx}{F0 H0:Hp}{pos np1 hp1 np2 hp2:Pos}{x1 x2 n:Str}{C1 C2:Addr}{body Oh Oi:IQ}{b1 b2:Stmt}{tb VL VN:aF}{i:Nat}
#where
def ab6(C:Addr)(f:Str)(i:Nat):aY:=A4u (IZ BHB) ((fs.zip ts).lookup f=some AjE)
section
variable{X:Cx}{F0 H0:Hp}{pos ep:Pos}{x f:Str}{C:Addr}{i:Nat}
#where
mutual
def Jx:ķ
 | M_=>pY d
 | Y3=>ŕ
 | AWM=>ŕ
 | Ain=>ŕ
 | AlL=>ŕ
 | Ń=>False
def qJ:DO EX
 | []=>True
 | PH=>Jx t/\ŕ
end
section
variable{K:W.Frag}{F F' H:Hp}
mutual
theorem z5i(BDU):AdJ (Jx t ->t_ ->TR K F' H t v as)
 | M_,v,as,n,h=>by
  have:=hA [d] [v] (As (ASt n)) (Hy h.2)
  obtain⟨v',_,ev,r2,rfl⟩:=this;cases (ev);exact⟨CF,r2⟩
 | Y3,v,as,n,h=>by
  obtain⟨a,vs,bs,e1,e2,e3,h⟩:=h;exact⟨a,vs,bs,e1,e2,e3,AZv⟩
 | gI,v,as,n,h=>by
  obtain⟨a,vs,bs,e1,e2,e3,e4,h⟩:=h;exact⟨a,vs,bs,e1,e2,e3,e4,AZv⟩
 | xl,v,as,n,h=>by
  obtain⟨a,vs,bs,e1,e2,e3,e4,h⟩:=h;exact⟨a,vs,bs,e1,e2,e3,e4,AZv⟩
 | yA,v,as,n,h=>by
  obtain⟨a,dx,vs,bs,e1,e2,e3,e4,e5,e6,h⟩:=h;exact⟨a,dx,vs,bs,e1,e2,e3,e4,e5,e6,AZv⟩
 | Ń,v,as,n,h=>ZA
theorem VP(BDU):AO2 (ŕ ->x_ ->iw K F' H ts vs as)
 | [],vs,as,n,h=>GY
 | PH,vs,as,n,h=>by
  obtain⟨v,us,bs,cs,e1,e2,h1,h2⟩:=h;exact⟨v,us,bs,cs,e1,e2,z5i hA t v bs n.1 h1,VP hA ts us cs n.2 h2⟩
end
#where
def VR:AKy
 | .pay _ _ ts=>ŕ
 | _=>True
section
variable{X:Cx}{F0 H0 F H F1 H1 F1' H1' :Hp}{z:Qc}{E:XW}{pins:c7}{σ:St}{Γ Γ1:G2}{s1 s' :Shared}{e:Value}
#where
def ymx(sp:cH)(t:bK):aY:=SE (t (ju Γ) (fun ds _=>sp ds (se (pY d/\ñ)) A5J) jG)
def ymq(Avh):aY:=SE (te (ju Γ) (fun d Γ1=>(Nl bv (pV (t Γ1 (fun es _=>sp (bv::es) (E_ (pY r/\P r Γ)) A5J) jG)))) jG)
section
variable{X:Cx}{F0 H0:Hp}{e o:Expr}{es:AE}{pos p apos:Pos}{x m:Str}{f fa C:Addr}{fd:FuncData}{ps:ο}{k:Nat}{sp:cH}{t:bK}{te:aY}{pl:AFH}
#where
def yhh:SA:=ABn (∃(a:Addr) (kvs:Kx),vs= Id/\AMQ/\ANB FV)
theorem ybi{X:Cx}:fz "dict" yhh:=by
 rintro pins s σ H xs us Q I r ⟨a,kvs,rfl,hr,k⟩;show L_;show SC;obtain⟨hz,hsm,ws,kv,hd⟩:=EY I.hok hr;refine kt_call_dict (knd:=AdB) hsm hd (BA kv.length hz) (Yf hd' hs')
 have kp:Aio:=UU (hs'.2 b (Nat.ne_of_lt (Heap.lt_size e))) WF
 refine ACn (qc (AeV AF') kp CC ⟨hz,Apu I.big,ws,kv,hd'⟩) k
def z57(UV):lY:=IO (∃d ks xs,ds= [d]/\ARH/\Be AjP)
section
variable{X:Cx}{F0 H0:Hp}{e:Expr}{es:AE}{pos p:Pos}{x:Str}{t:bK}
theorem z7h(ye)(hv:wE BI')(ha:i')(hn:lx :=by decide)(hdb:BM x "__debug__":=by decide)
  (sP):Sj Ts (z57 t):=fun z E cx=>
 mQ (BY Tf ybi hg hm hv B3 hn hdb he hpl) (ALh (by
  show AMC;refine EI (fun ds Γ1 F1 H1 vs R1 s1 rs hq2=> ?_);obtain⟨d,ks,xs,e1,e2,h1⟩:=hq2;subst e1;obtain⟨v,_,rfl,rd,rfl⟩:=rs;show ij a us hr hl ru (Jv e2 rd);refine C3 a (ks.zip us) (Ea R1.g hr) AMy;have R2:APR (P3 q (.dK (ks.zip us))):=R1.grow (hV (UU (w9 R1.g hq) (R1.g b u e)) (UU (Hm hq) e))
  exact k AjP _ _ _ _ [q] R2 s1 Η (TC (Ę hb ⟨R1.g.free hq,R1.gr.h.free hq,R1.apart hq⟩)) ⟨q,us,[],rfl,rfl,jJ,hl,KD ru⟩ h1))
#where
theorem z28(DM):AbI i (ds.eraseIdx i) (vs.eraseIdx i):=by
 intro ds;induction ds with
 | nil=>intro vs i h;cases (h);rfl
 | cons d ds ih=>
  intro vs i h;show AXB;cases i with
  | zero=>exact h2
  | succ i=>exact C3 v _ h1 (ih i h2)
def Gy(i:Nat)(t:bK):aY:=SE (AjM (km (∃(xs:ψ) (k:Nat) (d:D),Se AI4/\ds= [OS]/\DC xs k d/\xs.length<=1000/\P d (Γ1.set i (.ow (xs.eraseIdx k))))))
section
variable{X:Cx}{F0 H0:Hp}{e:Expr}{npos apos cpos:Pos}{x:Str}{t:bK}{i:Nat}
theorem yam(ABy)(ha:ze [e])(hd:BM x "__debug__":=by decide)(hcd:BM x "__classdict__":=by decide)
  (hbase:NH EN "pop" EN EN:=by rfl)
  (hfew:Mn (ABw (w_ [e]) (! x.1)&&AOP) (AOy (Mb [e])):=by rfl)
  (hline:da:=by rfl) (hs:starEach [e] X.env=E9 (DE e) (E8 []):=by rfl) (hplain:zn (w_ []):=by rfl):
  B1 (Í (V_ EN "pop") [e]) (Gy i t):=fun z E cx=>
 mQ (A9_ (A4j (id:= "list.pop") PySem.F.plainAttrs_list PySem.F.slot_list_pop PySem.F.type_list_pop ybt) hline hs hplain) (De hq1 (by
  obtain⟨F,Γ,P,R,⟨⟨xs,e0⟩,h⟩,k⟩:=hq1;obtain⟨o,e1,a,vs,rfl,h1,h2,h3,r⟩:=ox;refine⟨AF,e1,A4I,F,Γ,_,R,h,fun ds Γ1 F1 H1 us R1 s1 r1 q1=> ?_⟩;obtain⟨ys,j,d,e2,rfl,e3,hl,hp⟩:=q1;obtain⟨u,_,rfl,ru,rfl⟩:=r1;obtain rfl:u= cE:=ru;obtain⟨o',e4,a',ws,rfl,g1,g2,g3,r'⟩:=AFl;rw[e1] at e4;cases e4;show AS w ew o9 vI r' e3;have hj:j<ys.length:=HR e3;have Ny:=lu r';have sq:seqIndex? NS ws.length=some j:=(zw8 (xj vo RU RU)).1
  exact⟨a,ws,NS,j,w,rfl,rfl,g1,ρ,ρ,sq,ew,k d _ F1 _ w (R1.wr e2 e1 (z28 j r')) s1 o9 hp⟩))
#where
def K9(dS)(m:Str)(sp:tZ)(te:aY)(t:bK):lY:=AMN (pV AaS)
section
variable{X:Cx}{F0 H0:Hp}{e o:Expr}{es:AE}{pos apos:Pos}{m:Str}{C:Addr}{ps:ο}{k:Nat}{sp:tZ}{te:aY}{t:bK}
theorem ye5(A9J yL)(Ahx) (hpl:AHl:=by rfl)
  (ht:eval AJ2 X.env=(do
   let ov<- DE o
   Ť
   let (f,first)<- AAL m pl
   AAX (WC Da) AFr):=by rfl):
  Sj AJ2 (K9 C m sp te t):=by
 show Aa_;rintro z E cx pins s σ H Q I ⟨F,Γ,P,R,h,kk⟩;refine W.methodCall_KW (pl:=pl) (TU (AZr (Nl bv (pV AaS)) (fun d Γ1 F1 H1 v R1 s1 r1 h1=>AV4)) u) ht
 obtain⟨x,H1,I1,rx,F1,Γ1,d,R1,sF,rd,q⟩:=hz1;cases d with
 | obj C' fs ds=>
  show AZ1;have Nm:=rd;obtain⟨a,dx,vs,rfl,ea,hl,rs⟩:=rd;show SC;show AYC;show Ar' (bV (BDR (fun es Γ2 F2 H2 vs R2 s2 r2 h2=>AsE))
   (Α us s2 hz2))
  obtain⟨ws,H2,I2,r,F2,Γ2,es,R2,Dl,Ef,q2⟩:=hz2;show CD I2.kIn;have hs:uG X.K sp (AF::ws) H2 Q (fun C dx H' =>∃x F',E Γ2 x/\Gr F2 H2 F' H' /\AJZ H2):=⟨F2,_,_,_,R2.g,qX (Nm.up Dl) Ef,q2,fun t v as F' H' gr nd hn rt hp=>kk t Γ2 F' H' v as (R2.grow gr) A3_ nd (ę ⟨ASA,R2.gr.h.free AJc,R2.apart AJc⟩) rt hp,fun x C dx F' H' hE gr xr=>AZ9⟩;have hl:Mb ((ATf::us)++ [])=ps.length:=by rw[List.append_nil,<- ADU,List.length_cons,List.length_cons,r.length]
  have hbs:=hb s2 AMK I2.kIn hl;show Ű;refine wpAny_call (codeAny_mono (Fn.run X.A X.stack s2 H2 (FY (AF::us)) AMK (AF::ws) Q _ hr I2.env0 hbs Ate hs) (gS hq));cases r with
  | error e=>exact Ac1 Γ2 F2 H2 s2 e s' I2 R2 hq
  | ok fl=>
   cases fl with
   | ret u=>exact I2.after hq
   | next=>show NV
   | brk=>show NV
   | cont=>show NV
 | _=>show ff
#where
def xO(t:lY):lY:=þ t ju tr (Jx tr/\P tr Γ)
theorem zs1(Aed){tn:lY}(h:AGo ğ):Sj e (xO tn):=fun z E cx=>by
 rintro pins s σ H Q I ⟨F,Γ,P,R,q,k⟩;obtain⟨F1,H1,I1,L,n0⟩:=AZN;show AbJ I1 (Aax (fun t Γ' F' H' v as R' s' nd hn rt hp=> ?_)) hq
 ·obtain⟨F2,H2,R2,sF,rc,at2,e1,e2⟩:=AZa;have hh:∀a∈as,SK F2/\eJ/\xo/\∀u,Ab_ ->Dx H2 u:=fun a ha=>by
   obtain⟨g1,g2,_⟩:=hn a ha;obtain⟨u,eu,_⟩:=AkO rt a ha;obtain⟨q1,q2,q3,q4⟩:=at2 a u g2 eu;exact⟨q4 g1,q2,q3,fun w ew=>by rw[eu] at ew;cases ew;exact q1⟩
  exact Ap0 (AU6 t v as R2 sF nd (ę ⟨(hh a ha).1,(hh a ha).2.1,(hh a ha).2.2.1⟩) (TR.move ES t v as (ę (hh a ha).2.2.2) (z5i rc t v as hp.1 rt)) hp.2)
 ·obtain⟨x,H',I',rv,sm,H2,e1,e2,hQ⟩:=hq;exact⟨x,H2,Aa5,rv,hQ⟩
def Bm(tt:TT2):TT2:=þ tt ju b (P b Γ)
theorem zz8(Aed){tt:TT2}(h:AGo (jb e tt)):jb e (Bm tt):=fun z E cx=>by
 rintro pins s σ H Q I ⟨F,Γ,P,R,q,k⟩;obtain⟨F1,H1,I1,L,n0⟩:=AZN;show AbJ I1 (Aax (fun b Γ' F' H' R' s' hp=> ?_)) hq
 ·obtain⟨F2,H2,R2,sF,rc,at2,e1,e2⟩:=AZa;exact⟨R'.gr.h,H2,e1,e2,AU6 b R2 sF hp⟩
 ·obtain⟨H',I',sm,H2,e1,e2,hQ⟩:=hq;exact⟨H2,Aa5,hQ⟩
def Cq:T ->D
 | qq us=> .dik ks (j7 us)
 | t=>toD t
theorem V0(A_y)(Ab1){s:Shared}{Γ:G2}:∀(ts:EX) {vs:χ} {bs:Ν} {F H:Hp},rh AG3 (Ρ bs.Nodup (Nn bs ApG) BCb (iw X.K F H ts vs bs) (∃F' H',cb s/\aw F' H' Γ/\DT /\ (SW (b∉bs) H' H)/\ (Api bs)/\Å F' (ts.map Cq))):=by
 intro ts;induction ts with
 | nil=>
  intro vs bs F H I R _ _ _ r;show VS rfl r;exact⟨F,H,I,R,bi,AC',AC',KS⟩
 | cons t ts ih=>
  intro vs bs F H I R nd hn hd r;obtain⟨v,us,b1,b2,rfl,rfl,r1,r2⟩:=r;obtain⟨ks,xs,rfl⟩:=hd _ zY;obtain⟨a,ws,c1,rfl,rfl,ea,hkl,r1⟩:=r1;show At nd1 Vu dis List.nodup_append.mp nd;obtain⟨_,_,zs,kv,o,es,ep,h1,_⟩:=PJ I.hok ea;obtain⟨F1,sF,R1,rp,same⟩:=R.nail (o:=o) nd1 (TC (hn b (zP _ hb))) ea hkl r1;have I1:=Z5 I ea h1;have off:IT b2 (b∉a::c1):=fun b hb hc=>dis b hc b hb rfl;obtain⟨F2,H2,I2,R2,Dl,hH,hF,rs⟩:=ih I1 R1 Vu (TC (AB (same b (off b hb)) (hn b (zQ _ hb)))) (fun t ht=>hd t (zW _ ht))
   (iw.move sF ts us b2 (ŷ (AX5 (off b hb As3))) r2)
  refine⟨F2,H2,I2,R2,sF.trans Dl,FL,FL,qX (rp.up Dl) rs⟩
  ·show Axg hH (AX5 (hb (List.mem_append_left _ As3)))
  ·show Axg hF (same b (B_ (hb (List.mem_append_left _ h))))
def z73(tn:lY):lY:=AYd (∃ks ts,t= gI/\ BCb/\Be A6t)
theorem z80(BA'):Sj e (z73 tn):=fun z E cx pins s σ H Q I hq=>by
 show OC hq;show ng (AI_ he s σ H (fun v H1=>∀s1,A'k H1 ->∃H2,A'k H2/\AQK) I (EI (fun t Γ1 F1 H1 v as R1 s1 nd hn r h1=> ?_))) u hq1
 ·intro s2 I1;show BV ks ts hd hp h1;obtain⟨a,vs,bs,rfl,rfl,ea,hkl,r⟩:=r;show B8 n1 Vu List.nodup_cons.mp nd;obtain⟨F2,H2,I2,R2,Dl,hH,hF,rs⟩:=BY V0 ts I1 R1 Vu (TC (hn b (zW _ hb))) hd r;show AS g1 g2 g3 hn a zY;exact⟨H2,I2,k A6t Γ1 F2 H2 _ [a] R2 (AAe Dl) Η (TC (IF AdV (hF a n1) ⟨g1,g2,g3⟩)) ⟨a,vs,[],rfl,rfl,AB (hH a n1) ea,hkl,KD rs⟩ hp⟩
 ·obtain⟨x,H1,I1,r1,q⟩:=hq1;show AS H2 I2 q q s1 I1;exact⟨x,H2,I2,r1,q⟩
def z4i(Uf):bK:=SU (∃as ks xs,ARp/\P (ks.map (YO AEU)) (io (.pu (.iB ks xs))))
theorem z3p(DM){a:Addr}{o:Obj}{ks:OO}{vs:χ}{bs:Ν}(e:á (zS AUh))(hkl:M3)(hz:AQ AJE)(hbl:bs.length=AJE)
  (hb:∀(i:Nat) b k,Akh ->B' ks k ->H_ F AQP):AGP (Itk a o Ũ bs) (ks.map fun k=> AEU):=by
 show Arz ks.length
 show AHU Of q ⟨AIe s3 s2,AK0 q List.length_map⟩
 rw[List.getElem?_map] at hd;cases qk:ks[i]? with
 | none=>show AYr qk
 | some kk=>
  rw[qk] at hd;cases hd;have hik:i<ks.length:=HR qk;show AkP
  obtain⟨rfl,b,eb,rfl⟩:=z;exact⟨F2,Gr.refl s3,C3 b _ (Sl (s2 _ _ (hb i b kk eb qk))) (PX kk)⟩
section
variable{X:Cx}{F0 H0:Hp}{tg:Expr}{pos:Pos}{x:Str}{i:Nat}
theorem ycj(AVg):AFn ü (z4i i):=Agy (BY yhg) NN (AI1 hq (by
  obtain⟨F,Γ,P,S,⟨as,ks,xs,e0,q⟩,k⟩:=hq;obtain⟨o',e1,v,rfl,nd,hn,r⟩:=S.sl i _ e0;obtain⟨a,vs,bs,rfl,rfl,ea,hkl,r⟩:=r;show AG9 r;refine⟨AF,e1,a,_,rfl,ea,fun hz n0 o bs' hbl hbt=> ?_⟩;obtain⟨F',sF,R2,QC,_,_⟩:=(S.dropAt e1).nailU (a:=a) (bs:= []) (w:= .frz o AUh) fun b hb=>(A3L S.less (AzO [a]));have R3:=R2.set i (d:= AhT) (v:= AF) (xy rfl (.inr (OR QC)) hkl (rs.up sF));show AGp R3;refine JA _ R3.tups (APz T8) (z3p (T8 _ _ QC) hkl hz hbl fun j b kk eb ek=> ?_) q;have hj:j<ks.length:=HR ek;have hv:j<vs.length:=ρ
  have hb:=hbt j b (kk,vs[j]) eb (B6 List.getElem?_zip_eq_some ⟨ek,zZ hv⟩)
  refine yf4 R3.g ?_;rw[cR (DH (by rw[z,ea] at hb;cases hb))]
  exact hb))
#where
def Gz(tn:lY):aY:=AYd (P (toD t) Γ1)
open Classical in
theorem z4y(BA'):Ľ (Gz tn):=fun z E cx pins s σ H Q I hq=>by
 show OC hq;refine AI_ he s σ H Q I (EI (fun t Γ1 F1 H1 v as R1 s1 nd hn r h1=> ?_));have s2:cc (TH (ik Û H1 (F1 b))):=N9 u (by
  show L4 Anw;show An (Μ hb (AM1 ACW));exact q)
 refine k _ Γ1 _ H1 v (R1.frzM s2 (fq) (T_ q n ?_)) L6 (TR.rep s2 t v as (fun a ha u q=>by show L4 (AI AV7 (H1 a) (F1 a));show D1 ha;exact q) r) h1
 ·change L4 Anw at q
  split at q
  ·exact q
  ·exact R1.g b u q
 ·change L4 Anw at q
  by_cases hb:Û
  ·exact ě
  ·rw[ul,n] at q;cases q
#print L3
namespace HM
theorem zzq(a b:Int):Int.gcd b (a.fmod b)=Int.gcd a b:=by
 rw[Int.fmod_def,Int.gcd_sub_mul_left_right,Int.gcd_comm]
theorem zfo{a b:Int}(h:j'):(a.fmod b).natAbs<b.natAbs:=by
 rw[Int.fmod_eq_emod];have h1:=Int.emod_nonneg a h;have h2:=Int.emod_lt a h;split
 ·omega
 ·show GN;have q1:b<0:=ρ
  show Re q2 (a % b) (q (.inr (Int.dvd_of_emod_eq_zero z)));omega
def dv(AG0):Int:=if b<0 then -(AL Zp) else Zp
def fr(AG0):Int×Int:=(t.fdiv (dv t b),b.fdiv (dv t b))
theorem V3(x5):oB≠0:=by
 unfold dv;have:Zp≠0:=by
  intro e;exact h (AT5 e)
 split<;>omega
theorem yg8(AG0):oB∣t:=by
 unfold dv;split
 ·exact BIi Ae7
 ·exact Ae7
theorem z89(AG0):oB∣b:=by
 unfold dv;split
 ·exact BIi Ae8
 ·exact Ae8
theorem QD{a b:Int}(h:b∣a):b*a.fdiv b=a:=AB (Int.fdiv_eq_ediv_of_dvd h) (Int.mul_ediv_cancel' h)
theorem z1c(AG0):oB* OL=t:=QD (yg8 t b)
theorem QH(AG0):oB* NB=b:=QD (z89 t b)
theorem z3o(x5):0< NB:=by
 have e:=QH t b;show AZt;generalize NB=y at*;unfold dv at e n;split at e
 ·rename_i hb;have g0:IG<Zp:=by
   rw[Ap hb] at n;have:IG<=Zp:=BIr;omega
  show NY (Aha y)
  ·exact h
  ·have:0<= -(AL Zp)*y:=AJq Int.neg_mul Int.mul_neg (Int.mul_nonneg ξ ξ)
   omega
 ·rename_i hb;have g0:IG<Zp:=by
   rw[ul] at n;have:IG<=Zp:=BIr;omega
  show NY (Aha y)
  ·exact h
  ·have:AL Zp*y<=0:=BJJ ξ
   omega
theorem z3x(x5):Int.gcd OL NB=1:=by
 have e1:=z1c t b;have e2:=QH t b;show AZt;have e3:Int.gcd (oB* OL) (oB* NB)=AG1*Int.gcd OL NB:=Int.gcd_mul_left ..;rw[e1,e2] at e3;have e4:AG1=Zp:=by
  unfold dv;split<;>simp
 rw[e4] at e3;show Re g0 Zp (h (AT5 z));exact(Nat.eq_of_mul_eq_mul_left (Nat.pos_of_ne_zero g0) (B6 Nat.mul_one e3)).symm
theorem zs4{t b:Int}:OL*b=t* NB:=by
 have e1:=z1c t b;have e2:=QH t b
 calc OL*b=OL* (oB* NB):=Fu e2
  _=(oB* OL)* NB:=by rw[<- Int.mul_assoc,Int.mul_comm OL]
  _=t* NB:=Fu e1
theorem zrq{a b c d:Int}(hb:0<b)(hd:0<d)(h1:Int.gcd a b=1)(h2:Int.gcd c d=1)(h:a*d=c*b):a=c/\b=d:=by
 have bd:b∣d:=by
  have:b∣a*d:=⟨c,EW h Int.mul_comm⟩
  show Awd this;rw[Int.gcd_comm,h1] at z
  simpa using z
 have db:d∣b:=by
  have:d∣c*b:=⟨a,by rw[<- h,Int.mul_comm]⟩
  show Awd this;rw[Int.gcd_comm,h2] at z
  simpa using z
 have e:b=d:=Int.dvd_antisymm (Int.le_of_lt hb) (Int.le_of_lt hd) bd db;subst e;exact ah (Int.eq_of_mul_eq_mul_right (Int.ne_of_gt hb) h)
theorem yms{t b t' b' :Int}(h:j')(h' :b' ≠0)(e:t*b' =t' *b):fr t b=fr t' b' :=by
 have c1:=Ait t b;have c2:=Ait t' b';have p1:=z3o (t:=t) h;have p2:=z3o (t:=t') h';have k:OL* (fr t' b').2=(fr t' b').1* NB:=by
  generalize OL=x at*;generalize NB=y at*;generalize (fr t' b').1=x' at*;generalize (fr t' b').2=y' at*
  
  have:(x*y')* (b*b')=(x' *y)* (b*b'):=by
   calc (x*y')* (b*b')=(x*b)* (b' *y'):=AS1
    _=(t*y)* (b' *y'):=Fu c1
    _=(t*b')* (y*y'):=AS1
    _=(t' *b)* (y*y'):=č
    _=(t' *y')* (b*y):=AS1
    _=(x' *b')* (b*y):=Fu c2
    _=(x' *y)* (b*b'):=AS1
  exact Int.eq_of_mul_eq_mul_right (Int.mul_ne_zero h h') this
 show vT e1 (zrq p1 p2 (z3x h) (z3x h') k);exact Au4
theorem yjc{a b:Int}(hb:0<b)(h:Int.gcd a b=1):fr a b=(a,b):=by
 have c1:=Ait a b;show vT e1 (zrq (z3o (t:=a) (Int.ne_of_gt hb)) hb (z3x (Int.ne_of_gt hb)) h (by rw[c1]))
 exact Au4
theorem yem(x5):AUO<=t.natAbs:=by
 have e:=congrArg Int.natAbs (z1c t b);show Afz;show AZt;have:1<=AG1:=ρ
 calc AUO=1* AUO:=Fu Nat.one_mul
  _<=AG1* AUO:=AfL this
  _=t.natAbs:=e
theorem yd2(x5):AUN<=b.natAbs:=by
 have e:=congrArg Int.natAbs (QH t b);show Afz;show AZt;have:1<=AG1:=ρ
 calc AUN=1* AUN:=Fu Nat.one_mul
  _<=AG1* AUN:=AfL this
  _=b.natAbs:=e
#print HM
namespace L3
open PySem L2 HM
def qD(AGA):D:= AEQ q.num q.den
theorem yje{a b:Rat}(h:qD a=qD b):a=b:=by
 show BC qD;simp only [D.tup.injEq,List.cons.injEq,D.int.injEq,and_true,Int.natCast_inj] at h;exact Rat.ext CF h.2
theorem ye3(x5):fr t b=(AVO,AL AMl):=by
 have hb:IG< AMl:=FE (APX den_pos)
 have hg:Int.gcd AVO AMl=1:=by
  have:=APX reduced
  show ASx Int.gcd
 have e:AVO*b=t* AMl:=by
  have q:=Rat.num_divInt_den (Rat.divInt t b);rw[Rat.divInt_eq_divInt_iff ξ h] at q
  exact q
 have:=yms (t:=t) (b:=b) (t' :=AVO) (b' :=AMl) h ξ e.symm
 rw[this,yjc hb hg]
theorem V4(x5):fr t b=((Lo t b).num,AL (Lo t b).den):=EW (ye3 h) Rat.divInt_eq_div
theorem La(AGA):GB q.den≠0:=by
 have:=q.den_pos;intro e;have:į=0:=AKj e
 omega
theorem Lb(AGA):Lo q.num į=q:=ANU BJK Rat.divInt_eq_div
def Sz(n:Nat)(q:Rat):Prop:=cY q.num<=n/\cY į<=n
theorem Sz.up{m n:Nat}{q:Rat}(h:Sz m q)(k:m<=n):Sz n q:=⟨zO CF k,zO h.2 k⟩
theorem Oj{t b:Int}{n:Nat}(h:j')(h1:cY t<=n)(h2:cY b<=n):Sz n (Lo t b):=by
 have e:=V4 (t:=t) h;have e1:OL=_:=w4 Prod.fst;have e2:NB=_:=w4 Prod.snd;show Al7;show BO (AWw h1) (AWw h2)
 ·rw[<- e1];exact yem h
 ·rw[<- e2];exact yd2 h
theorem ydh(AFW):AlX (a+b) (AVs+b.num*a.den):=by
 have ha:=La a;have hb:=La b;have h1:=Lb a;have h2:=Lb b;rw[Rat.intCast_add,Rat.intCast_mul,Rat.intCast_mul,Rat.intCast_mul];show AIv a.num x;show AZK;show AZM;show AZL;show ġ
 grind
theorem ydx(AFW):AlX (a - b) (AVs - b.num*a.den):=by
 have ha:=La a;have hb:=La b;have h1:=Lb a;have h2:=Lb b;rw[Rat.intCast_sub,Rat.intCast_mul,Rat.intCast_mul,Rat.intCast_mul];show AIv a.num x;show AZK;show AZM;show AZL;show ġ
 grind
theorem ydt(AFW):AlX (a*b) (a.num*b.num):=by
 have ha:=La a;have hb:=La b;have h1:=Lb a;have h2:=Lb b;show Aly;show AIv a.num x;show AZK;show AZM;show AZL;show ġ
 grind
theorem yM{b:Rat}:b.num=0↔b=0:=Rat.num_eq_zero
theorem yer(a b:Rat)(h:j'):a/b=AIX AVs (AL (a.den*b.num)):=by
 have ha:=La a;have hb:=La b;have h1:=Lb a;have h2:=Lb b;show Aly;show AIv a.num x;show AZK;show AZM;show AZL;show ġ
 grind
theorem yiw(AFW):Θ (a<b)=decide (AVs<b.num*a.den):=AB decide_eq_decide (Rat.lt_iff a b)
theorem QJ(AFW):P1 (a.den*b.den):=Ae' AjF (AQr b.den_pos)
theorem yj7(x5):D.tup (AAt OL NB)=qD (Lo t b):=EK (V4 h)
theorem yd0(ArM):Sz (m+n+1) (a+b):=by
 rw[ydh];refine Oj Akz ?_ ?_
 ·have h1:=Aw a.num b.den;have h2:=Aw b.num a.den;have h3:=Y0 (a.num*b.den) Aw6;have:=ha.1;have:=ha.2;have:=hb.1;have:=hb.2;omega
 ·show Ao0
theorem QK(ArM):Sz (m+n+1) (a - b):=by
 rw[ydx];refine Oj Akz ?_ ?_
 ·have h1:=Aw a.num b.den;have h2:=Aw b.num a.den;have h3:=zmf (a.num*b.den) Aw6;have:=ha.1;have:=ha.2;have:=hb.1;have:=hb.2;omega
 ·show Ao0
theorem yd3(ArM):Sz (m+n) (a*b):=by
 rw[ydt];refine Oj Akz ?_ ?_
 ·have h1:=Aw a.num b.num;have:=ha.1;have:=hb.1;omega
 ·show Ao0
theorem z31{m n:Nat}{a b:Rat}(ha:Sz m a)(hb:Sz n b)(h0:j'):Sz (m+n) (a/b):=by
 rw[yer a b h0];have hn:P1 (a.den*b.num):=Ae' AjF (DH (h0 (yM.mp z)))
 refine Oj hn ?_ ?_
 ·have h1:=Aw a.num b.den;have:=ha.1;have:=hb.2;omega
 ·have h1:=Aw a.den b.num;have:=ha.2;have:=hb.1;omega
theorem Ol(AGX):qD (Ο i)= .tup [B9,.int 1]:=rfl
theorem V5{i:Int}{n:Nat}(h:So<=n)(hn:1<=n):Sz n (Ο i):=⟨h,zO (mq (k:=1) (ATv (D9 1<2^1))) hn⟩
def fL:Ψ ->Rat | []=>0 | q::qs=>q+fL qs
theorem zy0(a b:Ψ):fL (a++b)=fL a+fL b:=by
 induction a with
 | nil=>simp [fL,Rat.zero_add]
 | cons x xs ih=>simp only [List.cons_append,fL,ih,Rat.add_assoc]
theorem z5p{a b:Ψ}(h:AKz):fL a=fL b:=by
 induction h with
 | nil=>rfl
 | cons x _ ih=>simp only [fL,ih]
 | swap x y l=>simp only [fL];rw[<- Rat.add_assoc,<- Rat.add_assoc,Rat.add_comm y x]
 | trans _ _ i1 i2=>exact i1.trans i2
theorem ydw{m:Nat}:An' (Sz m q) (Sz (qs.length* (m+2)+1) (fL qs))
 | [],_=>⟨by show cY 0<=_;exact A1k,by show cY 1<=_;exact A1k⟩
 | q::qs,h=>by
  have i:=ydw (qs:=qs) AhJ;refine(yd0 (h q zY) i).up ?_;have:(qs.length+1)* (m+2)=qs.length* (m+2)+ (m+2):=EW Nat.add_mul Nat.one_mul
  simp only [List.length_cons];omega
abbrev Jy(l:Ψ):Prop:=l.Pairwise (· <= ·)
def cnt(Aq2):Nat:=BI l.filter Azq
def vO(l:Ψ)(q:Rat):Ψ:=AuP++q::AuQ
def xP(U1):Ψ:=qs.foldl vO []
theorem yi9(Aq2):cnt q l<=l.length:=Afu
theorem zz0{q:Rat}:FD l Ψ (Jy l) ((∀o∈AuP,o<=q)/\∀o∈AuQ,q<o)
 | [],_=>⟨AY,AY⟩
 | x::l,hs=>by
  show AZe hs;show B8 i1 i2 (zz0 (q:=q) (l:=l)) p2;by_cases hx:q<x
  ·have all:∀o∈x::l,q<o:=by
    intro o ho;show P6 ho ho
    ·exact hx
    ·exact Std.lt_of_lt_of_le hx (p1 o ho)
   have e:cnt q (x::l)=0:=by
    unfold cnt;rw[List.filter_eq_nil_iff.mpr]
    ·rfl
    ·intro o ho;simp [all o ho]
   rw[e];exact⟨AY,AN all⟩
  ·have e:cnt q (x::l)=cnt q l+1:=by
    unfold cnt;rw[List.filter_cons,Ap (Bi hx),List.length_cons]
   rw[e,List.take_succ_cons,List.drop_succ_cons];show BO (AD o ho) i2;show P6 ho ho
   ·exact Rat.not_lt.mp hx
   ·exact i1 o ho
theorem ycp{l:Ψ}{q:Rat}(h:Jy l):Jy (vO l q):=by
 show AGn (zz0 (q:=q) h);unfold vO Jy;rw[List.pairwise_append];show B0 (h.sublist (List.take_sublist _ _)) (List.pairwise_cons.mpr ⟨AMO (Rat.le_of_lt (h2 o ho)),h.sublist (List.drop_sublist _ _)⟩) Aoq;show hG
 ·exact h1 a ha
 ·exact Rat.le_trans (h1 a ha) (Rat.le_of_lt (h2 b hb))
theorem zwe(l:Ψ)(q:Rat):(vO l q).Perm (q::l):=by
 refine List.perm_middle.trans ?_;rw[List.take_append_drop]
theorem zx1:∀(qs acc:Ψ),Jy acc ->Jy (qs.foldl vO acc)/\ (qs.foldl vO acc).Perm (qs++acc)
 | [],acc,h=>⟨h,bi⟩
 | q::qs,acc,h=>by
  show AGn (zx1 qs (vO acc q) (ycp h));show BO h1 (h2.trans ?_);refine(List.Perm.append_left qs (zwe acc q)).trans ?_;exact List.perm_middle
theorem zxj(U1):Jy (xP qs):=(zx1 qs [] List.Pairwise.nil).1
theorem Om(U1):(xP qs).Perm qs:=qo (zx1 qs [] List.Pairwise.nil).2 List.append_nil
theorem zun(U1):Azp xP:=(Om qs).length_eq
theorem zrk:∀{a b:Ψ},Jy a ->Jy b ->AKz ->a=b
 | [],b,_,_,h=>NI List.nil_perm.mp h
 | x::a,[],_,_,h=>AN h.length_eq
 | x::a,y::b,ha,hb,h=>by
  show AcP a1 a2 ha;show AcP b1 b2 hb;have e:x=y:=by
   have hx:x∈y::b:=h.mem_iff.mp zY;have hy:y∈x::a:=h.mem_iff.mpr zY;show AZH
   ·exact e
   ·show VW hy e hy
    ·exact e.symm
    ·exact Rat.le_antisymm (a1 y hy) (b1 x hx)
  subst e;rw[zrk a2 b2 (List.Perm.cons_inv h)]
theorem yl3{a b:Ψ}(h:AKz):xP a=xP b:=zrk (zxj a) (zxj b) (OZ Om a (h.trans (NI Om b)))
def Oo(l:Ψ):Rat:=E2 Al6 1 AVx ((Ass+AVx)/2)
def wd(l:Ψ)(j:Nat):Rat:=l.getD ď 0 - l.getD j 0
structure Best (l:Ψ) (b:Nat):Prop where
 lt:AT6 b
 le:∀j,AT6 j ->wd l b<=wd l j
 gt:∀j,AT6 j ->b<j ->wd l b<wd l j
abbrev Pt:=Rat×Rat
def pD(p:Pt):D:= .tup [qD AM,qD C9]
def yN(l r:Pt)(x:Rat):Rat:=l.2+ Apy/ AVt
def HS(a b:Pt):Bool:=AxR&& !(Θ (b.2<a.2))
def Gd:DO DI
 | []=>True
 | [_]=>True
 | ALP=>(a.1<b.1/\a.2<=b.2)/\Gd (b::t)
def GC:Ayo
 | [],_=>0
 | [p],_=>C9
 | AWi,x=>A0m (AI (l.1<x) Aod l.2) GC
def xQ:Ayo
 | [],_=>0
 | [p],_=>C9
 | AWi,x=>A0m Aod xQ
theorem yi2(BFG):∃k:Rat,0<=k/\ (l.2<r.2 ->0<k)/\k* (ω - l.1)=r.2 - l.2/\∀x,Aod=l.2+ (x - l.1)*k:=by
 have hd:0<ANf:=IP
 have hi:0< AVt⁻¹:=Rat.inv_pos.mpr hd;have hn:ANf≠0:=IP
 refine⟨(r.2 - l.2)* AVt⁻¹,Rat.mul_nonneg AfE (Rat.le_of_lt hi),B_ (Rat.mul_pos AfE hi),?_,IL ?_⟩
 ·rw[Rat.mul_assoc,ı hn,Rat.mul_one]
 ·unfold yN;rw[Rat.div_def,Rat.mul_assoc]
theorem yh9(BFG):yN l r l.1=l.2:=by
 obtain⟨k,_,_,_,e⟩:=yi2 h h2;rw[e];grind
theorem z0p:A2T (gL ->(∀p,ps.head?=some p ->AM<=x) ->xQ ps x=GC ps x)
 | [],_,_,_=>rfl
 | [p],_,_,_=>rfl
 | AWi,x,hg,hx=>by
  have hl:=hx l rfl;obtain⟨⟨h1,h2⟩,h3⟩:=hg;unfold xQ GC;by_cases h:x<ω
  ·rw[vv,vv];by_cases h' :l.1<x
   ·show D1 h'
   ·show An h';have:x=l.1:=IP
    show UC;exact yh9 h1 h2
  ·rw[md,md];exact z0p h3 (XE (by cases hp;grind))
def jN:DI ->Pt | []=>c9 | [p]=>p | _::r::t=>jN (r::t)
theorem yb4{x:Rat}{l:Pt}{t:DI}(hg:Gd (l::t))(hx:¬l.1<x):GC (l::t) x=l.2:=by
 cases t with
 | nil=>rfl
 | cons r t=>
  obtain⟨⟨h1,h2⟩,h3⟩:=hg;unfold GC;rw[Ap AfE,Χ hx]
def Nb:DI ->BG Pt Pt
 | ALP,u,v=>(a=u/\b=v)\/Nb AL6 u v
 | _,_,_=>False
#print L3
namespace HM
abbrev Bd:=Int×Int
def wF(b:Bd)(x:Int):Bool:=Θ (b.1<=x)&&Θ (x<=b.2)
def yO(S l:Ξ)(b:Bd):Ξ:=AmS AvM
def rk(S:Ξ)(bs:ID):FR Ξ
 | 0=> [0]
 | By=>yO S (rk S bs i) (bs.getD i c9)
def gk(S:Ξ)(n:Int)(rb:ID):FR Ξ
 | 0=> [n]
 | By=>AmS ((gk S n rb i).any fun one=>wF Awt (one - e))
def jO(S:Ξ)(n:Int):Ξ:=S.reverse.map (n - ·)
theorem yb2{S:Ξ}{n e:Int}:AFg∈jO S n↔AJ5:=by
 unfold jO;rw[List.mem_map];constructor
 ·rintro⟨x,hx,h⟩;show ME x e
  exact List.mem_reverse.mp hx
 ·exact B_ (Hk e (List.mem_reverse.mpr h))
theorem qK{S l:Ξ}{b:Bd}{e:Int}:e∈yO S l b↔AJ5/\∃s∈l,wF b (e - s)=true:=ZI yO List.mem_filter List.any_eq_true
theorem qe{S:Ξ}{n e:Int}{rb:ID}{i:Nat}:e∈gk S n rb BE↔AJ5/\∃one∈gk S n rb i,wF Awt (one - e)=true:=by
 show e∈S.filter _↔_;rw[List.mem_filter,List.any_eq_true]
theorem zxp{S:Ξ}{n:Int}{rb:ID}:∀(i:Nat) (e:Int),e∈gk S n rb i↔ AFg∈rk ACl rb i
 | 0,e=>by
  show e∈ [n]↔ AFg∈ [0];rw[List.mem_singleton,List.mem_singleton];omega
 | By,e=>by
  rw[qe];show _↔ AFg∈yO ACl (rk ACl rb i) _;rw[qK,yb2];refine and_congr_right (C6 (xc (AEp w) ⟨n - o,(zxp i o).mp ho,?_⟩ ⟨s,hs,w⟩ ⟨n - s,(zxp i (n - s)).mpr ?_,?_⟩))
  ·rw[GU (n - e - (n - o)) (o - e)];exact w
  ·rw[GU (n - (n - s)) s];exact hs
  ·rw[GU (n - s - e) (n - e - s)];exact w
theorem z7j{S:Ξ}{n:Int}{rb:ID}(hn:AJW):BCq (e∈gk S n rb i)
 | 0,e,h=>AtU hn
 | _+1,_,h=>(qe.mp h).1
theorem yjg{S:Ξ}{bs:ID}(h0:IG∈S):BCq (e∈Alf)
 | 0,e,h=>AtU h0
 | _+1,_,h=>(qK.mp h).1
theorem zt5{bs:ID}{i:Nat}(h:i<bs.length):bs.reverse.getD (AH0 BE) c9=bs.getD i c9:=by
 rw[List.getD_eq_getElem?_getD,List.getD_eq_getElem?_getD,List.getElem?_reverse ξ]
 congr 2
 omega
theorem meet(A7b):∀i,i<=bs.length ->((∃e∈Alf,APs e (AH0 i))↔ ASa)
 | 0,_=>im (tm e h2) (by rw[List.mem_singleton.mp h1] at h2;exact h2) (B_ ⟨0,AUH,h⟩)
 | By,hi=>by
  rw[<- meet h0 hn i ξ]
  have e1:bs.length - i=bs.length - BE+1:=ρ
  constructor
  ·rintro⟨e,h1,h2⟩;obtain⟨_,s,hs,w⟩:=qK.mp h1;show AX s hs;rw[e1,qe];exact⟨yjg h0 hs,e,h2,KL zt5 ξ w⟩
  ·rintro⟨e,h1,h2⟩;rw[e1,qe] at h2;obtain⟨_,o,ho,w⟩:=h2;show B0 o (qK.mpr ⟨z7j hn ho,e,h1,?_⟩) ho;rw[zt5 ξ] at w;exact w
theorem z2x(A7b):n∈rk S bs bs.length↔ IG∈gk S n bs.reverse bs.length:=by
 rw[<- meet h0 hn bs.length BIy];rw[Nat.sub_self];exact⟨B_ ⟨n,h,AUH⟩,fun(tm e h2)=>(AfF (List.mem_singleton.mp h2) h1)⟩
def QL:Ξ ->Int
 | []=>0
 | [x]=>x
 | x::y::r=>if QL (y::r)<=x then x else QL (y::r)
theorem z8q:FD l Ξ (l≠ []) (QL l∈l/\∀i∈l,i<=QL l)
 | [],h=>Ama
 | [x],_=>⟨AUH,Ł (Ę hi Afc)⟩
 | x::y::r,_=>by
  show B8 h1 h2 (z8q (l:=y::r)) Η
  unfold QL;split
  ·show GN;show Op zY i hi;show P6 hi hi
   ·exact Int.le_refl _
   ·exact Int.le_trans (h2 i hi) q
  ·show GN;show Op (zW _ h1) i hi;show P6 hi hi
   ·omega
   ·exact h2 i hi
def cand(S:Ξ)(n:Int)(bs:ID)(k:Nat)(f:Int):Ξ:=AmS (wF AOL (e - f)&&(gk S n bs.reverse AJY).contains e)
def fk(S:Ξ)(n:Int)(bs:ID):fR
 | 0=>0
 | k+1=>QL (cand S n bs k BGj)
theorem uL(ASo){k:Nat}{f e:Int}:e∈cand S n bs k f↔AJ5/\wF AOL (e - f)=true/\APs e AJY:=by
 unfold cand;rw[List.mem_filter,Bool.and_eq_true,List.contains_iff_mem]
theorem zy1(ASo)(hn:AJW)(hg:ASa):∀k,k<=bs.length ->A1p/\ (k<bs.length ->AX'≠ [])
 | k,hk=>by
  have a:A1p:=by
   cases k with
   | zero=>exact hg
   | succ k=>
    have ih:=BBu ξ
    exact(uL.mp (z8q ih).1).2.2
  show BO a ņ;rw[GU (bs.length - k) (bs.length - EL+1),qe] at a
  obtain⟨_,o,ho,w⟩:=a;rw[zt5 h] at w;intro e;have:=uL (S:=S) (n:=n) (bs:=bs) (k:=k) (f:=AQQ) (e:=o) |>.mpr ⟨z7j hn ho,w,ho⟩
  show ZH;show CH
theorem ylf(ASo)(hn:AJW)(hg:ASa){k:Nat}(hk:k<bs.length):
  AFe∈AX'/\∀i∈AX',i<=AFe:=z8q (BBu hk)
theorem z75:∀{a b:Ξ},a.Pairwise (· < ·) ->b.Pairwise (· < ·) ->(∀i,i∈a↔i∈b) ->a=b
 | [],[],_,_,_=>rfl
 | [],y::b,_,_,h=>Ya (h y).mpr zY Η
 | x::a,[],_,_,h=>Ya (h x).mp zY Η
 | x::a,y::b,ha,hb,h=>by
  rw[List.pairwise_cons] at ha hb;have e:x=y:=by
   show AKf (zU.mp ((h x).mp zY)) e
   ·exact e
   ·rcases AzX y with e' | e'
    ·exact e'.symm
    ·have:=hb.1 x e;have:=ha.1 y e';omega
  subst e;rw[z75 ha.2 hb.2 (D3 ?_)];constructor
  ·show BEJ mp ha.1
  ·show BEJ mpr hb.1
section
variable{α:Type}[AL2]
def dX(g hs:AG):Bool:=hs.any fun h=>(Θ (h∈g))
theorem rP{g hs:AG}:dX g hs=true↔∃x,ALK/\x∈hs:=by
 unfold dX;rw[List.any_eq_true];exact xc Aje ⟨x,BJl,h1⟩ Aje ⟨x,h2,decide_eq_true h1⟩
theorem z5c{g hs:AG}(h:d_ (dX g hs)){x:α}(h1:ALK):x∉hs:=fun h2=>by
 rw[rP.mpr ⟨x,h1,h2⟩] at h;cases h
structure mU (Ss fs:II):Prop where
 ne:ANe AUA
 dj:fs.Pairwise fun a b=>BG4
 co:∀x,(∃f∈fs,AQp)↔∃S∈Ss,x∈S
 sub:AJe (∃f∈fs,P_ S f)
 min:∀C:DO α,(∀S∈Ss,AN0 S S) ->ANe (AN0 f f)
theorem mU.nil:mU ([]:II) []:=by
 refine⟨?_,List.Pairwise.nil,?_,?_,?_⟩
 ·show AOI
 ·intro x;constructor
  ·rintro⟨_,h,_⟩;cases h
  ·rintro⟨_,h,_⟩;cases h
 ·show AOI
 ·intro _ _ _ h;cases h
theorem V6:FD fs II Anz (∀{a b:AG} {x:α},Ρ (a∈fs) (b∈fs) (x∈a) (x∈b) (a=b))
 | [],_,_,_,_,ha,_,_,_=>XA ha
 | VA,h,a,b,x,ha,hb,xa,xb=>by
  show Af6;show VW ha e1 ha1
  ·subst e1;show AnK
   ·exact e.symm
   ·show MW xb (CF b hb x xa)
  ·show AnK
   ·show e9 (absurd xa (CF a BIe x xb))
   ·exact V6 h.2 BIe hb xa xb
theorem mU.step{Ss fs:II}{S g:AG}(h:AGO)(hS:S≠ [])(hg:∀x,x∈g↔x∈S\/Aqu S):
  mU (Ss++ [S]) (fs.filter (Μ f (! xh))++ [g]):=by
 have mf:∀f,f∈AYk xh ->(f∈fs/\ d_ xh)\/f=g:=fun f hf=>by
  show Apf
  ·show BQ (zA.mp hf)
  ·show Bz (zR.mp hf)
 have mg:g∈AYk xh:=Amg rfl;have ml:ANe (d_ xh ->f∈AYk xh):=fun f h1 h2=>zP _ (zA.mpr ⟨h1,h2⟩);refine⟨AD f hf,?_,IL (Do ?_),AD T hT,fun C hC f hf hx=> ?_⟩
 ·show AqP
  ·exact h.ne f hf.1
  ·intro z;cases S with
   | nil=>exact hS rfl
   | cons x S=>
    have:=AkU zY;show wT;show CH
 ·rw[List.pairwise_append];show B0 (h.dj.filter _) BI2 (fun a ha b hb x xa=> ?_);show YY hb;show B8 ha hn zA.mp ha;intro xg;rcases(hg x).mp xg with xs | ⟨f,hf,hm,xf⟩
  ·exact z5c hn xa xs
  ·have:=V6 h.dj ha hf xa xf;show UC;rw[hm] at hn;cases hn
 ·rintro⟨f,hf,xf⟩;show AqP
  ·show At T hT xT (h.co x).mp ⟨f,hf.1,xf⟩;exact⟨T,zP _ hT,xT⟩
  ·rcases(hg x).mp xf with xs | ⟨f,hf,_,xf⟩
   ·exact⟨S,Amg rfl,xs⟩
   ·show At T hT xT (h.co x).mp (AGI xf);exact⟨T,zP _ hT,xT⟩
 ·rintro⟨T,hT,xT⟩;show N2 hT hT hT
  ·show At f hf xf (h.co x).mpr ⟨T,hT,xT⟩;cases q:xh with
   | true=>show NO g mg (A7Y xf)
   | false=>show NO f (ml f hf Aho) xf
  ·rw[List.mem_singleton.mp hT] at xT;exact⟨g,mg,AkU xT⟩
 ·show N2 hT hT hT
  ·show AS f hf k h.sub T hT;cases q:xh with
   | true=>show NO g mg (Ŝ (A7Y (k x hx)))
   | false=>show NO f (ml f hf Aho) k
  ·show YY hT;exact⟨g,mg,Ŝ (AkU hx)⟩
 ·have hC1:∀T∈Ss,AN0 T T:=fun T hT=>hC T (zP _ hT);have hCS:=hC S (zQ _ (zR.mpr rfl));show AqP
  ·exact h.min C hC1 f hf.1 hx
  ·have all:AP3 S:=by
    obtain⟨x,xf,cx⟩:=hx;rcases(hg x).mp xf with xs | ⟨f,hf,hm,xf⟩
    ·exact hCS ⟨x,xs,cx⟩
    ·have:=h.min C hC1 f hf ⟨x,xf,cx⟩;show At y y1 y2 rP.mp hm;exact hCS ⟨y,y2,this y y1⟩
   intro y hy;rcases(hg y).mp hy with ys | ⟨f,hf,hm,yf⟩
   ·exact all y ys
   ·show At z z1 z2 rP.mp hm;exact h.min C hC1 f hf ⟨z,z1,all z z2⟩ y yf
theorem mU.incl{Ss HW fs fs' :II}(h:AGO)(h' :mU HW fs')(e:Anf){f f' :AG}{x:α}(hf:f∈fs)(hf' :f' ∈fs')(h1:AQp)(h2:x∈f'):∀y∈f,y∈f' :=by
 refine h.min (· ∈f') (fun S hS ⟨z,z1,z2⟩ y hy=> ?_) f hf Aje;show AS S' hS' k e S hS;show AS f2 hf2 k2 h'.sub S' hS';have:=V6 h'.dj hf' hf2 z2 (k2 z ((k z).mp z1));show UC;exact k2 y ((k y).mp hy)
theorem mU.same{Ss HW fs fs' :II}(h:AGO)(h' :mU HW fs')(e:Anf)(e' :∀S∈HW,BG' Ss){f:AG}(hf:f∈fs):∃f' ∈fs',AIn f f' :=by
 cases q:f with
 | nil=>exact absurd q (h.ne f hf)
 | cons x r=>
  rw[<- q];have hx:AQp:=AB q zY
  show At S hS xS (h.co x).mp (AGI hx);show AS S' hS' k e S hS;show At f' hf' xf' (h'.co x).mpr ⟨S',hS',(k x).mp xS⟩;exact⟨f',hf',fun y=>(xc hy (h.incl h' e hf hf' hx xf' y hy) hy (h'.incl h e' hf' hf xf' hx y hy))⟩
theorem mU.perm{Ss fs gs:II}(h:AGO)(p:gs.Perm fs):mU Ss gs:=by
 refine⟨fun f hf=>h.ne f (p.mem_iff.mp hf),?_,IL ?_,AD S hS,fun C hC f hf=>h.min C hC f (p.mem_iff.mp hf)⟩
 ·exact(p.pairwise_iff (fun{a b} k x xb xa=>k x xa xb)).mpr h.dj
 ·rw[<- h.co x];exact xc (AGI k) ⟨f,p.mem_iff.mp hf,k⟩ (AGI k) ⟨f,p.mem_iff.mpr hf,k⟩
 ·show AS f hf k h.sub S hS;exact⟨f,p.mem_iff.mpr hf,k⟩
inductive Alike:BG II II
 | nil:Alike [] []
 | cons {f g:AG} {fs gs:II} (h:AIn f g) (r:Alike fs gs):Alike (f::fs) (g::gs)
theorem V7{β:Type}{R:BG β β}(as:∀a b,R a b ->¬R b a):∀{l m:HZ},AtL ->m.Pairwise R ->(∀x,x∈l↔x∈m) ->l=m
 | [],[],_,_,_=>rfl
 | [],b::m,_,_,h=>by have:=(h b).mpr zY;show CH
 | CU,[],_,_,h=>by have:=(h a).mp zY;show CH
 | CU,b::m,h1,h2,h=>by
  rw[List.pairwise_cons] at h1 h2;have e:a=b:=by
   show X9 (zU.mp ((h a).mp zY)) e
   ·exact e
   ·show AKf (AzX b) q'
    ·exact e.symm
    ·show MW (eh b q') (as _ _ (h2.1 a q))
  subst e;have irr:¬R a a:=AC (as a a z z);rw[V7 as h1.2 h2.2 (IL (im hx ?_ (MA hx)))]
  ·show X9 (zU.mp ((h x).mp Ahh)) e
   ·show e9 (absurd (eh _ hx) irr)
   ·exact q
  ·show X9 (zU.mp ((h x).mpr Ahh)) e
   ·show e9 (absurd (h2.1 _ hx) irr)
   ·exact q
theorem HX:∀{l U:AG},l.Nodup ->(∀x∈l,x∈U) ->l.length<=U.length
 | [],U,_,_=>DV
 | CU,U,nd,h=>by
  have nd' :=List.nodup_cons.mp nd;have ha:=h a zY;have:=HX (l:=l) (U:=U.erase a) nd'.2 (Ŝ (by
   have ne:x≠a:=AC (nd'.1 (z ▸ hx));exact(List.mem_erase_of_ne ne).mpr (h x (zW _ hx))))
  show A_ (List.length_erase_of_mem ha);have:0<U.length:=List.length_pos_of_mem ha;rw[List.length_cons];omega
theorem zis:∀{fs:II},Anz ->(AYU f.Nodup) ->fs.flatten.Nodup
 | [],_,_=>AY
 | VA,h,k=>by
  show Af6;rw[List.flatten_cons,List.nodup_append];show B0 (k f zY) (zis h.2 fun g hg=>k g (zW _ hg)) (fun a ha b hb e=> ?_);subst e;show AK_ g hg ag hb;exact CF g hg a ha ag
#where
def cX(g:gu):ATp
 | []=>0
 | fg=>g c cs - A4_ (g d eL)
abbrev Row:=OU
def dt:CM ->AT ->Rat
 | [],[]=>1
 | [],A1=>0
 | UX,cs=>Ant (r c)
theorem zma{g h:gu}:FD cs AT (∀c ds,g c ds=h c ds) (cX g cs=cX h cs)
 | [],_=>rfl
 | fg,e=>ZI cX e (zma (cs:=cs) fun d ds=>e d eL)
theorem zua{g h:gu}:A3W (g c ds+h c ds) (cX g cs+cX h cs)
 | []=>sf cX
 | fg=>Ac2 cX (zua (cs:=cs))
theorem V8{g:gu}(k:Rat):A3W (k*g c ds) (k*cX g cs)
 | []=>sf cX
 | fg=>Ac2 cX (V8 k (cs:=cs))
theorem zkr{g:gu}:FD cs AT (AXQ (∀ds,g c ds=0)) (cX g cs=0)
 | [],_=>rfl
 | fg,h=>AMH cX (h c List.mem_cons_self) (zkr (cs:=cs) fun d hd ds=>h d (List.mem_cons_of_mem _ hd) _)
def two(r s:Row)(h:ATp)(cs:AT):Rat:=cX (fun c ds=>r c*ASg (h es) ds) cs
theorem z0d(r s:Row):∀(cs:AT) (h:ATp),two r s h cs= - two s r h cs
 | [],h=>by unfold two cX;grind
 | fg,h=>by
  have key:∀r s:Row,two r s h (c::cs)=r c*Ap6 (s d) - s c*Ap6 (r d)+two r s (Μ es (h (c::es))) cs:=by
   intro r s;show r c*Ap6 (s d) - cX (fun x ds=>r x*ASg (h es) eL) cs=_;have e:(fun(D9 x) (ds:AT)=>r x*ASg (h es) eL)=fun x ds=>(s c* (r x*h ds))+ GS* (r x*Azm):=by
    funext x ds
    show r x* (s c*h ds - Azm)=_
    grind
   rw[e,zua,V8,V8];unfold two
   grind
  rw[key r s,key s r,z0d r s cs]
  grind
theorem z6w(r s:Row)(rs:CM)(cs:AT):dt (r::s::rs) cs= - dt (s::UX) cs:=z0d r s cs (dt rs)
theorem half{x:Rat}(h:x= -x):x=0:=IP
theorem yd1{r:Row}:Aq9 (r∈rs) (dt œ cs=0)
 | [],_,h=>BH
 | s::rs,cs,h=>by
  show AhG e
  ·subst e;exact half (z6w r r rs cs)
  ·rw[z6w];have:dt (s::UX) cs=0:=zkr fun c _ ds=>(US (yd1 h))
   rw[this];grind
def comb:Ψ ->CM ->Row
 | Ŕ,UX=>DF (k*r j+š)
 | _,_=>k8
theorem yk4(r s:Row)(k:Rat)(rs:CM)(cs:AT):dt ((AJy (k*s j))::rs) cs=dt œ cs+k*dt (s::rs) cs:=by
 show cX (AuD (r c+k*s c)) cs=Ant (r c)+k*Ant (s c);rw[<- V8,<- zua];exact zma fun c ds=>IP
theorem V9{rs:CM}{cs:AT}:∀{ks:Ψ} {ss:CM} {r:Row},(∀s∈ss,s∈rs) ->dt (AvH::rs) cs=dt œ cs
 | [],ss,r,_=>by
  have:(AJy (comb [] ss j))=r:=Au1
  rw[this]
 | Ŕ,[],r,_=>by
  have:(AJy (comb (k::ks) [] j))=r:=Au1
  rw[this]
 | Ŕ,s::ss,r,h=>by
  have e:(AJy (comb (k::ks) (s::ss) j))=DF (AvH j+k*s j):=by
   funext j
   show r j+ (k*s j+comb ks ss j)=_
   grind
  rw[e,yk4,V9 (ks:=ks) fun t ht=>(ARi h t ht),yd1 (h s List.mem_cons_self)]
  grind
theorem zsy{r:Row}{rs:CM}{j:Nat}{cs:AT}(h:∀c∈cs,r c=0):dt œ kQ=r j*L0 cs:=by
 show A3R=_;rw[zkr fun c hc ds=>(US (h c hc))]
 grind
def Wa(f:ATp):Prop:=∀pre c d post,f AUZ= - f (pre++d::rX)
theorem zvg:∀(pre:AT) (g:gu) (c d:Nat) (post:AT),(∀x,Wa (g x)) ->cX g AUZ= - cX g Ag'
 | [],g,c,d,post,h=>by
  have key:∀c d,cX g (c::AQM)=g c (d::post) - Atd+Aqb:=by
   intro c d;show g c (d::post) - (Atd - Aqb)=_
   grind
  have e:cX (fun x es=>g x (d::c::es)) post=GS*Aqb:=BA V8 (zma fun x es=>by
    have:=h x [] d c es;simp only [List.nil_append] at this;rw[this];grind)
  show cX g (c::AQM)= - cX g (d::rX);rw[key c d,key d c,e]
  grind
 | a::pre,g,c,d,post,h=>by
  show g a AUZ - Azl AUZ= - (g a Ag' - Azl Ag');rw[h a pre c d post,zvg pre (fun x ds=>g x (a::ds)) c d post fun x p c d q=>h x (a::p) c d q]
  grind
theorem ziw:∀rs:CM,Wa (dt rs)
 | []=>A8a (by cases pre<;>(unfold dt;grind))
 | UX=>A8a (zvg pre _ c d post fun x p a b q=>(US (ziw rs p a b q)))
theorem Wb(rs:CM):∀{post pre:AT} {c:Nat},c∈post ->dt rs ACa=0
 | [],_,_,h=>BH
 | AQM,pre,c,h=>by
  show AhG e
  ·subst e;exact half (ziw rs pre c c post)
  ·rw[ziw rs pre c d post];have:=Wb rs (pre:=pre++ [d]) h;show A_ List.append_assoc;rw[ui (pre++d::rX=pre++ ([d]++rX)),this];grind
def lR(rs:CM)(f:Row):Prop:=∃ks:Ψ,ks.length=rs.length/\∀j,f j=š
theorem zy6:∀{ks ls:Ψ} {rs:CM},Atn ->ls.length=rs.length ->A9Z (AVC=š+comb ls rs j)
 | [],[],[],_,_=>AvY
 | Ŕ,l::ls,UX,h1,h2=>by
  show AS ms h3 h4 (zy6 (ks:=ks) (ls:=ls) (rs:=rs)) ĕ AJs
  show B0 ((k+l)::ms) (BD h3) AEf
  show(k+l)*r j+AVC=(k*r j+š)+ (l*r j+comb ls rs j);rw[h4];grind
 | [],_,A1,h,_=>BH
 | A1,_,[],h,_=>BH
 | _,[],A1,_,h=>BH
 | _,A1,[],_,h=>BH
theorem zzd(x:Rat):∀{ks:Ψ} {rs:CM},Atn ->A9Z (AVC=x*š)
 | [],[],_=>AvY
 | Ŕ,UX,h1=>by
  show At ms h3 h4 (zzd x (ks:=ks) (rs:=rs)) ĕ
  show B0 ((x*k)::ms) (BD h3) AEf
  show(x*k)*r j+AVC=x* (k*r j+š);rw[h4];grind
 | [],A1,h=>BH
 | A1,[],h=>BH
theorem lR.add(A6d)(h1:nk)(h2:ARv):Ő (f j+g j):=by
 obtain⟨ks,a,b⟩:=h1;obtain⟨ls,c,d⟩:=h2;obtain⟨ms,e,q⟩:=zy6 a c;exact⟨ms,e,DF (by show f j+g j=_;rw[q,b,d])⟩
theorem lR.mul{rs:CM}{f:Row}(x:Rat)(h:nk):Ő (x*f j):=by
 show GH ks a b;show AS ms e q zzd x a;exact⟨ms,e,DF (by show x*f j=_;rw[q,b])⟩
theorem zqk:∀(rs:CM),∀j,Arn=0
 | [],j=>KS
 | UX,j=>by
  show 0*r j+Arn=0;rw[zqk rs j];grind
theorem lR.zero(rs:CM):lR rs k8:=⟨rs.map k8,AY,DF (zqk rs j).symm⟩
theorem lR.cons{rs:CM}{f:Row}(r:Row)(h:nk):lR œ f:=by
 show GH ks a b;show B0 (0::ks) (BD a) AEf
 show f j=0*r j+š;rw[b];grind
theorem lR.head(r:Row)(rs:CM):lR œ r:=by
 show B0 (1::rs.map k8) AY AEf
 show r j=1*r j+Arn;rw[zqk];grind
theorem lR.mem{r:Row}:FD rs CM (r∈rs) (lR rs r)
 | s::rs,h=>by
  show AhG e
  ·subst e;exact lR.head r rs
  ·exact(lR.mem h).cons s
theorem lR.congr(A6d)(h:nk)(e:∀j,g j=f j):ARv:=by
 show GH ks a b;exact⟨ks,a,DF (EW e b)⟩
theorem z86{rs:CM}:∀{cs:AT} {g:FR gu},(∀x ds,Ő (g j x ds)) ->Ő (cX (g j) cs)
 | [],g,_=>lR.zero rs
 | fg,g,h=>by
  have h1:=h c cs;have h2:=(z86 (cs:=cs) (g:=fun j x ds=>g j x eL) fun x ds=>h x eL).mul (-1);exact ANi h1.add h2 (by
   show g j c cs - A4_ (g j d eL)=_
   grind)
theorem z0h:∀(rs:CM) (cs:AT),Ő (L0 kQ)
 | [],cs=>LZ [] (DF KS)
 | UX,cs=>by
  have h1:=(lR.head r rs).mul (dt rs cs);have h2:lR œ (DF (BHZ x (r x))):=z86 fun x ds=>(((z0h rs ds).cons r).mul (r x));exact ANi h1.add (h2.mul GS) (by
   show A3R=_
   grind)
theorem z4c(rs:CM):∀(n:Nat) (pre post:AT),pre.length=n ->Ő (L0 Ag_)
 | 0,pre,post,h=>by
  have:=List.length_eq_zero_iff.mp h;show UC;exact z0h rs post
 | n+1,pre,post,h=>by
  have hne:pre≠ []:=AC (by subst z;cases h)
  have e:=List.dropLast_concat_getLast hne;have ih:=(z4c rs n pre.dropLast (Av4::post) (TD h)).mul (-1)
  refine ih.congr AEf;have e2:pre.dropLast++Av4::AQ9=pre++AQ9:=by
   have:=w4 (· ++j::post)
   simpa only [List.append_assoc,List.singleton_append] using this
  rw[<- e2,ziw rs pre.dropLast (pre.getLast hne) j post]
  grind
def uM(x:Rat):Prop:=∃z:Int,x=ATB
theorem uM.sub(A1u):uM (x - y):=by
 show VS a h1;show VS b h2;exact⟨a - b,BI8⟩
theorem uM.mul(A1u):uM (x*y):=by
 show VS a h1;show VS b h2;exact⟨a*b,BI7⟩
theorem z8t{g:gu}:FD cs AT (∀c ds,uM (g c ds)) (uM (cX g cs))
 | [],_=>⟨0,KS⟩
 | fg,h=>(h c cs).sub (z8t (cs:=cs) fun d ds=>h d eL)
theorem z5u:Aq9 (∀r∈rs,Ac') (uM (dt rs cs))
 | [],[],_=>⟨1,KS⟩
 | [],A1,_=>⟨0,KS⟩
 | UX,cs,h=>z8t fun c ds=>BBW (z5u (AXI AyU))
theorem ztu(AKM){cs:AT}{f:Row}(h:nk)(z:AXp)(d:L0 cs≠0)(j:Nat):f j=0:=by
 obtain⟨ks,_,e⟩:=h;show AqN;have h2:dt (f::rs) kQ=dt ((A2 0)::rs) kQ:=by
  show AbO (j::cs) k8;show YU
  congr 2
  funext i
  rw[e];grind
 have h3:dt ((A2 0)::rs) kQ=0:=zkr fun c _ ds=>(AWn (0*L0 ds) 0)
 rw[h3,h1] at h2;show Ajp h2
 ·exact q
 ·show MW q d
theorem yib(A9e)(z:AXp)(wa:∀j,uM (a j))(wr:AjH)(j:Nat):uM (L0 cs*f j):=by
 obtain⟨ks,_,e⟩:=hg;show AqN;have h2:dt (f::rs) kQ=AlI:=by
  show AbO (j::cs) a;show YU
  congr 2
  funext i
  rw[hf,e]
 rw[Rat.mul_comm,<- h1,h2];exact z5u fun r hr=>by
  show ĥ hr
  ·subst q;exact wa
  ·exact wr r q
theorem yiy{rs:CM}{pre post:AT}{c:Nat}{f:Row}(h:nk)(one:f c=1)(z:AxM)(wr:AjH)(d:L0 ACa≠0)(j:Nat):uM (Ah5):=by
 have hl:=BDJ;have e:dt rs Ag_=Ah5:=by
  have key:=ztu (cs:=pre++rX) (hl.add ((h.mul (dt rs ACa)).mul GS)) AGd d j
  ·grind
  ·by_cases hc:x=c
   ·subst hc;rw[one];grind
   ·have hx' :x∈Adl:=by
     show AGR
     ·exact AVR
     ·show A4p (zQ _ q)
    rw[z x hx'];have:dt rs (pre++ATy)=0:=by
     show N2 hx' q q
     ·show At p1 p2 rfl List.append_of_mem q;have:=Wb rs (pre:=p1) (post:=p2++ATy) (c:=x) Η
      rw[List.append_assoc];exact this
     ·exact Wb rs q
    rw[this];grind
 rw[<- e];exact z5u wr
structure Low (rs:CM) (cs:AT) (a f:Row):Prop where
 g:∃g:Row,ARv/\BHd
 z:AXp
structure Up (rs:CM) (cs:AT) (c:Nat) (f:Row):Prop where
 l:nk
 o:f c=1
 z:∀x∈cs,x≠c ->f x=0
theorem Low.dt(AKM){cs:AT}{a f:Row}(h:AOl f)(p:Nat):HM.dt û Œ=A3S:=by
 obtain⟨⟨g,⟨ks,_,e⟩,hf⟩,z⟩:=h;have h1:HM.dt (f::rs) Œ=A3S:=zsy z;have h2:HM.dt (f::rs) Œ=HM.dt û Œ:=by
  show AbO (p::cs) a;show YU
  congr 2
  funext i
  rw[hf,e]
 rw[<- h2,h1]
theorem Low.lin(AnD){a f:Row}(h:AOl f):lR û f:=by
 obtain⟨⟨g,l,hf⟩,_⟩:=h;exact((lR.head a rs).add (l.cons a)).congr hf
theorem Low.step(AKM){cs:AT}{a b q f:Row}{p:Nat}(hq:AOl q)(hp:q p≠0)(h:Low rs cs b f):Low û Œ b (L5 AYH):=by
 obtain⟨g,l,hf⟩:=h.g;show Op (Cb ((l.cons a).add (hq.lin.mul (-(f p/q p)))) (DF (by show AYH=b j+ (g j+ -(f p/q p)*q j);rw[hf j];grind))) c hc
 show VW hc e hc
 ·show AyS
 ·rw[h.z c hc,hq.z c hc];grind
theorem Up.step(AnD){a q f:Row}{p c:Nat}(hq:AOl q)(hp:q p≠0)(h:Up rs cs c f)(hc:c∈cs):Up û Œ c (L5 AYH):=by
 show Y_ (ANi (h.l.cons a).add (hq.lin.mul (-(f p/q p))) (AWn AYH (f j+ -(f p/q p)*q j))) (Α x hx n)
 ·rw[h.o,hq.z c hc];grind
 ·show AZH
  ·show AyS
  ·rw[h.z x hx n,hq.z x hx];grind
theorem Up.new(AnD){a q:Row}{p:Nat}(hq:AOl q)(hp:q p≠0):Up û Œ p (L5 (q j/q p)):=by
 show Y_ (ANi hq.lin.mul (1/q p) (AWn (q j/q p) (1/q p*q j))) (Α x hx n)
 ·grind
 ·show AZH
  ·show MW e n
  ·rw[hq.z x hx];grind
def cols:FR AT
 | 0=> []
 | p+1=>p::ACR
theorem jP{x:Nat}:∀{p:Nat},x∈ACR↔x<p
 | 0=>BD cols
 | p+1=>by
  unfold cols;rw[List.mem_cons,jP];omega
theorem zl8:∀p,e_ cols p
 | 0=>List.nodup_nil
 | p+1=>C7 (Agw (B_ (FE (jP.mp h))) (zl8 p))
def iW(A:P4)(k:Nat):Row:=DF (Ο (A k j))
theorem z1e(A:P4)(k j:Nat):uM (iW A k j):=Cf
structure BT (n:Nat) (A:P4) (p:Nat) (d:Int) (tb:P4) (rs:CM) (fs:ABO) (ix:WV):Prop where
 w:AQt A1I
 de:ADt=Aai
 nz:d≠0
 up:∀i,i<p ->Up rs (cols p) i (fs i)
 lo:∀i,p<=i ->CO ->ix i<n/\Low rs (cols p) (iW A (ix i)) (fs i)
 all:AQ5 (iW A k∈rs\/∃i,p<=i/\CO/\ix i=k)
 t:AFN (∀j,Ο (tb i j)=d*fs i j)
theorem ybp(n:Nat)(A:P4):BT n A 0 1 A [] (iW A) id:=by
 refine⟨fun r h=>(by cases h),?_,Κ,fun i h=>(AsP h),fun i _ h=>⟨h,Cb (lR.zero []) (DF (AWn (iW A i j) (iW A i j+0))),fun c h=>BH⟩,fun k h=> .inr ⟨k,DV,h,rfl⟩,Α i _ j⟩
 ·rfl
 ·show Ο AEk=1* Ο AEk
  grind
theorem BT.dz(A8T):Aai≠0:=BA h.de (AC (h.nz (by show vb)))
theorem ygt{n:Nat}{rs:CM}{p:Nat}{f:Row}(wr:AjH)(dz:Aai≠0)(h:(∃c,c<p/\Up rs (cols p) c f)\/∃a,(∀j,uM (a j))/\Low rs (cols p) a f)(j:Nat):uM (Aai*f j):=by
 rcases h with ⟨c,hc,u⟩ | ⟨a,wa,l⟩
 ·show ND pre post (List.append_of_mem (jP.mpr hc));have nd:=zl8 p;rw[e] at nd;have key:=AQb yiy pre pre (post:=post) (c:=c) (f:=f) u.l u.o AGd wr (BA e dz) j
  ·rw[e];exact key
  ·refine u.z x ?_ mr
   ·rw[e];show AGR
    ·exact AVR
    ·exact zQ _ (zW _ q)
   ·subst z;rw[List.nodup_append] at nd;show AGR
    ·exact nd.2.2 x q x zY rfl
    ·exact AIK nd.2.1 q
 ·obtain⟨g,lg,hf⟩:=l.g;exact yib hf lg l.z wa wr j
def rQ(p s i:Nat):Nat:=eC p s (eC s p i)
def nextT(p s:Nat)(d:Int)(tb:P4):P4:=fun i j=>(eC p (tb s j) BCm)
theorem yha{x d z:Int}(d0:d≠0)(e:x=d*z):x.fdiv d=z:=by
 rw[e,Int.mul_comm,Int.mul_fdiv_cancel _ d0]
theorem Oq{a b:Int}(h:Ο a=Ο b):a=b:=AKj h
theorem BT.step{n p s:Nat}(AbF)(h:AIq)(ps:p<=s)(sn:s<n)(nz:AQU≠0):
  ∃rs' fs' Ot,BT n A Ĵ (tb s p) (nextT p s d tb) rs' fs' Ot :=by
 obtain⟨hk,lq⟩:=h.lo s ps sn;have ts:AfR=d*AR5:=h.t s sn p;show Re qz AR5 (nz (Oq (by rw[ts,z];grind)))
 show Re d0 ADt (h.nz (Oq (EK z)))
 let rs' :CM:=iW A (ix s)::rs
 let fs' :ABO:=D3 (eC p (L5 (fs s j/AR5)) (L5 BAZ))
 let Ot :WV:=D3 (ix (rQ p s i))
 have dd:dt rs' (cols Ĵ)=AfR:=by
  show dt (iW A (ix s)::rs) AmC=_;rw[lq.dt p,<- h.de,ts,Rat.mul_comm]
 have w' :∀r∈rs',A1I:=fun r hr=>by
  show ĥ hr
  ·exact Cb hk q
  ·exact h.w r q
 have wr' :∀r∈rs',Ac':=fun r hr j=>by show Ĭ k (w' r hr);exact z1e A k j
 show Re nz' AfR (nz (Oq (EK z)))
 show Ž up' (∀i,i<p+1 ->Up rs' (cols Ĵ) i (fs' i)) (by
  show Fs i p
  ·subst e;show Up rs' (i::cols i) i (AI (i=i) _ _);show XZ;exact Up.new lq qz
  ·have hip:i<p:=ρ
   have es:AZ2=i:=by unfold rQ;rw[Χ e,UM]
   show Up rs' AmC i AvQ;rw[Χ e,es];exact Up.step lq qz (h.up i hip) (jP.mpr hip))
 have Wc :∀i,p+1<=i ->CO ->Ot i<n/\Low rs' (cols Ĵ) (iW A (Ot i)) (fs' i):=fun i hi hn=>by
  have hs:p<=AZ2/\AZ2<n:=by
   unfold rQ;show An ξ
   split<;>omega
  obtain⟨g1,g2⟩:=h.lo _ hs.1 hs.2;show CD g1;show Low rs' AmC _ AvQ;show An ξ
  exact Low.step lq qz g2
 refine⟨rs',fs',Ot,w',dd.symm,nz,up',Wc,AD k hk',Α i hi j⟩
 ·rcases h.all k hk' with q | ⟨i,q1,q2,q3⟩
  ·show BQ (zW _ q)
  ·show Fs i s
   ·show e9 (.inl (BA q3 zY))
   ·by_cases ep:i=p
    ·subst ep;show RI ⟨s,ρ,sn,?_⟩
     show ix (rQ i s s)=k;unfold rQ;rw[Χ ξ,BU];exact q3
    ·show RI ⟨i,ρ,q2,?_⟩
     show ix AIt=k;unfold rQ;rw[Χ ep,Χ e];exact q3
 ·show Fs i p
  ·subst e;show GB (eC i (tb s j) _)=Ο (tb s i)* (AI (i=i) (L5 (fs s j/fs s i)) _) j;rw[BU,BU,h.t s sn j,ts]
   grind
  ·have hs:AZ2<n:=by unfold rQ;show An e;split<;>omega
   have iz:uM (dt rs' (cols Ĵ)*fs' i j):=ygt (n:=n) wr' (B6 dd nz') (by
    show D8 (i<p)
    ·show BQ ⟨i,ρ,up' i ξ⟩
    ·show WP g1 g2 (Wc i ξ hi) (.inr (Cb (z1e A _) g2))) j
   obtain⟨z,hz⟩:=iz;rw[dd] at hz;have hf:fs' i j=BAZ:=by
    show(eC p _ _:Row) j=_;show An e
   show GB (eC p _ BCm)=Ο AQU*fs' i j;rw[Χ e,hz]
   congr 1
   refine yha h.nz (Oq ?_);rw[Rat.intCast_sub,Rat.intCast_mul,Rat.intCast_mul,Rat.intCast_mul,h.t _ hs j,h.t _ hs p,h.t s sn j,<- hz,hf,ts]
   grind
def dY:pk (OU) Rat
 | 0,_=>0
 | n+1,g=>dY n g+g n
theorem Ld{g h:OU}:FD n Nat (∀i,CO ->g i=h i) (dY n g=dY n h)
 | 0,_=>rfl
 | n+1,e=>ZI dY (Ld fun i hi=>e i ξ) (e n ξ)
theorem z0w{g:OU}{c:Nat}:∀{n:Nat},c<n ->(∀i,CO ->i≠c ->g i=0) ->dY n g=g c
 | n+1,hc,h=>by
  unfold dY;show Fs c n
  ·subst e;have:dY c g=0:=by
    rw[Ld (h:=k8) (Ł (AWK h))]
    clear h hc;induction c with
    | zero=>rfl
    | succ c ih=>show AoH
   rw[this];grind
  ·rw[z0w (n:=n) ξ fun i hi n' =>h i ξ n',h n ξ (AC (e z.symm))];grind
theorem z77{rs:CM}{fs:ABO}(a:OU):FD p Nat (∀c,c<p ->lR rs (fs c)) (Ő (dY p (qr (a c*fs c j))))
 | 0,_=>lR.zero rs
 | p+1,h=>ANi (z77 a (ANJ (h c ξ))).add ((h p ξ).mul (a p)) rfl
theorem BT.span{n p:Nat}(AbF)(h:AIq){f:Row}(l:nk)(j:Nat):f j=dY p (qr (f c*fs c j)):=by
 have hl:=l.add ((AQb z77 fs fs f (p:=p) (ANJ (h.up c hc).l)).mul GS);have key:=ztu (cs:=ACR) hl (Iq c hc) h.dz j
 ·grind
 ·have hc' :=jP.mp hc;rw[z0w hc' fun i hi ni=>(US ((h.up i hi).z c hc (Ne.symm ni))),(h.up c hc').o]
  grind
theorem BT.eqn(Aen)(Ael){j:Nat}(z:∀i,p<=i ->CO ->fs i j=0){k:Nat}(hk:k<n):
  iW A k j=dY p (vS (fs c j)):=by
 rcases h.all k hk with q | ⟨i,q1,q2,rfl⟩
 ·exact h.span (lR.mem q) j
 ·obtain⟨_,l⟩:=h.lo i q1 q2;obtain⟨g,lg,hf⟩:=l.g;have h1:=h.span lg j;have h2:∀c,c<p ->g c= - A_D:=fun c hc=>by
   have:=hf c;show A_ (l.z c (jP.mpr hc))
   grind
  have h3:=hf j;rw[z i q1 q2] at h3;have h4:(dY p (qr (g c*fs c j)))= - dY p (qr (A_D*fs c j)):=by
   have neg:A'4:=fun m u=>by
    induction m with
    | zero=>unfold dY;grind
    | succ m ih=>show AoH
   rw[<- neg];exact Ld fun c hc=>(US (h2 c hc))
  rw[h4] at h1
  grind
theorem BT.sol{n:Nat}(AbF)(h:Abj (BT n A n d)){k:Nat}(hk:k<n)(j:Nat):iW A k j=dY n (vS (fs c j)):=
 h.eqn (fun i h1 h2=>ρ) hk
theorem BT.diag{n p:Nat}(AbF)(h:AIq){i:Nat}(hi:i<p)(hn:CO):tb i i=d:=AcA (h.t i hn i) (h.up i hi).o (Oq (US this))
theorem BT.stuck(Aen)(Ael)(pn:p<n)(z:∀i,p<=i ->CO ->tb i p=0):
  ∃x:OU,x p=1/\AQ5 ((dY n (vS (x c)))=0):=by
 show ft d0 (ADt≠0) (h.nz (Oq Aho))
 have z' :∀i,p<=i ->CO ->fs i p=0:=fun i h1 h2=>by
  have:=h.t i h2 p;show A_ (z i h1 h2);show X9 (Rat.mul_eq_zero.mp (show Ο d*fs i p=0 by show YU;rfl)) q
  ·show MW q d0
  ·exact q
 show B0 (qr (if c<p then - AJ_ else AeT c)) AY Akj
 have e:=h.eqn z' hk;have cut:∀m,p<m ->m<=n ->(dY m A'o)=(dY p (vS (- AJ_)))+iW A k p:=fun m=>by
  induction m with
  | zero=>intro hm;omega
  | succ m ih=>
   intro hm hn;show(dY m A'o)+iW A k m* (AI (m<p) (- fs m p) (AeT m))=_;by_cases q:m=p
   ·subst q;rw[Χ ξ,BU]
    rw[Ld (h:=vS (- fs c m)) (ANJ (by show D1 hc))]
    grind
   ·rw[ih ξ ξ,UM,EE];grind
 rw[cut n pn (Nat.le_refl _),e];have neg:(dY p (vS (- AJ_)))= - dY p (vS AJ_):=by
  have:A'4:=fun m u=>by
   induction m with
   | zero=>unfold dY;grind
   | succ m ih=>show AoH
  show YU;exact Ld fun c _=>IP
 rw[neg];grind
def aD(FI):AG ->(DA) ->Rat
 | [],_=>0
 | CU,f=>f a+O0
section
variable{α β:Type}
theorem lZ{f g:DA}:AOY (f a=g a) (aD l f=aD l g)
 | [],_=>rfl
 | CU,h=>ZI aD Aw9 (lZ fun b hb=>Ayb)
theorem QM{f g:DA}:AVo (f a+g a) (O0+aD l g)
 | []=>AVG
 | CU=>AoJ QM
theorem Jz{f g:DA}:AVo (f a - g a) (O0 - aD l g)
 | []=>AVG
 | CU=>AoJ Jz
theorem HY(k:Rat){f:DA}:AVo (k*f a) (k*O0)
 | []=>AVG
 | CU=>AoJ (HY k)
theorem Le{f:DA}:AOY (f a=0) (aD l f=0)
 | [],_=>rfl
 | CU,h=>AMH aD Aw9 (Le fun b hb=>Ayb)
theorem Lf(k:Rat):ACJ (aD l (A2 k)=Ο l.length*k)
 | []=>by
  show ĳ=Ο (D9 0)*k;have:Ď 0=0:=rfl;rw[this];grind
 | CU=>by
  show k+aD l (A2 k)=Ο (D9 (l.length+1))*k;rw[Lf k];have:Ď (l.length+1)=Ο l.length+1:=AKj rfl
  rw[this];grind
theorem Wd{f:α ->β ->Rat}{m:HZ}:AVo Ap7 (aD m (OY (ALu (f a b))))
 | []=>C7 (NI Le AC')
 | CU=>by
  show Ap7+Agj Ap7=aD m (OY (f a b+ALu (f a b)));rw[Wd (l:=l),<- QM]
theorem zol{f:DA}:∀{l m:AG},aD (l++m) f=O0+AVi
 | [],m=>by show aD m f=0+AVi;grind
 | CU,m=>by show f a+aD (l++m) f=(f a+O0)+AVi;rw[zol];grind
theorem z5z{f:DA}{l m:AG}(h:l.Perm m):aD l f=AVi:=by
 induction h with
 | nil=>rfl
 | cons x _ ih=>show f x+_=f x+_;rw[ih]
 | swap x y l=>show f y+ (f x+O0)=f x+ (f y+O0);grind
 | trans _ _ h1 h2=>rw[h1,h2]
theorem Ia{f:DA}{p:xF}:ACJ (aD (l.filter p) f=A_q)
 | []=>rfl
 | CU=>by
  rw[List.filter_cons];show _=(AI Ġ (f a) 0)+A_q;rw[<- Ia (l:=l)];by_cases h:Ġ
  ·rw[vv,vv];rfl
  ·rw[md,md];grind
theorem Ib{f:IJ}{g:ARr}:ACJ (aD (l.map g) f=ALu (f (g a)))
 | []=>rfl
 | CU=>by show f (g a)+_=f (g a)+_;rw[Ib]
theorem Wf{f:DA}:AOY (0<=f a) (0<=O0)
 | [],_=>C7 Rat.le_refl
 | CU,h=>by
  have h1:=h a zY;have h2:=Wf (FX Aqv);show 0<=f a+O0
  grind
theorem QV{f:DA}:ACJ ((APU (0<=f a)) ->aD l f=0 ->∀a∈l,f a=0)
 | CU,h,e=>by
  have h1:=h a zY;have h2:=Wf (FX Aqv);have e' :f a+O0=0:=e;have e1:f a=0:=IP
  have e2:aD l f=0:=IP
  intro b hb;show ĥ hb
  ·rw[q];exact e1
  ·exact QV (TC Aqv) e2 b q
 | [],_,_=>fun a h=>BH
#where
section
variable{α:Type}[AL2]
theorem QX{f:DA}{s hs:AG}(ns:s.Nodup)(nh:hs.Nodup)(sub:Ac5):aD hs (DJ (GE i6 (f h)))=aD s f:=by
 have p:(hs.filter (B_ (Θ i6))).Perm s:=by
  rw[List.perm_ext_iff_of_nodup (nh.filter _) ns];intro a;rw[List.mem_filter];exact⟨B_ (of_decide_eq_true h.2),B_ ⟨sub a h,decide_eq_true h⟩⟩
 rw[<- z5z p,Ia];exact Jn a (by by_cases h:a∈s<;>simp [h])
def cQ(s:AG)(x:DA):Rat:=Abl (aD s x)
theorem z7p{s:AG}(h:s≠ [])(x:DA):Ο s.length*zw=aD s x:=by
 have z:BIn≠0:=by
  have:=List.length_pos_iff.mpr h;intro e;have:s.length=0:=AKj e
  omega
 unfold cQ;rw[Rat.div_def,Rat.mul_comm,Rat.mul_assoc,ı z];grind
theorem zsl(s:AG)(x:DA):aD s (DJ AWl)=0:=by
 rw[Jz,Lf];by_cases h:s= []
 ·subst h;show Ο 0 - Ο (D9 0)*_=0;have:Ď 0=0:=rfl;rw[this];grind
 ·rw[z7p h];grind
def qg(S:II)(x:DA)(h:α):Rat:=AFp AWl
theorem z1h(Ao2)(sub:AhW)(c x:DA):aD hs (DJ (c h*AGk))=aD S fun s=>(AWt (ċ (c h))):=by
 unfold qg;have e:aD hs (DJ (c h*AFp AWl))=aD hs (B_ (AFp (ċ (c h)))):=
  Jn h (BA HY (Jn s (by split<;>grind)))
 rw[e,Wd];exact lZ fun s hS=>(Ar9 QX)
theorem yfw(Ao2)(sub:AhW)(x:DA):aD hs (qg S x)=0:=by
 have e:=z1h ns nh sub (A2 1) x;have e1:aD hs (DJ (1*AGk))=BBT:=Jn h IP
 rw[<- e1,e];exact Le fun s _=>by
  have e2:aD s (DJ (ċ 1))=aD s (DJ AWl):=Jn h IP
  rw[e2,zsl]
theorem zj9(r:Rat):0<=r*r:=by
 show NY (Rat.le_total (a:=0) (b:=r))
 ·exact Rat.mul_nonneg h h
 ·have h' :0<= -r:=IP
  have:=Rat.mul_nonneg h' h'
  grind
theorem z3j{r:Rat}(h:r*r=0):r=0:=by
 rcases Rat.mul_eq_zero.mp h with h | h<;>exact h
theorem ycs{S:II}{hs:AG}(ns:XU s.Nodup)(nh:hs.Nodup)(sub:AhW){x:DA}(z:ALp (AGk=0)):XU (∀h∈s,x h=zw):=by
 have e:=z1h ns nh sub x x;rw[Le fun h hh=>(US (z h hh))] at e
 have e2:∀s,aD s (DJ (ċ (x h)))=AWt AnO:=by
  intro s;have a1:=zsl s x;have a2:aD s (DJ AnO)=AWt (ċ (x h) - ċ zw):=Jn h IP
  rw[a2,Jz,HY,a1];grind
 have e3:aD S (Μ s (AWt AnO))=0:=AB e (Jn s (NI e2 s))
 intro s hs h hh;have h1:=QV (fun s _=>Wf fun h _=>zj9 _) e3 s hs;have h2:=QV (fun h _=>zj9 _) h1 h hh;have:=z3j h2
 grind
def je(S:II)(h:α):Rat:=AFp 1
theorem zr3(S:II)(h:α):0<=yY:=Wf fun s _=>BId
theorem yfs{S:II}{h:α}(i:∃s∈S,i6):0<yY:=by
 obtain⟨s,hs,hh⟩:=i;refine Rat.lt_of_le_of_ne (zr3 S h) mr;have:=QV (l:=S) (f:=fun s=>(GE i6 (Ο 1))) (fun s _=>BId) z.symm s hs
 show A_ (Ap hh);exact ALt this
theorem z9h{S:II}{h0:α}{hs:AG}(ns:XU s.Nodup)(nh:(ģ).Nodup)(sub:XU (P_ s ç))(on:ALq (∃s∈S,i6))
  (min:∀C:DO α,(∀s∈S,AN0 s s) ->(∃x∈ç,C x) ->AP3 ç)
  {x:DA} (z:ALp (AGk=0)) (w:aD ģ (DJ (yY*x h))=0):ALq (x h=0):=by
 have z' :ALq (AGk=0):=by
  have e:=yfw ns nh sub x;have e' :qg S x h0+BBT=0:=e;rw[Le z] at e';intro h hh;show ĥ hh
  ·rw[q];grind
  ·exact z h q
 have ev:=ycs ns nh sub z';have same:ALq (x h=x h0):=min (DJ (x h=x h0)) (fun s hS hx b hb=>by
  obtain⟨a,ha,ea⟩:=hx;have QC :x a=x h0:=ea;rw[ev s hS b hb,<- ev s hS a ha,QC]) (Hk h0 zY)
 have e1:aD ģ (DJ (yY*x h))=x h0*A_I:=BA HY (lZ fun h hh=>(US (same h hh)))
 rw[e1] at w;have pos:A_I≠0:=fun zz=>by
  have:=QV (fun h _=>zr3 S h) zz h0 zY;have p:=yfs (on h0 zY);rw[this] at p;exact ALt p
 show Ajp w
 ·intro h hh;rw[same h hh,q]
 ·show MW q pos
def fQ(S:II)(h o:α):Rat:=(AI (h=o) yY 0) - AIQ AG7 AVV
theorem z7s(Ao2)(sub:XU Ac5)(x:DA){h:α}(hh:m_):aD hs (fA BBy)=AGk:=by
 have e1:aD hs (fA BBy)=aD hs (fA (GE (o∈ [h]) (yY*x o))) - aD hs fun o=>(AIQ AG7 AMr):=by
  rw[<- Jz];show AFP o;unfold fQ;have e2:(aD S fun s=>(GE AG7 AMr))=x o*AIQ AG7 AVV:=BA HY (Jn s (by split<;>first | (simp only [Rat.div_def];grind) | grind))
  rw[e2];by_cases q:h=o
  ·subst q;rw[BU,d5 List.mem_singleton.mpr rfl];grind
  ·rw[EE,A1r];grind
 rw[e1,QX Η nh fun y hy=>(Ę hy hh),Wd]
 have e3:aD [h] (fA (yY*x o))=AFp (x h):=by
  show yY*x h+0=_;unfold je;have:(aD S fun s=>(GE i6 (x h)))=x h*AFp 1:=BA HY (Jn s (by split<;>grind))
  rw[this];grind
 rw[e3,<- Jz];refine lZ (AD s hS);show D8 i6
 ·rw[EM,EM]
  congr 1
  have e4:aD hs (fA (GE AG7 AMr))=aD hs fun o=>(GE (o∈s) AMr):=Jn o ATk
  rw[e4,Ar9 QX];unfold cQ;have e5:aD s (fA AMr)=BIn⁻¹*aD s x:=BA HY (Jn o (US Rat.div_def))
  rw[e5,Rat.div_def];grind
 ·rw[EE,EE,Le fun o _=>ATk];grind
variable{σ:Type}
def mV(k:AYD)(y:AZO)(S:AS3)(h:α):Rat:=AyQ
theorem ybs{k:AYD}{S:AS3}{hs:AG}(ns:XU (e_ k s))(nh:hs.Nodup)(sub:XU (P_ (k s) hs))(y:AZO):aD hs (mV k y S)=0:=by
 show aD hs (DJ AyQ)=0;rw[Wd];refine Le (AD s hS);rw[Ar9 (QX (f:=B_ BIO))];exact zsl _ _
theorem z76(s:AG)(x y:DA):cQ s (fA (x o - y o))=zw - cQ s y:=by
 unfold cQ;rw[Jz,Rat.div_def,Rat.div_def,Rat.div_def];grind
theorem z9p{k:AYD}(y:AZO)(x:DA)(S:AS3)(h:α):Ars (mV k y S h - A'x):=by
 unfold mV qg;rw[Ib,<- Jz];exact Jn s (by
  rw[z76];split<;>grind)
theorem ycn{k:AYD}{S:AS3}{h0:α}{hs:AG}(ns:XU (e_ k s))(nh:(ģ).Nodup)(sub:XU (P_ (k s) ç))(y:AZO)(x:DA)
  (e:ALp (A'x=mV k y S h)):ALq (Ars 0):=by
 have e' :ALp (Ars 0):=fun h hh=>by rw[z9p,e h hh];grind
 have q:=ybs ns nh sub fun s o=>y s o - x o;have q' :mV k AdG S h0+aD hs (mV k AdG S)=0:=q;rw[Le e'] at q';intro h hh;show VW hh r r
 ·rw[r];grind
 ·exact e' h r
theorem zvr{β:Type}[AII β](f:IJ):∀(l:HZ),dY l.length (L5 (AJC f l.getD))=O0:=by
 intro l;have key:∀(m:HZ) n,n<=m.length ->dY n (L5 (AJC f m.getD))=aD (m.take n) f:=by
  intro m n;induction n with
  | zero=>show NU
  | succ n ih=>
   intro h;have e:m.take GL=m.take n++ [m[n]]:=SV List.take_succ d6
   show dY n (L5 (AJC f m.getD))+f (m.getD n default)=_;rw[ih ξ,e,zol]
   have:m.getD n default=m[n]:=Agt d6
   rw[this];show _+f m[n]=_+ (f m[n]+0)
   grind
 have:=key l l.length (zN _)
 show BJj
#where
def ZB(B:Nat)(x:Rat):Prop:=∃z:Int,x=ATB/\AiD
theorem ZB.sub(BBH):ZB (A+B) (x - y):=by
 show JO a ha h1;show JO b hb h2;exact⟨a - b,BI8,ρ⟩
theorem ZB.mul(BBH):ZB (A*B) (x*y):=by
 show JO a ha h1;show JO b hb h2;exact⟨a*b,BI7,AB Int.natAbs_mul (Nat.mul_le_mul ha hb)⟩
theorem ZB.mono{A B:Nat}{x:Rat}(h:ZB A x)(l:A<=B):ZB B x:=by
 show xE a ha;exact LZ a (zO ha l)
theorem ZB.zero(B:Nat):ZB B 0:=LZ 0 DV
theorem ydm{B:Nat}{g:gu}:A8H (ZB B (g c ds)) (ZB (cs.length*B) (cX g cs))
 | [],_=>BI4
 | fg,h=>by
  have h1:=(h c cs rfl).sub (ydm (cs:=cs) (g:=fun d ds=>g d eL) A6U)
  refine ZB.mono h1 ?_;show Ajx;omega
theorem z9s{M N:Nat}:∀{rs:CM} {cs:AT},(∀r∈rs,Aq_) ->cs.length<=N ->ZB (Ai3) (dt rs cs)
 | [],[],_,_=>⟨1,KS,AY⟩
 | [],A1,_,_=>BI4
 | UX,cs,h,l=>by
  have h1:ZB (cs.length* (M* Ai3)) (cX (AuD (r c)) cs):=ydm fun c ds e=>BBW (z9s (fun s hs=>AyU) ξ)
  refine ZB.mono h1 ?_;rw[List.length_cons,Nat.pow_succ,Nat.mul_comm (Ai3),Nat.mul_assoc];exact AfL l
theorem zkj{g:gu}:A8H (g c ds=0) (cX g cs=0)
 | [],_=>rfl
 | fg,h=>AMH cX (h c cs rfl) (zkj (cs:=cs) A6U)
theorem yei:Aq9 (rs.length≠cs.length) (dt rs cs=0)
 | [],[],h=>Ama
 | [],A1,_=>rfl
 | UX,cs,h=>zkj fun c ds e=>(US (yei (by simp at h;omega)))
theorem Wg:∀p,BI cols p=p
 | 0=>rfl
 | p+1=>ZI cols List.length_cons (Wg p)
theorem BT.len(A8T):rs.length=p:=by
 have z:=h.dz;show X9 (Nat.decEq rs.length (BI cols p)) q
 ·exact Ya yei q z
 ·rw[q,Wg]
theorem yl0(A9e)(z:AXp)(j:Nat):L0 cs*f j=AlI:=by
 obtain⟨ks,_,e⟩:=hg;show AqN;have h2:dt (f::rs) kQ=AlI:=by
  show AbO (j::cs) a;show YU
  congr 2
  funext i
  rw[hf,e]
 rw[Rat.mul_comm,<- h1,h2]
theorem ym5(AKM){pre post:AT}{c:Nat}{f:Row}(h:nk)(one:f c=1)(z:AxM)(d:L0 ACa≠0)(j:Nat):Ah5=L0 Ag_:=by
 have hl:=BDJ;have key:=ztu (cs:=pre++rX) (hl.add ((h.mul (dt rs ACa)).mul GS)) AGd d j
 ·grind
 ·by_cases hc:x=c
  ·subst hc;rw[one];grind
  ·have hx' :x∈Adl:=by
    show AGR
    ·exact AVR
    ·show A4p (zQ _ q)
   rw[z x hx'];have:dt rs (pre++ATy)=0:=by
    show N2 hx' q q
    ·show At p1 p2 rfl List.append_of_mem q;have:=Wb rs (pre:=p1) (post:=p2++ATy) (c:=x) Η
     rw[List.append_assoc];exact this
    ·exact Wb rs q
   rw[this];grind
theorem zxk{z w:Int}{B:Nat}(e:ATB=Ο w)(h:w.natAbs<=B):AiD:=KL Oq e h
theorem BT.small(BFW)(hA:AqF A M)(hp:p+1<=N)(h1:1<=N*M){i:Nat}(hi:CO)(j:Nat):(tb i j).natAbs<=(N*M)^ Ĵ:=by
 have wr:AQt Aq_:=fun r hr j=>by
  show AGZ k hk rfl h.w;exact A_m
 have hl:=h.len;have pw:(N*M)^p<=(N*M)^ Ĵ:=Nat.pow_le_pow_right h1 ξ
 have ht:=h.t i hi j;rw[h.de] at ht;show D8 (i<p)
 ·have u:=h.up i q;show ND pre post (List.append_of_mem (jP.mpr q));have nd:=zl8 p;have dz:=h.dz;have ll:=Wg p;rw[e] at nd dz ht ll;have key:=AQb ym5 pre pre (post:=post) (c:=i) (f:=fs i) u.l u.o AGd dz j
  ·rw[key] at ht;obtain⟨z,ez,hz⟩:=A'i (pre++AQ9) (by simp at ll⊢;omega)
   rw[hl] at hz;rw[ez] at ht;exact zO (zxk ht hz) pw
  ·refine u.z x ?_ mr
   ·rw[e];show AGR
    ·exact AVR
    ·exact zQ _ (zW _ q)
   ·subst z;rw[List.nodup_append] at nd;show AGR
    ·exact nd.2.2 x q x zY rfl
    ·exact AIK nd.2.1 q
 ·obtain⟨hx,lo⟩:=h.lo i ξ hi
  obtain⟨g,lg,hf⟩:=lo.g;rw[yl0 hf lg lo.z j] at ht;show AS z ez hz (z9s (rs:=iW A (ix i)::rs) (cs:=j::ACR) (M:=M) (N:=N)) (OM hr (by
   show ĥ hr
   ·subst q;exact DF (LZ (A (ix i) j) (hA _ hx j))
   ·exact wr r q)) (by show Acj Wg;omega)
  rw[List.length_cons,hl] at hz;rw[ez] at ht;exact zxk ht hz
theorem BT.lead(BFW)(hA:AqF A M)(hp:p<=N):d.natAbs<=(N*M)^p:=by
 have wr:AQt Aq_:=fun r hr j=>by
  show AGZ k hk rfl h.w;exact A_m
 obtain⟨z,ez,hz⟩:=Me (A'i ACR) Wg hp
 rw[h.len] at hz;exact zxk (h.de.trans ez) hz
section
variable{α β:Type}[AL2][AAn β]
def gj(Anp):HG:=Ah' (Θ (ω=w))
def Aj(rows:HG)(h:β):HG:=Ah' AYj
def ofM(rows:HG)(m:HZ):HG:=Ah' AfW
def Uq(rows:HG):Prop:=rows.Pairwise fun a b=>BAr
def kW(Anp):HZ:=lL fun r=>A3
def yW(rows:HG)(w:α)(h:β):Rat:=ADc (rows.find? (E_ (Θ Aav))) (some r) AIx 0
theorem bZ(UA){w:α}{r:mB}:ApY Ö (ω=w):=ZI gj List.mem_filter decide_eq_true_iff
theorem jc(UA){h:β}{r:mB}:ApY AYW (A3=h):=ZI Aj List.mem_filter decide_eq_true_iff
theorem lD(UA){m:HZ}{r:mB}:ApY AYX Ý:=ZI ofM List.mem_filter decide_eq_true_iff
theorem Uq.M(UA)(u:FF)(m:HZ):Uq (ofM rows m):=u.filter _
theorem z1p{γ δ:Type}{f:γ ->δ}{R:BG γ γ}:∀{l:List γ},AtL ->(APU (IT l (R a b ->f a≠f b))) ->e_ l.map f
 | [],_,_=>List.nodup_nil
 | CU,h,k=>by
  show Af6;rw[List.map_cons,List.nodup_cons];show BO mr (z1p h.2 fun a ha b hb=>k a (zW _ ha) b (zW _ hb));show ND b hb (zB.mp z);exact k a zY b (zW _ hb) (CF b hb) e.symm
theorem znu(UA)(u:FF)(w:α):APK Nodup:=by
 refine z1p (u.filter _) (Ao5 (n ⟨?_,e⟩));rw[AQI ha,AQI hb]
theorem ycr(UA)(u:FF)(h:β):e_ BH2 (Kb ω):=by
 refine z1p (u.filter _) (Ao5 (n (Do e)));rw[(jc.mp ha).2,(jc.mp hb).2]
theorem jm(UA){w:α}{h:β}:ã↔S_ Aav:=by
 unfold kW;rw[List.mem_map];exact xc (N4 h1 h2) ⟨r,(bZ.mp h1).1,AQI h1,h2⟩ A1h (N4 AXn h3)
theorem z90:FD rows HG FF (∀{a b:mB},Ρ (a∈rows) (b∈rows) (a.1=b.1) (a.2.1=b.2.1) (a=b))
 | r::rows,u,a,b,ha,hb,e1,e2=>by
  unfold Uq at u;rw[List.pairwise_cons] at u;show ĥ ha
  ·show VW hb q' q'
   ·rw[q,q']
   ·subst q;exact absurd ⟨e1,e2⟩ (u.1 b q')
  ·show VW hb q' q'
   ·subst q';exact absurd ⟨e1.symm,e2.symm⟩ (u.1 a q)
   ·exact z90 u.2 q q' e1 e2
theorem QZ{rows:HG}(u:FF){r:mB}(hr:r∈rows):yW rows ω A3=AIx:=by
 unfold yW;cases e:rows.find? (Μ s (Θ A_s)) with
 | none=>
  have:=List.find?_eq_none.mp e r hr;simp at this
 | some s=>
  have h1:=List.mem_of_find?_eq_some e;have h2:A_s:=u_ (List.find?_some e)
  rw[z90 u h1 hr h2.1 h2.2]
theorem yd7(UA){w:α}(f:IJ):aD OB f=aD ABQ (Kb ADM):=Ib
theorem Ou(Anp):ş=ABR:=by unfold kW;show ED
theorem yeb(UA){ws:AG}(u:FF)(nw:ws.Nodup)(cw:AUJ)(h:β)(F:DA):aD ws A5j=aD (Aj rows h) (Kb (F ω)):=by
 have e:aD ws A5j=aD ws (B2 (GE A6f (F w))):=by
  show AFP w;have:ã↔A6f:=IF jm List.mem_map (xc A1h (N4 (jc.mpr ⟨h1,h3⟩) h2) (N4 h1 h2) ⟨r,AtX,h2,(jc.mp h1).2⟩)
  show D8 ã
  ·rw[EM,d5 this.mp q]
  ·rw[EE,Ē (q (this.mpr z))]
 rw[e,QX (ycr u h) nw (ř (by
  show At r h1 h2 zB.mp hw;rw[<- h2];exact cw r AtX)),Ib]
def wG(rows:HG)(x:IJ)(h:β):Prop:=
 aD (Aj rows h) (E_ A9u)=0
def Wh(rows:HG)(x:IJ)(m:HZ):Prop:=aD Ty (E_ (x A3))=0
theorem Wi{rows:HG}(u:FF)(x:IJ)(w:α):cQ OB (fA Ayn)=AVp:=by
 unfold cQ;rw[Ou,yd7]
 congr 1
 show ŵ;have:=QZ u ANj;show A_ AWH;rw[this]
theorem z9r(A6R)(cw:AUJ)(x:IJ)(h:β)(e:mV (kW rows) (fun w o=>Ayn) ws h=0):ţ:=by
 show LA mV;rw[A'R] at e;unfold wG;rw[<- e];show ŵ;show AYf;have y:=QZ u hr'.1;rw[hr'.2] at y;rw[Wi u,hr'.2];show _=yW rows ω h - x h - _;rw[y]
theorem z9y(A6R)(cw:AUJ)(h:β):je Kk h=Ο (AJP Aj h):=by
 unfold je;rw[Ib,A'R,Lf];grind
theorem z41(UA){m:HZ}(nm:m.Nodup)(sub:Lu Ý)(f:IJ):aD m (DJ Ax2)=AMp ADM:=by
 have e:aD m (DJ Ax2)=aD m (B_ (AMp A6l)):=by
  show AFP h;rw[<- Lf (l:=AYW)];unfold Aj;rw[Ia];refine lZ (AD r _);show AXV
  ·rw[d5 decide_eq_true q,EM,q]
  ·rw[Χ (TD q),EE]
 rw[e,Wd];show ŵ;have e2:aD m (DJ A6l)=aD m (B_ (GE (h∈ [A3]) ADM)):=Jn h (by
  show AXV
  ·rw[EM,d5 List.mem_singleton.mpr q.symm]
  ·rw[EE,A1r])
 rw[e2,QX (f:=C6 ADM) Η nm fun y hy=>(Ę hy (sub r hr))]
 show ADM+0=_
 grind
structure uN (rows:HG) (ws:AG) (m:HZ):Prop where
 u:FF
 nw:ws.Nodup
 cw:AUJ
 nm:m.Nodup
 sub:Lu Ý
 on:nN (S_ (A3=h))
 min:∀C:DO β,(∀w∈ws,AN0 iX iX) ->(∃x∈m,C x) ->AP3 m
theorem uN.sub'(A6S):A5L (P_ s m):=fun s hs x hx=>by
 show Ĭ w (zB.mp hs);obtain⟨r,h1,_,h3⟩:=jm.mp hx;rw[<- h3];exact L.sub r h1
theorem uN.ns(A6S):A5L s.Nodup:=AXI (by
 show Ĭ w (zB.mp hs);exact znu L.u w)
def nH (AQj)(rows:HG)(ws:AG)(m:HZ)(i j:Nat):Rat:=
 if j<m.length then(AI (i=0) (ASb AYz) (BIC AYz))
 else eC 0 0 (BCc Awu)
theorem Wj{γ:Type}[AII γ]{m:List γ}{i:Nat}(h:i<m.length):m.getD i default∈m:=ALz d6 (yU h)
theorem z1m (AQj)(AQB){m:HZ}(x:IJ):AkI (Aeg 0) (aD m (B_ (ASb h*x h))):=by
 rw[<- zvr];refine Ld (AD j hj);unfold nH;rw[Ap hj,BU]
theorem z6x (Aqr)(x:IJ){i:Nat}(hi:i<m.length)(h0:i≠0):AkI (Aeg i) (qg Kk x Awu):=by
 rw[<- z7s L.ns L.nm L.sub' x (Wj hi),<- zvr];refine Ld (AD j hj);unfold nH;rw[Ap hj,Χ h0]
theorem z0e (AQj){m:HZ}{h0:β}{hs:HZ}(e:m=ç){h:β}(hh:m_):∃i,i<m.length/\i≠0/\m.getD i default=h:=by
 show At i hi q List.getElem_of_mem hh;subst e;show HQ By Afh ρ
 show AdL List.getElem?_cons_succ Xs q;rfl
theorem uN.null (Aqr)(x:IJ)(z:Aip (dY m.length BJb=0)):nN (x h=0):=by
 cases em:m with
 | nil=>intro h hh;cases hh
 | cons h0 hs=>
  have nm:=L.nm;have sub:=L.sub';have on:=L.on;have mn:=L.min;rw[em] at nm sub on mn;refine z9h L.ns nm sub (Iq h hh) (fun C hC=>mn C (ř (hC _ (zB.mpr (Hk w hw))))) (fun h hh=> ?_) ?_
  ·show AS r h1 h2 on h hh;exact⟨AIf kW,zB.mpr (Hk ω (L.cw r h1)),jm.mpr (JS r h1 h2)⟩
  ·obtain⟨i,hi,i0,e⟩:=z0e em hh;rw[<- e,<- BAK];exact z i hi
  ·rw[<- em,<- z1m];exact z 0 (by rw[em];simp)
theorem uN.ans (Aqr)(x:IJ)(z:Aip (AtK i=dY m.length BJb)):(∀h∈m,ţ)/\AlS:=by
 have e0:m≠ [] ->AlS:=fun ne=>by
  have q:=z 0 (List.length_pos_iff.mpr ne);rw[z1m] at q;unfold nH at q;rw[AYw,BU] at q;rw[<- z41 L.nm L.sub,q];exact Jn h (Fu (z9y L.u L.nw L.cw))
 cases em:m with
 | nil=>
  show CD (AGU (by cases hh))
  cases er:rows with
  | nil=>rfl
  | cons r rs=>
   have:=L.sub r (B6 er zY)
   show A_ em;show CH
 | cons h0 hs=>
  show BO (AGU (z9r L.u L.nw L.cw x h (ycn (S:=ws) (k:=kW rows) (h0:=h0) (hs:=hs) (fun w _=>znu L.u w) (em ▸ L.nm) (fun w hw y hy=>(BA em (L.sub' _ (zB.mpr (Hk w hw)) y hy))) Ab6 x (Iq g hg) h hh))) (e0 (ALg em))
  obtain⟨i,hi,i0,e⟩:=z0e em hg;have q:=z i hi;rw[BAK] at q;unfold nH at q;rw[AYw,Χ i0,e] at q;exact q.symm
#where
section
variable{α γ:Type}[AAn γ]
theorem z2f{f:DA}{p:xF}:ACJ (aD l f=aD (l.filter p) f+aD (l.filter fun a=> ! p a) f):=by
 intro l;rw[Ia,Ia,<- QM];show AFP a;cases p a
 ·simp [Rat.zero_add]
 ·simp [Rat.add_zero]
theorem z47(key:α ->γ)(g:DA)(φ:γ ->Rat):∀(n:Nat) (l:AG),l.length<=n ->(∀c,aD (l.filter fun a=>(Θ (key a=c))) g=0) ->aD l (Μ a (φ (key a)*g a))=0:=by
 intro n;induction n with
 | zero=>
  intro l hl _;obtain rfl:l= []:=List.eq_nil_of_length_eq_zero ξ
  rfl
 | succ n ih=>
  intro l hl h;cases l with
  | nil=>rfl
  | cons a r=>
   rw[z2f (p:=OY Ĥ)];have e1:aD A1L A9W=0:=by
    have:aD A1L A9W=aD (AKL (OY Ĥ)) (TH (φ (key a)*g b)):=
     lZ fun b hb=>by rw[of_decide_eq_true (List.mem_filter.mp hb).2]
    rw[this,HY,h,Rat.mul_zero]
   rw[e1,ih]
   ·show PV
   ·have:BI AKL (OY (! Ĥ))<=r.length:=KL List.filter_cons_of_neg Η Afu
    simp only [List.length_cons] at hl;omega
   ·intro c;rw[List.filter_filter];by_cases e:c=key a
    ·subst e;show JJ (AKL (TH (Ĥ&& ! Ĥ))= []) (List.filter_eq_nil_iff.mpr fun b _=>AY)
     rfl
    ·rw[show(a::r).filter (TH (Θ (key b=c)&& ! Ĥ))=AKL (TH (Θ (key b=c))) from BJT b (by
      show D8 (key b=c)
      ·simp [q,e]
      ·simp [q])]
     exact h c
theorem ygd{l:AG}{f d:DA}(o:aD l (Μ a (d a*f a))=0):AzI (Agj (f a*f a)+ALu (d a*d a)):=by
 have:AzI (Agj (f a*f a+d a*d a+2* (d a*f a))):=Jn a IP
 rw[this,QM,QM,HY,o,Rat.mul_zero,Rat.add_zero]
#where
section
variable{α β:Type}[AL2][AAn β]
def fW(rows:HG)(x:IJ)(r:mB):Rat:=A9u
theorem z7v(rows:HG)(x:IJ)(w:α):aD ABQ AeH=0:=by
 have e:aD ABQ AeH=aD ABQ AcB - aD ABQ (C6 AVp):=by
  rw[<- Jz];show ŵ;unfold fW;rw[AWH]
 rw[e,Lf];by_cases z:A0N
 ·rw[z];show Ο 0 - Ο (D9 0)* (0/ Ο (D9 0))=0
  show PV
 ·show ft n0 (Ο ABR≠0) (z (List.eq_nil_of_length_eq_zero (by exact_mod_cast q)))
  rw[Rat.div_def,Rat.mul_comm (Ο ABR),Rat.mul_assoc,ı n0,Rat.mul_one,Rat.sub_self]
theorem zyp(BBg)(p:DA)(q:IJ):aD rows AtG=0:=by
 have e:aD rows AtG=Ah_ (p ω)+AMp (q A3*dr):=BA QM (Jn r IP)
 rw[e,A_Z ω p BIy (k6 (z7v rows x w)),
  A_Z A3 q CC ņ]
 ·show PV
 ·by_cases z:S_ (A3=h)
  ·obtain⟨r,hr,rfl⟩:=z;exact ev r hr
  ·show JJ (rows.filter (E_ AYj)= []) (List.filter_eq_nil_iff.mpr fun r hr=>by
    simp only [decide_eq_true_eq];exact fun e=>z AVK)
   rfl
theorem zwk(BBg)(p:DA)(q:IJ){g:mB ->Rat}(hg:Lu (g r=dr+ vF)):
  Ah_ dr<=aD rows AnG/\ (aD rows (E_ (dr*dr))=aD rows AnG ->Lu (g r=dr)):=by
 have e:aD rows AnG=Ah_ dr+AMp (vF* vF):=BA (ygd (zyp ev p q)) (AnS (Fu (hg r hr)))
 have n:0<=AMp (vF* vF):=Wf fun r _=>zj9 _;show BO IP (Α z r hr)
 have z2:aD rows (E_ (vF* vF))=0:=IP
 have:=z3j (QV (OM _ (zj9 _)) z2 r hr);rw[hg r hr,this,Rat.add_zero]
#where
section
variable{α β:Type}[AL2][AAn β]
theorem zvu(BBZ)(ev:AdC)(ev' :BH4):Lu (fW rows x' r=dr):=by
 have h1:=zwk ev (k6 (AVp - Ayk)) (DJ (x h - x' h)) (g:=fW rows x') fun r _=>(sf fW)
 have h2:=zwk ev' (k6 (Ayk - AVp)) (DJ (x' h - x h)) (g:=fW rows x) fun r _=>(sf fW)
 exact h1.2 (Rat.le_antisymm eh h2.1)
theorem z68(BBZ)(A_F){r s:mB}(hr:r∈rows)(hs:s∈rows)(e:ω=s.1):Al3=x W_ - x' W_:=by
 have h1:=zvu ev ev' r hr;have h2:=zvu ev ev' s hs;unfold fW at h1 h2;rw[e] at h1
 grind
theorem z5r(UA){x x' :IJ}{m:HZ}(A_F)(em:Ami)(em' :Wh rows x' m)
  (min:∀C:DO β,(Ò (∀s∈rows,ω=s.1 ->C A3 ->C W_)) ->(∃h∈m,C h) ->nN (C h)) (on:nN (S_ (A3=h))):nN (x h=x' h):=by
 intro h0 hh;have same:=min (DJ (x h - x' h=x h0 - x' h0)) (fun r hr s hs e c=>by
  have:=z68 ev ev' hr hs e;show YU;exact c) (Hk h0 hh)
 have z:aD Ty (E_ Al3)=0:=by rw[Jz,em,em'];show PV
 have z2:aD Ty (E_ Al3)=aD Ty (C6 (x h0 - x' h0)):=AnS (same _ Amb);rw[z2,Lf] at z;show AS r hr e on h0 hh;have pos:0< AJP ofM m:=List.length_pos_iff.mpr fun q=>by
  have:=lD.mpr ⟨hr,e ▸ hh⟩;show A_ q;show CH
 show X9 (Rat.mul_eq_zero.mp z) q
 ·have:AJP ofM m=0:=AKj q
  omega
 ·grind
#where
#print HM
namespace L3
open PySem L2 HM
def Q5(AZ):cH:=C8 (∃i j,A1Z)
def Ie(EZ):cH:=m3 (∃i j:Int,ds= ć/\AUY/\AL_/\E2 j 0 False A5W)
def Ov(EZ):cH:=AZ8 (OV (a+b))
def JB(EZ):cH:=AZ8 (OV (a - b))
def Wk(EZ):cH:=AZ8 (OV (a*b))
def Q6(EZ):cH:=m3 (∃a b:Rat,BGo (E2 b 0 False (OV (a/b))))
def GD(EZ):cH:=AZ8 (P (.bl (decide (a<b))))
def cZ(ns:Ξ)(k:Nat):Int:=ASy Agx ns[k] (let m:Int:=E2 ns [] (CS*7919+5) ((ns.getD ((k*7) % ns.length) 0*48271+ CS*7919).fmod 2147483647)
 (m*m).fmod 2147483629)
def vH(AZ):cH:=L8 ns Ξ k Nat (ds= [dk,.int k]/\ko/\k<1000/\I_ (cZ ns k))
def yi5(AZ):cH:=L8 x D f Rat (ds= [x,qD f]/\ (x= Ι\/∃g,x=qD g)/\∀b:Bool,(b=true↔x=qD f) ->Ki b)
def z0i(AZ):cH:=Zc
def Ow(EZ):cH:=C8 (∃qs:Ψ,ds= [uC]/\ Ā/\ Ale/\OV (fL qs))
def Q7(EZ):cH:=m3 (∃qs:Ψ,ds= [uC]/\AUP/\ Ā/\ Ale/\E2 qs [] False (OV (fL qs/ ma)))
def Q8(EZ):cH:=Alv AUP (AUe xP qs qD)
abbrev Mx:=P4
abbrev Mq:=AHY Rat
def Wl(k s:Nat)(a:Mx):Mx:=D3 (a (rQ k s i))
def iG(m:Nat)(f:fR):D:= .lst (AVm (Ĳ j))
def pN(n m:Nat)(a:Mx):D:= .lst (AFh ACm)
def o8(m:Nat)(f:OU):D:= .lst (AVm (qD (f j)))
def GF(n m:Nat)(a:Mq):D:= .lst (AFh (o8 m (a i)))
def SzE(AGA):Prop:=cY q.num<=128/\ į∣27720
def qj(N:Nat)(d:Int)(q:Rat):Prop:=∃t:Int,q=Lo t d/\cY t<=N
def Ig(n:Nat):Nat:=147* GL+1
def Wm(AZ):cH:=L8 m Nat f OU (ds= [o8 m f]/\m<=13/\ (∀j,j<m ->SzE (f j))/\∀(μ:Int) (g:fR),0<μ ->(∀j,j<m ->Ο (g j)=Ο μ*f j) ->(∀j,Ak_<=143) ->P (iG m g))
def Wn(AZ):cH:=C8 (∃(m k:Nat) (f g:fR) (p:Int),ds= [iG m f,iG m g,OS,.int p]/\k<m/\p≠0/\cY p<=9000/\ (∀j,cY (f j)<=9000)/\ (∀j,Ak_<=9000)/\P (iG m (DF (AzL p))))
def Du(k:Nat)(p:Int)(a:Mx):Mx:=fun i j=>(E2 i k (a k j) BEZ)
def Wo(AZ):cH:=C8 (∃(a:Mx) (n m k:Nat) (p:Int),ds= [AZk,OS,.int p]/\k<n/\k<m/\p≠0/\cY p<=9000/\ (ANS (AMU a<=9000))/\P (pN n m (Du k p a)))
def Wq(AZ):cH:=C8 (∃(a:Mx) (n m k s:Nat),ds= [AZk,OS,.int s]/\k<n/\s<n/\A8i)
def Wr(EZ):cH:=m3 (∃(a:Mx) (n m k:Nat),ds= [AZk,.int k]/\n<=1000/\k<n/\k<m/\ (∀s,k<=s ->s<n ->a s k≠0 ->A8i)/\ ((∀s,k<=s ->s<n ->a s k=0) ->False))
def Sys(n:Nat)(A:Mq)(ds:ψ):Prop:=ds= [GF n n A,o8 n AlA]/\n<=12/\∀i j,CO ->j<=n ->SzE (A i j)
def Slv(n:Nat)(A:Mq)(x:OU):Prop:=∀r,r<n ->A r n=dY n (DF (A r j*x j))
def Ws(EZ):cH:=m3 (∃(n:Nat) (A:Mq),Sys n A ds/\ (∀(y:OU) (k:Nat),k<n ->y k=1 ->(∀r,r<n ->(dY n (DF (A r j*y j)))=0) ->False)/\∀x,Slv n A x ->(ASd (eD<=Ig n) (AFN (qj (Ig n) d (x i)))) ->P (o8 n x))
def sX:Str:=È "mean"
def Ox:Str:=È "middle"
def GJ:Str:=È "pair"
def mids(l:Ψ):Ψ:=E2 Al6 1 [AVx] [Ass,AVx]
def Wt(AZ):cH:=AQ6 l Ψ (No l.map qD) (1<=l.length) (AUe mids l qD)
theorem yap(AO Wt):LF:=aS
def Wu(AZ):cH:=C8 (∃r:Str,ds= [.str r]/\I_ (AI (r=GJ) 2 1))
def Dv(n:Nat)(p:Pt):Prop:=Sz n AM/\Sz n C9
def wH(ps:DI):Bool:=Θ (1<ps.length)&&(List.zipWith HS ps ps.tail).all id
def Wv(AZ):cH:=C8 (∃a b:Pt,ds= [pD a,pD b]/\Dv 4000 a/\Dv 4000 b/\Ki (HS a b))
def Ww(AZ):cH:=AQ6 ps DI AxS AtI (P (.bl (wH ps)))
def Wx(AZ):cH:=C8 (∃(l r:Pt) (x:Rat),ds= [pD l,pD r,qD x]/\Dv 300 l/\Dv 300 r/\AmP/\l.1<ω/\OV (yN l r x))
def Oz(EZ):cH:=m3 (∃ps:DI,ds= [AxS]/\ AtI/\if wH ps=true then P (.tup (ps.map pD)) else False)
def rR(c:Cls)(ps:DI):D:= .obj c.Scale ["points"] [.tup Ŗ]
def Wy(EZ):cH:=L8 ps DI x Rat (ds= [AVu,qD x]/\AjA/\gL/\ AXA/\AmP/\OV (GC ps x))
def ycd(AZ):cH:=BEv 10 (∀ps:DI,ps.length=m ->gL ->AXA ->M0 Ŗ)
def intD(n:Nat):D:= .int EO
def rC(U1):Ψ:=(xP qs).reverse
def GK(f:Ψ)(k:Nat):Bool:=Θ (k+1=f.length) || Θ (f.getD EL 0<AWG)
def iH(f:Ψ):AT:=0::AA (List.range f.length).filter (GK f) (· +1)
def Fall(f:Ψ):Prop:=∀i j,i<=j ->j<f.length ->f.getD j 0<=f.getD i 0
def yik(AZ):cH:=Alv AUP (AUe iH Î intD)
def qL(l:Ξ):D:= .lst AgZ
def Ih(b:Bd):D:= AEQ b.1 b.2
def xR(bs:ID):D:= No bs.map Ih
def iY(qs:Ψ)(m:Rat):Nat:=BI qs.filter (IL (!(Θ (x<m))))
def iI(U1):Ξ:=AA iH Î Int.ofNat
def Last(S:Ξ)(n:Int):Prop:=Ą S.map D.int GS (B4 n)
def sY(AZ4):Bool:=(gk AUT qs.length bs.reverse bs.length).contains 0
def yP(AZ4):Ξ:=ATj fun k=>(ApQ fk bs EL)
def Wz(AZ4):D:=if ApP then qL (yP qs bs) else AEO
def Q9(AZ):cH:=L8 x Int b Bd (ds= [.int x,Ih b]/\Ki (wF b x))
def WD(AZ):cH:=C8 (∃(S l:Ξ) (b:Bd),ds= [qL S,qL l,Ih b]/\P (qL (yO S l b)))
def OD(AZ):cH:=L8 S Ξ bs ID (ds= Ad4/\t7/\M0 (ABT ARc i (qL (rk S bs i))))
def yjn(AZ):cH:=C8 (∃ls:iN Int,ds= [No ls.map qL]/\M0 (ls.map qL))
def WK(AZ):cH:=L8 m Rat qs Ψ (ds= [qD m,uC]/\Pp m/\ Ā/\I_ (iY qs m))
def WL(AZ):cH:=Alv Ajy (P (qL AUT))
def WM(AZ):cH:=BBK A9Y
def WQ(AZ):cH:=BBJ Ad4 (P (qL (ABT bs.length k AFe)))
def WR(EZ):cH:=m3 (∃(qs:Ψ) (bs:ID),ds= [uC,xR bs]/\Ajy/\ Ā/\t7/\ (ApP ->P (qL (yP qs bs)))/\ (sY qs bs=false ->False))
def ye6(AZ):cH:=L8 qs Ψ bs ID (ds= [uC,xR bs]/\Ajy/\ Ā/\t7/\P (Wz qs bs))
def z9k(AZ):cH:=BBK BDK
def z6t(AZ):cH:=BBJ [qL (ATj (YO AFe)),qL S,xR bs,.lst BDK] Ag5
def yhb(AZ):cH:=ArT (∀qs:Ψ,qs.length<=60 ->(AA_ (Sz 400 q)) ->M0 (qs.map qD))
def ycv(AZ):cH:=BEv 60 (∀bs:ID,bs.length<=12 ->P (xR bs))
def bD:AKx ->D | none=> Ι | some q=>qD q
def Cr(f:Ψ)(c:Nat):AKx:=E2 c 0 none (some (f.getD ATz 0))
def isIn(m:Rat):mM AKx | none=>false | some q=> !(Θ (m<q))
def WT(w m:Rat):mM AKx | none=>false | some q=>Θ (m<q)&&A4l
def nZ(bs:OI)(m:Rat):Nat:=bs.findIdx (isIn m)
def Lg(n:Nat)(b:AKx):Prop:=∀q,b=some q ->Sz n q
def WW(AZ):cH:=L8 qs Ψ cs AT (ds= [uC,AUC cs.map]/\AUP/\ Ā/\0<cs.length/\ (AXQ Atq)/\AUe cs.dropLast.map A4G bD)
def WX(AZ):cH:=A7r (ds= [AGc,qD m]/\ AWc/\Pp m/\Axb)
def z3e(AZ):cH:=C8 (∃q w m:Rat,ds= ApB (qD q)/\AMb/\Pp w/\Akr/\Ki (Θ (m<q)&&A4l))
def yix(AZ):cH:=BAW (ds= ApB AGc/\t7/\ (AQV 1900)/\Pp w/\Akr/\A_u)
def ycg(AZ):cH:=L8 ns Ξ es AT (ds= [dk,AUC es.map]/\ko/\0<es.length/\∀cs:AT,cs.length<=10 ->AuX ->(AXQ (c∈es)) ->M0 ((cs++ [es.getD (es.length - 1) 0]).map intD))
def yeh(AZ):cH:=A7r (ds= [AGc,qD m]/\t7/\ AWc/\Pp m/\Axb)
def yif(AZ):cH:=BAW (ds= ApB AGc/\ (AQV 1900)/\Pp w/\Akr/\A_u)
def ydd(AZ):cH:=C8 (∃(bs:OI) (m:Rat) (x:Int),ds= [AGc,qD m,.int x]/\t7/\ (AQV 150)/\Sz 150 m/\∀w,Sz 400 w ->OV w)
def WY(f:Ψ)(c:Nat):Prop:=c<=f.length/\ (0<c ->c<f.length ->f.getD c 0<f.getD ATz 0)
def yd5(AZ):cH:=L8 f Ψ cs AT (ds= [No f.map qD,AUC (cs++ [f.length]).map,No (AA cs.map (Cr f)) bD]/\f.length<=1000/\cs.length<=1000/\ (∀q∈f,APQ)/\Fall f/\AuX/\ (AXQ (WY f c))/\Ag5)
abbrev Rw:=Str×Str×Int
def qM(r:Rw):D:= .tup A3V
def bO(rs:A5):D:= No rs.map qM
def vP(Ano):ο:=AA rows.filter (Kb (Θ (ω=w))) fun r=>A3
structure Fam (rows:A5) (Ss:GV):Prop where
 of:AJe (Axu S)
 to:Lu (∃S∈Ss,AIn S (AIf vP))
structure Ek (rows:A5) (ms:GV):Prop where
 sr:AN1 (ANC m.Pairwise)
 up:ms.Pairwise fun a b=>Apj
 pi:∃Ss,Fam rows Ss/\mU Ss ms
def Cu(p:ο×ψ):T:= ą ((AM).map .inr) (C9).map
structure Lh (rows:A5) (ws:ο) (ps:AKN):Prop where
 len:Asx
 nd:ws.Nodup
 lw:Atr
 wm:Aic
 pt:BDj
 ex:Av8
def OJ(AZ):tZ:=AQ6 rows A5 AEZ BJZ (∀ws ps,AeM ->P (.dic QU AQ0))
def Ra(AZ):cH:=C8 (∃g hs:ο,ds= [gl g,gl hs]/\Ki (dX g hs))
def W0(AZ):cH:=C8 (∃(fs:GV) (hs U:ο),ds= [No fs.map gl,gl hs]/\hs.length+fs.flatten.length<4000/\fs.length<4000/\AYG/\ (∀x∈hs,x∈U)/\ (AYU (P_ f U))/\
 ∀g:ο,g.Pairwise (r_ Ï) ->(∀x,x∈g↔x∈hs\/Aqu hs) ->M0 ((fs.filter (Μ f (! ABs))++ [g]).map gl))
def W3(AZ):tZ:=A2b (ds= [AEZ]/\BJZ/\AYG/\ AR6/\∀ms,AKO ->M0 Az4)
def Cds(N:Nat)(m:ο)(x:DU):Prop:=ASd (eD<=N) (nN (qj N d (x h)))
def Li(Ano):D:= .dic AT2 (lL Ags)
def vQ(A0Z):D:= .lst (ws.map (Li rows))
structure LB (rows:A5):Prop where
 few:APy 200
 mm:Lu ADP
 wk:∀w,ABR<=12
def yQ(A0Z):Prop:=ws.length<=200/\kR Ŏ
def Lj(AZ):cH:=BEY (ds= [.str h,AR7]/\P (vQ rows (ws.filter fun w=>AfX)))
def W4(AZ):cH:=C8 (∃(rows:A5) (ws:ο) (h o:Str),BBc (.str o) (OV (fQ Kk h o)))
def W5(AZ):cH:=C8 (∃(rows:A5) (ws m:ο) (h:Str),BBc (gl m) (M0 (m.map fun o=>qD (fQ Kk h o))))
def W6(AZ):cH:=L8 rows A5 w Str (ds= [Li rows w]/\TL/\Ŏ/\OV (AiQ))
def W7(AZ):cH:=BEY (ds= [.str h,AR7]/\FF/\TL/\ADN/\OV BAd)
def W8(AZ):cH:=C8 (∃(rows:A5) (ws m:ο),ds= [gl m,AR7]/\AcW/\TL/\ADN/\m≠ []/\m.length<=12/\
 ∀x:DU,(∀h∈m,ţ) ->AlS ->AbB ->M0 (AMT m.map x))
structure Lean (rows:A5) (ms:GV) (x:DU):Prop where
 g:AKO
 ev:AN1 (nN ţ)
 em:AN1 Ami
 sz:AN1 AbB
def gM(AaR):T:= ą Ŋ Awi
def sZ(AaR):D:= .dik Ŋ (hs.map (AJu x))
def W9(AZ):tZ:=A2b (ds= [AEZ]/\FF/\TL/\U.length<=12/\ AR6/\∀ms x,AOX ->P (gM ms.flatten x))
def Rb(AZ):cH:=L8 n Int m Nat (ds= AAt n m/\m<=20/\∀xs:ο,AKc m ->xs.Nodup ->M0 AEz)
def Xa(AZ):cH:=C8 (∃a b d e n:Int,ds= [ADr,ADs,.int d,.int e,.int n]/\e≠0/\∀t:Bool,Ki t)
def Xb(AZ):cH:=C8 (∃(ns:Ξ) (hands works:Nat),ds= [dk,.int hands,.int works]/\ko/\1<=hands/\hands<=5/\works<=8/\
 BCH (U.length<=hands) (P (bO rows)))
def Xc(AZ):cH:=C8 (∃i j:Int,A1Z)
theorem z51(AO OJ):LF:=aS
theorem ylw(AO Ra):Ch:=Eg
theorem yby(AO W0):Ch:=g6
theorem yae(AO W3):LF:=Eg
theorem zub(AO Lj):Ch:=g6
theorem yg7(AO W4):ZE:=AN7
theorem yao(AO W5):ZE:=AN7
theorem zy2(AO W6):LF:=Eg
theorem z9m(AO W7):Ch:=g6
theorem zna(AO W8):Ch:=g6
theorem z23(AO W9):LF:=Eg
theorem zxz(AO Rb):Ch:=Eg
theorem zwd(AO Xa):ph 5:=AGu
theorem z26(AO Xb):ZE:=g6
theorem ztg(AO Xc):Ch:=Eg
def jE(hs:ο)(h:Str):ο:=AQG m_ hs hs h
def Rf(AZ):cH:=C8 (∃i j:Int,ds= ć/\AUY/\AL_/\v_/\A5W)
theorem z8c(AO Rf):Ch:=Eg
def Xd(r:Str)(qs:Ψ):Rat:=E2 r sX (fL qs/ ma) (Oo (xP qs))
def Rg(AZ):cH:=C8 (∃(r:Str) (qs:Ψ) (g:D),ds= [.str r,uC,g]/\ A1n/\qs≠ []/\AhC/\ (AA_ AMb)/\ Ale/\OV (Xd r qs))
theorem yia(AO Rg):ZE:=g6
structure gR where
 rule:D
 gap:D
 scale:D
 leans:D
 sheets:D
 marks:D
def gR.fs:ο:= ["rule","gap","scale","kept_leanings","sheets","marks"]
def gR.xs(S:gR):ψ:= [S.rule,S.gap,S.scale,S.leans,S.sheets,S.marks]
def gR.d(c:Cls)(S:gR):Ķ ->D
 | none=> .obj c.ak gR.fs S.xs
 | ĸ=> .obj c.ak Aw' (S.xs++ [b])
structure jQ where
 rule:D
 gap:D
 scale:D
 leans:D
 sheets:T
 marks:T
def jQ.ts(S:jQ):EX:= [.leaf S.rule,.leaf S.gap,.leaf S.scale,.leaf S.leans,S.sheets,S.marks]
def jQ.t(c:Cls)(S:jQ):Ķ ->T
 | none=> .ob c.ak gR.fs S.ts
 | ĸ=> .ob c.ak Aw' (S.ts++ [.leaf b])
def jQ.pl(S:jQ):gR:=⟨S.rule,S.gap,S.scale,S.leans,jl S.sheets,jl S.marks⟩
structure O1 (ps:DI):Prop where
 len:AjA
 gd:gL
 sz:JE ps (Dv 300 p)
structure lU where
 r:Str
 ps:DI
 hs:ο
 x:DU
def lU.xf(p:lU)(h:Str):Rat:=GE (h∈p.hs) (p.x h)
def lU.lv(Ao6):Ψ:=L.map fun h=>AXY
def lU.wt(Ao6):Rat:=Xd p.r (p.lv L f)
def lU.mk'(Ao6):Rat:=GC p.ps (p.wt L f)
structure lU.Ok (p:lU):Prop where
 r:p.r=sX\/p.r=Ox
 sc:O1 p.ps
 bt:A2L (qj 1200 d (p.xf h))
def rD(AX2):D:= .dik AgK (L.map (B_ (Ĳ h)))
structure yR (AX2):Prop where
 ne:L≠ []
 few:L.length<=12
 mm:A1T
abbrev Ks:=Str ->ο
abbrev Vs:=Str ->Str ->Int
def stS(c:Cls)(p:lU)(g:D)(fH ws:ο)(Aoa):jQ:=
 Avu (AV' Aiu) (gM ws (B2 AXe))
def Ii(bs:OI):D:= AGc
def qN(c:Cls)(p:lU)(g:D)(fH ws:ο)(bs:OI)(Aoa):T:=jQ.t c (BHF ws K V) (some (Ii bs))
structure vR (p:lU) (fH ws:ο) (bs:OI):Prop where
 p:p.Ok
 so:ANC ws.Pairwise
 few:BJp
 few0:fH.length<64
 sm:∀w,w∈fH↔AFI
 bz:IT bs (Lg 4000 b)
def stepK(K:Ks)(r:Rw):Ks:=B2 (E2 w ω AZ7 (K w))
def stepV(V:Vs)(r:Rw):Vs:=fun w h=>if w=ω/\h=A3 then LV else V w h
def Xe(EZ):cH:=AOb (∃S b hand ks ys,ds= [AGj,.str hand]/\jv S.leans ks ys/\Q ((gD ks ys (CL hand)).getD AdS))
def Rh(EZ):cH:=AOb (∃S b work ks ys,ds= [AGj,AK5]/\AXd/\Am7/\Q Ι)
def Ri(EZ):cH:=AOb (∃S b work ks ys d,ds= [AGj,AK5]/\AXd/\gD ks ys AQq=some d/\Q d)
def Xf(EZ):cH:=AOb (∃S bs work ks ys d,ds= [A2g,AK5]/\AXd/\gD ks ys AQq=some (qD d)/\Pp d/\ AWc/\Q (B4 (nZ bs d)))
def Rj(EZ):cH:=AOb (∃(S:gR) (b:Ķ) (work:Str) (L:ο) (f:cn) (p:lU),ds= [AGj,AK5,rD L f]/\S.rule= .str p.r/\S.scale=Adt/\S.leans=AeW/\p.Ok/\yR L f/\Q (qD (p.mk' L f)))
def xU(BDm):ψ:=ws.map fun w=> A4Y
def Ij(EZ):tZ:=C8 (∃(S:gR) (ws:ο) (v:DU) (bs:OI),ds= [A2g]/\S.marks=sZ ws v/\ws.Pairwise (r_ Ï)/\BJp/\ (∀w∈ws,Sz 4000 (v w))/\ AWc/\M0 (HA (xU ws v bs).map))
def Xg(EZ):tZ:=C8 (∃S b work ks ys kz yz d kd xd,ds= [AGj,AK5]/\AXd/\Am7/\jv S.sheets kz yz/\gD kz yz AQq=some d/\jv d kd xd/\P (.dic kd (HA xd.map)))
def uO(p:lU)(L L' :ο)(f f' :cn)(w:Str):D:= .lst (AI (p.mk' L' f' =p.mk' L f) [] [.str w])
def Rk(EZ):yj:=Aaj (∃p g fH ws bs K V w K' V',t=AsG/\ds= [.str w,rD (K' w) (V' w)]/\AW9/\AFI/\ (∀u,u≠w ->K' u=K u/\V' u=V u)/\yR (K' w) (V' w)/\P (AUw K' V') (uO p (K w) (K' w) (V w) (V' w) w))
def Rm(EZ):yj:=Aaj (∃p g fH ws bs K V,∃r:Rw,t=AsG/\ds= A3V/\AW9/\Ab7/\ BI K ω<=12/\yR AvW (stepV V r ω)/\P (AUw (stepK K r) (stepV V r)) (Aow K AvW V (stepV V r ω) ω))
structure kY (W:ο) (L:ο) (f:cn):Prop where
 ne:L≠ []
 nd:L.Nodup
 sub:∀h∈L,h∈W
 mm:A1T
def O2(EZ):yj:=Aaj (∃p g fH ws bs K V W,∃A:A5,t=AsG/\ds= [bO A]/\AW9/\AUc/\ (∀w∈ws,Ay')/\AwC/\ (∀r∈A,A0u)/\
 ∀told:ο,(∀w,A2x≠AXe ->w∈told) ->P (AUw (A.foldl stepK K) (A.foldl stepV V)) (gl told))
def brs(qs:Ψ)(n:Nat):OI:=(((yP qs (List.replicate n XB)).map Int.toNat).dropLast).map (Cr Î)
def mW(rows:A5):Vs:=fun w h=>(yW rows w h).num
def Ik(EZ):yj:=Aaj (∃(rows:A5) (U:ο) (r:Str) (g:D) (ps:DI) (n:Nat),t= .ob c.ak [] []/\ds= [AEZ,.str r,g,AVu,Aql]/\FF/\TL/\AWk/\ AR6/\ASD/\O1 ps/\ A1n/\0<n/\n<=3/\
 ∀ms x fH ws bs,Ρ AOX (∀w,Ac7) (bs=brs (ws.map (B2 (lU.mk' Aab OB cr))) n) (vR Aab fH ws bs) (P (qN c Aab g fH ws bs qa APm) Ι))
def Xh(AZ):cH:=ArT (∀ps:DI,O1 ps ->M0 Ŗ)
def Xi(AZ):cH:=L8 ns Ξ A A5 (ds= [dk,bO A]/\ko/\AwC/\∀B:A5,Ai6 ->P (bO B))
def Xj(AZ):cH:=C8 (∃(ns:Ξ) (rows:A5) (U pe:ο),ds= [dk,AEZ,gl pe]/\ko/\ASD/\AYG/\ (Ò (ω∈U))/\pe≠ []/\
 ∀A:A5,A.length<=8 ->Uq A ->(∀r∈A,(∃s∈rows,s.1=ω)/\a_ pe/\ADP) ->P (bO A))
theorem z6l{c:Cls}{t ds P E}(h:Ik c t ds P E):ph 5:=by obtain⟨_,_,_,_,_,_,_,rfl,_⟩:=h;rfl
theorem z8r{c:Cls}{t ds P E}(h:Ik c t ds P E):Ik c t ds (fun t d=>d= Ι/\P t d) E:=by
 obtain⟨rows,U,r,g,ps,n,h1,h2,h3,h4,h5,h6,h7,h8,h9,h10,h11,h⟩:=h;exact⟨rows,U,r,g,ps,n,h1,h2,h3,h4,h5,h6,h7,h8,h9,h10,h11,fun ms x fH ws bs a b d e=>(HU (A'6 bs a b d e))⟩
theorem zlx(AO Xe):Ch:=AGu
theorem zj1(AO Rh):Ch:=AGu
theorem zqz(AO Ri):Ch:=AmM
theorem zop(AO Xf):Ch:=AmM
theorem zlk(AO Rj):ZE:=AmM
theorem zpm(AO Ij):LF:=AN7
theorem zi2(AO Xg):Ch:=Awl
theorem zl2{c:Cls}{t ds P E}(h:Rk c t ds P E):Ch:=by obtain⟨_,_,_,_,_,_,_,_,_,_,_,rfl,_⟩:=h;rfl
theorem znf{c:Cls}{t ds P E}(h:Rm c t ds P E):ZE:=by obtain⟨_,_,_,_,_,_,_,_,_,rfl,_⟩:=h;rfl
theorem z1y{c:Cls}{t ds P E}(h:O2 c t ds P E):LF:=Awl
theorem zk9(AO Xh):LF:=aS
theorem zve(AO Xi):Ch:=Eg
theorem zts(AO Xj):ZE:=AN7
def zeb(π):aF:=(dh (cT (cB (Jw true) Ζ AQ4))
 nY
 bG)
def zms(π):aF:=(bw AkJ)
def zhp(π):aF:=(aG (fJ (nR c.ak "must_have" (Rh c) Τ ŏ))
 (zms K c))
def zzw(π):aF:=(bw (cB qZ AW6 AnM))
def zjy(π):aF:=(dh (iT (cT (cB jj C_ ACr)) (AGK (AT8 GD C_)))
 (bw A8)
 bG)
def zkv(π):aF:=(bw gE)
def zgw(π):aF:=(aG (dR (AFo rJ) (AFf 2 3)
 (zjy K c))
 (zkv K c))
def zgz(π):aF:=(ö WX (Ó "kept_borders") (ABm (nR c.ak "mark" (Ri c) Τ) Ζ))
def zg0(π):aF:=(wz (nOf (AZq [0] (Tl zsq AQ4) dJ (eF (aj Τ (Cn (AFo (nR c.ak "mark" (Ri c) Ζ)) (AFo (nR c.ak "grade" (Xf c) Ζ))))))))
def zfz(π):aF:=(aX 7 (N_ UI (GI A8 (KU (N_ ADk (Mc NR (Pf rK (eG (cB mC vk E6) (DS pU AiJ 1))))) 26))))
def zhy(π):aF:=(aG (aX 9 (Auu (N_ (DS cM (kN Τ 24) 48271) (DS cM (Mc vk vk) 69621)) (DS cM vk 7)))
 (zfz K c))
def zl5(π):aF:=(ANv 5 UI)
def zl7(π):aF:=(aG (qC (N0 (N_ C_ (Mc NR (Pf rK (DS mC AiJ 1))))) (EU 8)
 (zhy K c))
 (zl5 K c))
def zo4(π):aF:=(aG (aX 7 (vE ""))
 (zl7 K c))
def zq4(π):aF:=(bw ON)
def zrb(π):aF:=(aG (qC ŏ (EU 6)
 (zo4 K c))
 (zq4 K c))
def zrc(π):aF:=(aG (cL 5 (dD aq))
 (zrb K c))
def zfm(π):aF:=(aG (aX 4 (AMZ Τ 24 C_))
 (zrc K c))
def zi3(π):aF:=(aG (dh (cT (DS mC AiJ 1))
 (aX 3 Fc)
 bG)
 (zfm K c))
def zi8(π):aF:=(aG (aX 3 (N_ Fc (KU (kN Τ 3) 8)))
 (zi3 K c))
def zg5(π):aF:=(aG (aX 2 (vE "abcdefghijklmnopqrstuvwxyz"))
 (zi8 K c))
def ztt(π):aF:=(bw (KU (Mc A8 A8) 2147483629))
def zsz(π):aF:=(aG (dh (cT (ADK gE))
 (aX 2 (Auu (DS cM (GI Τ (cB bU (DS cM Ζ 7) gE)) 48271) Au'))
 bG)
 (ztt K c))
def zsk(π):aF:=(aG (aX 2 (DS cN Au' 5))
 (zsz K c))
def zox(π):aF:=(aG (dh (cT (cB qZ Ζ gE))
 (bw AjI)
 bG)
 (zsk K c))
def zo6(π):aF:=(bw (cC AEb))
def zho(π):aF:=(aG (dh (cT (DS mC Τ 2))
 (bw (eG (cB mC (KU Ζ 2) (KU A8 2)) (ADK (KU E6 4))))
 bG)
 (zo6 K c))
def zhi(π):aF:=(aG (dh (cT (DS mC Τ 1))
 (bw (jB (AyK Ζ) (AyK (AMa Ζ))))
 bG)
 (zho K c))
def zgf(π):aF:=(aG (dh (cT (DS mC Τ 0))
 (bw (ADK (KU E6 3)))
 bG)
 (zhi K c))
def zgx(π):aF:=(dh (cT (ABv Xa C_ (aj vk (aj ADk (QQ AS6)))))
 (ANv 7 (eF (aj (GI ON vk) (Cn (GI NR ADk) (AMZ AS6 12 E6)))))
 bG)
def zfk(π):aF:=(aG (NX 10 vH (pz (N_ (AE' 6 (Mc vk Ζ)) ADk)))
 (zgx K c))
def zfh(π):aF:=(qC ŏ (EU 9)
 (zfk K c))
def zky(π):aF:=(c_ (gQ (dg (pF UI (oR AS5) pC)) (dg (pF UI pC (oR AS5)))))
def zkx(π):aF:=(aG (aX 11 (AMZ (à 3) 4 (AMa (fB (SZ UI)))))
 (zky K c))
def zki(π):aF:=(aG (qC (N0 A8) (EU 8)
 (zfh K c))
 (zkx K c))
def zkn(π):aF:=(aG (cL 7 (dD aq))
 (zki K c))
def zlh(π):aF:=(aG (NX 6 Rb (Cn (à 5) Ζ))
 (zkn K c))
def zgi(π):aF:=(aG (NX 5 Rb (Cn (à 4) A8))
 (zlh K c))
def zle(π):aF:=(aG (aX 4 (GI (cf (aj Acl (aj (SD 4) A4N))) (AEx 3 4)))
 (zgi K c))
def zgm(π):aF:=(aG (aX 3 (AEx 2 4))
 (zle K c))
def zus(π):aF:=(bw (eG (ZT GD Ag0 AL7) (APM fU GD ð Þ)))
def zoi(π):aF:=(bw (eG (DS pR gE 1) (Pf ygc (AjS (AOD [] Jk (pz (dg AlU))) Wv))))
def ze0(π):aY:=(Pf tU Ζ)
def zf6(π):aF:=(dh (AGK (kL Ww Ζ))
 nY
 bG)
def z53(π):aF:=(bw (Pf Zo (dg (Th [0] Ζ dJ (cB (pG false) Τ Ζ)))))
def zwc(π):aF:=(dh (APM cT Ra E6 Ζ)
 (pW 3 ztw (N0 E6))
 bG)
def zom(π):aF:=(c_ (gQ A8 (cf (aj (dg (Tl KJ C_)) aq))))
def zx8(π):aF:=(aG (vL Τ (EU 4)
 (zwc K c))
 (zom K c))
def zyc(π):aF:=(aG (cL 3 Au3)
 (zx8 K c))
def zvf(π):aF:=(aG (aX 2 (dg (Th [1] Τ (AGK (i5 Ra Ζ)) Τ)))
 (zyc K c))
def zic(π):aF:=(Vt 1 2 3 E6)
def ztj(π):aF:=(aG (dh (Vq 1 A8)
 (Vr 1 2 Vj)
 bG)
 (zic K c))
def zm2(π):aF:=(wz (nV 1))
def zvn(π):aF:=(aG (vL Τ (fj 3 (aZ (EU 2) (Adc 3 4)))
 (ztj K c))
 (zm2 K c))
def zrf(π):aF:=(aG (yF 1 Vj)
 (zvn K c))
def zwv(π):aF:=(NX 1 W0 (QQ (dg (Tl zys A8))))
def zxl(π):aF:=(wz (nOf (Tl z7d Ζ)))
def zx3(π):aF:=(aG (dR (zzj (VI xJ (OJ c) Τ)) (EU 2)
 (zwv K c))
 (zxl K c))
def zvy(π):aF:=(aG (aX 1 AMI)
 (zx3 K c))
def zp2(π):aF:=(aX 1 A8)
def zqe(π):aF:=(aG (aX 0 Ζ)
 (zp2 K c))
def zs6(π):aF:=(aG (aX 2 AyD)
 (zqe K c))
def zu0(π):aF:=(bw At0)
def zrw(π):aF:=(aG (Av (cT (DS pU Ζ 0))
 (zs6 K c))
 (zu0 K c))
def zod(π):aF:=(aX 1 (Mc Ζ (cB d8 (ie A8) (AT8 Q5 (ie A8)))))
def zqt(π):aF:=(AFQ (AUx [1]) (Mc (WN Τ) (cB d8 Ζ Þ)))
def zq7(π):aF:=(aG (vL Τ (EU 2)
 (zod K c))
 (zqt K c))
def zmy(π):aF:=(aG (aX 1 Fc)
 (zq7 K c))
def zr8(π):aF:=(AFQ (AOD [0,1,2,3] Jk ý) (cB d8 (cB fY (Mc (GI C_ E6) Τ) (Mc At3 Ζ)) ON))
def zuw(π):aF:=(AFQ (cP 2 [1,2,3] (AFo rJ) AcK) (qy (cT (AMg A8)) Ζ (aB (Wn c) (aj Ζ (aj E6 (ACu C_))))))
def zr1(π):aF:=(aG (aX 3 AjI)
 (zuw K c))
def zty(π):aF:=A_x
def ztq(π):aF:=(aG (dh (cT (DS qZ Ζ 0))
 (aX 2 (cU fZ A8))
 bG)
 (zty K c))
def zul(π):aF:=(aG (NX 2 Q5 ý)
 (ztq K c))
def zqg(π):aF:=(aG (dh (cT (DS mC Ζ 0))
 nY
 bG)
 (zul K c))
def zrd(π):aF:=(bw C_)
def zqy(π):aF:=(aG (Np 3 A8 AjI)
 (zrd K c))
def zq0(π):aF:=(aG (Np 3 Ζ AtC)
 (zqy K c))
def zmw(π):aF:=(aG (cL 3 (Tl rB Τ))
 (zq0 K c))
def z4j(π):aF:=(dh (cT (DS pU (GI AtC Ζ) 0))
 (bw (AMv Wq AUf))
 bG)
def ybo(π):aF:=nY
def yeq(π):aF:=(aG (Kg (QQ gE) (EU 2)
 (z4j K c))
 (ybo K c))
def zq6(π):aF:=(aX 3 (GI At3 E6))
def zv4(π):aF:=(aG (aX 2 (ABv Wo (ZT Wr A8 E6) (Cn E6 C_)))
 (zq6 K c))
def zyj(π):aF:=(c_ (cP 2 [] (ABm rJ A8) AcK dJ (aB (Ie c) (Cn Ad0 (GI Ζ Τ)))))
def zw3(π):aF:=(aG (qC (N0 Ag2) (EU 4)
 (zv4 K c))
 (zyj K c))
def zqa(π):aF:=(aG (aX 3 Fc)
 (zw3 K c))
def zwz(π):aF:=(aG (aX 2 (dg (AOD [] Jk ý dJ (kL Wm (AFG Τ (cf ŏ))))))
 (zqa K c))
def zi6(π):aF:=(c_ (Th [0] Ζ (cT (cB (Jw false) Ζ Τ)) Τ))
def zm4(π):aF:=(bw (cW tQ tQ AL7 Τ ð))
def zrl(π):aF:=(c_ (AUx [1,2] (cT (Pf Zo (dg (Th [0,2] Ζ dJ (aB (Q9 c) (Cn (cB fY Ζ Τ) A8)))))) Τ))
def z9g(π):aF:=(AXi (N_ AW6 AnM) ð)
def zw9(π):aF:=(NX 1 Ov AUf)
def z1x(π):aF:=(bw Ζ)
def z2w(π):aF:=(aG (vL Τ (EU 2)
 (zw9 K c))
 (z1x K c))
def z04(π):aF:=(aG (aX 1 Adu)
 (z2w K c))
def z2t(π):aF:=(bw (qy (cT (AMg Ζ)) (ZT Ov (AJB (SZ C_)) E6) E6))
def z2n(π):aF:=(aG (aX 4 (kL Ow (dg (Th [] C_ dJ (eF (Cn (cU fZ Fc) AxO))))))
 (z2t K c))
def zz3(π):aF:=(aG (NX 3 Lj (QQ (i5 Lj A8)))
 (z2n K c))
def zwa(π):aF:=(AFQ (Th [0,2] Ζ) (ABv W4 Ζ (pz A8)))
def z00(π):aF:=(AXi (cB fY AW6 AnM) ð)
def zmx(π):aF:=(ö Ie (K3 Τ) AxO)
def zu2(π):aF:=(bw (kL Ow (dg (cP 1 [0] (iL (aB (Lj c) ý)) AAg dJ (aB (JB c) (Cn (AJB (cB Bj Τ Ζ)) (AFY W6)))))))
def zey(π):aF:=(ö Ws (AFG (AUm E6) A8) (AFG (cf (aj (eF (Cn ë Fc)) aq)) C_))
def ze6(π):aF:=(aG (aX 4 (dg (Th [1] Τ dJ (AJB (SZ (i5 Lj Ζ))))))
 (zey K c))
def zjm(π):aF:=(aG (aX 3 (AjS (AZq [1] AlU) W7))
 (ze6 K c))
def zf8(π):aF:=(aG (aX 2 (dg (AZq [0,1] AlU dJ (AMv W5 AUf))))
 (zjm K c))
def zi4(π):aF:=(N8 1 E6 ON)
def zg1(π):aF:=(dR (Jk (ACu (ZT W8 A8 C_))) (AFf 4 5)
 (zi4 K c))
def zjb(π):aF:=(aG (aX 3 (dg (Bk (VI aB (yG (OJ c)) (dg (Th [2] Τ (lb (pG false) Þ Ζ) Τ))))))
 (zg1 K c))
def zs0(π):aF:=(wz (nV 1))
def zka(π):aF:=(aG (vL (VI aB (yG (W3 c)) Τ) (EU 2)
 (zjb K c))
 (zs0 K c))
def zoj(π):aF:=(aG (yF 1 Vj)
 (zka K c))
def z1q(π):aF:=(AXi (Mc (WN Τ) AL7) ð)
def z8g(π):aF:=(AXi AW6 AL7)
def zvj(π):aF:=(ö Ov Þ (ZT Q6 C_ (ZT JB AL7 Ag0)))
def zrh(π):aF:=(aG (NX 3 Wk (Cn (ZT JB A8 Ag0) (ZT JB ð Þ)))
 (zvj K c))
def zkh(π):aF:=(dh (cT (aB (GD c) (QQ (WN C_))))
 (bw (ABv Wx A8 (Cn C_ Ζ)))
 bG)
def zmk(π):aF:=(bw (ie (GI AOE (cU fZ Fc))))
def zlq(π):aF:=(aG (dR (Jk (Cn AOE (U7 AOE (oR Fc) pC))) (AFf 2 3)
 (zkh K c))
 (zmk K c))
def zhb(π):aF:=(aG (dh (AGK (ZT GD (WN (WN AOE)) Ζ))
 (bw (ie (WN AOE)))
 bG)
 (zlq K c))
def zfe(π):aF:=(bw (KZ (Ó "kept_leanings") Ζ Adu))
def zh7(π):aF:=(bw (qy (cT (AMg (vE "pair"))) (SD 2) Fc))
def z9a(π):aF:=(ö Q6 (AFY Ow) (AJB gE))
def zwm(π):aF:=(c_ (pF Τ (oR (kN (DS fY gE 1) 2)) (oR (AMa (kN gE 2)))))
def zq2(π):aF:=(pW 1 tW (Cn C_ A8))
def zwx(π):aF:=(aG (aX 3 (fB (SZ (dg (Th [2] Ζ (AGK (AT8 GD Τ)) Τ)))))
 (zq2 K c))
def zxn(π):aF:=(bw Ζ)
def zxb(π):aF:=(aG (vL Τ (EU 2)
 (zwx K c))
 (zxn K c))
def zww(π):aF:=(aG (cL 1 (dD aq))
 (zxb K c))
def z21(π):aF:=nY
def z2c(π):aF:=(aG (dh (cT (AMg Asf))
 (bw (kL Q7 (kL Wt (kL Q8 Ζ))))
 bG)
 (z21 K c))
def z13(π):aF:=(aG (dh (cT (AMg (vE "mean")))
 (bw (kL Q7 Ζ))
 bG)
 (z2c K c))
def zt8(π):aF:=(aG (dh (cT (cB qZ (SZ Ζ) (AFY Wu)))
 nY
 bG)
 (z13 K c))
def zhg(π):aF:=(K7 (bw (nR c.Scale "scaled" (Wy c) (Ó "scale") (N0 (ABv Rg (Ó "rule") (Cn C_ (Ó "gap")))))))
def ze4(π):aF:=(aG (aX 3 (dg (AOD [0] z3r A8 dJ (aB (JB c) (Cn (eF (QQ Fc)) (AFo (nR c.ak "leaning" (Xe c) A8)))))))
 (zhg K c))
def ziz(π):aF:=(AFQ (AZq [2] (pF Ζ pC (oR (cU fZ Fc)))) A7Q)
def zfd(π):aF:=(aG (aX 2 (AFY Q8))
 (ziz K c))
def zi9(π):aF:=(bw (SZ (dg (Th [0] Ζ (AGK (i5 GD Ζ)) Τ))))
def z71(π):aF:=(c_ (Tl z6d (AFG (AUm ë) (AjS (AUx [0]) WK))))
def zxh(π):aF:=(ANv 2 (AMv WD (Cn (jk 2 (cU fZ Fc)) C_)))
def z3d(π):aF:=(bw A8)
def z3c(π):aF:=(aG (vL Ζ (EU 3)
 (zxh K c))
 (z3d K c))
def zzs(π):aF:=(aG (cL 2 (ABm dD (AUm ë)))
 (z3c K c))
def zf1(π):aF:=(c_ (pF (dg (Tl ZR C_)) (oR Fc) pC))
def zl1(π):aF:=(aG (NX 3 OD (ACu (dg (Tl ZR Ζ))))
 (zf1 K c))
def zht(π):aF:=(aG (aX 2 (dg (cP 1 [0] (AFo zmb) AAg dJ AzD)))
 (zl1 K c))
def zh8(π):aF:=(ANv 2 (Pf z4s (dg (Th [0,4] ON (lb (pG false) AzD A8) Τ))))
def zjq(π):aF:=(aG (aX 5 (FQ (U9 (AUx [2,3] (APM cT Q9 (cB fY Τ Ad0) A8) Τ))))
 (zh8 K c))
def zk1(π):aF:=(c_ (pF A8 (oR Fc) pC))
def zk0(π):aF:=(aG (dR (Jk (QQ (i5 WM Ζ))) (AFf 3 4)
 (zjq K c))
 (zk1 K c))
def zgv(π):aF:=(aG (cL 2 (ABm dD ë))
 (zk0 K c))
def z5e(π):aF:=(ö WQ A8 Ζ)
def z7q(π):aF:=(aG (dh (cT (cB (pG true) gE (GI C_ (cU fZ Fc))))
 nY
 bG)
 (z5e K c))
def z4x(π):aF:=(aG (NX 3 OD (ACu Ζ))
 (z7q K c))
def z8m(π):aF:=(aG (aX 2 (AFY WL))
 (z4x K c))
def zg3(π):aF:=(xM c.ak 0 "marks" 6 (uK (nR c.ak "reckoned" (Rj c) Τ (Cn NR (cB Bj Ahd NR)))))
def zhw(π):aF:=(wC c.ak 0 "kept_borders" (ZT WW UI (ZT WR UI ON)))
def zif(π):aF:=(aG (aX 7 (dg (Bl (Bk AQ4))))
 (zhw K c))
def zih(π):aF:=(aG (vL (dg (Bl (Tl zsq Ahd))) (EU 6)
 (zg3 K c))
 (zif K c))
def zhh(π):aF:=(aG (Bf c.ak 0 "marks" Vj)
 (zih K c))
def zhm(π):aF:=(aG (Bf c.ak 0 "sheets" (z73 (VI xJ (OJ c) Ζ)))
 (zhh K c))
def zh9(π):aF:=(aG (wC c.ak 0 "kept_leanings" (K4 (VI xJ (W9 c) Ζ)))
 (zhm K c))
def zhn(π):aF:=(aG (wC c.ak 0 "scale" (A_3 (dg (Tl rB (lO c.Scale "points" E6)))))
 (zh9 K c))
def zhu(π):aF:=(aG (wC c.ak 0 "gap" C_)
 (zhn K c))
def zcr(π):aF:=(aG (wC c.ak 0 "rule" A8)
 (zhu K c))
def zjz(π):aF:=(KY 4 8 (AMZ UI 2 (GI (cf A4N) (KU UI 2))))
def zjo(π):aF:=(aG (KR 8 (Cn (GI C_ (cB bU NR (SZ C_))) (GI A8 (AMZ NR 8 Ag2))))
 (zjz K c))
def zjg(π):aF:=(aG (NX 7 vH (pz (AE' 38 ON)))
 (zjo K c))
def zml(π):aF:=(aG (NX 6 vH (pz (AE' 30 ON)))
 (zjg K c))
def znp(π):aF:=(AFQ (AOD [4] z4i 4) (eF (aj Τ (QQ (cB N5 A8 (eF ý))))))
def zm8(π):aF:=(aG (qC (N0 (Mc (SD 8) (Pf rK (cB pU Ζ AMI)))) (EU 5)
 (zml K c))
 (znp K c))
def zgy(π):aF:=(aG (yF 4 nDT)
 (zm8 K c))
def zi5(π):aF:=(aG (aX 3 (BAO Τ))
 (zgy K c))
def zgp(π):aF:=(wz (z57 (N0 (cB Bj Ahd Ζ))))
def zdz(π):aF:=(aG (fJ (nR c.ak "must_have" (Rh c) Τ ŏ))
 (zgp K c))
def zee(π):aF:=(yK (qy (Bm (cT (cB mC AkJ C_))) AMI (cf ŏ)))
def zea(π):aF:=(aG (xM c.ak 0 "sheets" 1 A8)
 (zee K c))
def zi1(π):aF:=(aG (xM c.ak 0 "marks" 1 (uK (nR c.ak "reckoned" (Rj c) Τ AUf)))
 (zea K c))
def zc7(π):aF:=(aG (aX 3 (uK AkJ))
 (zi1 K c))
def ze5(π):aF:=(Gv 4 (yK (Bb c.ak "renewed" 0 (Rk c) (QQ E6))))
def zjn(π):aF:=(aG (N8 4 A8 C_)
 (ze5 K c))
def zdo(π):aF:=(aG (yF 4 (xO (K9 c.ak "sheet_copy" (Xg c) Τ ŏ)))
 (zjn K c))
def znb(π):aF:=(aX 2 (AFG A8 NR))
def znd(π):aF:=(aG (dh (iT (cT (cB pU NR AMI)) (lb pU NR (AUm C_)))
 (yK ACr)
 bG)
 (znb K c))
def zre(π):aF:=(aG (aX 6 (Bb c.ak "appeal" 0 (Rm c) (aj C_ (Cn E6 ON))))
 (znd K c))
def zsu(π):aF:=(yK A8)
def zuc(π):aF:=(aG (vL Ζ (fj 3 (aZ (EU 3) (Adc 4 5)))
 (zre K c))
 (zsu K c))
def zjk(π):aF:=(aG (aX 2 AMI)
 (zuc K c))
def zls(π):aF:=(jC 0 1 (QQ AyD))
def zni(π):aF:=(bw Τ)
def zm7(π):aF:=(aG (Av (cT (ADK Ζ))
 (zls K c))
 (zni K c))
def znl(π):aF:=(aG (aX 1 (Pf rA Ζ))
 (zm7 K c))
def zi7(π):aF:=(aG (aX 0 At0)
 (znl K c))
def zvz(π):aF:=A_x
def zwj(π):aF:=(aG (dh (cT (DS qZ Ζ 0))
 (aX 2 (cB fY ë A8))
 bG)
 (zvz K c))
def zrg(π):aF:=(aG (NX 2 Xc ý)
 (zwj K c))
def zge(π):aF:=(aX 2 (N_ (Mc (SD 6) (AMa (Pf rA A8))) (KU (kN NR 105) 3)))
def zc0(π):aF:=(aG (aX 1 (N_ (AMa Ζ) (KU (kN NR 15) 7)))
 (zge K c))
def zcw(π):aF:=(aG (pW 4 qx (aj (eF (Cn (AT8 Rf C_) UI)) aq))
 (zc0 K c))
def zf7(π):aF:=(aG (dh (iT (cT (ADK ON)) (cT (DS mC (KU NR 5) 4)))
 (aX 7 (ie (jk 4 (DS fY ON 1))))
 bG)
 (zcw K c))
def zgc(π):aF:=(aG (NX 7 Rf (ACu (AjL (kN NR 5))))
 (zf7 K c))
def zg4(π):aF:=(aG (NX 6 vH (pz (AE' 49 ON)))
 (zgc K c))
def zh4(π):aF:=(bw E6)
def zhd(π):aF:=(aG (qC (N0 (AE' 2 (KU (à 48) 3))) (EU 5)
 (zg4 K c))
 (zh4 K c))
def zhs(π):aF:=(aG (cL 4 (dD aq))
 (zhd K c))
def zh1(π):aF:=(aG (aX 3 (AjL (kN (à 46) 15)))
 (zhs K c))
def zhe(π):aF:=(aG (aX 2 (DS fY (AEx 47 21) 4))
 (zh1 K c))
def zez(π):aF:=(aG (aX 1 (DS fY (AEx 46 15) 9))
 (zhe K c))
def zm9(π):aF:=(ANv 3 (VI Gy 2 (cB bU (i5 vH (AE' 55 E6)) (fB Ag2))))
def zp3(π):aF:=(bw C_)
def zpw(π):aF:=(aG (qC (N0 (SZ Ζ)) (EU 4)
 (zm9 K c))
 (zp3 K c))
def zou(π):aF:=(aG (cL 3 (dD aq))
 (zpw K c))
def zlb(π):aF:=(aG (cL 2 Au3)
 (zou K c))
def z38(π):aF:=(dh (iT (lb pU (ie (cV 12)) (ie (cV 13))) (sS (A0I AS6) (A0I AS5)))
 Aus
 bG)
def z4h(π):aF:=(bw (uK (cB mC (SZ A0T) (SZ UI))))
def z8f(π):aF:=(aG (dR (Jk (Cn UI A3')) (AFf 12 13)
 (z38 K c))
 (z4h K c))
def zw0(π):aF:=(aG (dh (sS (lb sW AS6 ACr) (sS (lb sW AS5 ACr) (Bm (cT (cB pU A0T (xK c.ak "table" (yG (Ij c)) NR))))))
 Aus
 bG)
 (z8f K c))
def z7k(π):aF:=(aG (aX 11 (Bc 6 (O2 c) (N0 (i5 Xi ADk))))
 (zw0 K c))
def yck(π):aF:=(aG (aX 10 (Bc 5 (O2 c) (N0 ADk)))
 (z7k K c))
def zzc(π):aF:=(aG (aX 9 (AMv Xj (QQ vk)))
 (yck K c))
def z0k(π):aF:=(aG (aX 8 (AFG (BAO Ζ) (cf (Cn (vE "newhanda") (vE "newhandb")))))
 (zzc K c))
def zse(π):aF:=(aG (aX 7 A3')
 (z0k K c))
def zzo(π):aF:=(aG (Gu 6 (Bg c.ak (Ik c) (A4o E6)))
 (zse K c))
def z02(π):aF:=(aG (Gu 5 (Bg c.ak (Ik c) (A4o E6)))
 (zzo K c))
def z9v(π):aF:=(aG (aX 4 (dg (Vb (ABm dD (eF (Cn ë (SD 60)))) (AjL (à 54)))))
 (z02 K c))
def yco(π):aF:=(aG (aX 3 (GI (cf (Cn (vE "mean") Asf)) (AEx 53 2)))
 (z9v K c))
def zzb(π):aF:=(aG (aX 2 (A_3 (AFY Xh)))
 (yco K c))
def z84(π):aF:=(aG (aX 1 (AMv Xb (Cn (N_ Fc (AEx 0 4)) (N_ Fc (KU (i5 vH Fc) 6)))))
 (zzb K c))
theorem z56(AO Q5):Ch:=Eg
theorem z1w(AO Ie):Ch:=Eg
theorem ykg(AO Ov):Ch:=Eg
theorem ygj(AO JB):Ch:=Eg
theorem yfe(AO Wk):Ch:=Eg
theorem yk6(AO Q6):Ch:=Eg
theorem ye1(AO GD):Ch:=Eg
theorem xV{j:Int}(h:j.natAbs<2^64):AL_:=zO (mq h) τ
abbrev fin(Q:uk):oZ:=AoK
theorem z5d(AU Q5):ZN zrw:=by
 show AMV i j;show AX (fun m Γ=>∃a b r,Γ= [Bn a,wS,r]/\m=b.natAbs/\Int.gcd a b=Abu) ⟨_,i,j,υ,rfl,rfl,rfl⟩;rintro m _ ⟨a,b,r,rfl,rfl,hg⟩;show ALa;show qi 0
 ·subst hb;have:LL (! gY ADp ADp):=wc
  rw[this];show Q (B4 A8u);have e:A8u=AJt:=by
   rw[<- hg,Int.gcd_zero_right];split<;>omega
  rw[e];exact h
 ·have:d_ (gY (B4 b) ADp):=Q2 gY hb
  rw[this];exact⟨hb,_,zfo hb,b,a.fmod b,Bn (a.fmod b),rfl,rfl,EW zzq hg⟩
theorem zuv{i j:Int}(hj:v_):dv i j≠0/\∀n,So<=n ->cY j<=n ->AMU dv<=n:=by
 show BO (V3 hj) (fun n h1 h2=>(AWw h2));show M' k (z89 i j);have h:=congrArg Int.natAbs e;rw[Int.natAbs_mul] at h;rw[h];have:k≠0:=AC (hj (by rw[e,z,Int.mul_zero]))
 exact Asz
theorem z2i(AU Ie):ZN zqg:=by
 show xz i j b1 b2;show ALa;by_cases hj:j=0
 ·subst hj;have:gY ADp ADp=true:=wc
  rw[this];exact h.elim
 ·have:gY (B4 j) ADp=false:=Q2 gY hj
  rw[this];rw[Χ hj,<- yj7 hj] at h;show HQ i j rfl;show B8 d0 d1 (v4 zuv) hj;show Ů (j<0);by_cases hn:j<0
  ·show nB hn
   have e:dv i j= -AJt:=by unfold dv;show D1 hn
   exact⟨ACo,ACo,AJ9,AdZ⟩
  ·show A9m
theorem at0{x y:D}:mZ gx 0=some x:=AMn
theorem at1{x y:D}:mZ gx 1=some y:=AFq
theorem uc(A0h):Ax i j:= AVT
theorem vU(A0h):cY (i*j)<=8000:=FE (Aw i j)
theorem ab7(A0i):cY (i+j)<=9000:=FE (Y0 i j)
theorem ab8(A0i):cY (i - j)<=9000:=FE (zmf i j)
theorem Rn{i:Int}(h1:So<=8000):AUY:=ρ
theorem ylb(AU Ov):MD z9g:=by
 obtain⟨a,b,rfl,⟨a1,a2⟩,⟨b1,b2⟩,h⟩:=h;refine⟨_,at0,_,at1,AWS,_,at0,_,at1,Am9,_,at1,_,at1,Ais,_,_,rfl,BEM ab7,Rn (vU a2 b2),?_⟩;rw[if_neg (QJ a b),<- ydh];exact h
theorem yii(AU JB):MD z00:=by
 obtain⟨a,b,rfl,⟨a1,a2⟩,⟨b1,b2⟩,h⟩:=h;refine⟨_,at0,_,at1,AWS,_,at0,_,at1,Am9,_,at1,_,at1,Ais,_,_,rfl,BEM ab8,Rn (vU a2 b2),?_⟩;rw[if_neg (QJ a b),<- ydx];exact h
theorem ye2(AU Wk):MD z1q:=by
 obtain⟨a,b,rfl,⟨a1,a2⟩,⟨b1,b2⟩,h⟩:=h;refine⟨_,at0,_,at0,uc a1 b1,_,at1,_,at1,Ais,_,_,rfl,Rn (vU a1 b1),Rn (vU a2 b2),?_⟩;rw[if_neg (QJ a b),<- ydt];exact h
theorem ylc(AU Q6):MD z8g:=by
 obtain⟨a,b,rfl,⟨a1,a2⟩,⟨b1,b2⟩,h⟩:=h;refine⟨_,at0,_,at1,AWS,_,at1,_,at0,uc a2 b1,_,_,rfl,Rn (vU a1 b2),Rn (vU a2 b1),?_⟩;show qi 0
 ·show AEX hb;rw[Me if_pos hb (Int.mul_zero _)];exact h
 ·rw[ul] at h;rw[if_neg (Int.mul_ne_zero AjF (AC (hb (yM.mp z)))),<- yer a b hb];exact h
theorem yig(AU GD):MD zzw:=by
 obtain⟨a,b,rfl,⟨a1,a2⟩,⟨b1,b2⟩,h⟩:=h;refine⟨_,at0,_,at1,AWS,_,at0,_,at1,Am9,?_⟩;rw[yiw] at h;exact h
theorem yev{n:Nat}(a b:Rat):qG GL (qD a) (qD b):=by
 show Aa4
 match i with
 | 0=>show A4Q
 | 1=>show A4Q
 | i+2=>simp at h1
theorem zxy{n:Nat}(a:ψ):qG GL (BN a) AAw:=by
 show Aa4;simp at h2
theorem uP:OA (D9 1000):=Κ
theorem Dw{i m:Int}(hm:0<m):0<=i.fmod m/\i.fmod m<m:=AB As0 ⟨Int.emod_nonneg _ ξ,Int.emod_lt_of_pos _ hm⟩
theorem O3(oz):gY vy (B4 j)=decide (i=j):=by
 simp only [gY];by_cases h:i=j<;>simp [h]
theorem El{i:Int}{n:Nat}(h:0<n):∃k:Nat,i.fmod EO=CS/\k<n:=by
 have:=AH7 i EO ξ
 exact⟨(i.fmod EO).toNat,ρ,ρ⟩
theorem z1s(AO vH):Ch:=Eg
theorem yme(AO z0i):LF:=aS
theorem z29(AU vH):ZN zox:=by
 show xz ns k hl hk;show Ů (CS< An4);show ED;by_cases hlt:Agx
 ·show nB hlt
  show AX (.int ns[k]) (WA yr hlt)
  show BC cZ;rw[dif_pos hlt] at h;exact h
 ·show Ė hlt
  show BC cZ;rw[dif_neg hlt] at h;have bk:cY CS<=10:=mq (by simp only [Int.natAbs_natCast];omega)
  show CD AHG
  show Ů (IG< An4);show ED;have fin2:∀m:Int,m.natAbs<2^40 ->A5I ->Ax m m/\ P1 2147483629/\A5I:=fun m hm hq=>
   ⟨.inl (zO (mq hm) τ),Κ,hq⟩
  by_cases he:ns= []
  ·subst he;show An Η
   rw[BU] at h;exact fin2 _ ξ h
  ·have hp:0<ns.length:=(by cases ns with | nil=>show AEu he | cons _ _=>exact Nat.succ_pos _)
   show nB hp
   show AEW he;show AX AHG (Ae9 (P1 (BI ns.map D.int)))
   have hm:(CS*7).fmod An4=B5 AXK:=by
    show AJI As0 Int.natCast_emod Int.natCast_mul
    rfl
   dsimp only [aG,bG,cC,cV,cB,cT,iT,sS,iC,eG,jB,fU,qy,aq,aj,eF,dD,dg,fJ,bw,gA,dh,aX,cL,hName,eZ,aZ,fj,j8,jC,aB,cU,gZ,fZ,cN,fY,cM,d8,bU,ji,qZ,tQ,pR,vp,sW,jj,mC,pU,cO,wI,qF,rA,jK,vq,vA,dM,j9,gC,kh,kj,List.length,List.set_cons_zero,List.set_cons_succ,List.getElem?_cons_zero,List.getElem?_cons_succ,fK,lN,rB,tU,pC,oR,pF,kE,fB,dN,jk,pW,qx,tW,gQ,pG,cW,dO,rK,vG,rJ,kJ,kO,iL,dR,gb,jL,dJ,List.map,List.append,List.cons_append,List.nil_append];rw[hm];have hlt2:AXK<ns.length:=Nat.mod_lt _ hp;show AX (.int (ns.getD (AXK) 0)) (yr (by simp [List.getElem?_map,List.getD_eq_getElem?_getD,hlt2]))
   show HQ AHG AHG Κ
   refine fin2 _ ?_ h;have h1:=zfo (a:=ns.getD (AXK) 0*48271+ CS*7919) (b:=2147483647) τ
   exact Nat.lt_trans h1 τ
theorem yfi(AO Ow):LF:=aS
theorem ykk(AO Q7):LF:=aS
theorem yhc(AU Ow):ZN z04:=by
 obtain⟨qs,rfl,s1,s2,h⟩:=h;show AVN AJ9 (∃x,Γ= [HI (qs.map qD),ABz (fL (qs.take i)),x]) Cf
 ·rintro i x _ hi ⟨y,rfl⟩;show Asy;cases q:qs[i]? with
  | none=>show GT q hi hi
  | some a=>
   rw[q] at hi;cases hi;refine⟨_,_,rfl,s2 i,s1 a (yV q),ABz a,?_⟩;rw[List.take_add_one,q,zy0];simp only [Option.toList_some,fL,Rat.add_zero]
   rfl
 ·show ASz y;have h' :=h;show BJu;exact h'
theorem ykc(AU Q7):F_ z9a 1:=by
 obtain⟨qs,rfl,hl,s1,s2,h⟩:=h;refine⟨qs,rfl,s1,s2,?_⟩;have e:D.tup A_z=qD AgO:=EW Ol List.length_map
 refine⟨AJ9,fL qs,AgO,by show [_,D.tup A_z]=_;rw[e],?_,A3v ?_,?_⟩
 ·have:=s2 qs.length;show BJj
 ·exact zL (uu (ii ma<=1000)) τ
 ·by_cases hq:qs= []
  ·subst hq;rw[BU] at h;show D1 Η;exact h
  ·show AEW hq;rw[if_neg]
   ·exact h
   ·intro z;have z' :ma=0:=by show vb
    exact hq (List.eq_nil_of_length_eq_zero ξ)
theorem Xk(A5k):B' (FC f) (f i):=BD h
theorem Il(A5k):Ą FC f FA (f i):=yr (Xk h)
theorem z3m{n:Nat}(f g:sK):BDp:=by
 unfold jD;show UE
 ·simp
 ·show x0;simp
theorem ydi{n:Nat}(f:sK):HF 0 (FC f)=FC (D3 (.tup [.int (D9 i),f i])):=by
 apply List.ext_getElem?;intro i;rw[Zw];by_cases h:CO
 ·rw[Xk h,Xk h];simp
 ·simp [h]
theorem zuu(A6c):∀{is:AT} {P:P9},(∀i∈is,AG' (P [g i]) i) ->P (is.map g) ->AVf is.map
 | [],_,_,h=>h
 | i::is,P,k,h=>k i zY _ (zuu A3m h)
theorem zku(A6c){n:Nat}{P:P9}(k:AFN (AG' (P [g i]) i))(h:P (FC g)):AVf FC:=
 zuu (fun i hi=>k i (List.mem_range.mp hi)) h
theorem zlr{m:Nat}{f g:fR}(h:∀j,j<m ->f j=g j):iG m f=iG m g:=by
 unfold iG
 congr 1
 exact AdQ j hj (Axd h)
theorem z2a{n m:Nat}{a b:Mx}(h:∀i j,CO ->j<m ->a i j=b i j):AZk=pN n m b:=by
 unfold pN
 congr 1
 exact Au2 (zlr fun j hj=>h i j (List.mem_range.mp hi) hj)
theorem zyi(AO Wm):LF:=Eg
theorem zxf(AO Wq):ZE:=AGu
theorem ym0(AO Wr):Ch:=AN7
theorem z30(AO Wn):ph 4:=AGu
theorem z5v(AO Wo):ZE:=AGu
theorem yal(AO Ws):Ch:=by obtain⟨_,_,⟨rfl,_⟩,_⟩:=h;rfl
theorem z3h(AU Wn):ZO zr8:=by
 obtain⟨m,k,f,g,p,rfl,hk,p0,bp,bf,bg,h⟩:=h;show YN (jD (AVm (Ĳ j)) (AVm (.int (g j))));rw[z3m];refine zku (g:=DF (.int (AzL p))) A0Q h;have b1:=bg k;have b2:=bf j;have b3:=bf k;have b4:=bg j;exact⟨rfl,rfl,.int (g k),Il hk,AVT,Ĳ k,Il hk,AVT,⟨p0,bp⟩,hP⟩
theorem z3z(AU Wo):ZO zr1:=by
 obtain⟨a,n,m,k,p,rfl,hk,hkm,p0,bp,ba,h⟩:=h;show AX (iG m (a k)) (Il hk);show YN (HF 0 (AFh ACm));rw[ydi];refine zku (g:=D3 (iG m BBQ)) A0R h;show HQ rfl rfl rfl;rw[O3];show Fs i k
 ·subst e;show vz rfl;have:iG m (Du i p a i)=ACm:=zlr fun j _=>BU;rw[this] at hP;exact hP
 ·show me ξ
  have:iG m BBQ=iG m (DF BEZ):=zlr fun j _=>(Χ e);rw[this] at hP;exact⟨m,k,a i,a k,p,rfl,hkm,p0,bp,DF (ba i j hi),DF (ba k j hk),hP⟩
theorem yew{n:Nat}(f:sK){k s:Nat}(hk:k<n)(hs:s<n):((FC f).set k (f s)).set s (f k)=FC (D3 (f (rQ k s i))):=by
 show UE
 ·simp
 ·show x0;simp only [List.getElem_set,List.getElem_map,List.getElem_range];unfold rQ;by_cases e1:s=i
  ·subst e1;by_cases e2:k=s
   ·subst e2;simp
   ·rw[BU,UM,BU]
  ·show An e1;by_cases e2:k=i
   ·subst e2;rw[BU,BU]
   ·rw[Χ e2,UM,UM]
theorem z6c{n k:Nat}(h:k<n):vo n CS=some k:=by
 unfold vo;rw[RU,RU];simp
theorem zyq(AU Wq):ZO zmw:=by
 obtain⟨a,n,m,k,s,rfl,hk,hs,h⟩:=h;refine⟨iG m (a s),Il hs,Cf,k,WA z6c hk,iG m (a k),Il hk,Cf,s,WA z6c hs,?_⟩
 have e:=yew (Wp ACm) hk hs;rw[e];exact h
theorem ym4(AU Wr):ZN yeq:=by
 obtain⟨a,n,m,k,rfl,hn,hk,hm,h1,h2⟩:=h;have el:BI FC (D3 ACm)=n:=AY
 show(AfG<=CS/\ CS<2^62/\ AfG<=AkS/\ AkS<2^62)/\Ff (Dg CS (AkS - CS).toNat _ _);rw[el,GU (EO - CS).toNat (n - k)]
 show AVN ⟨ρ,ρ,ρ,ρ⟩ (∃y:Slot,Γ= [.pu (pN n m a),ALA,y]/\∀s,k<=s ->s<k+i ->a s k=0) (Lv (fun s hs hs' =>ρ))
 ·rintro i _ hi ⟨y,rfl,hz⟩;have e0:CS+ FA=B5 (k+i):=ρ
  have hlt:k+i<n:=ρ
  show Zl (iG m (a (k+i))) ?_ (.int (a (k+i) k)) (Il hm) rfl
  ·rw[e0];exact Il hlt
  rw[O3];by_cases ez:a (k+i) k=0
  ·show vz ez;show fN _ (Α s hs hs');by_cases es:s=k+i
   ·rw[es];exact ez
   ·exact hz s hs ξ
  ·show me ez;refine⟨a,n,m,k,k+i,?_,hk,hlt,h1 _ ξ hlt ez⟩
   rw[e0]
 ·rintro _ ⟨y,rfl,hz⟩;exact(h2 fun s hs hs' =>hz s hs ξ).elim
theorem ygl(AGA):GB q.num=q* GB q.den/\ GB q.den≠0:=by
 have hd:GB q.den≠0:=by
  have:=q.den_pos
  exact_mod_cast (uu (P1 q.den))
 have e:AIX q.num į=q:=ANU BJK Rat.divInt_eq_div
 show BO ?_ hd;rw[Rat.div_def] at e;have:=w4 (· * ((q.den:Int):Rat));simp only [Rat.mul_assoc,ı hd,Rat.mul_one] at this;exact this
theorem yce{μ d:Int}(hμ:0<μ)(hd:0<d):P1 APF/\0<Aah/\μ∣Aah/\d∣Aah/\ (d.fdiv dc).natAbs<=d.natAbs/\ ii dc<=d.natAbs:=by
 show Re g0 APF (FE (AT5 z))
 have gd:dc∣d:=Ae8;have gm:dc∣μ:=Ae7;have e:=QD gd;obtain⟨u,eu⟩:=gm;have gp:IG< dc:=ρ
 generalize dc=g at*;generalize d.fdiv g=t at*;have tp:0<t:=by
  show NY (Aha t)
  ·exact h
  ·have:=BJJ (ρ:0<=g)
   omega
 show Zl ρ (Int.mul_pos hμ tp) eB (Do u) ?_
 ·rw[eu,<- e];ac_rfl
 ·show AwU (Nat.le_mul_of_pos_left _ ξ)
 ·show AwU Asz
theorem Cw{d:Int}(h:d∣27720):eD<=15:=zO (Azs (Nat.le_of_dvd τ (Int.natAbs_dvd_natAbs.mpr h))) (mq τ)
theorem lcm_dvd{μ d n:Int}(hμ:0<μ)(hd:0<d)(h1:μ∣n)(h2:d∣n):Aah∣n:=by
 have g0:P1 APF:=AC (FE (AT5 (ρ:Int.gcd μ d=0)))
 have e:=QD (Int.gcd_dvd_right μ d);have e2:dc* (μ*d.fdiv dc)=dc* AL (Int.lcm μ d):=by
  rw[<- Int.natCast_mul,Int.gcd_mul_lcm,Int.mul_left_comm,e,Int.natCast_mul,BJE,BJE]
 rw[Int.eq_of_mul_eq_mul_left g0 e2];have:=Int.lcm_dvd (c:=n.natAbs) (Int.dvd_natAbs.mpr h1) (Int.dvd_natAbs.mpr h2);exact Int.ofNat_dvd_left.mpr this
theorem zx5(AU Wm):ZN zmy:=by
 show xz m f hm hz;show U' (∃(μ:Int) (y:Slot),Γ= [.pu (o8 m f),Bn μ,y]/\0<μ/\μ∣27720/\∀j,j<i ->j<m ->Ģ∣μ) ⟨1,_,rfl,Κ,ah 27720,lT ρ⟩
 ·rintro i d _ hi ⟨μ,y,rfl,hμ,bμ,hd⟩;have him:i<m:=u_ ZY
  rw[Xk him] at hi;cases hi;have dp:IG< (f i).den:=FE (f i).den_pos
  obtain⟨g0,p1,p2,p3,p4,p5⟩:=yce hμ dp;have zi:=Cw A3H;have b4:=zO (Jb p4) zi;have b5:=zO (Jb p5) zi;have bμ' :=Cw bμ;refine⟨_,at1,_,at1,μ,(f i).den,rfl,AHq g0,AVT,_,_,rfl,p1,lcm_dvd hμ dp bμ A3H,Α j hj hjm⟩
  show Fs j i
  ·show e9 p3
  ·exact Int.dvd_trans (hd j ξ hjm) p2
 ·rintro _ ⟨μ,y,rfl,hμ,bμ,hd⟩;have el:BI (KF m) (DF (qD (f j)))=m:=AY
  rw[el] at hd;have bμ:=Cw bμ
  let g:fR:=DF (GE (j<m) A6V)
  have gv:∀j,j<m ->g j=A6V:=fun j hj=>by show(ADR (j<m))=_;show D1 hj
  have bt:∀j,j<m ->cY (μ.fdiv Ģ)<=cY μ:=fun j hj=>by
   refine Jb ?_;have e:=congrArg Int.natAbs (QD A2V);show Afz;rw[<- e];exact Nat.le_mul_of_pos_left _ (AQr BJ3)
  refine zku (g:=DF (.int (g j))) A0Q (h μ g hμ (Iq j hj) AEf)
  ·have z:=hz j hj;have b:=bt j hj;refine⟨_,at0,_,at1,⟨FE BJ3,zO (Cw z.2) τ⟩,í (AQr z.1),?_⟩
   show P [.int (Adh*μ.fdiv Ģ)];rw[<- gv j hj];exact hP
  ·rw[gv j hj];have e:=QD A2V;obtain⟨n1,n2⟩:=ygl (f j);show AxI (Ο μ) (Ģ* AL (μ.fdiv Ģ))
   rw[Rat.intCast_mul,n1,e']
   grind
  ·by_cases hj:j<m
   ·rw[gv j hj];have:=Aw Adh (μ.fdiv Ģ);have:=bt j hj;have:=(hz j hj).1;omega
   ·show cY (GE (j<m) _)<=_;show An hj;exact DV
theorem zvv(A8d)(F:pk α D)(Good:AHm α):∀{n s:Nat} {P:P9},(A1j (AG' A4x i)) ->(A7o (A1j Atj) (AXU s)) ->AVf (AXU s)
 | 0,s,P,_,h=>h (A2 default) fun i h1 h2=>ρ
 | n+1,s,P,k,h=>by
  rw[List.range'_succ];refine k s ξ ξ _ (AD a ha)
  refine A4R (fun i h1 h2=>(AWK k))
  have:=h (Wp (eC s a (as i))) fun i h1 h2=>by
   show Fs i s
   ·subst e;simpa using ha
   ·simp only [Χ e];exact AWK has
  rw[List.range'_succ,List.map_cons,BU] at this;have e:AXU (s+1) (Wp (F i (AI (i=s) a (as i))))=AXU (s+1) BHm:=Au2 (by
   have:=List.mem_range'_1.mp hi;show An ξ)
  show ZH;exact this
theorem z14(A8d)(F:pk α D)(Good:AHm α){n:Nat}{P:P9}(k:AFN (AG' A4x i))(h:A7o (∀i,CO ->Atj) FC):AVf FC:=by
 rw[List.range_eq_range'];refine A4R (fun i _ h2=>k i ξ)
 rw[<- List.range_eq_range'];exact h as (Ł (AWK has))
theorem yku(AZ5):A9P:=by
 show AWv (Ŀ ut) n (by
  show BJv;unfold vo;rw[Χ τ,RU]
  congr 1;omega)
 unfold mZ;rw[e];exact Xk ξ
theorem Ro{z:Int}{e k:Nat}(h:z.natAbs<=(16*2^e)^k):cY z<=(e+4)*k+1:=by
 refine mq (zL h ?_);rw[show D9 16*2^e=2^ (e+4) by rw[Nat.pow_add,Nat.mul_comm],<- Nat.pow_mul]
 exact Nat.pow_lt_pow_right τ ξ
theorem zsp{f g:OU}(t:Rat):FD m Nat (∀j,j<m ->f j=t*g j) (dY m f=t*dY m g)
 | 0,_=>sf dY
 | m+1,h=>AMH dY (zsp t (lT (h j ξ))) (h m ξ)
theorem yb0(AU Ws):F_ zwz 5:=by
 obtain⟨n,A,⟨rfl,hn,hz⟩,hE,hP⟩:=h;show F7;show YN (jD (AFh (o8 n (A i))) (AFh (qD (A i n))));rw[z3m];refine z14 (α:=fR) (G_ g (iG GL g)) (MV g ((∀j,Ak_<=143)/\∃μ:Int,0<μ/\∀j,j<n+1 ->Ο (g j)=Ο μ*AEk)) A0R (Iq as has)
 ·refine⟨rfl,rfl,AMP,?_,n+1,A i,?_,ρ,lT (hz i j hi ξ),fun μ g h0 h1 h2=>hP g ⟨h2,μ,h0,h1⟩⟩
  ·show AQ (BI FC (DF (qD (A i j)))+1);simp only [List.length_map,List.length_range];omega
  ·unfold o8;show AKe List.range_succ;rfl
 change LN zqa [.pu (GF n n A),.pu (o8 n AlA),.pu (pN n GL as),υ,υ]
 have ba:AqF as (2^143):=fun k hk j=>Nat.le_of_lt (M4 ((has k hk).1 j));have hμ:∃μ:OU,AFN (μ i≠0/\∀j,j<n+1 ->Ο (as i j)=μ i*AEk):=by
  show Op (D3 (ASy CO (AL ((has i h).2).choose) 1)) i hi;simp only [dif_pos hi];have sp:=((has i hi).2).choose_spec;show BO ?_ (lT (sp.2 j hj));have:=sp.1;intro z;have:((has i hi).2).choose=0:=by show vb
  omega
 obtain⟨μ,hμ⟩:=hμ;have el:BI FC (D3 (iG GL (as i)))=n:=AY
 show(AfG<=AdD (iG GL (as i))/\_)/\Ff (Dg 0 (Int.toNat (AdD (iG GL (as i)))) _ _);show Ae0 el;have mx:∀k,k<=13 ->(143+4)*k+1<=1912:=fun k hk=>ρ
 have h1:1<=16*2^143:=Nat.mul_pos τ (Nat.pow_pos τ)
 show AFm (fun k Γ=>∃(d:Int) (tb:Mx) (rs:CM) (fs:ABO) (ix:WV) (y:Slot),Γ= [.pu (GF n n A),.pu (o8 n AlA),.pu (pN n GL tb),Bn d,y]/\Abj (BT n as k d)) ⟨1,as,_,_,_,_,rfl,ybp n as⟩
 ·rintro k _ hk ⟨d,tb,rs,fs,ix,y,rfl,bt⟩;have e0:(0+ CS)=B5 k:=ρ
  have bd:eD<=1912:=zO (Ro (Ajf ba ξ)) (mx k ξ)
  have be:ANS (AMU tb<=1912):=fun i j hi=>zO (Ro (Ajg ba ξ h1 hi j)) (mx EL ξ)
  refine⟨tb,n,n+1,k,?_,ρ,hk,ρ,IE s hs hsn hne,MA hall⟩
  ·rw[e0]
  ·obtain⟨rs',fs',Ot,bt'⟩:=bt.step hs hsn hne;have sk:rQ k s k=s:=by unfold rQ;show XZ
   have et:pN n GL (Du k d (Wl k s tb))=pN n GL (nextT k s d tb):=z2a fun i j _ _=>by
    unfold Du Wl nextT;rw[sk]
   refine⟨Wl k s tb,n,n+1,k,d,?_,hk,ρ,bt.nz,zO bd τ,fun i j hi=>zO (be (rQ k s i) j ?_) τ,?_⟩
   ·rw[e0]
   ·unfold rQ;split
    ·exact hsn
    ·split<;>omega
   ·rw[et];refine⟨iG GL (Aa2 k),?_,.int (Aa2 k k),?_,tb s k,Aa2,rs',fs',Ot,Bn (0+ CS),?_,bt'⟩
    ·rw[e0];exact Il hk
    ·rw[e0];exact Il ξ
    ·have:Aa2 k k=tb s k:=Af_ nextT
     rw[this];rfl
  ·show AS x x1 hx bt.stuck hk hall;refine hE x k hk x1 ũ;have q:=hx r hr;rw[BCW (DF (A r j*x j)) (by
    show Ο (as r j)*x j=_;rw[(hμ r hr).2 j ξ];grind)] at q
   show Ajp q
   ·show MW q A1J
   ·exact q
 ·rintro _ ⟨d,tb,rs,fs,ix,y,rfl,bt⟩;show Re d0 ADt (bt.nz (by show vb))
  have bd:eD<=1912:=zO (Ro (Ajf ba ξ)) (mx n ξ)
  have be:ANS (AMU tb<=1912):=fun i j hi=>zO (Ro (Ajg ba ξ h1 hi j)) (mx GL ξ)
  have bd' :eD<=147*n+1:=Ro (Ajf ba ξ)
  have be' :ANS (AMU tb<=Ig n):=fun i j hi=>Ro (Ajg ba ξ h1 hi j)
  show Ž ex (AFN (fs i n=Lo (tb i n) d)) (by
   rw[bt.t i hi n,Rat.div_def,Rat.mul_comm,<- Rat.mul_assoc,ı d0,Rat.one_mul])
  have hs:Slv n A (D3 (fs i n)):=fun r hr=>by
   have q:=bt.sol hr n;have q' :Ο (as r n)=dY n (qr (Ο (as r c)*fs c n)):=q;rw[BCW (DF (A r j*fs j n)) (US ((hμ r hr).2 j ξ)),(hμ r hr).2 n ξ] at q'
   have m0:=A1J;have:=congrArg (DH ((μ r)⁻¹*z)) q';simp only [<- Rat.mul_assoc,ı m0,Rat.one_mul] at this;exact this
  show YN (HF 0 (AFh (iG GL (tb i))));rw[ydi];refine zku (g:=D3 (qD (fs i n))) (ACH i hi) (hP _ hs ⟨d,bt.nz,zO bd' (by unfold Ig;omega),Ł ⟨tb i n,ex i hi,be' i n hi⟩⟩)
  refine⟨rfl,rfl,.int (tb i n),yku,.int (tb i i),Il ξ,tb i n,tb i i,rfl,zO (be i n hi) τ,zO (be i i hi) τ,?_⟩
  rw[bt.diag hi hi,Χ bt.nz,<- ex i hi];exact hp
theorem yb5(AO Q8):LF:=aS
theorem zqx(AO Wu):LF:=aS
theorem Xl(a b:Str):Aok (gY (HE a) (HE b)):=by
 rw[Bool.eq_iff_iff];simp [gY]
theorem yc9(Aq2):(l.map qD).flatMap (se (Acm (AEQ a b) (nL (Θ (q.num*b<a*q.den)) [d] []) []))=AA l.filter Azq qD:=by
 induction l with
 | nil=>rfl
 | cons x l ih=>
  rw[List.map_cons,List.flatMap_cons,ih,List.filter_cons,yiw q x];show(AI (d_ (Θ (q.num* AL x.den<x.num* į))) [qD x] [])++_=_;split<;>simp
theorem ya9(AU Q8):ZO zww:=by
 obtain⟨qs,rfl,hl,hz,h⟩:=h;show AVN DV (∃(l:Ψ) (x y:Slot),Γ= [HI (qs.map qD),.ow (l.map qD),x,y]/\l=(qs.take i).foldl vO []/\l.Perm (qs.take i)) ⟨[],_,_,rfl,rfl,AY⟩
 ·rintro i d _ hi ⟨l,x,y,rfl,hl',hp⟩;show Asy;cases q:qs[i]? with
  | none=>show GT q hi hi
  | some a=>
   rw[q] at hi;cases hi;have hil:i<qs.length:=HR q;have llen:l.length=i:=AK0 hp.length_eq List.length_take
   have lz:∀o∈l,Pp o:=fun o ho=>hz o (List.mem_of_mem_take (hp.mem_iff.mp ho));have az:Pp a:=hz a (yV q);refine zo0 (se (Acm (AEQ u v) (nL (Θ (a.num*v<u*a.den)) [d] []) [])) ?_ ?_
   ·intro x hx P hP;show OP o ho hx;show Zl a o rfl az (lz o ho);show nL (Θ (a<o)) _ _;rw[yiw];have hP' :P (nL (Θ (a.num* AL o.den<o.num* AL a.den)) [qD o] []):=hP;split
    ·rename_i hc;rw[Ap hc] at hP';exact hP'
    ·rename_i hc;rw[Χ hc] at hP';exact hP'
   ·rw[yc9];show AX trivial Cf;show ED;have hc:=yi9 a l;refine⟨ρ,by show ED;exact_mod_cast hc,Aj_ uP,vO l a,ABz a,Bn (cnt a l),?_,?_,?_⟩
    ·unfold UW vO;rw[Int.toNat_natCast,List.map_append,List.map_cons,List.map_take,List.map_drop]
     rfl
    ·rw[List.take_add_one,q,List.foldl_append,<- hl'];rfl
    ·rw[List.take_add_one,q];refine GA zwe l a ?_;refine OZ hp.cons a ?_;exact List.perm_append_singleton a _ |>.symm
 ·rintro _ ⟨l,x,y,rfl,hl',hp⟩;have e:l=xP qs:=ē hl' List.length_map List.take_length
  subst e;exact h
theorem zqv(AU Wu):F_ zh7 1:=by
 show xE r h;show CD ATl
 rw[Xl];show if decide (r=GJ)=true then _ else _;split
 ·rename_i e;show AEX wP;exact h
 ·rename_i e;show AEW wP;exact h
theorem yhw(l:Ψ){a b:Nat}(h1:a<=b)(h2:b<=l.length):cutD (l.map qD) (D' ADm) (some ADn)=AA (l.drop a).take (b - a) qD:=by
 show ű;simp only [List.length_map,List.map_take,List.map_drop];have e1:(A2I ADm ADm ADm)=a:=Afi
 have e2:(A2I ADn ADn ADn)=b:=Afi
 rw[e1,e2]
theorem z0l{l:Ψ}{a:Nat}(h:a<l.length):(l.drop a).take 1= [l.getD a 0]:=ē AfJ List.getD_eq_getElem?_getD d6
theorem yc3{l:Ψ}{a:Nat}(h:AT6 a):(l.drop a).take 2= [l.getD a 0,l.getD (a+1) 0]:=by
 show Ae1 AgB List.take_succ_cons (z0l h) List.getD_eq_getElem?_getD (List.getElem?_eq_getElem (Afv (a<l.length)));rfl
theorem yab(AU Wt):F_ zwm 1:=by
 show AFc l h1;show AX (Ÿ 2) (Ÿ 2)
 have e1:Ash 2=B5 AEh:=ACP (Int.fdiv_eq_ediv_of_nonneg _ τ)
 have e2:(Ad7).fdiv 2+1=B5 (XN+1):=ACP (Int.fdiv_eq_ediv_of_nonneg _ τ)
 show Q (BN (cutD (l.map qD) (some (Ash 2)) (D' ((Ad7).fdiv 2+1))));rw[e1,e2,yhw l ξ ξ]
 have key:(l.drop (AEh)).take (XN+1 - AEh)=mids l:=by
  unfold mids;by_cases ho:Al6=1
  ·rw[Ap ho,GU AEh XN,GU (XN+1 - XN) 1,z0l ξ]
  ·rw[Χ ho,GU (XN+1 - AEh) 2,yc3 ξ,GU AEh (XN - 1),GU (XN - 1+1) XN]
 rw[key];exact h
theorem zqi{l:Ψ}(AtH):l.getD i 0∈l:=ALz d6 (yU h)
theorem zvw{l:Ψ}:fL (mids l)/ i4 mids l=Oo l:=by
 unfold mids Oo;split
 ·show(_+0)/ Ο (B5 1)=_;rw[Rat.add_zero];have:Ο (B5 1)=1:=rfl;rw[this];grind
 ·show(_+ (_+0))/ Ο (B5 2)=_;rw[Rat.add_zero];rfl
theorem yi6{l:Ψ}(h:∀q∈l,AMb)(hl:l.length<=2)(k:Nat):AdH l.take:=by
 refine(ydw (m:=1900) (ANc (h q (List.mem_of_mem_take hq)))).up ?_;have:BI l.take k<=2:=zO (List.length_take_le' _ _) hl;have:=Nat.mul_le_mul_right 1902 this;omega
theorem sM:Ox≠sX:=Κ
theorem ych(AO Wv):Ch:=Eg
theorem z25(AO Ww):LF:=aS
theorem z8w(AO Wx):ZE:=g6
theorem yf6(AO Oz):LF:=aS
theorem zqr(AO Wy):Ch:=Eg
theorem Rp(f:Str)(d:D):m5 [f] [d] f=some d:=Af_ m5
theorem zwy(xs:ψ){k:Nat}(h:k<=xs.length):cutD xs (D' CS) none=xs.drop k:=by
 have e1:(AI (CS<0) (Su CS Į) (min (CS).toNat xs.length))=k:=Afi
 show ű;simp only;rw[e1,List.take_of_length_le Η]
theorem zzt{ps:DI}(h:gL)(hl:AjA):wH ps=true:=by
 unfold wH;rw[BI5,Bool.true_and];clear hl;induction ps with
 | nil=>rfl
 | cons a t ih=>
  cases t with
  | nil=>rfl
  | cons b t=>
   obtain⟨⟨h1,h2⟩,h3⟩:=h;show(HS a b::List.zipWith HS AL6 t).all id=true;rw[List.all_cons];have hc:HS a b=true:=by
    unfold HS;have:¬b.2<a.2:=IP
    simp [h1,this]
   have h4:=ih h3;have h5:(List.zipWith HS AL6 t).all id=true:=h4;rw[h5];simp [hc]
theorem z91(AU Wv):MD zus:=by
 show xz a b za zb;refine⟨_,at0,_,at0,a.1,b.1,rfl,za.1,zb.1,?_⟩;show BC HS;cases e:AxR with
 | false=>show mT e h
 | true=>
  show mT e ⟨_,at1,_,at1,b.2,a.2,rfl,zb.2,za.2,h⟩
theorem zwr{one:ABp}(g:Pt ->Pt ->D):∀{as bs:DI} {P:P9},(sd (IT bs (∀P,P [g a b] ->one (.tup [pD a,pD b]) P))) ->P AuO ->eO one (jD (as.map pD) (bs.map pD)) P
 | [],_,_,_,h=>h
 | A1,[],_,_,h=>h
 | a::as,b::bs,P,k,h=>k a zY b zY _ (zwr g (fun x hx y hy=>k x Ahh y (zW _ hy)) h)
theorem zzp(g:Pt ->Pt ->Bool):∀(as bs:DI),tV A0g=some AuO
 | [],_=>rfl
 | A1,[]=>rfl
 | a::as,b::bs=>Ak7 tV A0g (zzp g as bs)
theorem z15(AU Ww):F_ zoi 1:=by
 show AFc ps hz;show BC wH;show(X1 (D.bl (decide (OG< i4 ps.map pD))) lj _ AEO _)
 show ED;by_cases hl:1<ps.length
 ·show vz (ρ:OG< BIh)
  rw[BI5,Bool.true_and] at h;show YN (jD (ps.map pD) (cutD (ps.map pD) li none));have e1:AYa ps.map pD li=AA ps.drop 1 pD:=AB List.map_drop (zwy (ps.map pD) (k:=1) (Of))
  rw[e1];refine zwr (r_ (D.bl (HS a b))) (fun a ha b hb P hp=>⟨rfl,rfl,a,b,rfl,hz a ha,hz b (List.mem_of_mem_drop hb),hp⟩) (Cb (zzp HS _ _) ?_);rw[List.drop_one];exact h
 ·show me (ρ:¬OG< BIh)
  rw[decide_eq_false hl] at h;exact h
theorem yiq(EF){c:Cls}{a:Addr}{ds Q Ex}(h:Oz c ds Q Ex):zf6 K c (AJD (fun Γ=>ze0 K c Γ (fun d Γ' =>A9q) VO) L7) (aK 2 Ag7) VO:=by
 show AFc ps hz;show HQ ps rfl hz;cases e:wH ps with
 | true=>
  rw[e,BU] at h;exact HU h
 | false=>
  rw[e,OT] at h;exact h.elim
theorem z32(AU Wx):ZO zrh:=by
 obtain⟨l,r,x,rfl,zl,zr,zx,hlt,h⟩:=h;have s1:=QK zx zl.1;have s2:=QK zr.2 zl.2;have s3:=QK zr.1 zl.1;have s4:=yd3 s1 s2;have hn:ANf≠0:=IP
 refine⟨_,at0,x,l.1,rfl,Agp,Tu zl.1,_,at1,_,at1,r.2,l.2,rfl,Tu zr.2,Tu zl.2,x - l.1,r.2 - l.2,rfl,s1.up τ,s2.up τ,?_⟩
 refine⟨_,at1,_,at0,_,at0,ω,l.1,rfl,Tu zr.1,Tu zl.1,Apy,ANf,rfl,s4.up τ,s3.up τ,?_⟩
 show An hn;exact⟨l.2,Apy/ AVt,rfl,Tu zl.2,(z31 s4 s3 hn).up τ,h⟩
theorem z3y:∀{ps:DI} (i:Nat),gL ->Gd (ps.drop i)
 | [],i,_=>by rw[List.drop_nil];trivial
 | ps,0,h=>h
 | a::t,By,h=>by
  rw[List.drop_succ_cons];refine z3y i ?_;cases t with
  | nil=>trivial
  | cons b t=>exact h.2
theorem zz1{ps:DI}{i:Nat}(h:AjB):ps.drop i=MC::AL5::ps.drop (i+2):=EW AgB AfJ
theorem ym3{ps:DI}{i:Nat}(h:AjB)(hg:gL):MC.1<AMo/\MC.2<=AL5.2:=AcA (z3y i hg) (zz1 h) this.1
theorem z4u{ps:DI}{i:Nat}{x:Rat}(h:AjB):xQ (ps.drop i) x=if x<AMo then yN MC AL5 x else xQ (ps.drop BE) x:=SV (zz1 h) AfJ
theorem zj8:∀{ps:DI} (h:AEi),jN ps=ps[ALc]
 | [p],_=>rfl
 | ALP,_=>by
  show jN AL6=_;rw[zj8 (ps:=b::t) Η]
  simp
theorem yhx(ps:DI)(h:AEi):A9b GS:=by
 unfold mZ;show AWv Awy (ps.length - 1) (by
  unfold vo;show ADd AK1 RU
  congr 1;omega)
 rw[e];show Ŗ[ALc]?=_;rw[List.getElem?_map,ATt,zj8 h]
 rfl
theorem yf9{ps:DI}{i:Nat}(h:i<ps.length):Ą ps.map pD FA (pD MC):=Awa
theorem zq3(AU Wy):ZO zhb:=by
 obtain⟨ps,x,rfl,hl,hg,hz,zx,h⟩:=h;have z4:∀{i:Nat} (hi:i<ps.length),Dv 300 MC:=fun hi=>hz _ (yU hi);have h0:0<ps.length:=ρ
 refine⟨rfl,_,AD',_,yf9 h0,_,at0,ps[0].1,x,rfl,Tu (z4 h0).1,Agp,?_⟩
 have hd:ps=ps[0]::ps.drop 1:=qo (List.drop_eq_getElem_cons (l:=ps) (i:=0) h0) List.drop_zero
 show nL (Θ (ps[0].1<x)) _ _;by_cases hx:ps[0].1<x
 ·show Ė hx
  have eW:xQ ps x=GC ps x:=z0p hg (XE (by
   rw[hd] at hp;cases hp;exact Rat.le_of_lt hx))
  refine⟨rfl,_,AD',rfl,_,AD',?_⟩;have e1:AYa ps.map pD li=AA ps.drop 1 pD:=AB List.map_drop (zwy (ps.map pD) (k:=1) (Of))
  show CD ?_
  ·rintro⟨e,_⟩;have:HT.sIx Awy 0 (some 1)=1:=by
    unfold HT.sIx;show ED;simp only;show mw
    have:(OG).toNat=1:=rfl;omega
   rw[this] at e;cases e
  rw[e1];have zl:Hc jD Ŗ (AA ps.drop 1 pD)=ALc:=by
   unfold jD;rw[List.length_zipWith,List.length_map,List.length_map,List.length_drop];omega
  show U' (∃(u v:Slot),Γ= [AOi,ABz x,u,v]/\xQ (ps.drop i) x=xQ ps x) (AE_ (Fu List.drop_zero))
  ·rintro i d _ hi ⟨u,v,rfl,hw⟩;have hil:By<ps.length:=by
    have:=ZY;show A_ zl;omega
   have hi2:some d=some (.tup [pD MC,pD AL5]):=by
    rw[<- hi];unfold jD;rw[List.getElem?_zipWith,List.getElem?_map,List.getElem?_map,List.getElem?_drop,ATt,Nat.add_comm 1 i,VY hil]
    rfl
   cases hi2;refine⟨rfl,rfl,_,at0,x,AMo,rfl,Agp,Tu (z4 hil).1,?_⟩
   rw[z4u hil] at hw;show Ů (x<AMo);by_cases hxr:x<AMo
   ·show nB hxr
    rw[Ap hxr] at hw;refine⟨MC,AL5,x,rfl,z4 ξ,z4 hil,zx,(ym3 hil hg).1,?_⟩
    rw[hw,eW];exact h
   ·show Ė hxr
    rw[Χ hxr] at hw;exact AE_ hw
  ·rintro _ ⟨u,v,rfl,hw⟩;rw[zl,AgB,List.drop_of_length_le ξ] at hw
   refine⟨rfl,_,AD',_,yhx ps h0,_,at1,?_⟩;rw[zj8 h0];have:ps[ALc].2=xQ ps x:=hw;rw[<- eW,<- this] at h;exact h
 ·show nB hx
  refine⟨rfl,_,AD',_,yf9 h0,_,at1,?_⟩;have:GC ps x=ps[0].2:=by
   generalize ps[0]=p0 at*;rw[hd] at hg⊢;exact yb4 hg hx
  rw[this] at h;exact h
theorem zym(U1):Azp rC:=ZI rC List.length_reverse zun
theorem z88{qs:Ψ}{q:Rat}(h:q∈rC qs):q∈qs:=AvB (List.mem_reverse.mp h)
theorem Rq(A2o):l.getD i d=l[i]:=BD h
theorem Wj(A2o):l.getD i d∈l:=AB (Rq h) (yU h)
theorem ycy(U1):Fall (rC qs):=by
 intro i j hij hj;have hi:i< BI rC qs:=ρ
 rw[Rq hj,Rq hi];unfold rC at*;rw[List.getElem_reverse,List.getElem_reverse];show Fs i j
 ·show e9 Rat.le_refl
 ·rw[List.length_reverse] at hj;exact List.pairwise_iff_getElem.mp (zxj qs) _ _ ξ ξ ξ
theorem zpj(BCv):ly (l.flatMap (Μ x [f x])=l.map f)
 | []=>rfl
 | x::l=>SV List.flatMap_cons zpj
theorem zzv{α:Type}(f:xF):ly (tV AvL=some AI5)
 | []=>rfl
 | x::l=>Ak7 tV AvL zzv
theorem z4q(f:Ψ):(iH f).getD (Ŀ iH - 1) 0=f.length/\0< Ŀ iH:=by
 show BO ?_ (by unfold iH;simp)
 cases hn:f.length with
 | zero=>unfold iH;rw[hn];rfl
 | succ n=>
  have e:iH f=(0::((List.range n).filter (GK f)).map (· +1))++ [n+1]:=by
   unfold iH;rw[hn,List.range_succ,List.filter_append,List.filter_cons,if_pos (by unfold GK;simp [hn])]
   simp
  show Ae1 e List.length_append List.length_singleton Nat.add_sub_cancel Ak3;simp
theorem zyh(AO Q9):Ch:=Eg
theorem z79(AO WD):ZE:=g6
theorem ygz(AO OD):Ch:=Eg
theorem zs2(AO WK):Ch:=Eg
theorem yjr(AO WL):LF:=aS
theorem zqs(AO WM):Ch:=g6
theorem zqn(AO WQ):Ch:=g6
theorem yjf(AO WR):Ch:=Eg
theorem Rr(Aoo)(f:AEw)(p:xF):Aam (AG' (AI Ġ (P [f a]) eA) a) (P (Awh f))
 | [],_,_,h=>h
 | CU,P,k,h=>by
  refine k a zY _ ?_;show D8 Ġ
  ·show D1 q;rw[List.filter_cons,EM] at h;exact Rr f p AR0 h
  ·show An q;rw[List.filter_cons,EE] at h;exact Rr f p AR0 h
theorem zk7(FI){one:ABp}(f g:AEw):Aam (AG' (P [g a]) a) (P (l.map g))
 | [],_,_,h=>h
 | CU,P,k,h=>A'd zk7
theorem zxs(AU Q9):MD zm4:=by
 show AMV x b;show fT rfl;show if decide (b.1<=x)=true then(∃d,mZ [D.int b.1,.int b.2] 1=some d/\_) else _;show D8 (b.1<=x)
 ·show nB q
  show fT rfl;have e:wF b x=decide (x<=b.2):=by unfold wF;simp [q]
  rw[e] at h;exact h
 ·show Ė q
  have e:wF b x=false:=by unfold wF;simp [q]
  rw[e] at h;exact h
theorem yk5(FI)(l:AG)(f:xF):(l.map f).any id=l.any f:=BJN
theorem z50(AU WD):ZN zrl:=by
 obtain⟨S,l,b,rfl,h⟩:=h;refine Rr D.int (Μ e AvM) (ACH e he) h;refine zk7 D.int (Μ s (.bl (wF b (e - s)))) (fun s hs P' hp' =>(JS (e - s) b hp')) ?_;show AX (l.map fun s=>AeC) (zzv _ l);rw[yk5];show GG (l.any fun s=>AeC) AhH eA;split
 ·show AV3
 ·show AV2
theorem O4(AZ5):A9P:=by
 unfold mZ;show AWv (Ŀ ut) n (by
  unfold vo;show AJI List.length_range AK1 RU
  congr 1
  omega)
 rw[e];show(ut f)[n]?=_;show Aez (List.getElem?_range ξ);rfl
theorem ye7(AU OD):ZO zzs:=by
 show BV S bs hl h h;show F7;show AX AMP AMP
 show U' (∃x,Γ= [AmW,AYe,Agq BE (qL (rk S bs j)),x]) Cf
 ·rintro i d _ hi ⟨x,rfl⟩;show UT bs.length (Z3 ZY)
  show yk;cases hi;have eb:bs.getD i c9=bs[i]:=BD hi'
  refine⟨Cf,Cf,_,O4,S,Alf,bs[i],rfl,?_⟩;show AX Asp (.pu (Ih bs[i]))
  rw[BJw By,List.map_append,<- eb]
  rfl
 ·show ASz x;show ED;exact h
theorem zue(AU WK):MD zi9:=by
 show xz m qs hm hz;refine Rr qD (Μ x (!(Θ (x<m)))) (fun x hx P hp=>⟨x,m,rfl,hz x hx,hm,?_⟩) ?_
 ·show nL (Θ (x<m)) (P [qD x]) eA;split
  ·show AV3
  ·show AV2
 ·show Q (B4 (D9 (BI (AA qs.filter _) qD)));show ED;exact h
theorem z42{x:Rat}{xs:Ψ}(h:Fall (Ee)):Fall xs/\AtF (Ahu<=x):=
 ⟨ANu (A5y BE),lT (A5y 0)⟩
theorem z08{m:Rat}:FD xs Ψ (∀j,Afx ->Ahu<m) (iY xs m=0)
 | [],_=>rfl
 | Ee,h=>by
  unfold iY;have h0:=h 0 Η
  rw[List.filter_cons,Χ (Bi h0)]
  exact z08 fun j hj=>(u_ (h ď ARh))
theorem Rt{m:Rat}:FD f Ψ (Fall f) (∀j,j<f.length ->(m<=f.getD j 0↔j<iY f m))
 | [],_,j,hj=>AAz hj
 | Ee,hf,j,hj=>by
  show B8 h1 h2 z42 hf;show D8 (m<=x)
  ·have e:iY AGB m=iY xs m+1:=xj iY List.filter_cons (Ap A0t)
   rw[e]
   match j,hj with
   | 0,_=>simpa using q
   | j+1,hj=>
    have:=Rt (m:=m) h1 j ARh
    rw[List.getD_cons_succ,this];omega
  ·have lt:AtF (Ahu<m):=fun j hj=>Rat.not_le.mp (AC (q (Rat.le_trans z (h2 j hj))));have e:iY AGB m=0:=AU9 iY List.filter_cons (Χ A0t) (z08 lt)
   rw[e]
   match j,hj with
   | 0,_=>simpa using q
   | j+1,hj=>
    have:=lt j ARh
    rw[List.getD_cons_succ];constructor
    ·intro z;exact Si this Rat.not_lt.mpr z
    ·intro z;omega
theorem z48(f:Ψ)(m:Rat):iY f m<=f.length:=C7 Afu
theorem zzf{a b:Ψ}(h:AKz)(m:Rat):iY a m=iY b m:=C7 (h.filter _).length_eq
theorem zt2(U1):(rC qs).Perm qs:=OZ List.reverse_perm _ (Om qs)
theorem ybq{f:Ψ}(hf:Fall f)(e:Nat):e∈iH f↔e=0\/∃m∈f,e=iY f m:=by
 unfold iH;rw[List.mem_cons];refine or_congr_right ?_;rw[List.mem_map];constructor
 ·show ADg k hk;show AkN hk;show AfU hk h1;show AX AWG (Wj hk);have a:=(Rt (m:=AWG) hf k hk).mp Rat.le_refl;have le:=z48 f (f.getD k 0);unfold GK at h2;show BGr Bool.or_eq_true h2;rcases h2 with h2 | h2
  ·omega
  ·show D8 (k+1<f.length)
   ·have:¬k+1<iY f (f.getD k 0):=AC (Rat.not_le.mpr h2 ((Rt (m:=AWG) hf EL q).mpr z));omega
   ·omega
 ·show ADg m hm;show xI i hi hm;have hi' :=(Rt (m:=f[i]) hf i hi).mp (KL Rq hi Rat.le_refl)
  have le:=z48 f f[i];show B0 (AWA - 1) (zA.mpr (Do (List.mem_range.mpr ξ))) ρ
  unfold GK;show BIZ Bool.or_eq_true;show D8 (iY f f[i]=f.length)
  ·left;omega
  ·right;rw[GU (AWA - 1+1) AWA]
   have a:¬f[i]<=f.getD (iY f f[i]) 0:=AC (absurd ((Rt (m:=f[i]) hf (iY f f[i]) ξ).mp z) (yS _))
   have b:=(Rt (m:=f[i]) hf (AWA - 1) ξ).mpr ξ
   exact Rat.not_le.mp (AC (a (Rat.le_trans b z)))
theorem wJ{qs:Ψ}{i:Int}:i∈iI qs↔i∈Aqd:=by
 unfold iI;rw[List.mem_map,List.mem_cons,List.mem_map];have key:=ybq (ycy qs);constructor
 ·show ADg e he;rcases(key e).mp he with rfl | ⟨m,hm,rfl⟩
  ·left;rfl
  ·right;exact⟨m,z88 hm,EK (zzf (zt2 qs))⟩
 ·rintro(rfl | ⟨m,hm,rfl⟩)
  ·exact Hk 0 ((key 0).mpr WU)
  ·exact Hk (iY qs m) ((key _).mpr (CL ⟨m,(zt2 qs).mem_iff.mpr hm,(zzf (zt2 qs) m).symm⟩))
theorem z69(U1):(iI qs).Pairwise (· < ·):=by
 unfold iI iH;show ASq List.pairwise_cons List.map_map;show CD AmJ
 ·show Ĭ k (zB.mp hi);exact Int.ofNat_lt.mpr (Nat.succ_pos k)
 ·rw[List.pairwise_map];refine(List.Pairwise.filter _ (List.pairwise_lt_range)).imp fun{a b} h=> ?_;exact Int.ofNat_lt.mpr ξ
theorem zmo:∀l:Ξ,lB AgZ=some l
 | []=>rfl
 | n::l=>Ak7 lB AgZ zmo
theorem ykv(AU WL):F_ z71 1:=by
 obtain⟨qs,rfl,hl,hz,h⟩:=h;show F7;show CD AMP
 refine zk7 qD (Μ m (.int (iY qs m))) (fun m hm P hp=>⟨m,qs,rfl,hz m hm,hz,hp⟩) ?_;show CD (Aut (1+ BI qs.map (fun m=>D.int (iY qs m))))
 show CA Aqd ?_ ?_ (Α ms hp hm)
 ·have:=zmo (Aqd);show X_ List.map_cons List.map_map;exact this
 ·show Acj List.length_map;omega
 ·obtain rfl:ms=iI qs:=z75 hp (z69 qs) (D3 ((hm i).trans wJ.symm));exact h
theorem ykd(bs:ID):(bs.map Ih).reverse=bs.reverse.map Ih:=Fu List.map_reverse
theorem yfb(AZ5):(ut f).reverse=ut (D3 (f (n - i))):=by
 show UE
 ·simp
 ·show x0;rw[List.getElem_reverse];simp
theorem Xm(xs:ψ):cutD xs li none=xs.drop 1:=by
 show ű;dsimp only;show mw
 cases xs with
 | nil=>rfl
 | cons x xs=>
  rw[ARg (min (Int.toNat 1) (Mb AGB)=1)]
  simp
theorem z06(AZ5):(ut f).drop 1=FC (D3 (f (By))):=by
 rw[List.range_succ_eq_map,List.map_cons,List.drop_one,List.tail_cons,List.map_map]
 rfl
theorem zqu(AU WM):ZO zht:=by
 obtain⟨S,n,bs,rfl,hl,hn,h⟩:=h;show YN (S.map D.int).reverse;rw[<- List.map_reverse];refine zk7 D.int (Μ e (.int AFg)) (fun e he P hp=>(Cb hn hp)) ?_;have eb:(S.reverse.map fun e=>D.int (n - e))=(jO S n).map Tk:=by unfold jO;show ei;rfl
 rw[eb];show OD c [qL (jO S n),.lst (bs.map Ih).reverse] (se (LN zf1 [AmW,AYe,.pu (qL (jO S n)),.pu d])) Ex;rw[ykd];refine C3 (jO S n) bs.reverse (AB List.length_reverse hl) ?_
 rw[List.length_reverse];show Q (BN (cutD (KF ARc _).reverse li none));rw[Xm,yfb,z06];exact h
theorem yki{n:Nat}(f g:sK):BDp:=by
 unfold jD;show UE
 ·simp
 ·show x0;simp
theorem ylz(bs:ID):bs.map Ih=ATj (YO (Ih (bs.getD k c9))):=by
 show UE
 ·simp
 ·show x0;show Ae6 h1;simp [h1]
theorem yed:∀l:Ξ,jd (l.map D.int)
 | []=>BD jd
 | i::l=>AB List.map_cons ⟨BD pY,yed l⟩
theorem yls(x:Int)(l:Ξ):inD (B4 x) (l.map Tk)=l.contains x:=by
 unfold inD;rw[List.any_map,<- List.any_beq']
 congr 1
theorem yk1(l:Ξ):(l.map D.int).all Eh=true:=IF List.all_map List.all_eq_true AC'
theorem zpn(AU WQ):F_ zgv 6:=by
 obtain⟨S,n,bs,rfl,hl,hn,nS,hg,h⟩:=h;show F7;show CD AMP
 refine⟨S,n,bs,rfl,hl,hn,?_⟩;show wg (jD (bs.map Ih) A9Y) _ _ _ _ _;rw[ylz,yki];show HQ (fun k Γ=>∃x y z,Γ= [AmW,AYe,Agq EL (.int (fk S n bs j)),x,y,z]) AZj ?_
 ·rintro k d _ hk ⟨x,y,z,rfl⟩;have hk' :k<bs.length:=by
   have:=HR hk
   rwa [List.length_map,List.length_range] at this
  show APS (List.getElem?_range hk') hk;cases hk;show wb rfl;refine Rr D.int (Μ e (wF AOL Ah2)) (fun e he P hp=>⟨_,O4,e - AQQ,bs.getD k c9,rfl,?_⟩) ?_
  ·show if wF AOL Ah2=true then AhH else eA;split
   ·show AV3
   ·show AV2
  show AX (yed _) Cf;refine Rr D.int (Μ e BCT) (fun e he P hp=>(C3 _ hn (yk1 _) ?_)) ?_
  ·show if inD (B4 AFg) ((rk ACl bs.reverse AJY).map .int)=true then AhH else eA;rw[yls];split
   ·show AV3
   ·show AV2
  obtain⟨m1,m2⟩:=ylf nS hg hk';have mm:∀e,e∈ ((S.filter fun e=>wF AOL Ah2).filter fun e=>BCT)↔e∈AX':=fun e=>by
   rw[List.mem_filter,List.mem_filter,uL,List.contains_iff_mem,zxp,and_assoc]
  refine⟨_,AFe,zmo _,(mm _).mpr m1,Ł (m2 i ((mm i).mp hi)),Asp,?_⟩
  show∃x y z,_= [Slot.pu (qL S),AYe,Agq (k+1+1) (A8M j),x,y,z];show AKe (BJw (k+1));exact AZj
 ·rintro _ ⟨x,y,z,rfl⟩;show BJv;show Q (BN (cutD (KF ARc _) li none));rw[Xm,z06];have e:ATj (Wp (A8M BE))=AA (KF bs.length) (YO AFe) Tk:=nI
  rw[e];exact h
theorem Lk(U1):IG∈iI qs:=wJ.mpr zY
theorem zxt(U1):Last (iI qs) qs.length/\ ma∈iI qs:=by
 show vT e1 (z4q (rC qs));rw[zym] at e1;have hlt:AYZ - 1< AYZ:=ρ
 rw[Rq hlt] at e1;show CD ?_
 ·unfold Last mZ iI;show AWv (BI (AA (AA iH Î) Int.ofNat) D.int) (AYZ - 1) (by
   unfold vo;show Aid AK1 RU
   congr 1
   omega)
  rw[e];show(AA (AA iH Î) Int.ofNat D.int)[AYZ - 1]?=_;rw[List.getElem?_map,List.getElem?_map,VY hlt,e1]
  rfl
 ·unfold iI;rw[List.mem_map];exact Hk qs.length (BA e1 (yU hlt))
theorem yh0(AZ4):(rk AUT bs bs.length).contains ma=sY qs bs:=by
 unfold sY;have:=z2x (bs:=bs) (Lk qs) (zxt qs).2;rw[Bool.eq_iff_iff,List.contains_iff_mem,List.contains_iff_mem];exact this
theorem yi0(AU WR):ZO z8m:=by
 obtain⟨qs,bs,rfl,hl,hz,hb,h1,h2⟩:=h;refine⟨qs,rfl,hl,hz,iI qs,bs,rfl,hb,?_⟩;refine C3 _ O4 (yk1 _) ?_;show nL (inD (B4 (i4 qs.map qD)) ((rk AUT bs bs.length).map Tk)) _ _;show ADd yls yh0;by_cases g:ApP
 ·rw[dL (AJx g)]
  show B8 k1 k2 zxt qs;exact⟨iI qs,qs.length,bs,rfl,hb,k1,k2,List.contains_iff_mem.mp g,h1 g⟩
 ·have g' :sY qs bs=false:=AN g
  exact(h2 g').elim
structure aeg (π):Prop where
 ok:w6 K c.nQ
 okG:Fo K c.nQ
 okV:VE K c.nQ
 f1:iR K c.nQ c.Dh=true
 f2:iR K c.nQ c.nQ=true
 f3:LL (iR K c.nQ c.Je)
 f4:LL (iR K c.nQ c.Open)
theorem zmd(AO WW):Ch:=Eg
theorem zpd(AO WX):Ch:=Eg
theorem ykl{qs:Ψ}{c:Nat}(h0:0<c)(hc:Atq):Ą (AA xP qs) qD (-(AL c)) (qD ((rC qs).getD ATz 0)):=by
 have hl:=zun qs;unfold mZ;have e:vo (BI (AA xP qs) qD) (-(AL c))=some (qs.length - c):=by
  unfold vo;show AJI hl UM RU
  congr 1;omega
 rw[e];show(AA xP qs qD)[AwI]?=_;show Aez ATt
 unfold rC;have h2:c - 1< (xP qs).reverse.length:=AK0 List.length_reverse hl
 rw[Rq h2,List.getElem_reverse];simp only [hl,Option.map_some,GU (qs.length - 1 - ATz) AwI]
theorem zye(xs:ψ)(h:0<xs.length):cutD xs none (some GS)=xs.dropLast:=by
 show ű;simp only [List.drop_zero,Nat.sub_zero];rw[Ap τ,List.dropLast_eq_take]
 congr 1;omega
theorem ykw{f:Ψ}{c:Nat}{q:Rat}(hc:c<=f.length)(h:Cr f c=some q):q∈f:=by
 show BC Cr;show C4
 ·cases h
 ·cases h;exact Wj ξ
theorem zmq(AU WW):ZN zfd:=by
 obtain⟨qs,cs,rfl,hl,hz,hc0,hc,h⟩:=h;refine⟨qs,rfl,hl,hz,?_⟩;show YN (cutD (cs.map intD) none (D' GS));rw[zye _ (B6 List.length_map hc0),<- List.map_dropLast]
 have key:∀d∈cs.dropLast.map intD,∀P,P [Aqy] ->Jg (hName 0) dJ A7Q [υ,HI (AA xP qs qD)] d P:=by
  intro d hd P hp;show OP k hk hd;have hk' :=hc k (List.dropLast_subset _ hk);show Ů (IG< CS)
  change P [ARW Aud] at hp
  rw[Int.toNat_natCast] at hp;by_cases h0:k=0
  ·subst h0;show mw
   exact hp
  ·rw[if_pos (by simp;omega)]
   show fT (ykl ξ hk')
   unfold Cr at hp;rw[Χ h0] at hp;exact hp
 refine zo0 (se [Aqy]) key ?_
 rw[zpj,List.map_map];have e:(fun d:D=>Aqy) ∘ intD=YO (ARW k):=by
  funext k
  show bD (Cr (rC qs) Aud)=_;rw[Int.toNat_natCast]
 rw[e];have e2:cs.dropLast.map (Μ k (ARW k))=AA cs.dropLast.map A4G bD:=nI
 rw[e2];exact h
theorem zlu{α:Type}{p:xF}:∀{l:AG} {i:Nat},(∀j b,j<i ->HK l b ->p b=false) ->(IS (B' l b) (p b=true)) ->i<=l.length ->l.findIdx p=i
 | [],i,_,_,h=>by simp at h;subst h;rfl
 | x::l,0,_,h2,_=>SV List.findIdx_cons (h2 x rfl)
 | x::l,By,h1,h2,h3=>by
  rw[List.findIdx_cons,h1 0 x ξ rfl]
  show l.findIdx p+1=By;rw[zlu (fun j b hj hb=>h1 ď b ξ hb) (fun b hb=>h2 b hb) (Bi h3)]
theorem zpp(AU WX):ZO zgw:=by
 show xz bs m hz hm;show U' (∃(x y:Slot),Γ= [HI (bs.map bD),ABz m,x,y]/\∀j b,j<i ->HK bs b ->AyM) (AE_ (fun j b hj=>ρ))
 ·rintro i d _ hi ⟨x,y,rfl,hn⟩;show AKg Zw hi;cases q:bs[i]? with
  | none=>show GT q hi hi
  | some b=>
   rw[q] at hi;cases hi;have hil:i<bs.length:=HR q;have next:AyM ->∀j b',j<By ->HK bs b' ->isIn m b' =false:=fun hb j b' hj e=>by
    by_cases ej:j=i
    ·subst ej;show MZ;cases e;exact hb
    ·exact hn j b' ξ e
   show wb rfl;cases b with
   | none=>exact AE_ (next rfl)
   | some p=>
    show Zl m p rfl hm (hz _ (yV q) p rfl);show nL (Θ (m<p)) _ _;by_cases hw:d_ (Θ (m<p))
    ·show D1 hw;have e:nZ bs m=i:=zlu hn (fun b' hb' =>by rw[q] at hb';cases hb';exact hw) ξ
     rw[e] at h;rw[Nat.zero_add];exact h
    ·show ky hw (AE_ (next (by simpa [isIn] using hw)))
 ·rintro _ ⟨x,y,rfl,hn⟩;show Q (B4 (i4 bs.map bD));rw[Zv] at hn;rw[List.length_map] at hn⊢;have e:nZ bs m=bs.length:=zlu hn (fun b hb=>(AAz hb)) CC
  rw[e] at h;exact h
abbrev Bo(Q:ķ):oZ:=Aos (IV Q)
theorem Xn{x:Str}:∀{g:ο},inD ŉ (g.map T0)=decide (ALK)
 | []=>BD inD
 | y::g=>by
  have ih:=Xn (x:=x) (g:=g);unfold inD at ih⊢;show ASq List.any_cons ih;by_cases h:y=x
  ·subst h;simp [Zr]
  ·have h' :¬x=y:=AC (h z.symm);simp [Zr,h,h']
theorem zt7(g:ο):(g.map D.str).all Eh=true:=AB List.all_map (List.all_eq_true.mpr fun _ _=>rfl)
theorem zru{α:Type}(f:xF):ly (tV (l.map fun x=> .bl (f x))=some AI5)
 | []=>rfl
 | CU=>Q2 tV (zru f l)
theorem Dy(Aoo)(f:AEw)(g:AEw):Aam (∀P,P [g a] ->one (f a) P) (P (l.map g))
 | [],_,_,h=>h
 | CU,P,k,h=>A'd Dy
theorem zgl(Aoo)(f g:AEw)(p:xF):Aam (∀P,P (if Ġ then [g a] else []) ->one (f a) P) (P (Awh g))
 | [],_,_,h=>h
 | CU,P,k,h=>k a zY _ (zgl f g p AR0 (by
   rw[List.filter_cons] at h;show D8 Ġ
   ·show c8 EM h h
   ·show c8 EE h h))
theorem yll(AU Ra):MD z53:=by
 show AMV g hs;refine Dy D.str (Μ x (Ab4 ALK)) (fun x hx P hp=> ?_) ?_
 ·show AX rfl (zt7 g);rw[Xn];exact hp
 ·show fT (zru _ hs);have e:(hs.map (IL (Θ ALK))).any id=dX g hs:=BJN
  rw[e];exact h
theorem n6{hs:ο}{h x:Str}:x∈jE hs h↔x∈hs\/x=h:=by
 unfold jE;split
 ·exact⟨.inl,fun q=>by rcases q with q | rfl;exact q;assumption⟩
 ·show Axf
theorem zrs{hs:ο}{h:Str}(nd:hs.Nodup):(jE hs h).Nodup:=by
 unfold jE;split
 ·exact nd
 ·show GN;show Ae4;exact⟨nd,AY,BDd q⟩
theorem yc4(AoC):Hc jE hs h<=hs.length+1:=by
 unfold jE;split
 ·omega
 ·simp
theorem Cy{α β:Type}{x:β}{l:HZ}:(Sum.inr x:Sum α β)∈l.map Sum.inr↔x∈l:=AB List.mem_map (im ⟨y,h,e⟩ (by injection e with e;exact e ▸ h) (B_ (Hk x h)))
theorem JC(AoC):mF (hs.map .inr) my=decide (m_):=by
 show D8 m_
 ·show vz q;exact uH.mpr (Cy.mpr q)
 ·show me q;cases z:mF (hs.map Sum.inr) (Sum.inr h:Key) with
  | false=>rfl
  | true=>exact Ya Cy.mp (uH.mp z) q
theorem zkq(AoC):gK (hs.map .inr) my=(jE hs h).map .inr:=by
 unfold gK jE;rw[JC];show D8 m_
 ·rw[Ō,BU,EM]
 ·rw[ŋ,AK1,EE,List.map_append];rfl
theorem z70{hs:ο}{xs:ψ}{h:Str}{d:D}(e:hs.length=xs.length):Hc jE hs h=(dU Ŋ xs my d).length:=by
 unfold dU jE;rw[JC];show D8 m_
 ·rw[Ō,BU,EM,List.length_zipWith,List.length_map,e,Nat.min_self]
 ·rw[ŋ,EE,OT];simp [e]
structure Ru (rows:A5) (n:Nat) (ws:ο) (ps:AKN):Prop where
 len:Asx
 nd:ws.Nodup
 lw:ws.length<=n
 pt:BDj
 ex:Av8
theorem zsf(ArC):gj AeD w=Ö++ (AI (ω=w) [r] []):=by
 unfold gj;rw[List.filter_append]
 congr 1
 show Ai2
theorem z33(ArC):Ay3 kW iX:=by
 unfold kW;show AKe zsf
 congr 1
 show Ai2
theorem ycz(OE){w:Str}(h:¬(S_ (ω=w))):A0N:=C7 (List.filter_eq_nil_iff.mpr fun r hr z=>h (ABi BIw))
theorem zur(ArC):Ay3 vP AdR:=by
 unfold vP;show AKe List.filter_append
 congr 1
 show Ai2
theorem eU{rows:A5}{w h:Str}:h∈AdR↔S_ Aav:=by
 unfold vP;rw[List.mem_map];constructor
 ·rintro⟨r,hr,e⟩;show AkN hr;exact⟨r,h1,BJl,e⟩
 ·rintro⟨r,h1,h2,e⟩;exact⟨r,zA.mpr ⟨h1,BJk⟩,e⟩
theorem Ru.new{rows:A5}{ws:ο}{ps:AKN}{w:Str}(B:AeM)(hw:w∉ws):Ru rows BIo Aks Azj:=by
 refine⟨BD B.len,?_,AN B.lw,fun q v p h1 h2=> ?_,fun u q v p h1 h2=> ?_⟩
 ·show Ae4;exact⟨B.nd,AY,BDd hw⟩
 ·by_cases hq:q<ws.length
  ·rw[List.getElem?_append_left hq] at h1;rw[List.getElem?_append_left (BA B.len hq)] at h2
   exact B.pt q v p h1 h2
  ·have hl:q< Mb Aks:=HR h1;rw[List.length_append,List.length_singleton] at hl;have hq' :q=ws.length:=ρ
   subst hq';rw[Ak3] at h1;show A'p
   simp at h1;simp [B.len] at h2;show ġ;show CA rfl AY DV (B_ (AwF mr))
   obtain⟨r,hr,e,_⟩:=eU.mp z;exact Ya (B.wm w).mpr AVK hw
 ·by_cases hq:q<ws.length
  ·rw[List.getElem?_append_left hq] at h1;rw[List.getElem?_append_left (BA B.len hq)] at h2
   exact B.ex u q v p h1 h2
  ·have hl:q< Mb Aks:=HR h1;rw[List.length_append,List.length_singleton] at hl;have hq' :q=ws.length:=ρ
   subst hq';rw[Ak3] at h1;show A'p
   simp at h1;simp [B.len] at h2;show ġ;have:=ycz (rows:=rows) (w:=w) fun AVK=>hw ((B.wm w).mpr AVK);unfold kW;rw[this];rfl
theorem z1d{ws:ο}(nd:ws.Nodup){i j:Nat}(hi:i<ws.length)(hj:j<ws.length)(e:Os=ws[j]):i=j:=by
 show AN5 nd;rcases Nat.lt_trichotomy i j with q | q | q
 ·exact Si e (key i j hi hj) q
 ·exact q
 ·exact Si e.symm A'7 q
theorem Ru.put{rows:A5}{ws:ο}{ps:AKN}{r:Rw}{q:Nat}{p:ο×ψ}(B:Ru rows BIo ws ps)(wm:∀v,v∈ws↔ (S_ (ω=v))\/v=ω)(h1:ci ws ω)(h2:ci ps p)(d:D)(hd:d= sQ):
  Lh AeD ws (ps.set q (jE AM A3,dU ((AM).map .inr) C9 Af3 d)):=by
 show Aap (B.pt q ω p h1 h2);have hq:q<ps.length:=HR h2;refine⟨AB List.length_set B.len,B.nd,AN B.lw,MA v,fun q' v p' e1 e2=> ?_,fun u q' v p' e1 e2=> ?_⟩
 ·rw[wm v];constructor
  ·rintro(⟨r',h,e⟩ | e)
   ·show NO r' (zP _ h) e
   ·exact N4 AY e.symm
  ·rintro⟨r',h,e⟩;show NY (zT.mp h)
   ·show BQ ⟨r',h,e⟩
   ·rw[List.mem_singleton.mp h] at e;exact .inr e.symm
 ·by_cases vM:q=q'
  ·subst vM;rw[h1] at e1;cases e1;rw[List.getElem?_set_self hq] at e2;cases e2;show CA (z70 b1) (zrs b2) (zO yc4 (Bi b3)) ņ
   rw[n6,zur,BU,List.mem_append,b4 h,List.mem_singleton]
  ·rw[List.getElem?_set_ne vM] at e2;obtain⟨c1,c2,c3,c4⟩:=B.pt q' v p' e1 e2;have hv:¬ω=v:=AC (by
    have l1:=(zV.mp h1);have l2:=(zV.mp e1);obtain⟨l1,l1'⟩:=l1;obtain⟨l2,l2'⟩:=l2;exact BEh)
   show CA c1 c2 (AN (BIU c3)) ņ
   rw[c4 h,zur,ATG,List.append_nil]
 ·have u0:FF:=(List.pairwise_append.mp u).1;by_cases vM:q=q'
  ·subst vM;rw[h1] at e1;cases e1;rw[List.getElem?_set_self hq] at e2;cases e2;have ep:=B.ex u0 q ω p h1 h2;have hn:A3∉AM:=AC (by
    rw[ep] at z;obtain⟨r',hr',g1,g2⟩:=jm.mp z;exact(List.pairwise_append.mp u).2.2 r' hr' r Η ⟨g1,g2⟩)
   rw[z33,zsf,BU,BU];unfold jE dU;rw[Χ hn,JC,decide_eq_false hn,OT,ep,hd,List.map_append]
   rfl
  ·rw[List.getElem?_set_ne vM] at e2;have hv:¬ω=v:=AC (by
    have l1:=(zV.mp h1);have l2:=(zV.mp e1);obtain⟨l1,l1'⟩:=l1;obtain⟨l2,l2'⟩:=l2;exact BEh)
   rw[z33,zsf,ATG,ATG,List.append_nil,List.append_nil];exact B.ex u0 q' v p' e1 e2
theorem zth{ws:ο}(nd:ws.Nodup):e_ ws.map Av7:=by
 unfold List.Nodup;rw[List.pairwise_map];exact nd.imp fun h z=>(AT0 h)
theorem z7z(AU OJ):ANM zrf 5:=by
 show AFc rows hl;show F7;intro as;show U' (BIR i) ?_
 ·exact⟨as,[],[],_,_,_,⟨rfl,AY,AY,B2 (AwF (fun(ABi _)=>by(simp at hr))),fun q w p e=>(by simp at e),fun _ q w p e=>AFJ⟩,rfl⟩
 ·rintro i d _ hi ⟨as,ws,ps,x,y,z,B,rfl⟩;show UT rows.length (Z3 ZY)
  show yk;cases hi;have tk:rows.take BE=rows.take i++ [rL]:=AUQ APT
  have hlt:BI rows.take i=i:=Tm List.length_take
  have fin:∀as ws ps,Ru (rows.take i) (BI rows.take i+1) ws ps ->(∀v,v∈ws↔ (∃r∈rows.take i,ω=v)\/v=tj) ->
    zic K c {nx:=AzA,ct:=AzA,bk:=fun Γ=>zm2 K c (Bo Q) Γ VO,rt:=L7,rT:=IV Q}
     [Kj,XL (.dic QU AQ0),Lm tj,Lm rL.2.1,Bn rL.2.2] VO:=by
   intro as ws ps B wm;have hm:tj∈ws:=(wm _).mpr Af1;show At q hq eq List.mem_iff_getElem.mp hm;have hq2:q<ps.length:=BA B.len hq
   have e1:ci ws tj:=EW (VY hq) eq
   have e2:ci ps ps[q]:=zZ hq2;show Aap (B.pt q _ _ e1 e2);have BW:=B.put wm e1 e2 (B4 rL.2.2) rfl;rw[<- tk] at BW;refine⟨Afp,.inr rL.2.1,as,oC,Aib,q,(ps[q].1).map .inr,ps[q].2,rfl,rfl,rfl,zth B.nd,AJz e1,AJz e2,Of,?_⟩
   refine⟨as,ws,_,Lm tj,Lm rL.2.1,Bn rL.2.2,BW,?_⟩;rw[zkq,List.map_set]
   rfl
  refine⟨rfl,rfl,Afp,as,oC,Aib,rfl,rfl,?_⟩;rw[JC];by_cases hw:tj∈ws
  ·show vz hw;refine fin as ws ps ⟨B.len,B.nd,BIU B.lw,B.pt,B.ex⟩ (MA v);rw[B.wm v];exact ADf .inl (by rcases z with z | rfl;exact z;exact(B.wm _).mp hw)
  ·show me hw;refine⟨Afp,as,oC,Aib,rfl,rfl,EW JC (decide_eq_false hw),Aj_ B.lw,MA cs⟩
   have:=fin AWq (ws++ [tj]) Azj (Ru.new B hw) fun v=>by
    rw[List.mem_append,B.wm v,List.mem_singleton]
   show X_ List.map_append List.map_append;exact this
 ·rintro _ ⟨as,ws,ps,x,y,z,B,rfl⟩;show A1v rows.take rows.map qM rows
  rw[e] at B;exact h ws ps B
theorem zvi:∀xs:ο,uI AEz=some xs
 | []=>rfl
 | Ee=>by show Ae2;unfold uI;rw[zvi xs];rfl
theorem yh4{xs U:ο}(h:P_ xs U):BI rO xs<=U.length:=HX (zrv xs) (Ŝ (h x (yH.mp hx)))
theorem zyv{xs U:ο}{P:P9}(h1:xs.length<4095)(h2:AYG)(h3:P_ xs U)(h:Ŵ ο AM8 (∀i,i∈ms↔i∈xs) T0):KJ [gl xs] P:=
 ⟨xs,zvi xs,h1,zL (yh4 h3) ξ,h⟩
theorem zfi{p:mM ο}:∀fs:GV,Ae5 (fs.filter p).flatten.length
 | []=>AY
 | VA=>by
  have:=zfi (p:=p) fs;rw[List.filter_cons];split<;>simp only [List.flatten_cons,List.length_append]<;>omega
theorem zwh(fs:GV)(i:Nat):Ae5 (fs.take i).flatten.length:=by
 conv=>rhs;rw[<- AfV fs,List.flatten_append,List.length_append]
 omega
theorem ycl(AU W0):F_ zvf 5:=by
 obtain⟨fs,hs,U,rfl,hl,hfl,hU,u1,u2,h⟩:=h;show ſ 8000
 refine zgl gl gl AwZ (ACH f hf) ?_
 ·show HQ f hs rfl;show nL ABs (P [gl f]) eA;show D8 (d_ ABs)
  ·show AG2 EM
  ·show AG2 EE
 ·show U' (∃x,Γ= [Aza,J' hs,HI (AA fs.filter (fun f=> ! ABs) gl),.ow ((hs++ ((fs.take i).filter AXH).flatten).map .str),x]) ⟨υ,by simp [gl];rfl⟩
  ·rintro i d _ hi ⟨x,rfl⟩;show UT fs.length (Z3 ZY)
   show yk;cases hi;have tk:fs.take BE=fs.take i++ [ľ]:=AUQ APT
   show HQ ľ hs rfl;show if dX ľ hs=true then _ else _;show D8 (dX ľ hs=true)
   ·show D1 q;show HQ Cf ?_ (J' ľ)
    ·have h1:=zfi (p:=AXH) (fs.take BE);have h2:=zwh fs BE;rw[tk,List.filter_append,List.flatten_append,List.length_append] at h1;simp only [List.filter_cons,q,if_true,List.filter_nil,List.flatten_cons,List.flatten_nil,List.append_nil] at h1;rw[tk] at h2;show ADd List.length_append List.length_map;omega
    ·show A3M;show A9x if_true List.filter_nil List.flatten_cons;rw[<- List.append_assoc,List.map_append (l₂:=ľ)]
     rfl
   ·show An q;show CD (J' ľ);show A3M;show A9x Bool.false_eq_true if_false List.filter_nil
    rfl
  ·show ASz x;show A1v fs.take fs.map gl fs
   rw[e];have hx:∀x,x∈hs++ (fs.filter AXH).flatten↔x∈hs\/Aqu hs:=fun x=>by
    rw[List.mem_append,List.mem_flatten];constructor
    ·rintro(a | ⟨f,hf,a⟩)
     ·show BQ a
     ·show AkN hf;exact .inr ⟨f,h1,h2,a⟩
    ·rintro(a | ⟨f,h1,h2,a⟩)
     ·show BQ a
     ·show Bz ⟨f,zA.mpr ⟨h1,h2⟩,a⟩
   unfold zom;dsimp only [aG,bG,cC,cV,cB,cT,iT,sS,iC,eG,jB,fU,qy,aq,aj,eF,dD,dg,fJ,bw,gA,dh,aX,cL,hName,eZ,aZ,fj,j8,jC,aB,cU,gZ,fZ,cN,fY,cM,d8,bU,ji,qZ,tQ,pR,vp,sW,jj,mC,pU,cO,wI,qF,rA,jK,vq,vA,dM,j9,gC,kh,kj,List.length,List.set_cons_zero,List.set_cons_succ,List.getElem?_cons_zero,List.getElem?_cons_succ,fK,lN,rB,tU,pC,oR,pF,kE,fB,dN,jk,pW,qx,tW,gQ,pG,cW,dO,rK,vG,rJ,kJ,kO,iL,dR,gb,jL,dJ,List.map,List.append,List.cons_append,List.nil_append];refine zyv (U:=U) ?_ hU (Iq x q) (y9 ms s2)
   ·have:=zfi (p:=AXH) fs;show Ae3;omega
   ·rcases(hx x).mp q with a | ⟨f,h1,_,a⟩
    ·exact u1 x a
    ·exact u2 f h1 x a
   ·show AX AL3 ?_
    ·have:=List.length_filter_le AwZ fs;show ED;omega
    ·have:=h ms s1 (IL (OZ s2 x (hx x)));show A_ List.map_append;exact this
theorem Ln{g:ο}(h:ANC g.Pairwise):g.Nodup:=h.imp fun{a b} q z=>(Adp z4p)
theorem asT(a b:Str)(h:Ï):¬nM b a=true:=AB (zzn h) zJ
theorem z05{rows tu :A5}{Ss HW :GV}(F:Fam rows Ss)(F' :Fam tu HW)(e:BIK):Anf :=fun S hS=>by
 show AS r hr k F.of S hS;obtain⟨S',hS',k'⟩:=F'.to r ((e r).mp hr);show B0 S' hS' (IL ?_);rw[k x,k' x,eU,eU];exact xc (N4 h q) (N4 ((e r).mp h) q) (N4 h q) (N4 ((e r).mpr h) q)
theorem Ek.sub(BDs):AN1 (m∈JD) :=ACe (by
 show AHC h.pi;obtain⟨HW,F',p'⟩:=h'.pi;obtain⟨m',hm',k⟩:=p.same p' (z05 F F' e) (z05 F' F (Kb (NI e r))) hm;rw[V7 asT (h.sr m hm) (h'.sr m' hm') k];exact hm')
theorem Ek.uniq(BDs):ms=JD :=
 V7 (R:=fun a b=>Apj) (fun a b q=>asT _ _ q) h.up h'.up fun m=>⟨h.sub h' e m,h'.sub h (E_ (NI e r)) m⟩
theorem ydl{f:ο}(h:AUA):hdS f∈f:=by
 cases f with
 | nil=>show AEu h
 | cons x f=>exact zY
theorem z0b:∀{fs:GV},(∀f∈fs,AUA) ->Anz ->e_ fs.map hdS
 | [],_,_=>AY
 | VA,ne,d=>by
  rw[List.pairwise_cons] at d;rw[List.map_cons,List.nodup_cons];show BO mr (z0b (fun g hg=>A4h) d.2);show ND g hg (zB.mp z);exact d.1 g hg (hdS f) (ydl (ne f zY)) (e ▸ ydl (ne g (zW _ hg)))
theorem z7m:FD fs GV (AYU AUA) (Ae5 fs.length)
 | [],_=>AY
 | VA,ne=>by
  have:=z7m (fs:=fs) fun g hg=>A4h;have h1:0<f.length:=Auh ne f;rw[List.length_cons,List.flatten_cons,List.length_append];omega
theorem z1l{Ss fs:GV}{U:ο}(p:AGO)(h:AJe AVl):ANe (P_ f U):=fun f hf x hx=>by
 show At S hS q (p.co x).mp (AGI hx);exact h S hS x q
theorem zzg{Ss fs:GV}{U:ο}(p:AGO)(nd:ANe f.Nodup)(h:AJe AVl):fs.flatten.length<=U.length:=
 HX (zis p.dj nd) (Ŝ (by
  show AK_ f hf q hx;exact z1l p h f hf x q))
theorem Lq:∀l:ψ,j7 (HA l.map)=l
 | []=>rfl
 | d::l=>by show Ae2;unfold j7;rw[Lq l];rfl
theorem zn0{α:Type}(f:α ->T):AyZ j7 (IL (toD (f x)))
 | []=>rfl
 | d::l=>by show Ae2;unfold j7;rw[zn0 f l];rfl
theorem ybc(hs:ο):AA hs.map Av7 fP=hs.map T0:=nI
theorem z95(AU W3):ANM zvy 3:=by
 obtain⟨rows,U,rfl,hl,hU,hu,h⟩:=h;refine C3 DV rows hl A0';have hpU:JE ps (((AM).Nodup/\AM≠ []/\P_ AM U)/\Axu AM):=fun p hp=>by
  show At q hq e List.mem_iff_getElem.mp hp;have hq2:q<ws.length:=AB B.len hq
  show Aap (B.pt q _ p (zZ hq2) Ayp)
  obtain⟨r,hr,er⟩:=(B.wm ws[q]).mp (yU hq2);show CA ⟨b2,mr,AGY⟩ r hr (IL (AB er (b4 x)))
  ·have:=(b4 A3).mpr (eU.mpr ⟨r,hr,er,rfl⟩);show wT;show CH
  ·obtain⟨r',h1,_,h3⟩:=eU.mp ((b4 x).mp hx);exact h3 ▸ hu r' h1
 have few:∀i,∀S∈ AA ps.take i (·.1),AVl:=fun i S hS x hx=>by
  show OP p hp hS;exact(hpU p (AfA hp)).1.2.2 x hx
 show U' (∃fs x,mU ((ps.take i).map (·.1)) fs/\ (AYU (ANC f.Pairwise))/\Γ= [Kj,Aza,x]) ⟨[],_,AN mU.nil,fun f hf=>by(cases hf),rfl⟩
 ·rintro i d _ hi ⟨fs,x,p,sr,rfl⟩;rw[zn0] at hi;show UT ps.length (Z3 ZY)
  show yk;cases hi;have tk:ps.take BE=ps.take i++ [MC]:=AUQ APT
  obtain⟨⟨q1,q2,q3⟩,_⟩:=hpU MC (yU hi');have l1:=HX q1 q3;have l2:=zzg p (fun f hf=>A6j) (few i);have l3:=z7m p.ne;refine⟨fs,MC.1,U,?_,ρ,ρ,hU,q3,z1l p (few i),Α g g1 g2⟩
  ·rw[ybc];rfl
  ·refine⟨AYk (dX f MC.1),_,?_,AD f hf,rfl⟩
   ·rw[tk,List.map_append];exact p.step q2 g2
   ·show Apf
    ·exact sr f (ALJ hf)
    ·show YY hf;exact g1
 ·rintro _ ⟨fs,x,p,sr,rfl⟩;have e:ps.take (BI j7 AQ0)=ps:=by rw[zn0,List.length_map,List.take_length]
  rw[e] at p;have ab9 :∀S∈ps.map (·.1),AVl:=qo (few ps.length) List.take_length
  have l2:=zzg p (fun f hf=>A6j) ab9;have l3:=z7m p.ne;refine⟨fs,rfl,p.ne,z0b p.ne p.dj,ρ,fun ms pm up=>h ms ⟨ACe (sr m (pm.mem_iff.mp hm)),up,_,⟨AD S hS,ũ⟩,p.perm pm⟩⟩
  ·show OP p hp hS;exact(hpU p hp).2
  ·have hw:=(B.wm ω).mpr Ah6;show At q hq e List.mem_iff_getElem.mp hw;have hq2:q<ps.length:=BA B.len hq
   show Aap (B.pt q ω ps[q] Ayp (zZ hq2))
   exact⟨ps[q].1,zB.mpr (HL (yU hq2)),b4⟩
theorem q27{q z k:Rat}(k0:k≠0)(e:q*k=z):q=z/k:=by rw[<- e,Rat.div_def,Rat.mul_assoc,BIm k0,Rat.mul_one]
def GZ(B:Nat)(q:Rat):Prop:=∃z:Int,q*27720=ATB/\AiD
theorem GZ.add(BBG):GZ (A+B) (p+q):=by
 obtain⟨a,ea,ha⟩:=h1;obtain⟨b,eb,hb⟩:=h2;show Y_ (a+b) ρ
 rw[Rat.intCast_add,<- ea,<- eb];grind
theorem GZ.sub(BBG):GZ (A+B) (p - q):=by
 obtain⟨a,ea,ha⟩:=h1;obtain⟨b,eb,hb⟩:=h2;show Y_ (a - b) ρ
 rw[Rat.intCast_sub,<- ea,<- eb];grind
theorem GZ.mono{A B:Nat}{q:Rat}(h:GZ A q)(l:A<=B):ADV:=by
 show GH a ea ha;exact⟨a,ea,zO ha l⟩
theorem z4f{B:Nat}:An' ADV (GZ (qs.length*B) (fL qs))
 | [],_=>Ai9 (sf fL)
 | q::qs,h=>by
  refine((h q zY).add (z4f AhJ)).mono ?_;show Ajx;omega
theorem O5{n:Nat}(h1:1<=n)(h2:n<=12):n* (27720/n)=27720:=by
 match n,h1,h2 with
 | 1,_,_=>rfl
 | 2,_,_=>rfl
 | 3,_,_=>rfl
 | 4,_,_=>rfl
 | 5,_,_=>rfl
 | 6,_,_=>rfl
 | 7,_,_=>rfl
 | 8,_,_=>rfl
 | 9,_,_=>rfl
 | 10,_,_=>rfl
 | 11,_,_=>rfl
 | 12,_,_=>rfl
theorem z8l{t:Int}{n B:Nat}(h1:1<=n)(h2:n<=12)(ht:t.natAbs<=B):GZ (B*27720) (Lo t (D9 n)):=by
 have e:=O5 h1 h2;show Re n0 (Ď n) (by
  have:n=0:=by show vb
  omega)
 show AX (t* B5 (27720/n)) ?_
 ·show AxI (Ο 27720) (Ο (D9 n)* Ď (27720/n))
  rw[e',Rat.intCast_mul,Rat.div_def,Rat.mul_assoc,<- Rat.mul_assoc (Inv.inv (Ď n)),ı n0,Rat.one_mul]
  rfl
 ·rw[Int.natAbs_mul];refine Nat.mul_le_mul ht ?_;rw[Int.natAbs_natCast];exact Nat.div_le_self _ _
theorem yd6{t:Int}{B:Nat}(ht:t.natAbs<=B):GZ (B*27720) (Ο t):=by
 show AX (t*27720) (EK Rat.intCast_mul)
 rw[Int.natAbs_mul];exact Nat.mul_le_mul ht (zN _)
theorem ygu{B n:Nat}{q:Rat}(h:ADV)(hB:B<2^n):cY q.num<=n/\cY į<=15:=by
 show GH z e hz;have eq:q=Lo z (AL 27720):=q27 τ e
 have b1:cY z<=n:=mq ξ
 have f:=A1x τ
 have e1:(fr z 27720).1=_:=AUS Prod.fst;have e2:(fr z 27720).2=_:=AUS Prod.snd;show Al7;rw[eq];show BO (AWw b1) (zO (Azs ?_) (mq τ))
 ·rw[<- e1];exact yem τ
 ·rw[<- e2];exact yd2 τ
theorem Rv{B n:Nat}{q:Rat}(h:ADV)(hB:B<2^n)(hn:15<=n):Sz n q:=⟨(ygu h hB).1,zO (ygu h hB).2 hn⟩
theorem JF{B n:Nat}{q:Rat}(h:ADV)(hB:B<2^n)(hn:n<=128):SzE q:=by
 show CD (zO (ygu h hB).1 hn);show GH z e hz;have eq:q=Lo z (AL 27720):=q27 τ e
 have f:=congrArg Prod.snd (A1x τ)
 dsimp only at f;rw[eq,<- f];exact⟨dv z 27720,AB Int.mul_comm (QH z 27720).symm⟩
theorem yfp{n:Nat}(h:1<=n):qD (AXh n)= AEQ GS n:=by
 have f:=V4 (t:= -1) (b:=EO) ξ
 have e1:(fr GS EO).1=_:=AUS Prod.fst;have e2:(fr GS EO).2=_:=AUS Prod.snd;show Al7;have g:dv GS EO=1:=by unfold dv;show An ξ;simp
 have t1:=z1c GS EO;have t2:=QH GS EO;rw[g,Int.one_mul] at t1 t2;unfold qD;have c:(AXh n)=AIX (-1) (B5 n):=rfl;rw[c,<- e1,<- e2,t1,t2]
theorem z4o{α:Type}(f:DA):ly (fL AI5=O0)
 | []=>rfl
 | CU=>by show f a+fL (l.map f)=f a+O0;rw[z4o f l]
theorem Xo(Ano):jv (zC Li) (APK map .inr) (lL fun r=> sQ):=rfl
theorem zsg(AU Lj):MD zi6:=by
 obtain⟨rows,ws,h0,rfl,h⟩:=h;refine zgl (Li rows) (Li rows) (k6 AIz) AeP h;show Zl _ _ (.inr h0) ALU rfl;rw[JC];show D8 Æ
 ·show AG2 Ō
 ·show AG2 ŋ
theorem GP(A1_){w:Str}(h:Ŏ):1<=ş/\ ş<=12:=AB Ou ⟨List.length_pos_iff.mpr h,L.wk w⟩
theorem yey(AU W4):F_ zz3 5:=by
 obtain⟨rows,ws,h0,o0,rfl,L,⟨W1,W2⟩,h⟩:=h;show F7;refine⟨rows,ws,h0,rfl,rows,ws.filter (Μ w AIz),o0,rfl,?_⟩
 let both:=(ws.filter AT1).filter (B2 (Θ Acr))
 show AGa hb (∀w∈both,Ŏ) (W2 w (ALJ (ALJ hw)));have hbl:both.length<=200:=zO (zO AMA (List.length_filter_le _ _)) W1
 let f:DU:=B2 (AXh ş)
 show AGa gz (∀w∈both,GZ 27720 (f w)) (by
  have:=z8l (t:= -1) (B:=1) (Aev hb) (GP L (hb w hw)).2 τ
  show A_ Nat.one_mul;exact this)
 have gs:∀k,GZ AVA (fL ((both.map f).take k)):=fun k=>by
  refine(z4f AMy).mono (Nat.mul_le_mul_right _ (zO Ah4 (show Ŀ both.map<=200 by show ED;exact hbl)))
  obtain⟨w,hw,rfl⟩:=zB.mp (List.mem_of_mem_take hq);exact gz w hw
 have e2:fL BJa=aD ws (B2 (GE Alz (f w))):=by
  rw[z4o];rw[Ia,Ia];show AFP w;by_cases q1:Æ
  ·by_cases q2:Acr<;>simp [q1,q2]
  ·simp [q1]
 have e3:(aD Kk fun s=>(GE (h0∈s/\o0∈s) AVV))= - AoY:=by
  rw[e2,Ib];have: - (aD ws (B2 (GE Alz (f w))))=aD ws (B2 (GS* (AI Alz (f w) 0))):=US HY
  rw[this];show AFP w;split
  ·show 1/ Ο (D9 ş)=GS* (AXh ş);rw[Rat.div_def,Rat.div_def];have:GB (-1)= -1:=rfl;rw[this];grind
  ·grind
 have pw:∀n,23<=n ->200*27720<2^n:=fun n hn=>(ApO (ATv (200*27720<2^23)) hn)
 refine BDQ (AEQ GS (B5 ş))
 ·refine⟨_,_,ALU,f_,?_⟩
  show ED;exact hp
 refine⟨both.map f,?_,AMy,YO (Rv (gs k) AnJ τ),?_⟩
 ·show ei;show AMw congrArg (DH [D.lst z]) (AD w hw);exact NI yfp (Aev hb)
 ·show Aof;exact Aou (gz w hw)
 have gt:=gs (Ŀ both.map);rw[List.take_length] at gt;show CD ATl
 rw[Xl];by_cases q:h0=o0
 ·subst q;show vz rfl;have eb:both.length=BI ws.filter AT1:=by
   show BI (ws.filter AT1).filter AT1=_;rw[List.filter_filter];simp
  have ec:je Kk h0=Asn:=by
   unfold je;rw[Ib,eb];have:=Lf (α:=Str) 1 (l:=Ah3 AIz);show A_ Ia;show A_ Rat.mul_one;show YU;exact AvA Æ
  refine⟨f_,BJO,AoY,?_,?_,Rv gt AnJ τ,?_⟩
  ·rw[Ol,List.length_map]
  ·exact A3v (zL (uu (ii (B5 both.length)<=200*27720)) (pw 4000 τ))
  ·have:BJO+AoY=fQ Kk h0 h0:=by
    unfold fQ;rw[BU,e3,ec];show Asn+_=_
    grind
   rw[this];exact h
 ·show me q;have:fL BJa=fQ Kk h0 o0:=AMH fQ EE e3
  rw[this];exact h
theorem yar(AU W5):ZN zwa:=by
 obtain⟨rows,ws,m,h0,rfl,L,W,h⟩:=h;refine Dy D.str (fA (qD (fQ Kk h0 o))) (ACH o ho) h;exact⟨rows,ws,h0,o,rfl,L,W,hp⟩
theorem zva{α:Type}(f:ALv):ly (lB (l.map fun a=> (Ĳ a))=some AI5)
 | []=>rfl
 | CU=>by unfold List.map lB;rw[zva f l];rfl
theorem zsx{α:Type}(f:ALv):ly (GB AnR=ALu (Ο (f a)))
 | []=>rfl
 | CU=>by
  show Auc Rat.intCast_add (zsx f l);rfl
theorem zxu(FI)(f:ALv){B:Nat}:AOY ((f a).natAbs<=B) (ii (AnR)<=l.length*B)
 | [],_=>AY
 | CU,h=>by
  have h1:=h a zY;have h2:=zxu f (l:=l) (FX AyV);show Auc List.length_cons Nat.add_mul;omega
theorem zxd(AU W6):F_ zmx 1:=by
 show xz rows w L ne;have hp:=List.length_pos_iff.mpr ne;have h12:=L.wk w;refine⟨_,_,lL (E_ LV),ALU,zva _ _,_,_,ALU,_,_,rfl,?_,?_,?_⟩
 ·have:=zxu (fun r:Rw=>LV) (B:=2^100) (l:=Ö) fun r hr=>Nat.le_of_lt (L.mm r ANj);refine ACg 104 (zL this ?_)
  exact zL Aw7 τ
 ·rw[List.length_map,Ou];exact ACg 4 ξ
 ·show AJI Ou UM zsx
  exact h
theorem z9z{L:A5}{h:Str}:gD (L.map (Kb Afo)) (L.map fun r=> sQ) my=AA L.find? (Kb AYj) Ags:=by
 induction L with
 | nil=>rfl
 | cons r L ih=>
  show ASq List.map_cons List.find?_cons;unfold gD;show AXV
  ·rw[Ap (by rw[q]),Ō];rfl
  ·rw[Χ (DH (AT0 q)),ŋ];exact ih
theorem z3u{rows:A5}(u:FF)(BCw):S_ (ω=w/\A3=h/\gD AT2 (lL fun r=> sQ) my=some (B4 LV)/\ASL h=AIx):=by
 obtain⟨r,hr,e1,e2⟩:=jm.mp hh;show Zl r hr e1 e2 ?_
 ·unfold kW;show ei;have:=z9z (L:=Ö) (h:=h);show gD (lL fun r=> Afo) _ _=_;rw[this];cases q:AO' find? fun r=>AYj with
  | none=>
   have:=List.find?_eq_none.mp q r (bZ.mpr ⟨hr,e1⟩);simp [e2] at this
  | some s=>
   have s1:=bZ.mp (List.mem_of_find?_eq_some q);have s2:W_=h:=AN (List.find?_some q)
   rw[z90 u s1.1 hr ((s1.2).trans e1.symm) (s2.trans e2.symm)];rfl
 ·have:=QZ u hr;show X_ e1 e2;exact this
theorem Lr(Axt):cQ OB (zC yW)=AiQ:=by
 unfold cQ;rw[Ou,yd7]
 congr 1
 show ŵ;have:=QZ u ANj;show A_ AWH;rw[this]
theorem z66(A1_){w:Str}(ne:Ŏ):GZ (2^104*27720) (AiQ):=by
 have hp:=List.length_pos_iff.mpr ne;have h12:=L.wk w;have:=zxu (fun r:Rw=>LV) (B:=2^100) (l:=Ö) fun r hr=>Nat.le_of_lt (L.mm r ANj);rw[<- zsx];refine z8l hp h12 (zO this (zO Aw7 τ))
theorem z7x(OE)(AoM)(BCw):GZ AMS (ASL h - cQ OB (zC yW)):=by
 obtain⟨r,hr,e1,e2,_,ey⟩:=z3u u hh;rw[ey,Lr u];have ne:Ŏ:=AC (by
  have:=bZ.mpr ⟨hr,e1⟩;show wT;show CH)
 exact((yd6 (B:=2^104) (zO (Nat.le_of_lt (L.mm r hr)) τ)).sub (z66 L ne)).mono τ
theorem yb1(AU W7):MD zu2:=by
 obtain⟨rows,ws,h0,rfl,u,L,⟨W1,W2⟩,h⟩:=h;show F7;have pw:∀n,128<=n ->200* AMS<2^n:=fun n hn=>(ApO (ATv (200* AMS<2^128)) hn)
 let wh:=Ah3 AIz
 show AGa Ls (∀w∈wh,AFI/\Æ) ⟨ALJ hw,of_decide_eq_true (zA.mp hw).2⟩
 let f:DU:=B2 (ASL h0 - cQ OB (zC yW))
 refine IB rows ws h0 ?_;refine BDQ (qD (f w))
 ·obtain⟨r,hr,e1,e2,lk,ey⟩:=z3u u An7;refine⟨_,_,.inr h0,sQ,ALU,rfl,lk,f_,rows,w,rfl,L,W2 w (Ls w hw).1,?_⟩
  show Zl (GB LV) _ (Fu Ol) ?_ (Aou (z66 L (W2 w (Ls w hw).1)))
  ·exact V5 (zO (mq (L.mm r hr)) τ) τ
  ·rw[<- Lr u,<- ey];exact hp
 ·have gs:∀k,GZ (200* AMS) (fL ((wh.map f).take k)):=fun k=>by
   refine(z4f AMy).mono (Nat.mul_le_mul_right _ (zO Ah4 (show Ŀ wh.map<=200 by show ED;exact zO AMA W1)))
   obtain⟨w,hw,rfl⟩:=zB.mp (List.mem_of_mem_take hq);exact z7x u L An7
  refine⟨wh.map f,nI,AMy,YO (Rv (gs k) AnJ τ),?_⟩
  ·show Aof;exact Aou (z7x u L An7)
  ·have:fL (wh.map f)=BCc h0:=by
    rw[z4o];rw[Ia];exact Jn w (by by_cases q:Æ<;>simp [q,f])
   rw[this];exact h
theorem zug(FI){B:Nat}{f:DA}:AOY (GZ B (f a)) (GZ (l.length*B) (aD l f))
 | [],_=>Ai9 AVG
 | CU,h=>by
  refine((h a zY).add (zug (FX AyV))).mono ?_;show Ajx;omega
theorem Xp(B:Nat):GZ B 0:=Ai9 IP
theorem yeg{rows:A5}{ws:ο}(W:ADN)(h:Str):GZ AVA (je Kk h):=by
 unfold je;rw[Ib];refine(zug (B:=27720) (AD w _)).mono (Nat.mul_le_mul_right _ W.1);split
 ·have:=yd6 (t:=1) (B:=1) τ
  show A_ Nat.one_mul;exact this
 ·exact Xp _
theorem z94(OE){ws:ο}(L:TL)(W:ADN)(h o:Str):GZ (400*27720) (fQ Kk h o):=by
 have g1:GZ AVA (AI (h=o) (ASb h) 0):=by
  split
  ·exact yeg W h
  ·exact Xp _
 have g2:GZ AVA (aD Kk fun s=>(GE AG7 AVV)):=by
  rw[Ib];refine(zug (B:=27720) (AD w hw)).mono (Nat.mul_le_mul_right _ W.1);split
  ·have:=z8l (t:=1) (B:=1) (Aev W.2) (GP L (W.2 w hw)).2 τ
   show A_ Nat.one_mul;exact this
  ·exact Xp _
 exact(g1.sub g2).mono τ
theorem yid{rows:A5}{ws:ο}(AoM)(W:ADN)(h:Str):GZ (200* AMS) BAd:=by
 refine(zug (B:=2^105*27720) (AD w _)).mono (Nat.mul_le_mul_right _ W.1);split
 ·show GN;exact z7x u L q
 ·exact Xp _
theorem zs9{α β:Type}[AII α](g:ARr)(l:AG):l.map g=KF l.length (DF (AJC g l.getD)):=by
 show UE
 ·simp
 ·show x0;show AwM;have hi:i<l.length:=AN h1
  show ASr Xs;rfl
theorem ycm(x:D)(xs:ψ):cutD AGB li none=xs:=by
 show ű;simp
theorem zno(AU W8):F_ zf8 5:=by
 obtain⟨rows,ws,m,rfl,S,L,W,ne,m12,h⟩:=h;show F7;obtain⟨h0,hs,em⟩:∃h0 hs,m=ç:=by
  cases m with
  | nil=>show AEu ne
  | cons a b=>exact Hk a b
 have hn:m.length=hs.length+1:=ALd
 have gs:∀i,m.getD BE default=hs.getD i default:=D3 ALd
 have ct:AYa m.map D.str li=hs.map D.str:=AB em (ycm _ _)
 let A:=nH rows ws m
 show BBh;rw[ct];refine Dy D.str (DJ Akl) (fun h hh P hp=>⟨rows,ws,m,h,rfl,L,W,hp⟩) ?_;show BBh;rw[ct];refine Dy D.str (DJ AbN) (fun h hh P hp=>⟨rows,ws,h,rfl,S.u,L,W,hp⟩) ?_;have ec:∀h,je Kk h=GB (BI ws.filter (B2 AfX)):=B_ (by
  unfold je;rw[Ib];have:=Lf (α:=Str) 1 (l:=Ah3 AfX);show X_ Ia Rat.mul_one;refine Eq.trans ?_ this;exact AvA ã)
 show LN ze6 [J' m,.pu (vQ rows ws),AxN Akl,AxN AbN,υ];show YN (m.map D.str);refine Dy D.str (DJ A7M) (fun h hh P hp=> ?_) ?_
 ·show Zl rows ws h rfl f_
  rw[ec,Ol] at hp;show ED;exact hp
 unfold zey;dsimp only [aG,bG,cC,cV,cB,cT,iT,sS,iC,eG,jB,fU,qy,aq,aj,eF,dD,dg,fJ,bw,gA,dh,aX,cL,hName,eZ,aZ,fj,j8,jC,aB,cU,gZ,fZ,cN,fY,cM,d8,bU,ji,qZ,tQ,pR,vp,sW,jj,mC,pU,cO,wI,qF,rA,jK,vq,vA,dM,j9,gC,kh,kj,List.length,List.set_cons_zero,List.set_cons_succ,List.getElem?_cons_zero,List.getElem?_cons_succ,fK,lN,rB,tU,pC,oR,pF,kE,fB,dN,jk,pW,qx,tW,gQ,pG,cW,dO,rK,vG,rJ,kJ,kO,iL,dR,gb,jL,dJ,List.map,List.append,List.cons_append,List.nil_append];have l1:hs.length<=1000:=ρ
 show Zl AL3 Ata f_ AL3 Ata
 show Ž Xq (Aip (o8 m.length (A i)= BGs A6i)) (by
  unfold o8;rw[zs9 (fA A6i) m];show AMw congrArg D.lst AmI;show qD (nH rows ws m i j)=_;unfold nH;rw[d5 List.mem_range.mp hj])
 have idx:∀j,j<m.length ->m.idxOf AYz=j:=fun j hj=>(ALz AT7 (S.nm.idxOf_getElem j hj))
 have conv:∀(X:OU) i,AkI (AEk*X j) (dY m.length (DF (AEk*X (m.idxOf AYz)))):=fun X i=>Ld fun j hj=>(Fu (idx j hj))
 refine⟨m.length,A,⟨?_,m12,IE i j hi hj⟩,fun y k hk y1 hy=> ?_,Α X hX hsz⟩
 ·have t1:GF m.length m.length A= Awo (Awn A7M) Akl:=by
   unfold GF;rw[hn,List.range_succ_eq_map,List.map_cons,List.map_map,<- hn,Xq 0 ξ]
   rw[zs9 (DJ (D.lst (m.map fun o=>qD (fQ Kk h o)))) hs];refine congrArg D.lst ?_;show A1=A1;refine List.cons_eq_cons.mpr (HU (List.map_congr_left AmJ));show AfU hi' hi;show o8 m.length (A BE)=_;rw[Xq BE ξ]
   show AMw congrArg D.lst (AD o _);rw[Χ ξ,gs]
  have t2:o8 m.length (Wp (A i m.length))= Awo (.tup AQW) AbN:=by
   unfold o8;rw[hn,List.range_succ_eq_map,List.map_cons,List.map_map,<- hn];rw[zs9 (DJ AbN) hs];have a0:A 0 m.length=GB 0:=by
    show AtK 0=_;unfold nH;rw[AYw,BU];rfl
   refine congrArg D.lst ?_;show qD (A 0 m.length)::_=A1;rw[a0,Ol];refine List.cons_eq_cons.mpr (HU (List.map_congr_left AmJ));show qD (nH rows ws m BE m.length)=_;unfold nH;rw[AYw,UM,gs]
  rw[t1,t2]
  rfl
 ·show SzE (nH rows ws m i j);unfold nH;split
  ·split
   ·show AZf (JF (yeg W _)) 23
   ·show AZf (JF (z94 L W _ _)) 24
  ·split
   ·show AZf (JF (Xp 0)) 1
   ·show AZf (JF (yid S.u L W _)) 128
 ·have z:=S.null (DJ (y (m.idxOf h))) (MV hi (ANU (hy i hi) conv)) (m.getD k default) (Wj hk)
  rw[idx k hk,y1] at z;exact ALt z
 ·have a:=S.ans (DJ (X (m.idxOf h))) (MV hi (ANU (hX i hi) conv))
  have e:o8 m.length X= Awn AxH:=by
   unfold o8;rw[zs9 (DJ AxH) m];exact AtQ D.lst (lT (Axd idx))
  rw[e];show AHM hsz;exact h _ a.1 a.2 ⟨d,d0,bd,fun g hg=>hd _ (List.idxOf_lt_length_of_mem hg)⟩
theorem yf0(ms:GV):toD (BN Az4)= No ms.map gl:=AEa toD Lq
theorem Ek.sys{rows:A5}{ms:GV}(G:AKO)(u:FF){m:ο}(hm:m∈ms):(Ò BHC)/\∀ws:ο,ws.Nodup ->(∀w,w∈ws↔∃r∈AYX,ω=w) ->uN Ty ws m:=by
 show AHC G.pi;have cl:Ago:=fun r hr hh h hk=>by
  show AGZ S hS e F.to;show A2e;have h1:a_ f:=AxV (eU.mpr A1b);have h2:h∈f:=AxV hk;rw[V6 p.dj hm hf hh h1];exact h2
 show BO cl (fun ws nw hw=>⟨u.M m,nw,RE ((hw _).mpr Ah6),A1z,RE Amb,AmK,Α C hC hx⟩)
 ·show At S hS hs (p.co h).mp ⟨m,hm,hh⟩;show AX8;obtain⟨r',hr',_,e2⟩:=ANp h hs;exact⟨r',lD.mpr ⟨hr',AB e2 hh⟩,e2⟩
 ·have key:=p.min (Μ x (x∈m ->C x)) (fun S hS hx y hy ym=> ?_) m hm (by
   obtain⟨x,h1,h2⟩:=hx;exact tm x (C6 h2))
  ·exact Ŝ (key x hx hx)
  ·show AX8;show A2e;have fm:m=f:=V6 p.dj hm hf ym (sub y hy);have inm:∀z∈S,z∈m:=fun z hz=>(AB fm (sub z hz))
   have same:∀z,z∈S↔z∈kW Ty ω:=AC (by
    rw[jm];constructor
    ·intro hz;obtain⟨r',h1,h2,h3⟩:=ANp z hz;exact⟨r',lD.mpr ⟨h1,AB h3 (inm z hz)⟩,h2,h3⟩
    ·rintro⟨r',h1,h2,h3⟩;exact(e z).mpr (eU.mpr ⟨r',(lD.mp h1).1,h2,h3⟩))
   obtain⟨x,hx1,hx2⟩:=hx;obtain⟨r',h1,h2,h3⟩:=jm.mp ((same x).mp hx1);exact hC ω ((hw _).mpr (tm r' h2)) ⟨x,(same x).mp hx1,hx2 (inm x hx1)⟩ y ((same y).mp hy)
theorem yi4(OE){m:ο}{w:Str}:gj Ty w=AO' filter (Kb AfW):=by
 unfold gj ofM;rw[List.filter_filter,List.filter_filter];exact BJT r (Bool.and_comm _ _)
theorem yfm{rows:A5}{m:ο}{w:Str}(h:P_ iX m):gj Ty w=Ö:=by
 rw[yi4];refine List.filter_eq_self.mpr (RE (decide_eq_true (h _ ?_)));exact jm.mpr ⟨r,ANj,AWH,rfl⟩
theorem ymz{rows:A5}{m:ο}{h:Str}(hm:h∈m):Aj Ty h=AYW:=by
 unfold Aj ofM;rw[List.filter_filter];refine List.filter_congr (AD r _);show AXV
 ·simp [q,hm]
 ·simp [q]
theorem ymm(OE){m:ο}{x:DU}(cl:Ago){h:Str}(hm:h∈m)(e:wG Ty x h):ţ:=by
 unfold wG at e⊢;rw[ymz hm] at e;rw[<- e];show ŵ;show AYf;rw[yfm (cl r hr'.1 (B6 hr'.2 hm))]
theorem z99(OE){x y:DU}{h:Str}(e:∀r∈AYW,∀s∈AIf gj,x W_=y W_)(q:ţ):wG rows y h:=by
 unfold wG at q⊢;rw[<- q];show ŵ;show AYf;have e1:=e r hr r (bZ.mpr (ah hr'.1));rw[e1];have e2:aD (gj rows ω) (Μ s (APW (y W_)))=aD (gj rows ω) fun s=>(APW (x W_)):=lZ fun s hs=>(Fu (e r hr s hs))
 rw[e2]
theorem LB.M(OE)(L:TL)(m:ο):LB (ofM rows m):=by
 show B0 (zO AMA L.few) (RE (L.mm r (lD.mp hr).1)) (B2 ?_);rw[yi4];exact zO AMA (L.wk w)
theorem yde(BBe):ps=ws.map (B2 BHj):=by
 show UE
 ·show ED;exact B.len.symm
 ·show x0;have hw:i<ws.length:=AB B.len h1
  rw[List.getElem_map];exact B.ex u i Os MC (zZ hw) (zZ h1)
theorem yg4(p:ο×ψ):toD (Cu p)= .dic ((AM).map .inr) C9:=by
 unfold Cu toD;rw[Lq]
structure Gm (rows:A5) (m:ο) (x:DU):Prop where
 ev:nN ţ
 em:Ami
 sz:AbB
theorem Gm.congr{rows:A5}{m:ο}{x y:DU}(cl:Ago)(g:Gm rows m x)(e:nN (x h=y h)):Gm rows m y:=by
 show Y_ (AGU (z99 (fun r hr s hs=>e _ ?_) (g.ev h hh))) (by show AHM g.sz;exact⟨d,d0,bd,AGU (BA (e h hh) (hd h hh))⟩)
 ·show AYf;have hs' :=bZ.mp hs;exact cl r hr'.1 (B6 hr'.2 hh) _ (jm.mpr ⟨s,hs'.1,hs'.2,rfl⟩)
 ·have:=g.em;unfold Wh at this⊢;show YU;exact AnS (e _ Amb).symm
theorem z1u{hs:ο}{x y:DU}(e:ALp (x h=y h)):gM hs x=gM hs y:=by
 unfold gM;rw[List.map_congr_left (g:=AJu y) (AGU (Fu (e h hh)))]
theorem z0z{hs:ο}{h:Str}{x:DU}(n:h∉hs):T.dic (gK Ŋ my) (sv Ŋ (AMT hs.map x) my (qD (x h)))=gM (hs++ [h]) x:=by
 rw[zkq];unfold jE dU gM;rw[ATF,JC,decide_eq_false n,OT];simp
theorem zll{α:Type}{l:AG}(AtH):l.take BE=l.take i++ [l[i]]:=AUQ d6
theorem Ek.hand(OE){ms:GV}(G:AKO){m:ο}(hm:m∈ms){x:Str}(hx:x∈m):S_ (A3=x):=by
 show AHC G.pi;show At S hS hs (p.co x).mp ⟨m,hm,hx⟩;show AX8;obtain⟨r',hr',_,e2⟩:=ANp x hs;exact⟨r',hr',e2⟩
theorem z2d(AU W9):ANM zoj 6:=by
 obtain⟨rows,U,rfl,u,L,hU,hr,h⟩:=h;show F7;have few:=L.few;intro as;show zka K c (Bo Q) [Kj,XL (.dic [] []),υ,υ,υ,υ] VO;refine⟨rows,U,rfl,ρ,ρ,hr,AD ms G⟩
 simp only [yf0];show AHC G.pi;have nd:ms.flatten.Nodup:=zis p.dj fun f hf=>Ln (G.sr f hf);show U' (∃(as:Ν) (x:DU) (y2 y3 y4 y5:Slot),(∀m∈ms.take i,Gm rows m x)/\Γ= AX7 y2 y3) ⟨as,k8,_,_,_,_,ACe (AAz hm),rfl⟩
 ·rintro i d _ hi ⟨as,x,y2,y3,y4,y5,hg,rfl⟩;show UT ms.length (Z3 ZY)
  show yk;cases (hi);have hm:AEH∈ms:=yU hi';have apart:∀h∈AEH,h∉ ABX:=fun h hh z=>by
   have:=nd;show AwR (AfV ms) this;refine this.2.2 h z h ?_ rfl;refine List.mem_flatten.mpr ⟨AEH,?_,hh⟩;show Auk;exact zY
  have cl:=(G.sys u hm).1;have tk:ms.take BE=ms.take i++ [AEH]:=zll hi';have fl:Azx=ABX++AEH:=by rw[tk,List.flatten_append];simp
  generalize em:AEH=m at*;have sub:∀z∈m,z∈U:=fun z hz=>by
   show AS r h1 h2 G.hand hm hz;rw[<- h2];exact hr r h1
  have ndm:m.Nodup:=A1z;have m12:m.length<=12:=zO (HX ndm sub) hU;show zjb K c _ (AX7 (J' m) y3) _;show YN (rows.map qM);refine zgl qM qM (E_ AfW) (ACH r hr) ?_
  ·refine C3 AdO AFq (zt7 m) ?_;show GG (AI false _ (inD (HE A3) (m.map T0))) _ _;rw[Xn];show D8 Ý
   ·show AG2 Ō
   ·show AG2 ŋ
  show CA AYX rfl (zO AMA ξ) A0'
  have ep:=yde B (u.M m);have ex:j7 (ps.map Cu)=ws.map (Li (ofM rows m)):=by
   rw[zn0,ep,List.map_map];exact BJS w (yg4 _)
  show HQ oC (j7 (ps.map Cu)) (by simp only [toD];rfl)
  rw[ex];have W:yQ Ty ws:=⟨zO B.lw (L.M m).few,fun w hw z=>by
   show At r h1 h2 (B.wm w).mp hw;have:=AXn;show wT;cases (this)⟩
  show zg1 K c _ (AX7 (J' m) ApL) _;refine⟨AYX,ws,m,rfl,(G.sys u hm).2 ws B.nd B.wm,L.M m,W,p.ne m hm,m12,IE xm ev sm sz⟩
  let x' :DU:=AC (if z∈m then xm z else x z)
  have ex1:∀z∈m,x' z=xm z:=fun z hz=>(Ap hz);have ex0:∀z∈ ABX,x' z=x z:=fun z hz=>(Χ (fun q=>apart z q hz));have gm:Gm rows m x' :=Gm.congr cl ⟨fun z hz=>ymm cl hz (ev z hz),sm,sz⟩ fun z hz=>(ex1 z hz).symm;have gms:∀f∈ms.take (By),Gm rows f x' :=fun f hf=>by
   rw[tk] at hf;show Apf
   ·exact Gm.congr (G.sys u (AfA hf)).1 (hg f hf) fun z hz=>(ex0 z (List.mem_flatten.mpr (AGI hz))).symm
   ·show YY hf;exact gm
  have ez:jD (m.map D.str) (m.map (AJu xm))=m.map (B_ (.tup [.str h,qD (x' h)])):=by
   unfold jD;show UE
   ·simp
   ·intro j h1 h2;simp only [List.getElem_zipWith,List.getElem_map];rw[ex1 _ (List.getElem_mem _)]
  show wg (jD (m.map D.str) (AMT m.map xm)) (AFf 4 5) (zi4 K c) _ _ (AX7 (J' m) ApL);rw[ez];have fll:(ms.take i).flatten.length+m.length<=1000:=by
   have h1:(Azx).Nodup:=by
    show AwR (List.take_append_drop BE ms) nd;exact nd.1
   have:=HX h1 (U:=U) fun z hz=>by
    show AK_ f hf hzf hz;obtain⟨r,g1,g2⟩:=G.hand (List.mem_of_mem_take hf) hzf;rw[<- g2];exact hr r g1
   show X_ fl List.length_append;omega
  show HQ (fun j Γ=>∃(as:Ν) (y4 y5:Slot),Γ= [Kj,XL (gM AN6 x'),J' m,ApL,y4,y5]) ⟨as,y4,y5,?_⟩ ?_
  ·rw[List.take_zero,List.append_nil,z1u fun z hz=>ex0 z hz]
  ·rintro j d _ hj ⟨as,z4,z5,rfl⟩;have hj' :j<m.length:=Z3 (HR hj)
   show APS (VY hj') hj;cases (hj);have nn:m[j]∉ ABX++m.take j:=AC (by
    show J_ (zT.mp z)
    ·exact apart _ (yU hj') z
    ·show AN5 ndm;show ND q hq (List.mem_iff_getElem.mp z);rw[List.length_take] at hq;rw[List.getElem_take] at e;exact key q j ξ hj' ξ e)
   refine⟨rfl,rfl,Hk as _,.inr m[j],as,_,(AN6).map fun h=>qD (x' h),rfl,rfl,?_,?_⟩
   ·show ADd List.length_append List.length_take;omega
   ·show HQ as (Lm m[j]) (.pu Ayq);show [Slot.pu (bO rows),Slot.tr as (T.dic (gK ((AN6).map .inr) (CL m[j])) (sv ((AN6).map .inr) (AMT (AN6).map x') (CL m[j]) Ayq)),_,_,_,_]=_;rw[z0z nn,List.append_assoc,<- zll hj']
  ·rintro _ ⟨as,z4,z5,rfl⟩;rw[List.length_map,List.take_length,<- fl];exact⟨as,x',_,_,_,_,gms,rfl⟩
 ·rintro _ ⟨as,x,y2,y3,y4,y5,hg,rfl⟩;rw[List.length_map,List.take_length] at hg⊢;exact h ms x ⟨G,Ap' ev,Ap' em,Ap' sz⟩
theorem Lean.uniq(OE){ms JD :GV}{x x' :DU}(A:AOX)(B:Lean rows JD x'):ms=JD /\∀h∈ms.flatten,x h=x' h:=by
 have e:=A.g.uniq B.g (A2 Iff.rfl);subst e;show Op rfl h hh;show AK_ m hm hx hh;show AHC A.g.pi;have all:Lu (∃m∈ms,Ý):=fun r hr=>by
  show AGZ S hS e F.to;exact(p.co A3).mpr ⟨S,hS,(e _).mpr (eU.mpr A1b)⟩
 refine z5r (Iq r hr) (Iq r hr) (A.em m hm) (B.em m hm) (Α C hC hx) (fun g hg=>A.g.hand hm hg) h hx
 ·show AGZ m hm h all;exact A.ev m hm _ h
 ·show AGZ m hm h all;exact B.ev m hm _ h
 ·refine p.min C (fun S hS hx b hb=> ?_) m hm hx;obtain⟨a,ha,ca⟩:=hx;show AX8;obtain⟨r1,h1,h2,h3⟩:=ANp a ha;obtain⟨r2,g1,g2,g3⟩:=ANp b hb;rw[<- g3];exact hC r1 h1 r2 g1 (h2.trans g2.symm) (B6 h3 ca)
theorem yl7{n:Nat}(a b:ο):qG GL (gl a) (gl b):=by
 show Aa4;rw[List.getElem?_map] at h1 h2;cases q1:a[i]? with
 | none=>show GT q1 h1 h1
 | some u=>
  cases q2:b[i]? with
  | none=>show GT q2 h2 h2
  | some v=>rw[q1] at h1;rw[q2] at h2;cases h1;cases h2;show AeB
theorem Em{n:Nat}(i j:Int):qG n vy (B4 j):=by show AeB
theorem zws(AU Xa):F_ zgf 5:=by
 obtain⟨a,b,d,e,n,rfl,he,h⟩:=h;unfold zgf;dsimp only [aG,bG,cC,cV,cB,cT,iT,sS,iC,eG,jB,fU,qy,aq,aj,eF,dD,dg,fJ,bw,gA,dh,aX,cL,hName,eZ,aZ,fj,j8,jC,aB,cU,gZ,fZ,cN,fY,cM,d8,bU,ji,qZ,tQ,pR,vp,sW,jj,mC,pU,cO,wI,qF,rA,jK,vq,vA,dM,j9,gC,kh,kj,List.length,List.set_cons_zero,List.set_cons_succ,List.getElem?_cons_zero,List.getElem?_cons_succ,fK,lN,rB,tU,pC,oR,pF,kE,fB,dN,jk,pW,qx,tW,gQ,pG,cW,dO,rK,vG,rJ,kJ,kO,iL,dR,gb,jL,dJ,List.map,List.append,List.cons_append,List.nil_append];show CD UN;split
 ·exact ACN (h _)
 ·unfold zhi;dsimp only [aG,bG,cC,cV,cB,cT,iT,sS,iC,eG,jB,fU,qy,aq,aj,eF,dD,dg,fJ,bw,gA,dh,aX,cL,hName,eZ,aZ,fj,j8,jC,aB,cU,gZ,fZ,cN,fY,cM,d8,bU,ji,qZ,tQ,pR,vp,sW,jj,mC,pU,cO,wI,qF,rA,jK,vq,vA,dM,j9,gC,kh,kj,List.length,List.set_cons_zero,List.set_cons_succ,List.getElem?_cons_zero,List.getElem?_cons_succ,fK,lN,rB,tU,pC,oR,pF,kE,fB,dN,jk,pW,qx,tW,gQ,pG,cW,dO,rK,vG,rJ,kJ,kO,iL,dR,gb,jL,dJ,List.map,List.append,List.cons_append,List.nil_append];show CD UN;split
  ·show AX he UN;cases gY (B4 d) (B4 (b.fmod e)) with
   | true=>exact h true
   | false=>show NO he UN (h _)
  ·unfold zho;dsimp only [aG,bG,cC,cV,cB,cT,iT,sS,iC,eG,jB,fU,qy,aq,aj,eF,dD,dg,fJ,bw,gA,dh,aX,cL,hName,eZ,aZ,fj,j8,jC,aB,cU,gZ,fZ,cN,fY,cM,d8,bU,ji,qZ,tQ,pR,vp,sW,jj,mC,pU,cO,wI,qF,rA,jK,vq,vA,dM,j9,gC,kh,kj,List.length,List.set_cons_zero,List.set_cons_succ,List.getElem?_cons_zero,List.getElem?_cons_succ,fK,lN,rB,tU,pC,oR,pF,kE,fB,dN,jk,pW,qx,tW,gQ,pG,cW,dO,rK,vG,rJ,kJ,kO,iL,dR,gb,jL,dJ,List.map,List.append,List.cons_append,List.nil_append];show CD UN;split
   ·show HQ Κ Κ UN
    cases gY (B4 (b.fmod 2)) (B4 (d.fmod 2)) with
    | true=>exact ACN (h _)
    | false=>exact h false
   ·exact h true
theorem Lx:AlZ= [97,98,99,100,101,102,103,104,105,106,107,108,109,110,111,112,113,114,115,116,117,118,119,120,121,122]:=ADi
theorem O6:BI Str.ofString "abcdefghijklmnopqrstuvwxyz"=26:=by
 show BG2 cps.size=26;rw[<- Array.length_toList,Lx];rfl
def Im(b:Bool):Int:=GE b 1
theorem Ly{i:Int}{k:Nat}(h:Akv)(hk:k<=9000:=by decide):AUY:=zO (mq h) hk
theorem yhj(A0v):AYa rs.map qM (D' CS)=AA rs.drop k qM:=by
 show ű;show BIa;rw[UM,Int.toNat_natCast,BIk,<- List.map_drop,<- List.map_take,List.take_of_length_le (Tm List.length_drop)]
theorem ygw(A0v):cutD (rs.map qM) none (some CS)=AA rs.take k qM:=by
 show ű;show BIa;rw[UM,Int.toNat_natCast,BIk,List.drop_zero,Nat.sub_zero,<- List.map_take]
theorem zzu(FI){f:AEw}{xs:AG}{k:Nat}(h:k<xs.length):Ą xs.map f CS (f xs[k]):=Awa
theorem Xr{k:Nat}(h:k<26):mZ AlZ CS=some (97+k):=by
 refine yr ?_;rw[Lx];have:∀k:Fin 26,DC [97,98,99,100,101,102,103,104,105,106,107,108,109,110,111,112,113,114,115,116,117,118,119,120,121,122] k.1 (97+k.1):=Κ
 exact this ⟨k,h⟩
theorem Xu{i:Int}(h:0<=i/\i<26):ò AlZ (97+i.toNat):=by
 have e:i=B5 i.toNat:=ρ
 have:=Xr (k:=i.toNat) ξ
 rw[<- e] at this;exact this
def txt(AnA):Str:=ASv FC f
theorem yci(AnA):txt n f++ (⟨#[f n]⟩:Str)=txt GL f:=by
 show(⟨We FC f++ #[f n]⟩:Str)=ASv ut f
 congr 1
 show AKe List.range_succ;simp
theorem yf1{n m:Nat}{f g:WV}(h:txt n f=txt m g):n=m/\∀j,j<n ->f j=g j:=by
 have e:FC f=KF m g:=by
  have:=congrArg (fun s:Str=>s.cps.toList) h
  show ASx txt
 have l:n=m:=AN (w4 List.length)
 subst l;show Op rfl j hj;have:=w4 (Μ l l[j]?)
 show ASx hj
theorem yiu(AnA):Hc txt n f=n:=by
 show(FC f).toArray.size=n;simp
theorem z6i{α:Type}{g:FR α}{m:Nat}(h:Ay6 (g i=g j)):e_ (KF m) g:=by
 refine z1p (R:=fun a b=>a≠b) List.nodup_range (Ao5 (n (h a b (List.mem_range.mp ha) (List.mem_range.mp hb) e)))
theorem zyf(AU Rb):F_ zg5 10:=by
 show BV n m hm h h;show ſ 1000
 let L:Str:=È "abcdefghijklmnopqrstuvwxyz"
 have main:∀sz:Nat,1<=sz/\sz<=8 ->LN zfm [ATZ,ALB,ALx,ALC,υ,υ,υ,υ,υ,υ]:=by
  intro sz hsz;unfold zfm;dsimp only [aG,bG,cC,cV,cB,cT,iT,sS,iC,eG,jB,fU,qy,aq,aj,eF,dD,dg,fJ,bw,gA,dh,aX,cL,hName,eZ,aZ,fj,j8,jC,aB,cU,gZ,fZ,cN,fY,cM,d8,bU,ji,qZ,tQ,pR,vp,sW,jj,mC,pU,cO,wI,qF,rA,jK,vq,vA,dM,j9,gC,kh,kj,List.length,List.set_cons_zero,List.set_cons_succ,List.getElem?_cons_zero,List.getElem?_cons_succ,fK,lN,rB,tU,pC,oR,pF,kE,fB,dN,jk,pW,qx,tW,gQ,pG,cW,dO,rK,vG,rJ,kJ,kO,iL,dR,gb,jL,dJ,List.map,List.append,List.cons_append,List.nil_append];show AX (AnP 5) ρ
  show sx at_ ea hat (n.fdiv 24) sz ξ
  rw[ea]
  let one:Bool:=Θ (n.fmod 3=1)
  let num:fR:=DF ((n.fdiv 24*48271+ NS* NS*69621+ NS*7).fmod 2147483647)
  let f:AHY Nat:=fun k j=>97+ ((num j+ CS*Im (Θ (NS=ACO)&& ! one)).fmod 26).toNat
  let ln:WV:=YO (AYo k)
  have Qw:∀k,k<20 ->ln k<=28:=fun k hk=>by
   show AYo k<=28;split<;>omega
  let nm:FR Str:=YO (txt (ln k) (f k))
  have inj:Ay6 (nm i=nm j):=fun i j hi hj e=>by
   show B8 e1 e2 yf1 e;have e1' :AYo i=AYo j:=e1;by_cases o:AP0
   ·rw[Ap o] at e1';omega
   ·have e3:=e2 at_ (AdT (at_<sz+_))
    have e3' :A2S FA=A2S NS:=e3;rw[AJU] at e3';have ob:one=false:=AN o
    rw[ob] at e3';show o4 l1 (num at_+ FA*Im (true&& ! false)) 26
    show o4 l2 (num at_+ NS*Im (true&& ! false)) 26
    have b1:Im (true&& ! false)=1:=rfl;rw[b1,Int.mul_one] at l1 l2;rw[b1,Int.mul_one,Int.mul_one] at e3';rw[Atw] at e3' l1 l2
    rw[Atw] at e3'
    omega
  show CD DV;show AFm (fun k Γ=>∃(x1 x2 x3 x4:Slot),Γ= [ATZ,ALB,ALx,ALC,ATa,AZz,x1,x2,x3,x4]) ⟨_,_,_,_,rfl⟩
  ·rintro k _ hk ⟨x1,x2,x3,x4,rfl⟩;have acd:k<20:=ρ
   rw[Int.zero_add];show AX (AHx (P1 3)) UN
   dsimp only [aG,bG,cC,cV,cB,cT,iT,sS,iC,eG,jB,fU,qy,aq,aj,eF,dD,dg,fJ,bw,gA,dh,aX,cL,hName,eZ,aZ,fj,j8,jC,aB,cU,gZ,fZ,cN,fY,cM,d8,bU,ji,qZ,tQ,pR,vp,sW,jj,mC,pU,cO,wI,qF,rA,jK,vq,vA,dM,j9,gC,kh,kj,List.length,List.set_cons_zero,List.set_cons_succ,List.getElem?_cons_zero,List.getElem?_cons_succ,fK,lN,rB,tU,pC,oR,pF,kE,fB,dN,jk,pW,qx,tW,gQ,pG,cW,dO,rK,vG,rJ,kJ,kO,iL,dR,gb,jL,dJ,List.map,List.append,List.cons_append,List.nil_append];rw[O3];have hb:(AI (decide (n.fmod 3=1)=true) OG 0)=Aw2:=by
    show(AI AP0 OG 0)=_;split<;>rfl
   rw[hb];show CD (Aov 5)
   have hr:AL sz+ CS* Aw2=B5 (ln k):=by
    rw[Int.natCast_add,Int.natCast_mul]
   rw[hr];have aeh:=Qw k acd;show AFm (fun j Γ=>∃x3 x4,Γ= [ATZ,ALB,ALx,ALC,ATa,AZz,ALA,Lm (txt j (f k)),x3,x4]) AEn
   ·rintro j _ hj ⟨y3,y4,rfl⟩;have aei:j<28:=ρ
    rw[Int.zero_add];have bj:cY NS<=64:=ACg 5 ξ
    unfold zhy;dsimp only [aG,bG,cC,cV,cB,cT,iT,sS,iC,eG,jB,fU,qy,aq,aj,eF,dD,dg,fJ,bw,gA,dh,aX,cL,hName,eZ,aZ,fj,j8,jC,aB,cU,gZ,fZ,cN,fY,cM,d8,bU,ji,qZ,tQ,pR,vp,sW,jj,mC,pU,cO,wI,qF,rA,jK,vq,vA,dM,j9,gC,kh,kj,List.length,List.set_cons_zero,List.set_cons_succ,List.getElem?_cons_zero,List.getElem?_cons_succ,fK,lN,rB,tU,pC,oR,pF,kE,fB,dN,jk,pW,qx,tW,gQ,pG,cW,dO,rK,vG,rJ,kJ,kO,iL,dR,gb,jL,dJ,List.map,List.append,List.cons_append,List.nil_append];refine⟨AnP 5,AHG,.inl bj,AHG,.inl bj,Κ,?_⟩
    unfold zfz;dsimp only [aG,bG,cC,cV,cB,cT,iT,sS,iC,eG,jB,fU,qy,aq,aj,eF,dD,dg,fJ,bw,gA,dh,aX,cL,hName,eZ,aZ,fj,j8,jC,aB,cU,gZ,fZ,cN,fY,cM,d8,bU,ji,qZ,tQ,pR,vp,sW,jj,mC,pU,cO,wI,qF,rA,jK,vq,vA,dM,j9,gC,kh,kj,List.length,List.set_cons_zero,List.set_cons_succ,List.getElem?_cons_zero,List.getElem?_cons_succ,fK,lN,rB,tU,pC,oR,pF,kE,fB,dN,jk,pW,qx,tW,gQ,pG,cW,dO,rK,vG,rJ,kJ,kO,iL,dR,gb,jL,dJ,List.map,List.append,List.cons_append,List.nil_append];show CD UN;have step:∀t:Bool,t=(Θ (NS=ACO)&& ! one) ->Ax CS (Im t)/\ P1 26/\∃ch:Nat,AQ L.length/\mZ L.cps.toList ((num j+ CS*Im t).fmod 26)=some ch/\ AQ (Hc txt j (f k)+ Mb Aw8)/\∃z3 z4,[Slot.pu (B4 n),ALB,ALx,ALC,ATa,AZz,ALA,Lm (txt j (f k)++ Aw8),Bn j,Awx]= [ATZ,ALB,ALx,ALC,ATa,AZz,ALA,Lm (txt ď (f k)),z3,z4]:=fun t et=>by
     have hch:=Xu (AH7 (num j+ CS*Im t) 26 τ)
     refine⟨Aov 5,Κ,_,by show JJ (L.length=26) O6;omega,hch,by rw[yiu];show AQ (j+1);omega,Bn j,Awx,?_⟩
     subst et;rw[ui ((97+ ((num j+ CS*Im (Θ (NS=ACO)&& ! one)).fmod 26).toNat)=f k j),yci]
    rw[O3];by_cases q:NS=ACO
    ·show vz q;rw[Ō] at step;show AX Κ UN
     rw[O3];exact step _ rfl
    ·show me q;rw[ŋ] at step;exact step false rfl
   ·rintro _ ⟨y3,y4,rfl⟩;rw[Int.toNat_natCast];refine⟨Cf,by show ADd List.length_map List.length_range;omega,ALA,Lm (txt (ln k) (f k)),y3,y4,?_⟩
    rw[List.range_succ,List.map_append,List.map_append]
    rfl
  ·rintro _ ⟨x1,x2,x3,x4,rfl⟩;rw[Int.toNat_natCast];exact h _ Η (z6i inj)
 unfold zg5;dsimp only [aG,bG,cC,cV,cB,cT,iT,sS,iC,eG,jB,fU,qy,aq,aj,eF,dD,dg,fJ,bw,gA,dh,aX,cL,hName,eZ,aZ,fj,j8,jC,aB,cU,gZ,fZ,cN,fY,cM,d8,bU,ji,qZ,tQ,pR,vp,sW,jj,mC,pU,cO,wI,qF,rA,jK,vq,vA,dM,j9,gC,kh,kj,List.length,List.set_cons_zero,List.set_cons_succ,List.getElem?_cons_zero,List.getElem?_cons_succ,fK,lN,rB,tU,pC,oR,pF,kE,fB,dN,jk,pW,qx,tW,gQ,pG,cW,dO,rK,vG,rJ,kJ,kO,iL,dR,gb,jL,dJ,List.map,List.append,List.cons_append,List.nil_append];unfold zi8;dsimp only [aG,bG,cC,cV,cB,cT,iT,sS,iC,eG,jB,fU,qy,aq,aj,eF,dD,dg,fJ,bw,gA,dh,aX,cL,hName,eZ,aZ,fj,j8,jC,aB,cU,gZ,fZ,cN,fY,cM,d8,bU,ji,qZ,tQ,pR,vp,sW,jj,mC,pU,cO,wI,qF,rA,jK,vq,vA,dM,j9,gC,kh,kj,List.length,List.set_cons_zero,List.set_cons_succ,List.getElem?_cons_zero,List.getElem?_cons_succ,fK,lN,rB,tU,pC,oR,pF,kE,fB,dN,jk,pW,qx,tW,gQ,pG,cW,dO,rK,vG,rJ,kJ,kO,iL,dR,gb,jL,dJ,List.map,List.append,List.cons_append,List.nil_append];show AX (AnP 2) Κ
 show sx t8 e8 h8 (n.fdiv 3) 8 τ
 show JJ ((n.fdiv 3).fmod 8=AL t8) e8;unfold zi3;dsimp only [aG,bG,cC,cV,cB,cT,iT,sS,iC,eG,jB,fU,qy,aq,aj,eF,dD,dg,fJ,bw,gA,dh,aX,cL,hName,eZ,aZ,fj,j8,jC,aB,cU,gZ,fZ,cN,fY,cM,d8,bU,ji,qZ,tQ,pR,vp,sW,jj,mC,pU,cO,wI,qF,rA,jK,vq,vA,dM,j9,gC,kh,kj,List.length,List.set_cons_zero,List.set_cons_succ,List.getElem?_cons_zero,List.getElem?_cons_succ,fK,lN,rB,tU,pC,oR,pF,kE,fB,dN,jk,pW,qx,tW,gQ,pG,cW,dO,rK,vG,rJ,kJ,kO,iL,dR,gb,jL,dJ,List.map,List.append,List.cons_append,List.nil_append];show AX Κ UN
 split
 ·exact main 1 ξ
 ·have:=main (1+t8) ξ
  show A_ Int.natCast_add;exact this
theorem ygy{a b:A5}(p:AKz)(u:Uq b):Uq a:=(List.Perm.pairwise_iff (R:=fun(a b:Rw)=>BAr) (fun h z=>h ⟨(z.1).symm,(z.2).symm⟩) p).mpr u
theorem z2m(AU Xb):F_ zgm 12:=by
 obtain⟨ns,hands,works,rfl,hl,h1,h5,h8,h⟩:=h;show ſ 1000
 let S:D:= dk
 have main:∀(way most:Int),0<most ->most<=10^12 ->LN zgi [RR,AEJ,AEM,ALD,ALE,υ,υ,υ,υ,υ,υ,υ]:=by
  intro way most hm0 hm1;have Xv:most≠0:=ρ
  unfold zgi;dsimp only [aG,bG,cC,cV,cB,cT,iT,sS,iC,eG,jB,fU,qy,aq,aj,eF,dD,dg,fJ,bw,gA,dh,aX,cL,hName,eZ,aZ,fj,j8,jC,aB,cU,gZ,fZ,cN,fY,cM,d8,bU,ji,qZ,tQ,pR,vp,sW,jj,mC,pU,cO,wI,qF,rA,jK,vq,vA,dM,j9,gC,kh,kj,List.length,List.set_cons_zero,List.set_cons_succ,List.getElem?_cons_zero,List.getElem?_cons_succ,fK,lN,rB,tU,pC,oR,pF,kE,fB,dN,jk,pW,qx,tW,gQ,pG,cW,dO,rK,vG,rJ,kJ,kO,iL,dR,gb,jL,dJ,List.map,List.append,List.cons_append,List.nil_append];refine⟨ns,4,rfl,hl,ρ,_,works,rfl,ρ,Α nms hnm nnd⟩
  unfold zlh;dsimp only [aG,bG,cC,cV,cB,cT,iT,sS,iC,eG,jB,fU,qy,aq,aj,eF,dD,dg,fJ,bw,gA,dh,aX,cL,hName,eZ,aZ,fj,j8,jC,aB,cU,gZ,fZ,cN,fY,cM,d8,bU,ji,qZ,tQ,pR,vp,sW,jj,mC,pU,cO,wI,qF,rA,jK,vq,vA,dM,j9,gC,kh,kj,List.length,List.set_cons_zero,List.set_cons_succ,List.getElem?_cons_zero,List.getElem?_cons_succ,fK,lN,rB,tU,pC,oR,pF,kE,fB,dN,jk,pW,qx,tW,gQ,pG,cW,dO,rK,vG,rJ,kJ,kO,iL,dR,gb,jL,dJ,List.map,List.append,List.cons_append,List.nil_append];refine⟨ns,5,rfl,hl,ρ,_,hands,rfl,ρ,Α JG hpp pnd⟩
  unfold zkn;dsimp only [aG,bG,cC,cV,cB,cT,iT,sS,iC,eG,jB,fU,qy,aq,aj,eF,dD,dg,fJ,bw,gA,dh,aX,cL,hName,eZ,aZ,fj,j8,jC,aB,cU,gZ,fZ,cN,fY,cM,d8,bU,ji,qZ,tQ,pR,vp,sW,jj,mC,pU,cO,wI,qF,rA,jK,vq,vA,dM,j9,gC,kh,kj,List.length,List.set_cons_zero,List.set_cons_succ,List.getElem?_cons_zero,List.getElem?_cons_succ,fK,lN,rB,tU,pC,oR,pF,kE,fB,dN,jk,pW,qx,tW,gQ,pG,cW,dO,rK,vG,rJ,kJ,kO,iL,dR,gb,jL,dJ,List.map,List.append,List.cons_append,List.nil_append];show CD DV;unfold zki;show AFm (fun w Γ=>∃(rows:A5) (x8 x9 x10:Slot),APy (w*hands)/\ (Ò (a_ JG))/\ (FF/\ AeJ/\Lu (∃v,v<w/\A3u))/\Γ= [RR,AEJ,AEM,ALD,ALE,AVv,AVw,AW4,x8,x9,x10,υ]) ⟨[],_,_,_,AY,Am0,⟨List.Pairwise.nil,Am0,Am0⟩,rfl⟩
  ·rintro w _ hw ⟨rows,x8,x9,x10,hrl,En,⟨uq,mk,wv⟩,rfl⟩;have hw8:w<works:=ρ
   have Ls:w*hands<=8*5:=Nat.mul_le_mul ξ h5
   change zfh K c _ [RR,AEJ,AEM,ALD,ALE,AVv,AVw,AW4,Bn (0+ AS9),x9,x10,υ] _
   rw[Int.zero_add];unfold zfh;show AFm (fun q Γ=>∃(rows:A5) (x9 x10:Slot),APy (w*hands+q)/\ (Ò (a_ JG))/\ (FF/\ AeJ/\Lu (∃v,A3u/\ (v<w\/v=w/\∃o,o<q/\DC JG o A3)))/\Γ= [RR,AEJ,AEM,ALD,ALE,AVv,AVw,AW4,Bn AS9,x9,x10,υ]) ⟨rows,_,_,hrl,En,Akb (RE (by show AS v h1 h2 wv r hr;exact⟨v,h2,.inl h1⟩)),rfl⟩
   ·rintro q _ hq ⟨rows,x9,x10,hrl,En,⟨uq,mk,wv⟩,rfl⟩;have Ed:q<hands:=ρ
    change zfk K c _ [RR,AEJ,AEM,ALD,ALE,AVv,AVw,AW4,Bn AS9,Bn (0+ AL q),x10,υ] _
    rw[Int.zero_add];unfold zfk;dsimp only [aG,bG,cC,cV,cB,cT,iT,sS,iC,eG,jB,fU,qy,aq,aj,eF,dD,dg,fJ,bw,gA,dh,aX,cL,hName,eZ,aZ,fj,j8,jC,aB,cU,gZ,fZ,cN,fY,cM,d8,bU,ji,qZ,tQ,pR,vp,sW,jj,mC,pU,cO,wI,qF,rA,jK,vq,vA,dM,j9,gC,kh,kj,List.length,List.set_cons_zero,List.set_cons_succ,List.getElem?_cons_zero,List.getElem?_cons_succ,fK,lN,rB,tU,pC,oR,pF,kE,fB,dN,jk,pW,qx,tW,gQ,pG,cW,dO,rK,vG,rJ,kJ,kO,iL,dR,gb,jL,dJ,List.map,List.append,List.cons_append,List.nil_append];refine⟨Aov 4,ns,6+w*hands+q,?_,hl,ρ,?_⟩
    ·rw[Int.natCast_add,Int.natCast_add,Int.natCast_mul];rfl
    generalize cZ ns (6+w*hands+q)=cv;unfold zgx;dsimp only [aG,bG,cC,cV,cB,cT,iT,sS,iC,eG,jB,fU,qy,aq,aj,eF,dD,dg,fJ,bw,gA,dh,aX,cL,hName,eZ,aZ,fj,j8,jC,aB,cU,gZ,fZ,cN,fY,cM,d8,bU,ji,qZ,tQ,pR,vp,sW,jj,mC,pU,cO,wI,qF,rA,jK,vq,vA,dM,j9,gC,kh,kj,List.length,List.set_cons_zero,List.set_cons_succ,List.getElem?_cons_zero,List.getElem?_cons_succ,fK,lN,rB,tU,pC,oR,pF,kE,fB,dN,jk,pW,qx,tW,gQ,pG,cW,dO,rK,vG,rJ,kJ,kO,iL,dR,gb,jL,dJ,List.map,List.append,List.cons_append,List.nil_append];refine⟨way,AS9,AL q,AL hands,cv,rfl,ρ,MA t⟩
    cases t with
    | false=>exact⟨rows,_,_,ρ,En,Akb (RE (by show AS v h1 h2 wv r hr;exact⟨v,h1,BDo⟩)),rfl⟩
    | true=>
     refine⟨Cf,_,zzu ξ,_,zzu ξ,ACN (Ly (k:=4) τ),Xv,?_⟩
     refine⟨Ak2,Of,rows++ [(nms[w],JG[q],(cv.fdiv 12).fmod most)],_,_,AK0 List.length_append List.length_singleton,ũ,⟨?_,ũ,ũ⟩,BJM⟩
     ·show N2 hr hr hr
      ·exact En r hr
      ·show YY hr;exact yU _
     ·refine List.pairwise_append.mpr ⟨uq,BI2,fun a ha b hb z=> ?_⟩;rw[AdV] at z;show AS v h1 h2 wv a ha;rw[z.1] at h1;show B8 hv ev zV.mp h1;have evw:v=w:=z1d nnd hv ξ ev
      rcases h2 with h2 | ⟨_,o,ho,h3⟩
      ·omega
      ·rw[z.2] at h3;show B8 hv' ev' zV.mp h3;have:=z1d pnd hv' ξ ev'
       omega
     ·show N2 hr hr hr
      ·exact mk r hr
      ·show YY hr;have l:=AH7 (cv.fdiv 12) most hm0
       change ((cv.fdiv 12).fmod most).natAbs<2^40
       omega
     ·show N2 hr hr hr
      ·show Aun h1 BDo
      ·show YY hr;exact⟨w,zZ _,.inr ⟨rfl,q,ρ,zZ _⟩⟩
   ·rintro _ ⟨rows,x9,x10,hrl,En,⟨uq,mk,wv⟩,rfl⟩;refine⟨rows,_,_,_,?_,En,Akb ũ,rfl⟩
    ·rw[Nat.succ_mul];omega
    ·show Aun (by rcases h2 with h2 | h2<;>omega) h1
  ·rintro _ ⟨rows,x8,x9,x10,hrl,En,⟨uq,mk,wv⟩,rfl⟩;have Ls:works*hands<=8*5:=Nat.mul_le_mul h8 h5;have aej:rows.length<=40:=zO hrl (Bi Ls)
   dsimp only;unfold zkx;dsimp only [aG,bG,cC,cV,cB,cT,iT,sS,iC,eG,jB,fU,qy,aq,aj,eF,dD,dg,fJ,bw,gA,dh,aX,cL,hName,eZ,aZ,fj,j8,jC,aB,cU,gZ,fZ,cN,fY,cM,d8,bU,ji,qZ,tQ,pR,vp,sW,jj,mC,pU,cO,wI,qF,rA,jK,vq,vA,dM,j9,gC,kh,kj,List.length,List.set_cons_zero,List.set_cons_succ,List.getElem?_cons_zero,List.getElem?_cons_succ,fK,lN,rB,tU,pC,oR,pF,kE,fB,dN,jk,pW,qx,tW,gQ,pG,cW,dO,rK,vG,rJ,kJ,kO,iL,dR,gb,jL,dJ,List.map,List.append,List.cons_append,List.nil_append];refine⟨ns,3,rfl,hl,ρ,ACN (Ly (k:=3) τ),trivial,?_,?_⟩
   ·show AJS
   obtain⟨t,et,ht⟩:=El (i:=AhK 3 4) (n:=BIg) (Nat.succ_pos _);rw[show i4 rows.map qM+1=B5 BIg by show ED;rfl,et]
   unfold zky;dsimp only [aG,bG,cC,cV,cB,cT,iT,sS,iC,eG,jB,fU,qy,aq,aj,eF,dD,dg,fJ,bw,gA,dh,aX,cL,hName,eZ,aZ,fj,j8,jC,aB,cU,gZ,fZ,cN,fY,cM,d8,bU,ji,qZ,tQ,pR,vp,sW,jj,mC,pU,cO,wI,qF,rA,jK,vq,vA,dM,j9,gC,kh,kj,List.length,List.set_cons_zero,List.set_cons_succ,List.getElem?_cons_zero,List.getElem?_cons_succ,fK,lN,rB,tU,pC,oR,pF,kE,fB,dN,jk,pW,qx,tW,gQ,pG,cW,dO,rK,vG,rJ,kJ,kO,iL,dR,gb,jL,dJ,List.map,List.append,List.cons_append,List.nil_append];rw[yhj rows ξ,ygw rows ξ]
   show CD (by show Aid List.length_drop List.length_take;omega)
   rw[<- List.map_append];have pm:(Agv++Agu).Perm rows:=qo (List.perm_append_comm (l₁:=Agv) (l₂:=Agu)) List.take_append_drop
   refine h (Agv++Agu) JG (by show Aey List.length_drop List.length_take;omega) ξ (OM hr (AV9 En hr)) (ygy pm uq) (RE (AV9 mk hr))
 change LN zgm [RR,AEJ,AEM,υ,υ,υ,υ,υ,υ,υ,υ,υ]
 unfold zgm;dsimp only [aG,bG,cC,cV,cB,cT,iT,sS,iC,eG,jB,fU,qy,aq,aj,eF,dD,dg,fJ,bw,gA,dh,aX,cL,hName,eZ,aZ,fj,j8,jC,aB,cU,gZ,fZ,cN,fY,cM,d8,bU,ji,qZ,tQ,pR,vp,sW,jj,mC,pU,cO,wI,qF,rA,jK,vq,vA,dM,j9,gC,kh,kj,List.length,List.set_cons_zero,List.set_cons_succ,List.getElem?_cons_zero,List.getElem?_cons_succ,fK,lN,rB,tU,pC,oR,pF,kE,fB,dN,jk,pW,qx,tW,gQ,pG,cW,dO,rK,vG,rJ,kJ,kO,iL,dR,gb,jL,dJ,List.map,List.append,List.cons_append,List.nil_append];refine⟨ns,2,rfl,hl,ρ,Κ,?_⟩
 unfold zle;dsimp only [aG,bG,cC,cV,cB,cT,iT,sS,iC,eG,jB,fU,qy,aq,aj,eF,dD,dg,fJ,bw,gA,dh,aX,cL,hName,eZ,aZ,fj,j8,jC,aB,cU,gZ,fZ,cN,fY,cM,d8,bU,ji,qZ,tQ,pR,vp,sW,jj,mC,pU,cO,wI,qF,rA,jK,vq,vA,dM,j9,gC,kh,kj,List.length,List.set_cons_zero,List.set_cons_succ,List.getElem?_cons_zero,List.getElem?_cons_succ,fK,lN,rB,tU,pC,oR,pF,kE,fB,dN,jk,pW,qx,tW,gQ,pG,cW,dO,rK,vG,rJ,kJ,kO,iL,dR,gb,jL,dJ,List.map,List.append,List.cons_append,List.nil_append];refine⟨BBw,qA (iS 4),ns,3,rfl,hl,ρ,Κ,?_⟩
 show AWU t et ht 3 4
 rw[ui (AL 4=B5 4),et]
 match t,ht with
 | 0,_=>show Aaq
 | 1,_=>show Aaq
 | 2,_=>show Aaq
 | 3,_=>show Aaq
theorem zsd(AU Xc):MD zi7:=by
 show AMV i j;show AX (fun m Γ=>∃a b:Int,Γ= [Bn a,wS]/\0<=a/\0<=b/\m=b.natAbs/\Int.gcd a b=Abu) ⟨_,AOm,A5c,rfl,BIc,BIc,rfl,?_⟩
 ·have e1:AOm=AL i.natAbs:=by split<;>omega
  have e2:A5c=AL j.natAbs:=by split<;>omega
  rw[e1,e2];rfl
 rintro m _ ⟨a,b,rfl,ha,hb,rfl,hg⟩;show Ů (0<b);by_cases hz:0<b
 ·show nB hz
  have h0:j':=ρ
  refine⟨h0,_,zfo h0,b,a.fmod b,rfl,hb,?_,rfl,EW zzq hg⟩
  rw[Int.fmod_eq_emod_of_nonneg _ hb];exact Int.emod_nonneg _ h0
 ·show Ė hz
  have:b=0:=ρ
  show UC;rw[Int.gcd_zero_right] at hg;have e:a=AJt:=ρ
  rw[e];exact h
theorem Rx{x:ATR}{h:Str}:∀{hs:ο},gD Ŋ (hs.map x) my=Aex m_ (some (x h))
 | []=>rfl
 | g::hs=>by
  show AWj;unfold gD;by_cases q:g=h
  ·rw[ATL q,Me if_pos q List.mem_cons_self,q]
  ·rw[Χ (DH (AT0 q)),Rx (hs:=hs)]
   by_cases p:m_
   ·rw[Ap p,BJf if_pos p]
   ·rw[Χ p,Ē (by
     show J_ AJr
     ·exact q z.symm
     ·exact p z)]
def leI(x:DU)(B:Int)(h:Str):Int:=(x h).num*B.fdiv (AL (x h).den)
theorem zwn{ws:ο}{f g:ATR}{w:Str}(e:∀v∈ws,v≠w ->f v=g v):dU QU (ws.map f) k9 (g w)=(jE ws w).map g:=by
 unfold dU jE;rw[JC];show D8 AFI
 ·rw[Ō,BU,EM];clear q;induction ws with
  | nil=>rfl
  | cons v ws ih=>
   show AzS List.zipWith_cons_cons A8j
   congr 1
   by_cases p:v=w
   ·rw[ATL p,p]
   ·show ky (AC (AT0 p)) (e v zY p)
 ·rw[ŋ,OT,EE,List.map_append]
  congr 1
  exact A7f (mv q hv)
def dcT(ws:ο)(f:cn):T:= ą QU (AA ws.map (B2 Akf))
theorem yiv{ws:ο}{f g:cn}{w:Str}(e:∀v∈ws,v≠w ->f v=g v):T.dic Ak' (sv QU (ws.map fun w=> Akf) k9 (B4 (g w)))=dcT (jE ws w) g:=SV zkq (zwn (f:=B2 Akf) (g:=B2 (.int (g w))) fun v hv n=>(Fu (e v hv n)))
def aek(FI)(l:AG)(f:ALv):Int:=AnR
structure Met (rows:A5) (k:Rw ->Str) (ws:ο):Prop where
 nd:ws.Nodup
 mem:∀w,w∈ws↔S_ (k r=w)
 len:Atr
theorem z45(AU Rf):ZN zrg:=by
 obtain⟨i,j,rfl,b1,b2,hj,h⟩:=h;rw[<- yj7 hj] at h;show HQ i j rfl;show B8 d0 d1 (v4 zuv) hj;show Ů (j<0);by_cases hn:j<0
 ·show nB hn
  have e:dv i j=0 - AJt:=by unfold dv;show D1 hn;omega
  exact⟨ACo,ACo,AJ9,AdZ⟩
 ·show A9m
theorem qj.sz{N:Nat}{d:Int}{q:Rat}(h:AFy)(d0:d≠0)(bd:eD<=N):Sz N q:=by
 show xE t bt;exact Oj d0 bt bd
theorem qj.up{M N:Nat}{d:Int}{q:Rat}(h:qj M d q)(l:M<=N):AFy:=by
 show GH t e bt;exact⟨t,e,zO bt l⟩
theorem qj.add{N:Nat}{d:Int}{p q:Rat}(h1:qj N d p)(h2:AFy):qj (N+1) d (p+q):=by
 show JO t bt h1;show JO u bu h2;show AX (t+u) (by rw[Rat.intCast_add,Rat.div_def,Rat.div_def,Rat.div_def,Rat.add_mul])
 have:=Y0 t u;omega
theorem qj.sum{N:Nat}{d:Int}:An' AFy (qj (N+qs.length) d (fL qs))
 | [],_=>⟨0,by show ĳ=GB 0/_;rw[Rat.div_def];show ĳ=0*_;rw[Rat.zero_mul],DV⟩
 | q::qs,h=>by
  have h1:=qj.sum (qs:=qs) AhJ;exact((h q zY).up (Nat.le_add_right _ _)).add h1
theorem qj.less{N:Nat}{d m:Int}{q:Rat}(h:AFy)(d0:d≠0)(bd:eD<=N)(hm:m.natAbs<2^100):qj (N+101) d (Ο m - q):=by
 show xE t bt;show AX (m*d - t) ?_
 ·show Re dz ADt (d0 (by show vb))
  rw[Rat.intCast_sub,Rat.intCast_mul,Rat.div_def,Rat.div_def,Rat.sub_eq_add_neg,Rat.sub_eq_add_neg,Rat.add_mul,Rat.mul_assoc,BIm dz,Rat.mul_one,Rat.neg_mul]
 ·have:=zmf (m*d) t;have:=Aw m d;have:=mq hm;omega
theorem Xw{c:Prop}[Decidable c]{a b:Prop}(h:¬c)(k:b):A3I:=AB md k
theorem Xx{c:Prop}[Decidable c]{a b:Prop}(h:c)(k:a):A3I:=AB vv k
theorem z7r{l:Ψ}(h:1<=l.length):∀q∈mids l,q∈l:=by
 intro q hq;unfold mids at hq;split at hq
 ·simp only [List.mem_singleton] at hq;subst hq;exact zqi ξ
 ·show AaC hq;show va hq rfl
  ·exact zqi ξ
  ·exact zqi ξ
theorem z0n(l:Ψ):BI mids l<=2/\mids l≠ []:=by unfold mids;split<;>simp
theorem ygk(AU Rg):ZN zt8:=by
 obtain⟨r,qs,g,rfl,hr,ne,hl,z,hs,h⟩:=h;have np:r≠GJ:=by rcases hr with rfl | rfl<;>decide+kernel
 show AlF l1 qs.length ne;have z4:∀q∈qs,APQ:=fun q hq=>(z q hq).up τ
 show fN r (Xw (by rw[Χ np,List.length_map];simp;omega) (Do ATl))
 show BC Xd;show va hr rfl
 ·rw[BU] at h;refine Xx AxE ⟨qs,rfl,ρ,z4,hs,?_⟩
  show An ne;exact h
 ·show AEW sM;refine Xw (IF Xl decide_eq_true_iff sM) ⟨ATl,Xx AxE ?_⟩
  have ls:=zun qs;have mz:∀q∈At9,AMb:=fun q hq=>z q (AvB A6W)
  have ml:=z0n (xP qs);refine⟨qs,rfl,ρ,z4,xP qs,rfl,ρ,At9,rfl,ρ,ANc ((mz q hq).up τ),yi6 mz ml.1,?_⟩
  rw[Χ ml.2,zvw];exact h
theorem gR.look{c:Cls}{S:gR}{b:Ķ}:∃fs xs,AGj= .obj c.ak fs xs/\AGN "kept_leanings" S.leans/\AGN "marks" S.marks/\AGN "sheets" S.sheets/\AGN "scale" S.scale/\AGN "rule" S.rule/\AGN "gap" S.gap/\ AUk "must_have"/\ AUk "leaning"/\ AUk "mark"/\ AUk "grade":=by
 cases b with
 | none=>exact⟨_,_,rfl,rfl,rfl,rfl,rfl,rfl,rfl,Κ,Κ,Κ,Κ⟩
 | some d=>exact⟨_,_,rfl,rfl,rfl,rfl,rfl,rfl,rfl,Κ,Κ,Κ,Κ⟩
theorem zmj(AU Xe):MD zfe:=by
 obtain⟨S,b,hand,ks,ys,rfl,hk,hq⟩:=h;obtain⟨fs,xs,e,h1,_⟩:=ANz;rw[e];exact⟨rfl,S.leans,h1,ks,ys,hk,τ,.inr hand,rfl,hq⟩
theorem yhv{ks:Au}{ys:ψ}{k:Key}{d:D}(h:gD ks ys k=some d):AFv:=by
 induction ks generalizing ys with
 | nil=>cases (h)
 | cons a r ih=>
  cases ys with
  | nil=>cases (h)
  | cons y ys=>
   show BC gD;unfold mF;by_cases q:a=k
   ·simp [q]
   ·simp only [q,if_false,Bool.false_eq_true] at h;have:=ih h;unfold mF at this;simp [this]
theorem zjv(AU Rh):MD zeb:=by
 obtain⟨S,b,work,ks,ys,rfl,hk,hw,hq⟩:=h;obtain⟨fs,xs,e,_,h1,_⟩:=ANz;rw[e];refine⟨rfl,S.marks,h1,ks,ys,Afn,hk,rfl,?_⟩;rw[hw];exact hq
theorem zra(AU Ri):MD zhp:=by
 obtain⟨S,b,work,ks,ys,d,rfl,hk,hl,hq⟩:=h;obtain⟨fs,xs,e,_,h1,_,_,_,_,nm,_⟩:=ANz;rw[e];have hh:Am7:=yhv hl;refine⟨rfl,nm,S,b,work,ks,ys,č,hk,hh,?_⟩
 exact⟨rfl,S.marks,h1,ks,ys,Afn,d,hk,rfl,hl,hq⟩
theorem zo5(AU Xf):MD zgz:=by
 obtain⟨S,bs,work,ks,ys,d,rfl,hk,hl,zd,zb,hq⟩:=h;exact⟨rfl,Ii bs,rfl,rfl,Κ,S,some (Ii bs),work,ks,ys,_,rfl,hk,hl,bs,d,rfl,zb,zd,hq⟩
theorem lU.Lz(BCU):(∀q∈AVB,AMb)/\ (∀k,AdH (p.lv L f).take)/\Sz 1900 (p.wt L f):=by
 show AHM O.bt;have lv:∀q∈AVB,qj 1301 d q:=fun q hq=>by
  show OP h hh hq;exact(hd h).less d0 bd (S.mm h hh)
 have ln:A1Y<=12:=by unfold lU.lv;show ED;exact S.few
 have sm:∀qs:Ψ,AhC ->(AA_ (qj 1301 d q)) ->Sz 1313 (fL qs):=fun qs h1 h2=>((qj.sum h2).up ξ).sz d0 ξ
 have qu:∀qs:Ψ,AhC ->qs≠ [] ->(AA_ (qj 1301 d q)) ->Sz 1900 (fL qs/ ma):=fun qs h1 h0 h2=>by
  have l0:P1 qs.length:=FE (List.length_pos_iff.mpr h0)
  show Re l1 AgO (l0 (by show vb))
  exact(z31 (sm _ h1 h2) (V5 (i:=ma) (n:=4) (mq ξ) τ) l1).up τ
 have ne:AVB≠ []:=AC (S.ne (List.map_eq_nil_iff.mp z));show AX (ANc (((lv q hq).sz d0 ξ).up τ)) (YO (Tu (sm _ Ah4 (ANc (lv q (List.mem_of_mem_take hq))))))
 unfold lU.wt Xd;show AKf O.r e
 ·show D1 e;exact qu _ ln ne lv
 ·rw[Me if_neg e sM,<- zvw]
  have ls:=zun (p.lv L f);have l1:=List.length_pos_iff.mpr ne;have mf:=z0n (xP (p.lv L f));exact qu _ ξ mf.2 (ANc (lv q ((Om _).mem_iff.mp A6W)))
theorem yen:A2T (gL ->AXA ->AmP ->Sz 4000 (GC ps x))
 | [],x,_,_,_=>⟨AHx (cY 0<=_),AHx (cY 1<=_)⟩
 | [p],x,_,hz,_=>Tu (hz p Η).2
 | AWi,x,hg,hz,zx=>by
  have zl:=hz l Η
  have zr:=hz r Η
  have sb:Pp (yN l r x):=by
   have hn:ANf≠0:=by have:=hg.1.1;grind
   have s4:=yd3 (QK zx zl.1) (QK zr.2 zl.2);exact(yd0 zl.2 (z31 s4 (QK zr.1 zl.1) hn)).up τ
  have ih:=yen (ps:=r::t) (x:=x) hg.2 (fun p hp=>hz p (zW _ hp)) zx;unfold GC
  repeat' split
  all_goals first | exact (zl.2).up τ | exact sb | exact ih
theorem lU.LC(BCU):Sz 4000 (p.mk' L f):=yen O.sc.gd O.sc.sz (p.Lz O S).2.2
theorem z67(AX2):qb AgK (L.map (B_ (Ĳ h)))=L.map (B_ (.tup AxP)):=xj qb List.zipWith_map List.zipWith_self
theorem zla(AU Rj):ZO ze4:=by
 obtain⟨S,b,work,L,f,p,rfl,e2,e4,e1,O,H,hq⟩:=h;show F7;obtain⟨fs,xs,e,h1,h2,h3,h4,h5,h6,_,nl,_⟩:=ANz;show AS z1 z2 z3 p.Lz O H;show AHM O.bt;show YN (qb AgK (Ahg (Ĳ h)));rw[z67];refine Dy (fun h:Str=>D.tup AxP) (DJ (qD (AXY))) (fun h hh P hp=>(ALo ?_)) ?_
 ·show CD f_
  rw[e];refine⟨rfl,nl,S,b,h,p.hs.map .inr,p.hs.map fun h=>qD (p.x h),č,EK e1,?_⟩
  have ex:(gD (p.hs.map .inr) (AMT p.hs.map p.x) my).getD AdS=qD (p.xf h):=by
   rw[Rx (x:=AJu p.x)];unfold lU.xf;split
   ·rfl
   ·show D.tup AQW=qD (GB 0);rw[Ol]
  rw[ex];exact⟨Ο (f h),p.xf h,Fu Ol,V5 (zO (mq (H.mm h hh)) τ) τ,((hd h).sz d0 bd).up τ,hp⟩
 rw[e];have el:(Ahg (qD (AXY)))=(p.lv L f).map qD:=by unfold lU.lv;show ei;rfl
 have ll:A1Y=L.length:=by unfold lU.lv;show ED
 have few:=H.few;rw[el];show HQ rfl S.scale h4;rw[e4];refine⟨rfl,Κ,rfl,S.rule,h5,rfl,S.gap,h6,?_⟩
 rw[e2];exact⟨p.r,AVB,S.gap,rfl,O.r,AtV H.ne,ρ,z1,z2,p.ps,p.wt L f,rfl,O.sc.len,O.sc.gd,O.sc.sz,z3,hq⟩
theorem zp9(AU Ij):ANM zg0 1:=by
 obtain⟨S,ws,v,bs,rfl,em,so,l64,zv,zb,hq⟩:=h;show F7;obtain⟨fs,xs,e,_,h2,_,_,_,_,_,_,n1,n2⟩:=BGa (some (Ii bs));rw[e];refine⟨rfl,S.marks,h2,ws,ws.map fun w=>eQ,ALd,Ln so,l64,Α ms pm so2⟩
 obtain rfl:ms=ws:=V7 asT so2 so (IL pm.mem_iff);refine Dy D.str (k6 A4Y) AeP hq;have lk:gD (ms.map .inr) (ms.map fun w=>eQ) k9=some AXm:=EW (Rx (x:=B2 eQ)) (Ap hw)
 refine⟨rfl,n1,S,_,w,ms.map .inr,ms.map fun w=>eQ,_,č,ALd,lk,rfl,n2,S,bs,w,ms.map .inr,ms.map fun w=>eQ,v w,č,ALd,lk,zv w hw,zb,?_⟩
 exact⟨Ak2,hp⟩
theorem zi0(AU Xg):ANM zdz 2:=by
 obtain⟨S,b,work,ks,ys,kz,yz,d,kd,xd,rfl,hk,hw,hz,hl,hd,hq⟩:=h;obtain⟨fs,xs,e,_,_,h3,_,_,_,nm,_⟩:=ANz;rw[e];refine⟨rfl,nm,S,b,work,ks,ys,č,hk,hw,?_⟩
 exact⟨rfl,S.sheets,h3,kz,yz,Afn,d,hz,rfl,hl,d,kd,xd,rfl,hd,hq⟩
theorem z7a(AaR):D.dik Ŋ (j7 (Awi rg))=sZ hs x:=EK Lq
theorem zov{α:Type}(f:α ->T):AyZ qI (fun a=>jl (f a))
 | []=>KS
 | CU=>ē List.map_cons qI (zov f l)
theorem Xy(AaR):jl (gM hs x)=sZ hs x:=by
 unfold gM jl;rw[List.map_map,zov]
 rfl
theorem jQ.dn(c:Cls)(S:jQ)(b:Ķ):jl (jQ.t c S b)=gR.d c S.pl b:=by
 cases b<;>simp only [jQ.t,jQ.ts,gR.d,jQ.pl,gR.xs,jl,qI,List.cons_append,List.nil_append]
theorem yds{α:Type}(f:DA):ly (jd (l.map fun a=>qD (f a)))
 | []=>vc
 | CU=>C7 ⟨A6G,yds f l⟩
theorem zzk:∀l:ο,jd (l.map D.str)
 | []=>vc
 | CU=>AB List.map_cons ⟨BD pY,zzk l⟩
theorem ycw(AGA):pY (qD q):=A6G
theorem ydb(AFW):Aok BCk:=by
 by_cases q:a=b
 ·rw[q,AJU];exact Jc _
 ·show me q;cases e:BCk with
  | false=>rfl
  | true=>exact Ya yje (z8p _ _ e) q
theorem yej{ws:ο}{f g:ATR}{w:Str}(hw:AFI)(e:∀u∈ws,u≠w ->f u=g u):T.dic Ak' (sv QU (ws.map f) k9 (g w))= Au6 g:=by
 rw[zkq,zwn e,show jE ws w=ws from Ap hw]
theorem yj4(ws:ο)(Aoa):jl (.dic QU (HA (AA ws.map (B2 Aiu))))= .dik QU (ws.map (B2 Aiu)):=xj jl List.map_map zov
theorem zlo(AbC Rk):AaL zc7 4:=by
 obtain⟨p,g,fH,ws,br,Kf,V,w,K',V',rfl,rfl,O,hw,same,S,h⟩:=h;show F7;have fw:=O.few;have fw0:=O.few0
 let v:DU:=AZm p.mk'
 let v' :DU:=AzH p.mk'
 have ev:∀u∈ws,u≠w ->Ě=qD (v' u):=fun u _ n=>by
  show qD (p.mk' (Kf u) (V u))=qD (p.mk' (K' u) (V' u));rw[Az1,A1K]
 have es:∀u∈fH,u≠w ->rD (Kf u) (V u)=rD (K' u) (V' u):=fun u _ n=>(EW Az1 A1K)
 have lk:∀v:DU,gD QU A4X k9=some AXm:=fun v=>(EW (Rx (x:=fun u=>Ě)) (Ap hw))
 refine⟨rfl,jl (gM ws v),rfl,oC,AmT Ě,ADz,eQ,EK Xy,rfl,lk v,ycw _,?_⟩
 refine⟨rfl,Κ,Aq6 Kf,some (Ii br),w,K' w,V' w,p,?_,rfl,rfl,rfl,O.p,S,ycw _,?_⟩
 ·show [jl AnC,_,_]=_;unfold qN;rw[jQ.dn]
 refine⟨ADz,_,_,_,oC,AmT Ě,rfl,rfl,rfl,Of,?_⟩
 show zea K c _ [.tr KK (jQ.t c (Avu (AV' AWT) (ą Ak' (dU QU A4X k9 (qD (v' w))).map)) (some (Ii br))),Lm w,.pu Aqn,.pu AXm] _;rw[yej (f:=fun u=>Ě) (g:=fun u=>qD (v' u)) hw ev];refine⟨ADz,_,_,_,AhA,fH.map fun w=>AWT,rfl,rfl,rfl,Of,?_⟩
 show zee K c _ [.tr KK (jQ.t c ⟨.str p.r,g,Adt,AeW,ą (gK ACy k9) (dU ACy (fH.map fun w=>AWT) k9 Aqn).map,Au6 (fun u=>qD (v' u))⟩ (some (Ii br))),Lm w,.pu Aqn,.pu AXm] _;rw[yej (f:=AZm rD) (g:=AzH rD) ((O.sm w).mpr hw) es];refine⟨rfl,jl (gM ws v'),rfl,oC,AmT (qD (v' u)),ADz,qD (v' w),EK Xy,rfl,lk v',yev _ _,?_⟩
 rw[ydb];show BC uO;show D8 (v' w=v w)
 ·show mT EM (Xx (decide_eq_true q) (Fk DV _ h))
 ·show mT EE (Xw (B6 decide_eq_true_iff q) (Fk AL3 _ h))
theorem z1k{α:Type}(f:ALv):ly (qJ (AA l.map (B_ (D.int (f h))) rg))
 | []=>vc
 | CU=>C7 ⟨vc,z1k f l⟩
theorem znj(AbC Rm):AaL zdo 5:=by
 obtain⟨p,g,fH,ws,br,Kf,V,r,rfl,rfl,O,hw,l12,S,h⟩:=h;show F7
 let v:DU:=AZm p.mk'
 refine⟨rfl,Κ,Aq6 Kf,some (Ii br),ω,oC,ws.map (Μ u Ě),AhA,fH.map (Μ u (rD (Kf u) (V u))),rD (Kf ω) (V ω),AGs .inr,AA Kf ω (DJ A3w),?_,?_,?_,?_,?_,rfl,?_,MA as⟩
 ·show [jl AnC,_]=_;unfold qN;rw[jQ.dn]
 ·show vN (jl (gM ws v))=_;rw[Xy];rfl
 ·rw[JC];exact decide_eq_true hw
 ·show vN (jl (.dic ACy (HA (AV' AWT))))=_;rw[yj4];rfl
 ·rw[Rx (x:=AZm rD),d5 (O.sm _).mpr hw]
 ·exact z1k _ _
 refine⟨Hk as _,Afo,as,AGs .inr,AGs fun h=> A3w,rfl,rfl,Of,?_⟩
 have eK:stepK Kf r ω=jE (Kf ω) A3:=BU;have eV:stepV V r ω A3=LV:=Ap k_;have ep:=yiv (ws:=Kf ω) (f:=V ω) (g:=stepV V r ω) (w:=A3) fun u _ n=>(NI if_neg (AC (n z.2)));rw[eV] at ep;show ze5 K c _ [.tr KK AnC,Agm,Agn,Afw,XL (T.dic (gK (AGs .inr) Af3) (sv (AGs .inr) (AGs fun w=> .int (V ω w)) Af3 (B4 LV)))] _;rw[ep];refine⟨as,_,_,rfl,Fk _ _ Κ,a,bs,_,rfl,?_⟩
 refine⟨p,g,fH,ws,br,Kf,V,ω,stepK Kf r,stepV V r,rfl,?_,O,hw,fun u n=>(Do ATF),S,fun cs=>(JS cs _ h)⟩
 ·rw[eK];show [D.str ω,.dik (A4z .inr) (j7 (HA (AA A4z (B2 (D.int (stepV V r ω w))))))]=_;rw[Lq];rfl
 ·funext x
  exact Ē (n z.1)
theorem kY.step{W ws:ο}{K:Ks}{V:Vs}(h:AoD){r:Rw}(hr:ARq)(hm:ADP):kR (kY W (stepK K r w) (stepV V r w)):=ř (by
 have G:=h w hw;by_cases q:w=ω
 ·have e:AaI=AZ7:=EM;rw[e];show CA mr (zrs G.nd) AGY AGY
  ·have:a_ AZ7:=n6.mpr Af1;show wT;show CH
  ·rcases n6.mp hx with hx | rfl
   ·exact G.sub x hx
   ·exact hr
  ·by_cases p:x=A3
   ·rw[show stepV V r w x=LV from Ap ⟨q,p⟩];exact hm
   ·rw[show stepV V r w x=V w x from Ē (p z.2)];exact G.mm x ((n6.mp hx).resolve_right p)
 ·rw[show AaI=K w from EE,show stepV V r w=V w from funext fun x=>(Ē (q z.1))];exact G)
theorem kY.ok{W L:ο}{f:cn}(hW:AUc)(g:kY W L f):yR L f:=⟨g.ne,zO (HX g.nd g.sub) hW,g.mm⟩
theorem kY.fold{W ws:ο}:∀{A:A5} {K:Ks} {V:Vs},(∀w∈ws,Ay') ->(∀r∈A,ARq/\ADP) ->kR (kY W BHg (A.foldl stepV V w))
 | [],K,V,h,_=>h
 | r::A,K,V,h,hA=>kY.fold (A:=A) (kY.step h (hA r zY).1 (hA r zY).2) (AXI (hA s (zW _ hs)))
theorem z3a(AbC O2):AaL zjk 7:=by
 obtain⟨p,g,fH,ws,br,Kf,V,W,A,rfl,rfl,O,hW,G,hA,hr,h⟩:=h;show F7;show AVN DV (∃(cs:Ν) (told:ο) (y3 y4 y5 y6:Slot),Γ= [.tr bP (ABl Azv Azw),ALy,J' told,y3,y4,y5,y6]/\told.length<=i/\∀w,p.mk' (ACi stepK Kf w) (ACi stepV V w)≠p.mk' (Kf w) (V w) ->w∈told) ⟨bs,[],_,_,_,_,rfl,E7,fun w z=>AWJ⟩
 ·rintro i d _ hi ⟨cs,told,y3,y4,y5,y6,rfl,hl,ht⟩;show UT A.length (Z3 ZY)
  show yk;cases hi;have hm:A[i]∈A:=yU hi';have snoc:=zll hi';generalize A[i]=r at hm snoc⊢;have Gi:=kY.fold (A:=A.take i) G (AXI (hr s (AfA hs)).2);show A_t eK stepK Kf (stepK Azv r)
  show A_t eV stepV V (stepV Azw r)
  generalize ACi stepK Kf=K1 at ht Gi eK⊢;generalize ACi stepV V=V1 at ht Gi eV⊢;show AS r1 r2 r3 hr r hm;have Gn:=kY.step Gi r2 r3 ω r1;refine⟨rfl,rfl,Fk _ _ Κ,a,cs,_,rfl,p,g,fH,ws,br,K1,V1,r,rfl,rfl,O,r1,((Gi _ r1).ok hW).few,Gn.ok hW,MA cs'⟩
  have off:∀w,w≠ω ->stepK K1 r w=K1 w/\stepV V1 r w=V1 w:=fun w n=>⟨ATF,funext fun x=>(Ē (n z.1))⟩;show D8 (p.mk' AkV AkL=p.mk' (K1 ω) (V1 ω))
  ·rw[show Aow K1 AkV V1 AkL ω= .lst [] by unfold uO;show D1 q]
   show AX DV (zxy _);rw[Jc];refine⟨by show AQ (Aum+0);show ED;omega,cs',told,Agm,Agn,Afw,HI [],?_,ρ,AD w z⟩
   ·rw[eK,eV];show [Slot.tr (a::cs') (ABl (stepK K1 r) (stepV V1 r)),ALy,HI (At4++ []),_,_,_,_]=_;rw[List.append_nil];rfl
   ·rw[eK,eV] at z;show Fs w ω
    ·show e9 (ht _ fun y=>z (q.trans y))
    ·exact ht w BFc
  ·rw[show Aow K1 AkV V1 AkL ω= .lst [ACt] by unfold uO;show An q]
   show AX DV (zxy _);rw[show gY (BN [ACt]) AAw=false by simp [gY,gF]]
   show AX AL3 (yl7 [ω] [ω])
   rw[Jc];refine⟨Aut (Aum+1),cs',told++ [ω],Agm,Agn,Afw,HI [ACt],?_,BIt (Nat.succ_le_succ hl),AD w z⟩
   ·rw[eK,eV];show [Slot.tr (a::cs') (ABl (stepK K1 r) (stepV V1 r)),ALy,HI (At4++ [ACt]),_,_,_,_]=_;unfold gl;rw[List.map_append];rfl
   ·rw[eK,eV] at z;show Fs w ω
    ·exact Amg e
    ·exact zP _ (ht w BFc)
 ·rintro _ ⟨cs,told,y3,y4,y5,y6,rfl,hl,ht⟩;rw[List.length_map,List.take_length] at ht⊢;exact JS cs _ (h told ht)
theorem qj.Xz{N M:Nat}{d e:Int}{q:Rat}(h:AFy)(e0:e≠0)(be:cY e<=M):qj (N+M) (d*e) q:=by
 show xE t bt;show Y_ (t*e) (FE (Aw t e))
 show Re ez (Ο e) (e0 (by show vb))
 show Aly;by_cases dz:ADt=0
 ·rw[dz,Rat.zero_mul,Rat.div_def,Rat.div_def,Rat.inv_zero,Rat.mul_zero,Rat.mul_zero]
 ·grind
theorem qj.zero(N:Nat)(d:Int):qj N d 0:=⟨0,by rw[Rat.div_def];show ĳ=0*_;rw[Rat.zero_mul],DV⟩
theorem z5k{x:DU}:∀{ks:GV},(∀m∈ks,AbB) ->(∀m∈ks,m≠ []) ->ASd (eD<=AwJ+1) (∀h∈ks.flatten,qj (AwJ+1) d (x h))
 | [],_,_=>⟨1,Κ,Κ,AGU (XA hh)⟩
 | m::ks,hz,hn=>by
  show AHM (hz m zY);obtain⟨e,e0,be,he⟩:=z5k (ks:=ks) (fun m hm=>hz m (zW _ hm)) (ACe (hn m (zW _ hm)));have l1:=Auh hn m;have sm:Ig m.length<=295*m.length:=Afg Ig
  have bm:=Aw d e;rw[List.flatten_cons,List.length_append];show CA (d*e) (Ae' d0 e0) ρ AmK
  show N2 hh hh hh
  ·exact((hd h hh).Xz e0 be).up ξ
  ·rw[Int.mul_comm];exact((he h hh).Xz d0 bd).up ξ
theorem Lean.bot(OE){ms:GV}{x:DU}(G:AOX){U:ο}(hU:AWk)(hr:Lu (a_ U))(r:Str)(ps:DI):A2L (qj 1200 d (lU.xf Aab h)):=by
 show AHC G.g.pi;show AHM (z5k G.sz p.ne);have fl:ms.flatten.length<=4:=zO (HX (zis p.dj (ACe (Ln (G.g.sr m hm)))) fun z hz=>by
  show AK_ m hm hz hz;show AS r h1 h2 G.g.hand hm hz;rw[<- h2];exact hr r h1) hU
 show CA d d0 ρ ņ
 unfold lU.xf;split
 ·show uj hh ((hd h hh).up ξ)
 ·exact qj.zero _ _
theorem z96(Axt):rD OB cr= .dik AT2 (lL Ags):=by
 unfold rD
 congr 1
 unfold kW;show ei;show AUU r hr;have hr:=bZ.mp hr;show D.int (yW rows w A3).num=_;rw[<- hr.2,QZ u hr.1,Rat.num_intCast]
theorem ykm(OE)(AoM){w:Str}(ne:Ŏ):yR OB cr:=by
 show B0 (AtV ne) (AB Ou (L.wk w)) AmK
 obtain⟨r,hr,e1,e2⟩:=jm.mp hh;show(yW rows w h).num.natAbs<_;rw[<- e1,<- e2,QZ u hr,Rat.num_intCast];exact L.mm r hr
theorem z9l(BBe):AA ps.map Cu Cq=ws.map AgJ:=by
 rw[yde B u,List.map_map,List.map_map];show AUU w _;show D.dik AT2 (j7 (AA lL (Kb (D.int LV)) rg))=_;rw[Lq,z96 u]
theorem ace{n:Nat}(h:n<=60):wF XB EO=true:=xj wF BJC BJC
theorem z9n{qs:Ψ}{n:Nat}(h:qs.length<=60)(n0:0<n):sY qs Am_=true/\∀i∈yP qs (List.replicate n XB),∃k:Nat,i=CS/\k<=qs.length:=by
 obtain⟨_,hn⟩:=zxt qs;have rv:AvZ=AxZ:=List.reverse_replicate;have gd:AQ5 (AHk n (XB:Bd) getD k c9=XB):=fun k hk=>(BD hk)
 have all:∀k,k<=n ->ma∈ApQ gk Am_ k:=by
  intro k;induction k with
  | zero=>exact C6 AUH
  | succ k ih=>exact fun hk=>qe.mpr ⟨hn,_,ih ξ,SV (gd k ξ) Int.sub_self⟩
 have g:IG∈ApQ gk AvZ (BJg n (XB:Bd)):=by
  rw[rv,List.length_replicate];obtain⟨k,rfl⟩:∃k,n=k+1:=AHq (n - 1)
  exact qe.mpr ⟨Lk qs,_,all k ξ,IF (gd k ξ) Int.sub_zero (ace h)⟩
 show Op (List.contains_iff_mem.mpr g) i hi;show OP k hk hi;show AfU hk hk;show ND m hm (zB.mp (z7j hn (zy1 hn g EL ξ).1))
 show AX m e.symm;unfold iH at hm;show P6 hm hm
 ·exact DV
 ·show OP j hj hm;have:=List.mem_range.mp (ALJ hj);show A_ zym;exact this
theorem yg6{l:Ξ}{n:Nat}(h:∀i∈l,∃k:Nat,i=CS/\k<=n):qL l= AUC (AA l.map Int.toNat)/\∀k∈l.map Int.toNat,k<=n:=by
 show Op ?_ k hk
 ·unfold qL;show ei
  congr 1
  show AUU i hi;obtain⟨k,rfl,_⟩:=AUd
  rfl
 ·show OP i hi hk;show JO k q AUd;exact q
theorem z5o(AbC Ik):AaL zcr 8:=by
 obtain⟨rows,U,ru,g,ps,n,rfl,rfl,uq,L,hU,hr,hl,C,En,n0,n3,h⟩:=h;show F7;have line:iS 1000:=ρ
 let bd:D:=Aql
 let Z:JP T T GV DU jQ:=fun sh mk ms x=>⟨.str ru,g,AVu,sZ ms.flatten x,sh,mk⟩
 refine⟨_,_,_,rfl,Κ,Κ,Κ,?_⟩
 refine⟨_,_,_,rfl,Κ,Κ,Κ,?_⟩
 refine⟨rfl,_,AD',ps,rfl,A5O,?_⟩
 rw[A_J];refine⟨_,_,_,rfl,Κ,Κ,Κ,?_⟩
 refine⟨rows,U,rfl,uq,L,ρ,hr,Α ms x G⟩
 refine⟨_,_,_,rfl,Κ,Κ,Κ,?_⟩
 rw[z7a];show CA rows rfl ρ (Α fH ps0 B)
 refine C3 _ _ (AD t ht) ?_
 ·show Ĭ q (zB.mp ht);exact AEn
 rw[z9l B uq];refine⟨_,_,_,rfl,Κ,Κ,Κ,MA cs⟩
 refine⟨_,_,_,rfl,Κ,Κ,Κ,MA cs'⟩
 generalize esh:T.dic ACy (AV' AJd rg)=sh;have dsh:jl sh= .dik ACy (fH.map AgJ):=BA esh (Ff yj4)
 have lw:=B.lw;refine⟨rfl,jl sh,rfl,fH,fH.map fun w=>AJd,EK dsh,B.nd,ρ,fun ws pm so=>(Do (zzk ws))⟩
 have nd:ws.Nodup:=pm.nodup_iff.mpr B.nd;have wm:Aic:=B2 (pm.mem_iff.trans (B.wm w))
 let p:lU:=AKK
 have O:p.Ok:=⟨En,C,G.bot hU hr ru ps⟩;show AGa ok (kR (yR OB cr)) (ykm uq L (AC (by
  show At r h1 h2 (wm w).mp hw;have:=AXn;show wT;show CH)))
 have wl:ws.length<=40:=BJ1
 let v:DU:=B2 (p.mk' OB cr)
 show U' (∃(y6:Slot),Γ= [tI (AYE++cs') (jQ.t c BCP none),Kj,AUI,.pu g,AOi,.pu bd,y6,υ]) Cf
 ·rintro i d _ hi ⟨y6,rfl⟩;show UT ws.length (Z3 ZY)
  show yk;cases hi;have tk:=zll hi';have hw:Os∈ws:=yU hi';have fresh:Os∉ws.take i:=AC (by
   have:=nd;rw[<- AfV ws,List.nodup_append] at this;refine this.2.2 _ z Os ?_ rfl;show Auk;exact zY)
  generalize Os=w at tk hw fresh⊢;refine⟨rfl,Κ,rfl,jl sh,rfl,AhA,fH.map (Μ w AJd),ADz,AJd,EK dsh,rfl,EW (Rx (x:=AgJ)) (d5 pm.mem_iff.mp hw),?_⟩
  refine⟨(Z sh BH_ ms x).pl,none,w,iX,mW rows w,p,?_,rfl,rfl,rfl,O,ok w hw,ycw _,?_⟩
  ·show [jl (jQ.t c BCP none),_,_]=_;rw[jQ.dn]
  refine⟨ADz,_,_,_,Awj .inr,Awj fun w=>eQ,rfl,rfl,rfl,ACP List.length_take,?_⟩
  show CD (Lm w);rw[tk,<- z0z fresh]
  rfl
 ·show ASz y6;show BJu;refine⟨rfl,jl (gM ws v),rfl,oC,ws.map fun w=>eQ,EK Xy,yds v ws,?_⟩
  have eq:(ws.map fun w=>eQ)=AA ws.map v qD:=nI
  have zq:∀q∈Ai5,APQ:=fun q hq=>by
   show Aof;exact p.LC O (ok w hw)
  have ln:BI ws.map v<=60:=Of
  obtain⟨g1,g2⟩:=z9n ln n0;show B8 g3 g4 yg6 g2;rw[eq];refine⟨Ai5,AxZ,rfl,ρ,zq,Tm List.length_replicate,C6 ?_,AC (BGF g1)⟩
  rw[g3];refine⟨Ai5,_,rfl,ρ,zq,?_,g4,?_⟩
  ·unfold yP;show Aid List.length_range List.length_replicate;exact n0
  refine⟨_,_,_,rfl,Κ,Κ,Κ,_,_,rfl,?_⟩
  rw[<- esh];refine A'6 _ G wm rfl ⟨O,so,ρ,ρ,B2 pm.mem_iff.symm,fun b hb q e=> ?_⟩
  show OP k hk hb;exact zq q (z88 (ykw (B6 zym (g4 k (List.dropLast_subset _ hk))) e))
theorem z39:∀{ps:DI} {p:Pt},gL ->(AEi ->(jN ps).1<AM/\ AXJ C9) ->Gd (ps++ [p])
 | [],_,_,_=>trivial
 | [a],p,_,h=>ASt (h Η)
 | ALP,p,hg,h=>⟨hg.1,z39 (ps:=b::t) hg.2 (C6 (h Η))⟩
theorem zrj:∀(ps:DI) (p:Pt),jN (ps++ [p])=p
 | [],_=>rfl
 | [a],_=>rfl
 | ALP,p=>zrj AL6 p
theorem z5y{Y e:Int}(e1:1<=e)(e3:e<=3):Lo Y e<=AKs/\ (0<=Y ->AKr/3<=Lo Y e):=by
 have h1:AKr<=AKs:=Rat.intCast_le_intCast.mpr ξ
 have h2:ĳ<=AKs:=Rat.intCast_nonneg.mpr ξ
 have h3:0<=Y ->ĳ<=AKr:=B_ (Rat.intCast_nonneg.mpr h);generalize AKs=z at h1 h2⊢;generalize AKr=y at h1 h3⊢;have e:e=1\/e=2\/e=3:=ρ
 rcases e with rfl | rfl | rfl
 ·show Al8 (Ο (OG)) 1
 ·show Al8 (Aj1 2) 2
 ·show Al8 (Aj1 3) 3
theorem z7n(EF){c:Cls}{Dn:oZ}{E:XW}{S y5:D}{X Y b z:Int}{ps:DI}{H:Rat}(hb:j')(bX:cY X<=9000)(bb:cY b<=9000)(l:ps.length<100)
  (h:Dn.nx [RR,Az2,A7g,wS,.ow (Ape pD),.pu y5,AEI,AVj]):
  zcw K c Dn [RR,Bn X,Bn Y,wS,.ow Ŗ,.pu y5,AEI,AVj] E:=by
 show F7;refine⟨Cf,X,b,rfl,bX,bb,hb,f_,Of,?_⟩
 have e3:ps.map pD++ [Azo]=Ape pD:=BJM
 show zc0 K c Dn [RR,Bn X,Bn Y,wS,.ow (ps.map pD++ [Azo]),.pu y5,AEI,AVj] E;rw[e3];show Zl (Ÿ 15) (XI 7) (.inl τ) (Ÿ 105) (XI 3)
 rw[<- show(AI (Y<0) (-Y) Y)=Õ by split<;>omega] at h
 exact h
theorem zj5(AU Xh):F_ zez 8:=by
 show AFc ns hn;show F7;have d15:P1 15/\cY 15<=9000:=ACN (xV τ)
 have z3:P1 3:=Κ
 refine⟨ns,46,rfl,hn,ρ,XI 15,ns,47,rfl,hn,ρ,XI 21,ns,46,rfl,hn,ρ,d15,z3,DV,ns,48,rfl,hn,ρ,z3,?_⟩
 show o4 f1 (cZ ns 46) 15
 show o4 f2 (cZ ns 47) 21
 show o4 f3 (AhK 46 15) 3
 show o4 f4 (cZ ns 48) 3
 show CD Abv
 obtain⟨N,eN,n2,n4⟩:∃N:Nat,Su 2 (Tx 48 3)=N/\2<=N/\N<=4:=Az5
 rw[eN];obtain⟨b,eb,b1,b3⟩:∃b:Int,1+ (AhK 46 15).fmod 3=b/\1<=b/\b<=3:=Az5
 have bz:j':=ρ
 have bq:ĳ< Ο b:=Rat.intCast_pos.mpr ξ
 show U' (∃(X Y:Int) (ps:DI) (y5 y6 y7:Slot),Γ= [w8,Bn X,Bn Y,wS,.ow Ŗ,y5,y6,y7]/\ps.length=i/\gL/\ AXA/\X.natAbs<=9+7*i/\Y.natAbs+2<=20*8^i/\ (AEi ->(jN ps).1< ACI/\ AXJ (AKr/3)/\0<=Y)) ⟨Tx 46 15 - 9,Tx 47 21 - 4,[],_,_,_,by rw[<- eb];rfl,rfl,trivial,Akn,ρ,ρ,B_ (Ū h)⟩
 ·rintro i _ hi ⟨X,Y,ps,y5,y6,y7,rfl,hl,hg,hz,bX,bY,Cz⟩;have p8:8^i<=8^3:=Nat.pow_le_pow_right τ ξ
  have zX:Sz 60 (ACI):=Oj bz (mq (zL (uu (X.natAbs<=30)) τ)) (mq Avc)
  have bY' :cY Y<=60:=mq (zL (uu (Y.natAbs<=20*8^3)) τ)
  show Zl ns (49+i) (AaV 49 49 49) hn ρ
  generalize cZ ns (49+i)=z;show o4 g3 (z.fdiv 5) 3
  show o4 g7 (z.fdiv 15) 7
  show o4 g2 (z.fdiv 105) 3
  have bX' :cY X<=9000:=ACg 10 (zL (uu (X.natAbs<=30)) τ)
  have bb:cY b<=9000:=ACg 10 Avc
  have O7:∀H:Rat,(AEi ->AXJ H) ->H<=AKs ->Sz 300 H ->∃(X' Y' :Int) (qs:DI) (y5 y6 y7:Slot),[AkZ,Az2,A7g,wS,.ow (Ape pD),ALG,AEI,AVj]= [w8,Bn X',Bn Y',wS,.ow (qs.map pD),y5,y6,y7]/\qs.length=By/\Gd qs/\ (j_ qs (Dv 300 p))/\X'.natAbs<=9+7* BE/\Y'.natAbs+2<=20*8^ BE/\ (0<qs.length ->(jN qs).1< Lo X' b/\ (jN qs).2<=Ο Y'/3/\0<=Y'):=by
   intro H h1 h2 zH;refine⟨_,_,ps++ [(ACI,H)],_,_,_,rfl,BJc hl,z39 hg fun q=>⟨(Cz q).1,h1 q⟩,Z',ρ,Tm Nat.pow_succ,C6 ?_⟩
   ·show N2 hp hp hp
    ·exact hz p hp
    ·show YY hp;exact⟨zX.up τ,zH⟩
   ·rw[zrj];show Y_ ?_ ρ
    ·show ACI<_;have:Ο X< GB (X+1+ AIA 15 7):=Rat.intCast_lt_intCast.mpr ξ
     rw[Rat.div_def,Rat.div_def];exact Rat.mul_lt_mul_of_pos_right this (Rat.inv_pos.mpr bq)
    ·show H<=_;have:Ο Õ*3<=A_d:=AB (show Ο Õ*3=Aj1 (Õ*3) by rw[Rat.intCast_mul];rfl) (Rat.intCast_le_intCast.mpr ξ)
     generalize A_d=u at this⊢
     grind
  have ll:=z5y (Y:=Y) (e:=AdE) ξ ξ
  refine⟨Ÿ 5,z3,Y,AdE,rfl,zO bY' τ,xV ξ,ρ,?_⟩
  have zl:Sz 300 (AkA):=(Oj ξ bY' (mq ξ)).up τ
  show ft hA (AEi ->AXJ AkA) (Rat.le_trans (Cz q).2.1 (ll.2 (Cz q).2.2));generalize AkA=H at ll zl hA⊢;by_cases hk:0<i
  ·refine Xx (decide_eq_true (uu (IG<0+ FA))) ⟨XI 5,UN,?_⟩
   rw[O3];show D8 (z.fmod 5=4)
   ·refine Xx (decide_eq_true q) (Do Cf);have lp:=zj8 (ps:=ps) ξ
    have e1:A9b (0+ FA - 1):=IF lp (GU (0+ FA - 1) (B5 ALc)) (yf9 ξ)
    have hq:=Cz ξ
    refine⟨_,e1,_,at1,z7n bz bX' bb ξ (O7 (jN ps).2 (A2 Rat.le_refl) (Rat.le_trans hq.2.1 (Rat.le_trans ((BAM τ τ).2 hq.2.2) (BAM τ τ).1)) ?_)⟩
    rw[lp];exact(hz _ (yU _)).2
   ·exact Xw (DH (q (of_decide_eq_true z))) (A'j BBP)
  ·exact Xw (DH (hk (by have:IG<0+ FA:=BIw;omega))) (A'j BBP)
 ·rintro _ ⟨X,Y,ps,y5,y6,y7,rfl,hl,hg,hz,_⟩;exact h ps ⟨ρ,hg,hz⟩
theorem zwf(BCv):∀(l:AG) (k:Nat),(l.map f).eraseIdx k=AA l.eraseIdx k f
 | [],_=>rfl
 | A1,0=>rfl
 | CU,k+1=>congrArg (f a:: ·) (zwf f l k)
theorem zr2(FI):∀{l:AG} {k:Nat} (h:k<l.length),([l[k]]++l.eraseIdx k).Perm l
 | CU,0,_=> bi
 | CU,k+1,h=>(List.Perm.swap a _ _).trans ((zr2 (l:=l) (k:=k) (Nat.lt_of_succ_lt_succ h)).cons a)
theorem zuq(AU Xi):F_ zlb 5:=by
 show xz ns A hn hA;show F7;have la:BI A.map qM=A.length:=List.length_map _;show AX DV ⟨Tm la,Tm la⟩
 show Ae0 la;show U' (∃(L M:A5) (y4:Slot),Γ= [w8,ALy,.ow (L.map qM),.ow (M.map qM),y4]/\ (L++M).Perm A/\M.length=i) ⟨A,[],_,rfl,Fu List.append_nil,rfl⟩
 ·rintro i _ hi ⟨L,M,y4,rfl,pm,hm⟩;have ll:=pm.length_eq;rw[List.length_append] at ll;show sx k ek hk (cZ ns (55+i)) L.length ξ
  refine⟨Cf,Cf,ns,55+i,AaV 55 55 55,hn,ρ,trivial,?_,L.map qM,k,qM L[k],rfl,?_,?_,?_,?_⟩
  ·show Auy≠0;show ED;omega
  ·show [D.int (Tx (55+i) Auy)]=_;show Ã ek
  ·show Aez (VY hk);rfl
  ·show AJS
  ·refine⟨Of,L.eraseIdx k,M++ [L[k]],ALG,?_,?_,BJc hm⟩
   ·show [AkZ,ALy,.ow ((L.map qM).eraseIdx k),.ow (M.map qM++ [qM L[k]]),ALG]=_;rw[List.map_append,zwf];rfl
   ·refine List.Perm.trans ?_ pm;refine(List.perm_append_comm.trans ?_);rw[List.append_assoc];exact((zr2 hk).append_left M).trans List.perm_append_comm
 ·rintro _ ⟨L,M,y4,rfl,pm,hm⟩;have ll:=pm.length_eq;rw[List.length_append] at ll;obtain rfl:L= []:=List.length_eq_zero_iff.mp ξ
  exact h M pm
def kq(p:OK):Au:= A3T
theorem z37{p q:OK}(h:kq p=kq q):p=q:=by
 injection h with h1 h2;show ADe h2 h2;injection h1 with h1;injection h2 with h2;exact Prod.ext h1 h2
def vV(ps:fc)(q:OK):fc:=AQG AVr ps ps q
theorem yit{ps:fc}{q:OK}:A2Z p7=decide (AVr):=by
 rw[Bool.eq_iff_iff,z97,decide_eq_true_iff];show BO ņ (B_ (zB.mpr (Hk q h)));show ND p hp (zB.mp h);rw[<- z37 e];exact hp
theorem yan{ps:fc}{f g:OK ->D}{q:OK}(e:JE ps (p≠q ->f p=g p)):A2Z putL=(vV ps q).map kq/\A_S f (g q)=(vV ps q).map g:=by
 unfold putL lC vV;rw[yit];by_cases h:AVr
 ·rw[decide_eq_true h,BU,BU,vv];show ALa;clear h;induction ps with
  | nil=>rfl
  | cons v ps ih=>
   show AzS List.zipWith_cons_cons A8j
   congr 1
   by_cases p:v=q
   ·rw[ATL p,p]
   ·show ky (AC (p (z37 z))) (e v zY p)
 ·rw[AfH,OT,OT,md,List.map_append,List.map_append];show ALa
  congr 1
  exact A7f (mv h hv)
theorem zwt{g:OK ->D}{q:OK}:FD ps fc AVr (pI Ada (ps.map g) (kq q)=some (g q))
 | v::ps,h=>by
  show AWj;unfold pI;by_cases p:v=q
  ·rw[ATL p,p]
  ·show ky (AC (p (z37 z))) (zwt ((zU.mp h).resolve_left (AC (p z.symm))))
theorem ya2{ps:fc}{q x:OK}(h:x∈vV ps q):x∈ps\/x=q:=by
 show BC vV;show C4
 ·show BQ h
 ·show NY (zT.mp h)
  ·show BQ h
  ·show Bz (zR.mp h)
theorem z1t{ps:fc}{q:OK}(nd:ps.Nodup):(vV ps q).Nodup/\ Hc vV ps q<=ps.length+1:=by
 unfold vV;split
 ·exact AHq nd
 ·rename_i h;show BO (List.nodup_append.mpr ⟨nd,AY,Aoq⟩) (BIt E7)
  show YY hb;exact mv h ha
def fdT(ps:fc)(m:AV8):T:= .iB (ps.map kq) (AA ps.map AlC rg)
theorem ymf{ps:fc}{m:AV8}(nd:ps.Nodup):Uq (ps.map AyA):=by
 unfold Uq;rw[List.pairwise_map];exact nd.imp fun{a b} n z=>n (Prod.ext z.1 z.2)
theorem zso(AU Xj):F_ zi5 9:=by
 obtain⟨ns,rows,U,pe,rfl,hn,hl,hU,hr,npe,h⟩:=h;show F7;refine Dy qM (E_ ACt) (fun r hr P hp=>(ALo hp)) ?_;have exs:(rows.map fun r=>D.str ω)=(rows.map (·.1)).map T0:=nI
 rw[exs];show KJ [gl (rows.map (·.1))] fun es=>(LN zgy [w8,Kj,J' pe,HI es,υ,υ,υ,υ,υ]);refine zyv (xs:=As_) (U:=U) AT4 hU AGd (Α ws so wm)
 ·show OP r h1 hx;exact hr r h1
 show AGa wm' (∀w,AFI ->∃s∈rows,s.1=w) (zB.mp ((wm w).mp hw));intro as0;obtain⟨N,eN,n8,nz⟩:∃N:Nat,Aw5=AL N/\N<=8/\ (0<N ->rows≠ []):=by
  by_cases q:rows= []
  ·exact⟨0,ē q (ui (bO []= .lst [])) Jc,ρ,AC (absurd z ξ)⟩
  ·show CA 8 ?_ ρ (C6 q)
   cases e:BH' with
   | false=>rfl
   | true=>show MW (by have:=z8p _ _ e;injection this with this;exact List.map_eq_nil_iff.mp this) q
 show HQ DV (zxy _) (.inl τ)
 show(_/\_<_)/\Ff (Dg 0 (Aw5).toNat _ _);show Ae0 eN;show AFm (fun i Γ=>∃(as:Ν) (ps:fc) (m:AV8) (y5 y6 y7 y8:Slot),Γ= [w8,Kj,J' pe,J' ws,XL (fdT ps m),y5,y6,y7,y8]/\ps.Nodup/\ps.length<=i/\JE ps (AM∈ws/\C9∈pe/\ (m p).natAbs<2^100)) ⟨as0,[],k8,_,_,_,_,rfl,List.nodup_nil,E7,AIB⟩
 ·rintro i _ hi ⟨as,ps,m,y5,y6,y7,y8,rfl,nd,pl,hp⟩;show AlF nw ws.length (AC (by
   show ND r l (List.exists_cons_of_ne_nil (nz ξ))
   have:=Me (wm ω).mpr e zY
   show wT;show CH))
  show AlF np pe.length npe;refine⟨ns,30+i,AaV 30 30 30,hn,ρ,ns,38+i,AaV 38 38 38,hn,ρ,?_⟩
  generalize cZ ns (30+i)=z;generalize cZ ns (38+i)=u;show sx k1 e1 h1 z ws.length nw;show sx k2 e2 h2 (z.fdiv 8) pe.length np;have a1:mZ (ws.map D.str) (z.fmod (AUa ws.map))=some (HE ws[k1]):=BJV e1 (zzu h1)
  have a2:mZ (pe.map D.str) ((z.fdiv 8).fmod (AUa pe.map))=some (HE pe[k2]):=BJV e2 (zzu h2)
  refine⟨Ae9 (AUa ws.map≠0),_,a1,Ÿ 8,Ae9 (AUa pe.map≠0),_,a2,f_,kq Av',rfl,?_⟩
  obtain⟨M,eM,m0,m1⟩:∃M:Int,mZ [D.int 10,.int (10^ BJP)] (u.fmod 2)=some (B4 M)/\0<M/\M.natAbs<2^100:=by
   show sx k e hk u 2 τ
   show JJ (u.fmod 2=CS) e
   match k,hk with
   | 0,_=>exact⟨10,AMn,Κ,Κ⟩
   | 1,_=>exact⟨10^ BJP,AFq,Κ,Κ⟩
  refine⟨Ÿ 2,BBw,f_,XI 2,_,eM,Afv (M≠0),?_⟩
  have fm:=AH7 (u.fdiv 2) M m0;obtain⟨t,et⟩:∃t,t=AzW M:=Cf;rw[<- et] at fm
  let q:OK:=Av'
  let m' :AV8:=kU (E2 p q t (m p))
  have eq:m' q=t:=BU;show B8 g1 g2 (yan (ps:=ps) (f:=AlC) (g:=kU (D.int (m' p))) (q:=q)) (fun p _ n=>by show D.int (m p)=D.int (m' p);show JJ (m' p=m p) ATF)
  have g2:A_S AlC (B4 t)=(vV ps q).map (kU (.int (m' p))):=by rw[<- g2,eq]
  show B8 nd' pl' (z1t (q:=q)) nd;refine⟨kq q,as,ps.map kq,ps.map fun p=> .int (m p),rfl,rfl,Of,as,vV ps q,m',ALG,AEI,Bn u,A8m,?_,nd',ρ,AD p hq⟩
  ·show [AkZ,Kj,J' pe,J' ws,XL (.iB (putL (ps.map kq) (kq q)) (HA (lC Ada (AmQ (.int (m p))) (kq q) (B4 (AzW M))).map)),ALG,AEI,Bn u,A8m]=_;rw[<- et,g1,g2];rfl
  ·rcases ya2 hq with hq | rfl
   ·show AS b1 b2 b3 hp p hq;show AX b1 b2;show ii (AI (p=q) t (m p))<_;split
    ·omega
    ·exact b3
   ·show AX (yU h1) (yU h2);rw[eq];omega
 ·rintro _ ⟨as,ps,m,y5,y6,y7,y8,rfl,nd,pl,hp⟩;refine Fk as _ ?_;have e1:AA ps.map kq (Μ k (D.tup (k.map fP)))=ps.map (kU (.tup AZW)):=nI
  rw[e1];refine Dy (fun p:OK=>D.tup AZW) (Μ p (qM Aef)) (fun p hq P hP=>⟨rfl,rfl,f_,kq p,.int (m p),rfl,zwt hq,Ak2,hP⟩) ?_
  have e2:(AmQ (qM Aef))=AA ps.map AyA qM:=nI
  rw[e2];refine h _ AT4 (ymf nd) ũ
  show OP p hq hr;show AS h1 h2 h3 hp p hq;exact⟨wm' _ h1,h2,h3⟩
theorem yf5(p:lU){L L' :ο}{f f' :cn}(h:L.Perm L')(e:f=f'):p.mk' L f=p.mk' L' f' :=by
 subst e;have q:(p.lv L f).Perm (p.lv L' f):=h.map _;unfold lU.mk' lU.wt Xd;rw[z5p q,q.length_eq,yl3 q]
theorem zpi{h w:Str}:∀{A:A5} {K:Ks},h∈A.foldl stepK K w↔h∈K w\/∃r∈A,Aav
 | [],K=>ADf .inl (z.elim id fun(ABi _)=>(XA hr))
 | r::A,K=>by
  rw[List.foldl_cons,zpi (A:=A)];by_cases q:w=ω
  ·rw[show AaI=AZ7 from EM,n6];constructor
   ·rintro((z | z) | ⟨s,hs,z⟩)
    ·show BQ z
    ·show Bz ⟨r,zY,q.symm,z.symm⟩
    ·show Bz Azr
   ·rintro(z | ⟨s,hs,z1,z2⟩)
    ·show BQ (Db z)
    ·show P6 hs hs
     ·show BQ (CL z2.symm)
     ·show Bz A9n
  ·show JJ (AaI=K w) EE;constructor
   ·rintro(z | ⟨s,hs,z⟩)
    ·show BQ z
    ·show Bz Azr
   ·rintro(z | ⟨s,hs,z1,z2⟩)
    ·show BQ z
    ·show P6 hs hs
     ·show MW z1.symm q
     ·show Bz A9n
theorem z65{A B:A5}(pm:Ai6)(u:Uq A)(V:Vs):B.foldl stepV V=A.foldl stepV V:=by
 refine pm.foldl_eq' (fun x hx y hy z=> ?_) V;show Fs x y
 ·rw[e]
 ·show ft n (¬(x.1=y.1/\ĵ=y.2.1)) (e (z90 u (pm.mem_iff.mp hx) (pm.mem_iff.mp hy) q.1 q.2))
  funext w h
  unfold stepV;by_cases a:w=x.1/\h=ĵ
  ·show ft b (¬(w=y.1/\h=y.2.1)) (n ⟨(a.1).symm.trans q.1,(a.2).symm.trans q.2⟩);rw[if_neg b,Ap a,Ap a]
  ·show An a;by_cases b:w=y.1/\h=y.2.1
   ·rw[if_pos b,Χ a]
   ·rw[if_neg b,Χ a]
theorem z2e(p:lU){W ws:ο}{K:Ks}{V:Vs}{A B:A5}(pm:Ai6)(u:Uq A)(G:AoD)(hr:∀r∈A,ARq/\ADP):kR (p.mk' (B.foldl stepK K w) (B.foldl stepV V w)=A2x):=ř (by
 refine yf5 p ((List.perm_ext_iff_of_nodup (BCn (OM h (AV9 hr h))) (BCn hr)).mpr fun h=> ?_) (by rw[z65 pm u])
 rw[zpi,zpi];refine or_congr Iff.rfl (xc (N4 q z) (N4 (pm.mem_iff.mp q) z) (N4 q z) (N4 (pm.mem_iff.mpr q) z)))
theorem yd9(BDm):Jx (BIp bs):=by
 show qJ _;unfold xU;induction ws with
 | nil=>trivial
 | cons w ws ih=>exact⟨⟨vc,ycw _,vc,vc⟩,ih⟩
theorem z9d(l:ψ):toD (BN (HA l.map))= .lst l:=AEa toD Lq
theorem ykz{n:Nat}(ws:ο)(v:DU)(bs:OI):qG (n+3) Awc Awc:=by
 show Aa4;rw[h1] at h2;cases h2;unfold xU at h1;rw[List.getElem?_map] at h1;cases q1:ws[i]? with
 | none=>show GT q1 h1 h1
 | some w=>
  rw[q1] at h1;cases h1;intro j x y g1 g2;rw[g1] at g2;cases g2
  match j with
  | 0=>simp at g1;subst g1;simp [qG]
  | 1=>simp at g1;subst g1;exact yev _ _
  | 2=>simp at g1;subst g1;simp [qG]
  | j+3=>simp at g1
theorem yj3(ws:ο)(f g:ATR):jD (ws.map f) (ws.map g)=ws.map (B2 (.tup [f w,g w])):=ZI jD List.zipWith_map List.zipWith_self
theorem XC{c:Cls}{p:lU}{g:D}{fH ws:ο}{bs:OI}{K:Ks}{V:Vs}{W:ο}{P:ķ}{E:AKy}(O:AW9)(hW:AUc)(G:AoD)(h:M0 (HA (xU ws (k6 AXe) bs).map)):Ij c [jl (AUw K V)] P E:=
 ⟨Aq6 K,ws,B2 AXe,bs,AEa qN jQ.dn,Xy _ _,O.so,O.few,ř (p.LC O.p ((G w hw).ok hW)),O.bz,h⟩
theorem yfn(A_g){Ex:AKy}{S0 S1 S2 S3 S4 S8 S9:D}{a b:Addr}{as bs' :Ν}{p p' :lU}{g:D}{fH vW ws:ο}{br:OI}{K1 K2:Ks}{V1 V2:Vs}{W:ο}{v:DU}{mine theirs:ο}
  (O:vR p fH ws br) (O' :A5s) (hW:AUc) (G1:Acx K1 V1) (G2:Acx K2 V2) (em:kR (p'.mk' (K2 w) (V2 w)=Apl))
  (h1:∀w,Apl≠v w ->w∈mine) (h2:kR (A5M≠v w ->w∈theirs)) (h:Q AEb):
  LN zw0 [.pu S0,.pu S1,AKn,AKo,AKp,Azg,Azn,AgV,.pu S8,.pu S9,J' mine,J' theirs,υ,υ]:=by
 show F7
 let v1:DU:=B2 Apl
 have et:xU ws (k6 A5M) br=xU ws v1 br:=AdQ w hw (by
  show D.tup [.str w,qD (p'.mk' (K2 w) (V2 w)),.int (nZ br (p'.mk' (K2 w) (V2 w)))]=_;rw[em w hw])
 show B0 rfl Κ (XC O hW G1 ?_)
 show B0 rfl Κ (XC O' hW G2 ?_)
 rw[et,z9d];show CD (Ff ykz);rw[Jc];show B0 rfl Κ (XC O hW G1 (Do (Ff yd9)))
 show wg (jD BG0 (j7 ((xU ws v1 br).map rg))) _ _ _ _ _;rw[Lq];unfold xU;rw[yj3];show U' (∃y12 y13:Slot,Γ= [.pu S0,.pu S1,AKn,AKo,AKp,Azg,Azn,AgV,.pu S8,.pu S9,J' mine,J' theirs,y12,y13]) AEn
 ·rintro i d _ hi ⟨y12,y13,rfl⟩;show UT ws.length (Z3 ZY)
  show yk;cases hi;have hw:Os∈ws:=yU hi';generalize Os=w at hw⊢;refine⟨rfl,rfl,_,AFq,_,AFq,yev _ _,?_⟩;rw[ydb];show D8 (v w=v1 w)
  ·show vz q;exact AEn
  ·show me q;refine C3 _ AMn (zt7 mine) ?_;rw[Xn,decide_eq_true (h1 w (AC (q z.symm)))];refine C3 _ AMn (zt7 theirs) ?_;rw[Xn,decide_eq_true (h2 w hw (AC (q (z.symm.trans (em w hw)))))];exact AEn
 ·rintro _ ⟨y12,y13,rfl⟩;show B0 rfl Κ (XC O hW G1 ?_)
  rw[z9d];show CD UN;rw[O3];show CD vc
  rw[show B5 (xU ws v1 br).length=D9 (xU ws v br).length by unfold xU;show Ã List.length_map,AJU]
  exact h
theorem lU.mk_eq{p p' :lU}(hr:p'.r=p.r)(hp:p'.ps=p.ps)(hx:∀h,p'.xf h=p.xf h)(AX2):A1':=by
 unfold lU.mk' lU.wt lU.lv;rw[hr,hp,show(Ahg (Ο (f h) - p'.xf h))=L.map (B_ AXY) from BJS h (Fu (hx h))]
theorem yip(A_g){Ex:AKy}{ns:Ξ}{rows:A5}{U:ο}{S2 S3 S4:D}{a b:Addr}{as bs' :Ν}{p p' :lU}{g:D}{fH vW ws:ο}{br:OI}
  (hl:ko) (uq:FF) (L:TL) (b1:ASD) (b2:AWk) (b3:Lu (a_ U)) (wm:Aic) (O:vR p fH ws br) (O' :A5s) (ep:∀L f,A1') (h:Q AEb):
  LN zse [w8,Kj,AKn,AKo,AKp,AoN,AoT,υ,υ,υ,υ,υ,υ,υ]:=by
 show F7
 let W:ο:=U++ ArB
 have hW:W.length<=12:=by show Mb (U++ [_,_])<=12;show Ae3;show U.length+2<=12;omega
 show AGa G (kR (kY W OB cr)) (by
  show At r h1 h2 (wm w).mp hw;have o:=ykm uq L (w:=w) (AC (by
   have:=AXn;show wT;show CH))
  show CA o.ne (znu uq w) AGY o.mm;obtain⟨r,hr,_,e⟩:=jm.mp hx;rw[<- e];exact zP _ (b3 r hr))
 let v:DU:=B2 (p.mk' OB cr)
 show B0 rfl Κ (XC O hW G (Do (Ff yd9)))
 show LN z0k [w8,Kj,AKn,AKo,AKp,AoN,AoT,.pu (toD (BIp br)),υ,υ,υ,υ,υ,υ];rw[z9d];refine Dy qM (E_ AdO) (fun r hr P hp=>(ALo hp)) ?_;have exs:(rows.map fun r=>D.str A3)=(rows.map (·.2.1)).map T0:=nI
 rw[exs];show KJ [gl (rows.map (·.2.1))] fun es=>AHg/\AQ (es.length+2)/\LN zzc [w8,Kj,AKn,AKo,AKp,AoN,AoT,AgV,HI (es++ BH9),υ,υ,υ,υ,υ];refine zyv (xs:=rows.map (·.2.1)) (U:=U) AT4 ξ AGd (Α hs so hm)
 ·show OP r h1 hx;exact b3 r h1
 show AX ρ ?_
 ·have:hs.length<=U.length:=HX (Ln so) (Ŝ (ACq r h1 rfl (zB.mp ((hm x).mp hx)) (b3 r h1)))
  show AQ (BI hs.map D.str+2);show ED;omega
 have epe:A6I=gl (hs++ ArB):=by unfold gl;rw[List.map_append];rfl
 refine⟨ns,rows,As_,hs++ ArB,?_,hl,b1,Of,RE (zB.mpr Ah6),AY,IE A la ua ha⟩
 ·show [_,_,A6I]=_;rw[epe]
 have hA:∀r∈A,A0u:=fun r hr=>by
  obtain⟨⟨s,hs1,hs2⟩,h2,h3⟩:=ha r hr;show Y_ ((wm _).mpr ⟨s,hs1,hs2⟩) h3;show N2 h2 h2 h2
  ·show ND t h4 (zB.mp ((hm _).mp h2));rw[<- e];exact zP _ (b3 t h4)
  ·exact zQ _ h2
 refine⟨AZj,a,as,_,rfl,p,g,fH,ws,br,kW rows,mW rows,W,A,rfl,rfl,O,hW,G,ρ,hA,Α mine hmi cs⟩
 refine⟨AZj,ns,A,rfl,hl,ρ,fun B pm=>⟨b,bs',_,rfl,p',g,vW,ws,br,kW rows,mW rows,W,B,rfl,rfl,O',hW,G,BJ1,RE (AV9 hA hr),Α theirs ht cs'⟩⟩
 refine yfn O O' hW (kY.fold G (RE (hA r hr).2)) (kY.fold G (RE (hA r (pm.mem_iff.mp hr)).2)) (Iq w hw) hmi (fun w hw z=>ht w ?_) h
 ·rw[ep];exact z2e p pm ua G (OM hr (hA r hr).2) w hw
 ·rw[ep _ cr];exact z
theorem ynd(AU z0i):F_ z84 14:=by
 show AFc ns hl;show F7
 let S:D:= dk
 have main:BCH AWk (LN zzb [RR,Kj,υ,υ,υ,υ,υ,υ,υ,υ,υ,υ,υ,υ]):=by
  intro rows U b1 b2 b3 uq mk;have wk:∀w,ABR<=4:=B2 (by
   have:=HX (znu uq w) fun y hy=>by
    obtain⟨r,hr,_,e⟩:=jm.mp hy;rw[<- e];exact b3 r hr
   show A_ Ou;omega)
  have L:TL:=⟨ρ,RE (ApO (mk r hr) τ),B2 (FE (wk w))⟩
  show CA ns rfl hl (fun ps C=>⟨ps,rfl,A5O,?_⟩)
  rw[A_J];show AWU k ek hk 53 2
  obtain⟨ru,eru,En⟩:∃ru:Str,mZ [D.str sX,.str Ox] (Tx 53 2)=some (HE ru)/\ (ru=sX\/ru=Ox):=by
   rw[show Tx 53 2=CS from ek]
   match k,hk with
   | 0,_=>show NO sX AMn ATK
   | 1,_=>show NO Ox AFq (.inr rfl)
  have n1:iS 1:=ρ
  have n2:AHg:=ρ
  refine⟨n2,ns,53,rfl,hl,ρ,XI 2,_,eru,?_⟩
  show AWU t3 e3 h3 54 3
  have e3:Tx 54 3=AL t3:=e3;refine⟨n2,n1,ns,54,rfl,hl,ρ,XI 3,?_⟩
  show(_/\_/\AQ (1* Aoy))/\LN z02 [RR,Kj,AOi,AUI,HI (A5g Aoy),υ,υ,υ,υ,υ,υ,υ,υ,υ];obtain⟨n,en⟩:∃n,n=Aoy:=Cf;have ebd:D.lst (A5g n)=xR Am_:=xj xR List.map_replicate List.flatten_replicate_singleton
  rw[<- en,ebd];show CD ⟨ρ,ρ,ρ⟩
  have sit:∀P:ķ,(∀ms x fH ws bs,Ρ AOX (∀w,Ac7) (bs=brs (ws.map (B2 (lU.mk' AKK OB cr))) n) (vR AKK fH ws bs) (P BFV)) ->Ik c (.ob c.ak [] []) [AEZ,.str ru,.tup AQW,AVu,Aql] (fun t _=>P t) VO:=fun P hP=>
   ⟨rows,U,ru,_,ps,n,rfl,rfl,uq,L,b2,b3,b1,C,En,ρ,ρ,hP⟩
  show BO n2 (sit (Μ t ((Aau t t)/\∀a as,LN zzo [RR,Kj,AOi,AUI,BCV,tI as t,υ,υ,υ,υ,υ,υ,υ,υ])) fun ms x fH ws bs G wm ebs O=> ?_);show Op A9t a as
  show BO n2 (sit (Μ t ((Aau t t)/\∀b as',LN zse [RR,Kj,AOi,AUI,BCV,tI as BFV,.tr (b::as') t,υ,υ,υ,υ,υ,υ,υ])) fun JD x' vW ws' bs' G' wm' acf O' => ?_);show BO A9t (AD b as')
  show B8 rfl hx G.uniq G';obtain rfl:ws' =ws:=V7 asT O'.so O.so (B2 ((wm' w).trans (NI wm w)));have ep:=lU.mk_eq (p:=AKK) (p' :=BGN x') rfl rfl (B_ (by
   unfold lU.xf;dsimp only;split
   ·show uj hh (hx h hh).symm
   ·rfl))
  have eb:bs' =bs:=IF ebs acf (AtQ (brs · n) (fun w _=>ep _ _))
  subst eb;exact yip hl uq L b1 b2 b3 wm O O' ep h
 show sx t4 e4 h4 (cZ ns 0) 4 τ
 show AWU t6 e6 h6 1 6
 refine⟨ns,0,rfl,hl,ρ,XI 4,ns,1,rfl,hl,ρ,XI 6,ns,1+t4,1+t6,?_,hl,ρ,ρ,ρ,fun rows U c1 c2 c3 cu ck=> ?_⟩
 ·show [D.lst _,D.int (1+ Tx 0 4),D.int (1+ Tx 1 6)]=_;rw[show Tx 0 4=AL t4 from e4,show Tx 1 6=AL t6 from e6,Int.natCast_add,Int.natCast_add];rfl
 ·exact main rows U c1 ξ c3 cu ck
#print L3
local macro_rules | `(#[$x])=> `(by exact $x)
local macro_rules | `(#[$x,_])=> `(fun _ _ _ _ _ _=>by exact $x)
local macro_rules | `(tactic| symm_saturate)=> `(tactic| exact⟨rfl,by decide+kernel,by decide+kernel,by decide+kernel,rfl,by decide+kernel⟩)
local macro_rules | `(tactic| trivial)=> `(tactic| first | exact Or.inl rfl | exact Or.inr (Or.inl rfl) | exact Or.inr (Or.inr rfl) | exact Or.inr rfl)
namespace Lw
open PySem PySem.Spec PyProof.Rows L2 L3
seal QE QF QT QW QA QS uw QG Um QI Uz M9 QIg QO QR QRA QN QRN
theorem cg(AnH){e:Env}(hr:Ala e):(A.deeper e).units+21<cLine:=FE hr.units
theorem lV{us:Β}{n:Nat}(h:us.length=n+1):∃a r,us=a::r/\r.length=n:=by
 cases us with
 | nil=>cases h
 | cons a r=>exact JS a r (Nat.succ.inj h)
theorem len1{us:Β}(h:us.length=1):∃a0,us= [a0]:=by
 show AHR;show Nw (List.eq_nil_of_length_eq_zero h0);exact ah a0
theorem len2{us:Β}(h:us.length=2):∃a0 a1,us= [a0,a1]:=by
 show AHR;show AO0;show Nw (List.eq_nil_of_length_eq_zero h1);exact Hk a0 a1
theorem vX{us:Β}(h:us.length=3):∃a0 a1 a2,us= [a0,a1,a2]:=by
 show AHR;show AO0;show Aaz;show Nw (List.eq_nil_of_length_eq_zero h2);exact⟨a0,a1,a2,rfl⟩
theorem XD{us:Β}(h:us.length=4):∃a0 a1 a2 a3,us= [a0,a1,a2,a3]:=by
 show AHR;show AO0;show Aaz;show ArE;show Ak0 h3;exact⟨a0,a1,a2,a3,rfl⟩
theorem acg{us:Β}(h:us.length=5):∃a0 a1 a2 a3 a4,us= [a0,a1,a2,a3,a4]:=by
 show AHR;show AO0;show Aaz;show ArE;show ABK a4 u4 h4 h3;show Ak0 h4;exact⟨a0,a1,a2,a3,a4,rfl⟩
theorem ach{us:Β}(h:us.length=6):∃a0 a1 a2 a3 a4 a5,us= [a0,a1,a2,a3,a4,a5]:=by
 show AHR;show AO0;show Aaz;show ArE;show ABK a4 u4 h4 h3;show ABK a5 u5 h5 h4;show Ak0 h5;exact⟨a0,a1,a2,a3,a4,a5,rfl⟩
section
variable(P:Program)(w:World)(K:W.Frag)(mg:CB)(base:Heap)(c:Cls)
abbrev zed:Prop:=A6v
abbrev zg8:Prop:=A6w
abbrev XF:Prop:=A0b
abbrev zd8:Prop:=BAm
abbrev O8:Prop:=A_8
abbrev zjt:Prop:=BAo
abbrev zqp:Prop:=A6L
abbrev Ry:Prop:=BFO
abbrev XH:Prop:=A7G
abbrev zrz:Prop:=A0c
abbrev Rz:Prop:=A'D
abbrev zfn:Prop:=A__
abbrev zm6:Prop:=A_'
abbrev zrn:Prop:=BDN
abbrev zx6:Prop:=Ayw
abbrev ztk:Prop:=A6q
abbrev zr9:Prop:=Ayx
abbrev zj2:Prop:=A7I
abbrev z61:Prop:=Ayz
abbrev ze3:Prop:=A7p
abbrev zyd:Prop:=A6r
abbrev zp0:Prop:=A7q
abbrev zkp:Prop:=A6s
abbrev RB:Prop:=A'a
abbrev zdg:Prop:=A'M
abbrev z0o:Prop:=A'L
abbrev zyt:Prop:=A'_
abbrev zcu:Prop:=BEf
abbrev zfg:Prop:=BAp
abbrev zcf:Prop:=BAn
abbrev zc8:Prop:=BAk
abbrev zdp:Prop:=BAl
abbrev zju:Prop:=BCh
abbrev zcq:Prop:=A6O
abbrev zgr:Prop:=A'H
#where
section
variable{P:Program}{w:World}{K:W.Frag}{mg:CB}{base:Heap}{f:Addr}{fd:FuncData}{cdv:Value}{A:Around}{outer:EG}{s:Shared}{H:Hp}{E:XK}{F0:Hp}(c:Cls)
theorem jf:AZT zct:=AH
theorem ziy(F:Ω "must_have" "Sitting.must_have" zct)(M:Meth K c.ak "must_have" f)(Anx):A6v:=
 AFz jf zj1 (fun cdv A outer s H E hr F0=>(AV zeb (by
  have nd:=jf.nd;have hu:=cg hr;exact(cF #[sV #[z8d (hu1 hu) Δ AFX ú]
   (A4 ī)
   EQ])) zjv)) (fun _ _ _ _ _ _ us hl=>CY)
theorem m8:AZT zfp:=AH
theorem zpe(F:Ω "mark" "Sitting.mark" zfp)(M:Meth K c.ak "mark" f)(cG:Υ zed)(Anx):A6w:=
 AFz m8 zqz (fun cdv A outer s H E hr F0=>(AV zhp (by
  have nd:=m8.nd;have hu:=cg hr;exact(bM BCY
   (CI #[Qy (hu1 hu) AFX Δ]))) zra)) (fun _ _ _ _ _ _ us hl=>CY)
theorem zc:AO3 zyk:=AH
theorem yas(F:Ω "under" "under" zyk)(hm:A0 "under"):A0b:=
 BF zc ye1 (fun cdv A outer s H E hr F0=>(AV zzw (by
  have nd:=zc.nd;have hu:=cg hr;exact(cF (MQ #[Dd (A2 Fj) pT Amn zI]))) yig)) (fun _ _ _ _ _ _ us hl=>CY)
theorem mG:FB ["some","mark","place","border"] "some" "mark" zev:=AH
theorem zng(F:Ω "grade" "grade" zev)(hm:A0 "grade_borders")(dZ:Υ XF)(d7:AR "enumerate")(aU:AR "len"):A'I:=
 BF mG zpd (fun cdv A outer s H E hr F0=>(AV zgw (by
  have nd:=mG.nd;have hu:=cg hr;exact(bM #[Qg rfl #[zik rfl rfl d7 NF] (AOT 2 3)
   (A4 #[sV (Alh (PD ync D5 Uh) (Qe (Fe (IY dZ Δ D5))))
   (CI nX)
   EQ])]
   (CI #[o7 (A2 uE) rfl aU boot_len NF]))) zpp)) (fun _ _ _ _ _ _ us hl=>CY)
theorem mH:AZT ze2:=AH
theorem znh(F:Ω "grade" "Sitting.grade" ze2)(M:Meth K c.ak "grade" f)(jo:A'I)(eY:Υ zg8)(ao:Sc)(aQ:LY "kept_borders"):A6x:=
 AFz mH zop (fun cdv A outer s H E hr F0=>(AV zgz (by
  have nd:=mH.nd;have hu:=cg hr;exact(cF (MQ (ST jo (Ô aQ) (SS (Ajj eY) Δ))))) zo5)) (fun _ _ _ _ _ _ us hl=>CY)
theorem mJ:Ś "self" "self" X8:=AH
theorem znm(F:Ω "table" "Sitting.table" X8)(M:Meth K c.ak "table" f)(eY:Υ zg8)(jq:A6x)(bh:AR "sorted")(Anx):BAm:=
 AId (Gf F mJ (PZ zpm) fun cdv A outer s H E hr F0=>(AV zg0 (by
  have nd:=mJ.nd;have hu:=cg hr;exact(cF (As (Vk (As (yl4 (As (vD (own:= ["work"]) (N' := ["work","self"]) (by show AKB ["self"] "work" X8 "work" "self";symm_saturate) rfl (G0 (gq #[zzy rfl rfl bh (LU AFX)])) #[He ["work","self"],_] #[vC,_] #[xu (aA Φ (D_ (AvG eY) (AvG jq))),_])))))))) zp9)) (fun _ _ _ _ _ _ us hl=>Nc)
theorem qO:FB ["_law_cell_here","_law_many","_law_letters","_law_size","_law_at","_law_names_here","_law_k","_law_name","_law_j","_law_number"] "_law_cell_here" "_law_many" zjr:=AH
theorem zvp(F:Ω "_law_names" "_law_names" zjr)(hm:A0 "_law_names")(cj:AR "range")(uQ:AR "int"):A_7:=
 BF qO zxz (fun cdv A outer s H E hr F0=>(AV zg5 (by
  have nd:=qO.nd;have hu:=cg hr;exact(bM (wf #[IW])
   #[bM (A7s Φ)
   #[bM #[sV (Acy Ag1)
   (A4 (EC 3 #[aW]))
   EQ]
   #[bM (NM 4 mR (dl Φ) D5)
   #[bM (fS 5 uB)
   #[bM #[Ke rfl rfl cj (g9 Δ) (LI 6)
   #[bM (EC 7 #[IW])
   #[bM #[Ke rfl rfl cj (g9 (q_ D5 (ArA RA (AKD Ag1 aW)))) (LI 8)
   #[bM (NM 9 mR (q_ (q_ (LT qt (dl Φ)) (LT qt (ip vn vn))) (LT qt vn)) aW)
   (A4 (NM 7 qY UK (KG BB (WO (q_ ADl (ArA RA (YW (AKD vn Hb) (Uj (AIY xB Ag1 aW)))))))))]]
   (A4 (AOr 5 (g9 UK)))]]]
   (CI #[qv 5])]]]]])) zyf)) (fun _ _ _ _ _ _ us hl=>CY)
theorem tD:FB ["_law_script","_law_k","_law_number"] "_law_script" "_law_k" zmp:=AH
theorem zyx(F:Ω "_law_cell" "_law_cell" zmp)(hm:A0 "_law_cell")(aU:AR "len"):A_8:=
 BF tD z1s (fun cdv A outer s H E hr F0=>(AV zox (by
  have nd:=tD.nd;have hu:=cg hr;exact(bM #[sV (ABW Fj Δ Ř)
   (CI #[fC Φ Δ PY])
   EQ]
   #[bM (NM 2 qY As2 aW)
   #[bM #[sV #[oO (A2 Ay) (AAp NF) aW zI]
   (A4 (NM 2 mR (q_ (LT qt (KG Φ (Ĕ As2 Ř))) (LT qt Δ)) aW))
   EQ]
   (CI #[bR (A2 mR) (ip BB BB) aW])]])) z29)) (fun _ _ _ _ _ _ us hl=>CY)
theorem pJ:EJ Aes Aes zhc:=AH
theorem zss(F:Ω "_law_marked" "_law_marked" zhc)(hm:A0 "_law_marked"):A7h:=
 BF pJ zwd (fun cdv A outer s H E hr F0=>(AV zgf (by
  have nd:=pJ.nd;have hu:=cg hr;exact(bM #[sV AkG
   (CI #[Dd (A2 Ay) (WO Hb) aW zI])
   EQ]
   #[bM #[sV AkG
   (CI #[ym1 (AzJ Δ) (Uj (AzJ (LT qY Δ)))])
   EQ]
   #[bM #[sV AkG
   (CI #[YW (AKD (WO Δ) (WO BB)) (Uj (AIY Ay (WO Hb) aW))])
   EQ]
   (CI #[yf2])]])) zws)) (fun _ _ _ _ _ _ us hl=>by obtain⟨_,_,_,_,_,rfl⟩:=acg hl;exact rfl)
theorem tE:EJ ["_law_script","_law_hands","_law_works","_law_way","_law_most","_law_names_here","_law_people","_law_rows_here","_law_w","_law_h","_law_cell_here","_law_turn"] ["_law_script","_law_hands","_law_works"] zl3:=AH
theorem zyr(F:Ω "_law_rows" "_law_rows" zl3)(hm:A0 "_law_rows")(lE:A_7)(aL:Υ O8)(mX:A7h)(Anu):BAo:=
 BF tE z26 (fun cdv A outer s H E hr F0=>(AV zgm (by
  have nd:=tE.nd;have hu:=cg hr;exact(bM (NM 3 mR ABY aW)
   #[bM (EC 4 #[fC (gq #[tO (ARf aW aW aW AxB)]) AI6 PY])
   #[bM (RC 5 lE ABY BB)
   #[bM (RC 6 lE ABY Δ)
   #[bM (fS 7 uB)
   #[bM #[Ke rfl rfl cj (g9 BB) (LI 8)
   (A4 #[Ke rfl rfl cj (g9 Δ) (LI 9)
   #[bM (RC 10 aL Φ (q_ (AIZ (ip vn Δ)) ADl))
   (A4 #[sV #[Fe (VT mX (aA D5 (ARf vn ADl Δ AS8)))]
   (A4 (AOr 7 (AZZ xu (ABo (KG dC vn) (KG RA ADl) (Ĕ (dl AS8) Hb)))))
   EQ])]])]
   #[bM (NM 11 mR (dl ABY) (LT qY (AoW UK)))
   (CI #[gq #[Ku (gq #[Jj UK (Fv AS7) Ji]) (gq #[Jj UK Ji (Fv AS7)])]])]]]]]])) z2m)) (fun _ _ _ _ _ _ us hl=>g_)
theorem wK:FB Ş "left" "right" zs7:=AH
theorem z8y(F:Ω "climbs" "climbs" zs7)(hm:A0 "climbs")(dZ:Υ XF):A'B:=
 BF wK ych (fun cdv A outer s H E hr F0=>(AV zus (by
  have nd:=wK.nd;have hu:=cg hr;exact(cF (MQ #[YW (IY dZ bo z_) (Uj (ylm (IY dZ z_ bo)))]))) z91)) (fun _ _ _ _ _ _ us hl=>CY)
theorem tG:Ś "points" "points" Yb:=AH
theorem zx7(F:Ω "is_scale" "is_scale" Yb)(hm:A0 "is_scale")(uR:A'B)(GQ:AR "all")(aU:AR "len")(fM:AR "zip"):A6L:=
 BF tG z25 (fun cdv A outer s H E hr F0=>(AV zoi (by
  have nd:=tG.nd;have hu:=cg hr;exact(dQ (YW (AIY Ay Ř aW) (Uj (AAh (ymu rfl) GQ boot_all (LU (NW Ş Ş (GM ["points"] Ş [] Yb Ş) (AqM (gq (AXu Φ))) (AAS Ş Ş) (Anb uR)))))))) z15)) (fun _ _ _ _ _ _ us hl=>Nc)
theorem lF:AQJ AdY "points" RL:=AH
theorem zmc(Az9)(BDL):IC fO av 4 f fd AdY (uF K c.Scale "points" (Oz c)):=by
 have nd:=lF.nd;refine yff F rfl lF bL aM rfl (Or.inl rfl) (PZ yf6) fun cdv A outer s H E hr F0=> ?_;show AAZ "Scale.__init__" RL
 exact⟨rfl,zf6 K c,ze0 K c,C7 (sV #[Qe (Fe (VT jR T'))]
 (A4 ī)
 EQ),
 C7 (SS (Zi (A2 yg0) rfl qP boot_tuple) Δ),fun a ds Q Ex h=>yiq h⟩
theorem zmg(Az9)(M:Mk K c.Scale f)(hm:mg "Scale" =some (AW c.Scale))(BDL):BFO:=
 ⟨f,fd,zmc c F jR qP bL aM,M,hm,F.binds fun _ _ _ _ _ _ us hl=>CY⟩
theorem CG:FB ["group","hands"] "group" "hands" Yc:=AH
theorem ygm(F:Ω "meet" "meet" Yc)(hm:A0 "meet")(wL:AR "any"):A_9:=
 BF CG ylw (fun cdv A outer s H E hr F0=>(AV z53 (by
  have nd:=CG.nd;have hu:=cg hr;exact(dQ (SS (AAh (yl6 rfl) wL boot_any) (NW ["hand"] AhR (AUb Aua [0] Yc AhR) (G0 Δ) (He AhR) (Dd (A2 Nh) Φ Δ ú))))) yll)) (fun _ _ _ _ _ _ us hl=>CY)
theorem wM:FB BCL "found" "hands" Yd:=AH
theorem z6p(F:Ω "joined" "joined" Yd)(hm:A0 "joined")(xW:A_9)(cI:AR "list")(A2c):A'C:=
 BF wM yby (fun cdv A outer s H E hr F0=>(AV zvf (by
  have nd:=wM.nd;have hu:=cg hr;exact(bM (As (Ng (As (ADX 2 ["group"] Aua (by show GM BCL ["group"] [1] Yd ["group","hands"];symm_saturate) rfl (G0 Φ) #[He ["group","hands"],_] #[Apv (AL9 xW),_] #[oS,_]))))
   #[bM (fS 3 (AOo Zj T'))
   #[bM #[Ja rfl AEr (LI 4)
   (A4 #[sV #[Fe (IY xW Hb Δ)]
   (A4 (AcC 3 z7f PySem.F.slot_list_extend PySem.F.type_list_extend (g9 Hb)))
   EQ])]
   (CI #[gq #[Ku BB (gq (ad (gq (ya (AWy zsj) jw D5))))]])]])) ycl)) (fun _ _ _ _ _ _ us hl=>CY)
theorem uT:AhS ["rows","sheets","work","hand","mark"] zpo:=AH
theorem z3b(F:Ω "by_work" "by_work" zpo)(hm:A0 "by_work"):A7G:=
 AgG uT z51 (fun cdv A outer s H E hr F0=>(AV zrf (by
  have nd:=uT.nd;have hu:=cg hr;exact(bM (yv ZW 1 #[ZV])
   #[bM #[Ja rfl AEr #[Ah rfl (nJ (APE 2) (AcJ 3 4))]
   #[bM #[sV #[yl9 (i:=1) (hu1 hu) nX rfl Cl]
   (A4 #[ww yk3 1 2 AFs rfl Cl rfl Cl #[ZV]])
   EQ]
   (A4 #[ww ylk 1 2 (l:=3) AFs rfl Cl rfl Cl rfl Cl #[qv 4]])]]
   (A4 #[Vk Au8])])) z7z)) (fun _ _ _ _ _ _ us hl=>Nc)
theorem wN:AhS ["rows","found","sheet"] zud:=AH
theorem z8j(F:Ω "groups" "groups" zud)(hm:A0 "groups")(uU:A'C)(dF:Υ XH)(bh:AR "sorted")(cI:AR "list"):A7H:=
 AgG wN yae (fun cdv A outer s H E hr F0=>(AV zvy (by
  have nd:=wN.nd;have hu:=cg hr;exact(bM (EC 1 #[gq uB])
   #[bM #[Qg rfl #[z8b #[iO zt0 dF NF]] (LI 2)
   (A4 (RC 1 uU Δ (gq (AOo (yfr rfl) AgI))))]
   (A4 #[Vk #[yl4 #[yaj (A2 (yiz hu)) rfl bh boot_sorted T']]])])) z95)) (fun _ _ _ _ _ _ us hl=>Nc)
theorem uV:FB ["one","other","rest"] "one" "other" zp6:=AH
theorem z2k(F:Ω "divisor" "divisor" zp6)(hm:A0 "divisor")(pK:AR "abs"):A0c:=
 BF uV z56 (fun cdv A outer s H E hr F0=>(AV zrw (by
  have nd:=uV.nd;have hu:=cg hr;exact(bM #[z01 (AVe xB)
   #[bM (NM 2 mR Φ Δ)
   #[bM (EC 0 AEs)
   (A4 (EC 1 nX))]]]
   (CI (Aqq NF)))) z5d)) (fun _ _ _ _ _ _ us hl=>CY)
theorem qQ:EJ ["row","multiple","part"] ["row"] Ye:=AH
theorem zu7(F:Ω "whole_row" "whole_row" Ye)(hm:A0 "whole_row")(jH:Υ zrz):A_w:=
 BF qQ zyi (fun cdv A outer s H E hr F0=>(AV zmy (by
  have nd:=qQ.nd;have hu:=cg hr;exact(bM (EC 1 #[aW])
   (As (bM #[Ja rfl AEr (LI 2)
   (A4 (NM 1 qt Δ (PR wj (ar BB) (IY jH Δ (ar BB)))))]
   (AK8 (NW ["part"] ["part","multiple"] (GM ["row","multiple","part"] ["part"] [1] Ye ["part","multiple"]) (G0 Φ) (He ["part","multiple"]) (bR (A2 qt) bo (PR wj Δ bo)))))))) zx5)) (fun _ _ _ _ _ _ us hl=>Nc)
theorem uW:EJ ASl ASl Yg:=AH
theorem z2h(F:Ω "without" "without" Yg)(hm:A0 "without")(fM:AR "zip"):A7i:=
 BF uW z30 (fun cdv A outer s H E hr F0=>(AV zr8 (by
  have nd:=uW.nd;have hu:=cg hr;exact(dQ (NW AuZ AbM (GM ASl AuZ [0,1,2,3] Yg AbM) (AqM Δ) (AAS AbM AbM) (bR (A2 wj) (PR Fi (ip (KG D5 Hb) Φ) (ip Atz Δ)) dC)))) z3h)) (fun _ _ _ _ _ _ us hl=>Aw_)
theorem uX:A7O "ahead" "lead" "ahead" Yh:=AH
theorem z2b(F:Ω "cleared" "cleared" Yh)(hm:A0 "cleared")(rW:A7i)(d7:AR "enumerate"):BDM:=
 BF uX z5v (fun cdv A outer s H E hr F0=>(AV zr1 (by
  have nd:=uX.nd;have hu:=cg hr;exact(bM (EC 3 #[fC Φ Δ PY])
   (AK8 (NW Asj Aa1 (GM ["table","place","ahead","lead"] Asj [1,2,3] Yh Aa1) (ARP zik d7 NF) (AAS Aa1 Aa1) (Uk (PD jI Φ BB) Δ (VT rW (ARf Δ Hb BB D5))))))) z3z)) (fun _ _ _ _ _ _ us hl=>g_)
theorem tH:FB ["top","bottom","common"] "top" "bottom" zmn:=AH
theorem zxa(F:Ω "fraction" "fraction" zmn)(hm:A0 "fraction")(jH:Υ zrz):A'D:=
 BF tH z1w (fun cdv A outer s H E hr F0=>(AV zqg (by
  have nd:=tH.nd;have hu:=cg hr;exact(bM #[sV (Acy Δ)
   (A4 ī)
   EQ]
   #[bM (RC 2 jH Φ Δ)
   #[bM #[sV (AVe Fj)
   (A4 (wf #[Fl (qv 2)]))
   EQ]
   (CI A2X)]])) z2i)) (fun _ _ _ _ _ _ us hl=>CY)
theorem qR:A7O "spot" "other" "spot" zj3:=AH
theorem zvh(F:Ω "exchanged" "exchanged" zj3)(hm:A0 "exchanged")(cI:AR "list"):BEi:=
 BF qR zxf (fun cdv A outer s H E hr F0=>(AV zmw (by
  have nd:=qR.nd;have hu:=cg hr;exact(bM (fS 3 (AOo Zj NF))
   #[bM (AME (ydj (i:=3)) AEs #[fC Φ BB PY])
   #[bM (AME (ydj (i:=3)) nX #[fC Φ Δ PY])
   (CI AUD)]])) zyq)) (fun _ _ _ _ _ _ us hl=>g_)
theorem GR:FB ["table","place","spot"] "table" "place" yh8:=AH
theorem ykq(F:Ω "led" "led" yh8)(hm:A0 "led")(oh:BEi)(Anu):A'E:=
 BF GR ym0 (fun cdv A outer s H E hr F0=>(AV yeq (by
  have nd:=GR.nd;have hu:=cg hr;exact(bM #[yio rfl rfl cj (ya aA Δ Ř) (LI 2)
   (A4 #[sV (ABW xB (KG (KG Φ BB) Δ) aW)
   (CI (ALj oh Φ Δ BB))
   EQ])]
   (A4 ī))) ym4)) (fun _ _ _ _ _ _ us hl=>CY)
theorem wO:FB ArO "rows" "rights" RM:=AH
theorem z9e(F:Ω "solved" "solved" RM)(hm:A0 "solved")(ou:A_w)(rY:BDM)(bF:Υ Rz)(GX:A'E)(cj:AR "range")(aU:AR "len")(fM:AR "zip")(d7:AR "enumerate"):A'K:=
 BF wO yal (fun cdv A outer s H E hr F0=>(AV zwz (by
  have nd:=wO.nd;have hu:=cg hr;exact(bM (As (AGb (ADX 2 AFa AFa) (GM ArO AFa [] RM AFa) (AqM Δ) (AAS AFa AFa) (iP ou (LU (gq #[Ku Φ (gq (ad Δ))])))))
   (As (bM (EC 3 #[aW])
   (As (bM #[Ke rfl rfl cj (AZZ AAp AgI) (LI 4)
   #[bM (wf (ALj rY (IY GX BB Hb) Hb D5))
   (A4 (EC 3 #[fC Atz Hb PY]))]]
   (AK8 (NW AGJ AGJ (GM ArO AGJ [] RM AGJ) (ARP zik d7 AgI) (AAS AGJ AGJ) (AJR bF AWu (KG Δ Φ)))))))))) yb0)) (fun _ _ _ _ _ _ us hl=>CY)
theorem oA:A1Q Yi:=AH
theorem zq5(F:Ω "sheets_with" "sheets_with" Yi)(hm:A0 "sheets_with"):A__:=
 BF oA zub (fun cdv A outer s H E hr F0=>(AV zi6 (by
  have nd:=oA.nd;have hu:=cg hr;exact(dQ (P5 (vD (own:= ["sheet"]) (N' := ["sheet","hand"]) (by show BAJ Yi;symm_saturate) rfl (G0 Δ) #[AyN,_] #[Kp (ylx AFs Δ Φ ú),_] #[oS,_])))) zsg)) (fun _ _ _ _ _ _ us hl=>CY)
theorem qT:FB ["step","bound"] "step" "bound" zj0:=AH
theorem zu5(F:Ω "is_within" "is_within" zj0)(hm:A0 "is_within"):A_':=
 BF qT zyh (fun cdv A outer s H E hr F0=>(AV zm4 (by
  have nd:=qT.nd;have hu:=cg hr;exact(cF (MQ #[yaq (A2 Ur) (A2 Ur) z_ Φ z_]))) zxs)) (fun _ _ _ _ _ _ us hl=>CY)
theorem uY:EJ Am4 Am4 RP:=AH
theorem z10(F:Ω "reached" "reached" RP)(hm:A0 "reached")(iu:Υ zm6)(wL:AR "any"):BDN:=
 BF uY z79 (fun cdv A outer s H E hr F0=>(AV zrl (by
  have nd:=uY.nd;have hu:=cg hr;exact(dQ (P5 (vD (own:= ["end"]) (N' := AWR) (by show GM Am4 ["end"] [1,2] RP AWR;symm_saturate) rfl (G0 Φ) #[He AWR,_] #[Kp (Fe (SS (AAh (yl6 rfl) wL boot_any) (NW ["start"] Am5 (fD AWR _ ["start"] [0,2] (ybx _ (bB RP)) Am5) (G0 Δ) (He Am5) (AJR iu (PR Fi Δ Φ) BB)))),_] #[oS,_])))) z50)) (fun _ _ _ _ _ _ us hl=>g_)
theorem CJ:AO3 z5f:=AH
theorem yga(F:Ω "plus" "plus" z5f)(hm:A0 "plus")(bF:Υ Rz):Ayw:=
 BF CJ ykg (fun cdv A outer s H E hr F0=>(AV z9g (by
  have nd:=CJ.nd;have hu:=cg hr;exact(cF (MQ (ST bF (q_ pT Amn) pT)))) ylb)) (fun _ _ _ _ _ _ us hl=>CY)
theorem zf:EJ ["some","reached","part"] ["some"] zxv:=AH
theorem z9x(F:Ω "total" "total" zxv)(hm:A0 "total")(mK:Υ zrn)(mY:Υ zx6):A6q:=
 BF zf yfi (fun cdv A outer s H E hr F0=>(AV z04 (by
  have nd:=zf.nd;have hu:=cg hr;exact(bM (EC 1 #[xu (D_ aW aW)])
   #[bM #[Ja rfl AEr (LI 2)
   (A4 (RC 1 mY Δ BB))]
   (CI AEs)])) yhc)) (fun _ _ _ _ _ _ us hl=>Nc)
theorem zj:EJ BCK (BGJ "other") Yj:=AH
theorem yah(F:Ω "share" "share" Yj)(hm:A0 "share")(bW:Υ zfn)(jF:Υ ztk)(mY:Υ zx6)(aU:AR "len"):BAz:=
 BF zj yg7 (fun cdv A outer s H E hr F0=>(AV zz3 (by
  have nd:=zj.nd;have hu:=cg hr;exact(bM (RC 3 bW Δ (AHh bW BB))
   (As (bM (As (AOz 4 (ATw jF (NW ["sheet"] Aew (GM BCK ["sheet"] [] Yj Aew) (G0 D5) (He Aew) (xu (D_ AI' AtZ))))))
   (CI #[Uk (PD jI Φ Δ) (IY mY (AIp (jp D5)) Hb) Hb]))))) yey)) (fun _ _ _ _ _ _ us hl=>g_)
theorem wQ:EJ AGf AGf Yk:=AH
theorem z36(F:Ω "shares" "shares" Yk)(hm:A0 "shares")(xX:BAz):BA_:=
 BF wQ yao (fun cdv A outer s H E hr F0=>(AV zwa (by
  have nd:=wQ.nd;have hu:=cg hr;exact(dQ (NW ["other"] Ao' (GM AGf ["other"] [0,2] Yk Ao') (G0 Δ) (He Ao') (iP xX (ABo Δ Φ BB))))) yar)) (fun _ _ _ _ _ _ us hl=>g_)
theorem zm:AO3 zxq:=AH
theorem z9q(F:Ω "minus" "minus" zxq)(hm:A0 "minus")(bF:Υ Rz):Ayx:=
 BF zm ygj (fun cdv A outer s H E hr F0=>(AV z00 (by
  have nd:=zm.nd;have hu:=cg hr;exact(cF (MQ (ST bF (PR Fi pT Amn) pT)))) yii)) (fun _ _ _ _ _ _ us hl=>CY)
theorem qU:Ś "sheet" "sheet" zjh:=AH
theorem zut(F:Ω "mean_mark" "mean_mark" zjh)(hm:A0 "mean_mark")(bF:Υ Rz)(G3:AR "sum")(aU:AR "len"):A6M:=
 BF qU zy2 (fun cdv A outer s H E hr F0=>(AV zmx (by
  have nd:=qU.nd;have hu:=cg hr;exact(cF (MQ (ST bF (yfy rfl rfl G3 Φ) AtZ)))) zxd)) (fun _ _ _ _ _ _ us hl=>Nc)
theorem wR:A1Q Yl:=AH
theorem z74(F:Ω "excess" "excess" Yl)(hm:A0 "excess")(jF:Υ ztk)(iJ:Υ zr9)(oE:A6M)(bW:Υ zfn):BAf:=
 BF wR z9m (fun cdv A outer s H E hr F0=>(AV zu2 (by
  have nd:=wR.nd;have hu:=cg hr;exact(dQ (ATw jF (NW ["sheet"] ["sheet","hand"] (BAJ Yl) (G0 (AL9 bW)) AyN (AJR iJ (AIp (AXz Φ)) (VT oE NF)))))) yb1)) (fun _ _ _ _ _ _ us hl=>CY)
theorem lG:FB Aa7 "hands" "sheets" Pr:=AH
theorem zl9(F:Ω "group_leanings" "group_leanings" Pr)(hm:A0 "group_leanings")(uZ:A'K)(u6:BA_)(u9:BAf)(bW:Υ zfn)(aU:AR "len"):BAg:=
 BF lG zna (fun cdv A outer s H E hr F0=>(AV zf8 (by
  have nd:=lG.nd;have hu:=cg hr;exact(bM (As (AGb (ADX 2 ["hand"] AGf) (AUb Aa7 [0,1] Pr AGf) (G0 (gq (AXu Φ))) (He AGf) (iP u6 (ABo Φ Δ BB))))
   (As (bM (As (AGb (Azh 3) (AUb Aa7 [1] Pr ó) (G0 (gq (AXu Φ))) (He ó) (Anb u9)))
   (As (bM (As (AGb (Azh 4) (AUb Aa7 [1] Pr ó) (G0 Φ) (He ó) (xu (D_ (jp (AL9 bW)) aW))))
   (CI (ST uZ (gq #[Ku (gq (ad Hb)) BB]) (gq #[Ku (gq (ad ASB)) D5]))))))))) zno)) (fun _ _ _ _ _ _ us hl=>CY)
theorem tK:AhS BDv Ym:=AH
theorem zxc(F:Ω "leanings" "leanings" Ym)(hm:A0 "leanings")(vd:A7H)(iZ:BAg)(dF:Υ XH)(cI:AR "list")(fM:AR "zip"):A7I:=
 AgG tK z23 (fun cdv A outer s H E hr F0=>(AV zoj (by
  have nd:=tK.nd;have hu:=cg hr;exact(bM (yv ZW 1 #[ZV])
   (As (bM (As (Ja rfl (AgW vd.fn) (LI 2)
   (As (bM (As (AOz 3 (P5 (z03 rfl rfl cI (ATw dF.fn (P5 (vD (own:= ["row"]) (N' := ["row","hands"]) (by show GM BDv ["row"] [2] Ym ["row","hands"];symm_saturate) rfl (G0 Φ) #[He ["row","hands"],_] #[Av0 bo Δ,_] #[oS,_])))))))
   (A4 #[Qg rfl (AZh (D_ BB (IY iZ BB D5))) (AOT 4 5)
   (A4 #[z1o (i:=1) AFs rfl Cl #[qv 4] #[qv 5]])])))))
   (A4 #[Vk Au8]))))) z2d)) (fun _ _ _ _ _ _ us hl=>Nc)
theorem zp:AO3 zxo:=AH
theorem ycu(F:Ω "times" "times" zxo)(hm:A0 "times")(bF:Υ Rz):Ayy:=
 BF zp yfe (fun cdv A outer s H E hr F0=>(AV z1q (by
  have nd:=zp.nd;have hu:=cg hr;exact(cF (MQ (ST bF pT pT)))) ye2)) (fun _ _ _ _ _ _ us hl=>CY)
theorem CK:AO3 z3f:=AH
theorem ygg(F:Ω "over" "over" z3f)(hm:A0 "over")(bF:Υ Rz):Ayz:=
 BF CK yk6 (fun cdv A outer s H E hr F0=>(AV z8g (by
  have nd:=CK.nd;have hu:=cg hr;exact(cF (MQ (ST bF pT pT)))) ylc)) (fun _ _ _ _ _ _ us hl=>CY)
theorem vf:EJ ["left","right","x","part"] ["left","right","x"] zo7:=AH
theorem z17(F:Ω "between" "between" zo7)(hm:A0 "between")(xY:Ayy)(mY:Υ zx6)(iJ:Υ zr9)(rZ:Υ z61):BEj:=
 BF vf z8w (fun cdv A outer s H E hr F0=>(AV zrh (by
  have nd:=vf.nd;have hu:=cg hr;exact(bM (RC 3 xY (IY iJ BB bo) AvX)
   (CI (ST mY bo (IY rZ D5 AvX))))) z32)) (fun _ _ _ _ _ _ us hl=>g_)
theorem m9:AQJ ["self","x","left","right"] "x" zfq:=AH
theorem zoc(F:Ω "scaled" "Scale.scaled" zfq)(M:Meth K c.Scale "scaled" f)(dZ:Υ XF)(su:BEj)(fM:AR "zip")(bL:AI3)(aM:aR K c.Scale "points"):BEe:=
 AFz m9 zqr (fun cdv A outer s H E hr F0=>(AV zhb (by
  have nd:=m9.nd;have hu:=cg hr;exact(bM #[sV #[Qe (Fe (IY dZ (ar (ar AOF)) Δ))]
   (CI #[fC (ar AOF) aW PY])
   EQ]
   #[bM #[Qg rfl (AZh (D_ AOF (z3k AOF (Fv aW) Ji))) (AOT 2 3)
   (A4 #[sV #[Fe (IY dZ Δ (ar D5))]
   (CI (ALj su BB D5 Δ))
   EQ])]
   (CI #[fC (KG AOF AI') aW PY])])) zq3)) (fun _ _ _ _ _ _ us hl=>CY)
theorem jT:AQJ (AHf "hand") "hand" zdk:=AH
theorem zkb(F:Ω "leaning" "Sitting.leaning" zdk)(M:Meth K c.ak "leaning" f)(ao:Sc)(aO:LY "kept_leanings"):A'Z:=
 AFz jT zlx (fun cdv A outer s H E hr F0=>(AV zfe (by
  have nd:=jT.nd;have hu:=cg hr;exact(cF (MQ #[yex AFs (Ô aO) Δ ASB (JS rfl rfl rfl)]))) zmj)) (fun _ _ _ _ _ _ us hl=>CY)
theorem nj:Ś "rule" "rule" zff:=AH
theorem zo8(F:Ω "least_number" "least_number" zff)(hm:A0 "least_number"):A7p:=
 BF nj zqx (fun cdv A outer s H E hr F0=>(AV zh7 (by
  have nd:=nj.nd;have hu:=cg hr;exact(cF (MQ #[Uk (PD jI Φ IW) aW aW]))) zqv)) (fun _ _ _ _ _ _ us hl=>Nc)
theorem CN:Ś "some" "some" z7c:=AH
theorem yfg(F:Ω "mean" "mean" z7c)(hm:A0 "mean")(rZ:Υ z61)(jF:Υ ztk)(aU:AR "len"):A6r:=
 BF CN ykk (fun cdv A outer s H E hr F0=>(AV z9a (by
  have nd:=CN.nd;have hu:=cg hr;exact(cF (MQ (ST rZ (VT jF NF) (AIp Ř))))) ykc)) (fun _ _ _ _ _ _ us hl=>Nc)
theorem wU:Ś "order" "order" zsi:=AH
theorem z7g(F:Ω "middle" "middle" zsi)(hm:A0 "middle")(aU:AR "len"):A7q:=
 BF wU yap (fun cdv A outer s H E hr F0=>(AV zwm (by
  have nd:=wU.nd;have hu:=cg hr;exact(cF (MQ #[gq #[Jj Φ (Fv (dl (LT Fi Ř))) (Fv (LT qY (dl Ř)))]]))) yab)) (fun _ _ _ _ _ _ us hl=>Nc)
theorem wV:EJ A6g ["some"] Yn:=AH
theorem z8e(F:Ω "rising" "rising" Yn)(hm:A0 "rising")(dZ:Υ XF)(aU:AR "len"):A6s:=
 BF wV yb5 (fun cdv A outer s H E hr F0=>(AV zww (by
  have nd:=wV.nd;have hu:=cg hr;exact(bM (fS 1 uB)
   (As (bM (As (Ja rfl AEr (LI 2)
   (As (bM (As (AOz 3 (AoW (P5 (vD (own:= ["other"]) (N' := ["other","part"]) (by show GM A6g ["other"] [2] Yn ["other","part"];symm_saturate) rfl (G0 Δ) #[He ["other","part"],_] #[Apv (IY dZ Δ Φ),_] #[oS,_])))))
   (A4 (AcC 1 z35 PySem.F.slot_list_insert PySem.F.type_list_insert (ya aA D5 BB)))))))
   (CI AEs))))) ya9)) (fun _ _ _ _ _ _ us hl=>Nc)
theorem zu:EJ AKW AKW JZ:=AH
theorem ye0(hr:ê 5 "worth" JZ)(dI:Υ ze3)(AsD):uw (kB (APB AKW "worth" (bB JZ) f cdv A)) F0 H (v9 JZ) (zt8 K c):=by
 have nd:=zu.nd;show AAZ "worth" JZ
 exact(bM #[sV #[oO (A2 Fj) (AAp T') (VT dI NF) zI]
 (A4 ī)
 EQ]
 #[bM #[sV (ABW jI Φ IW)
 (CI #[iP oF T'])
 EQ]
 #[bM #[sV (ABW jI Φ IW)
 (CI #[iP oF (LU (ATw jU (VT gO T')))])
 EQ]
 (A4 ī)]])
theorem yaz(AZP){ug:Addr}(c:Cls)(F:BAv)(dI:Υ ze3)(AsD):IC fO av 6 f fd AKW (pQ K (Rg c)):=
 abz F zu (PZ yia) fun cdv A outer s H E hr F0=>(AV zt8 (ye0 c hr dI oF jU gO aU) ygk)
theorem yc5{f:Addr}{fd:FuncData}{ug:Addr}{Ob:JU}{dn:Nat}{Oc:ADb}(c:Cls)(F:BAv)(hT:K.lookup ug=some (BH7 (.seq (List.toArray [AJ]) dn)))(hm:A0 "worth")(dI:Υ ze3)(AsD):BCg:=by
 have FO:=BFp yaz P c F dI oF jU gO aU;have kp:=F.kp;obtain⟨oc,od,kV,doc,pm,an,cdv,ct,osl,e0,lk,hcd⟩:=F.ex;subst e0;refine⟨f,_,FO,hm,kp,A8n,A8n⟩
 ·match us,hl with | [_,_,_],_=>exact BindsTo.of_defaults rfl (X _ _ hT) rfl rfl rfl
 ·have hl2:us.length=2:=AN hl
  match us,hl2 with | [_,_],_=>exact BindsTo.of_defaults rfl (X _ _ hT) rfl rfl rfl
theorem jx:EJ (AV0 "levels") AJm Yo:=AH
theorem zjx(F:Ω "reckoned" "Sitting.reckoned" Yo)(M:Meth K c.ak "reckoned" f)(jV:BEe)(iJ:Υ zr9)(iK:A'Z)(xZ:BCg)(bL:AI3)(ao:Sc)(bC:LY "scale")(bJ:LY "rule")(bQ:LY "gap"):A'a:=
 AFz jx zlk (fun cdv A outer s H E hr F0=>(AV ze4 (by
  have nd:=jx.nd;have hu:=cg hr;exact(bM (As (AGb (ADX 3 BJx AY9) (GM (AV0 "levels") BJx [0] Yo AY9) #[qw (ycx BB)] (AAS AY9 AY9) (AJR iJ (AIp Δ) (SS (AIs Jm iK BB) Φ))))
   (A4 #[yfo (Μ F0 (C7 (cF (MQ #[Jm jV bL y0 (Ô bC) (LU (yc0 xZ y0 rfl (ABo (Ô bJ) D5 (Ô bQ))))]))))]))) zla)) (fun _ _ _ _ _ _ us hl=>g_)
theorem jW:FB ["marks","counts","order"] "marks" "counts" Yp:=AH
theorem zk5(F:Ω "borders" "borders" Yp)(hm:A0 "borders_borders")(gO:Υ zkp):A'M:=
 BF jW zmd (fun cdv A outer s H E hr F0=>(AV zfd (by
  have nd:=jW.nd;have hu:=cg hr;exact(bM (wf (AgW gO))
   (AK8 (NW ["count"] ["count","order"] (GM ["marks","counts","order"] ["count"] [2] Yp ["count","order"]) (G0 (gq #[Jj Δ Ji (Fv (Fl aW))])) (He ["count","order"]) (Uk (PD Ay Φ aW) (KG Δ (Fl Φ)) Uh))))) zmq)) (fun _ _ _ _ _ _ us hl=>CY)
theorem oG:FB ["least","marks"] "least" "marks" Yq:=AH
theorem zq1(F:Ω "number_from" "number_from" Yq)(hm:A0 "number_from")(dZ:Υ XF)(aU:AR "len"):A'F:=
 BF oG zs2 (fun cdv A outer s H E hr F0=>(AV zi9 (by
  have nd:=oG.nd;have hu:=cg hr;exact(dQ (jp (P5 (vD (own:= ["mark"]) (N' := ["mark","least"]) (by show AKB ["least","marks"] "mark" Yq "mark" "least";symm_saturate) rfl (G0 Δ) #[He ["mark","least"],_] #[Apv (AL9 dZ),_] #[oS,_]))))) zue)) (fun _ _ _ _ _ _ us hl=>CY)
theorem CP:Ś "marks" "marks" Yr:=AH
theorem yft(F:Ω "ends" "ends" Yr)(hm:A0 "ends")(lW:A'F)(A2c):A6N:=
 BF CP yjr (fun cdv A outer s H E hr F0=>(AV z71 (by
  have nd:=CP.nd;have hu:=cg hr;exact(dQ (P5 (AWy yih jw (aA (P5 (Ku (gq (ad aW)) (NW ["mark"] ["mark","marks"] (AKB ["marks"] "mark" Yr "mark" "marks") (G0 Φ) (He ["mark","marks"]) (Anb lW)))) aN))))) ykv)) (fun _ _ _ _ _ _ us hl=>Nc)
theorem zy:Akw ["some","bounds","lists","bound"] zx4:=AH
theorem ya3(F:Ω "reach" "reach" zx4)(hm:A0 "reach")(mK:Υ zrn):A'L:=
 BF zy ygz (fun cdv A outer s H E hr F0=>(AV zzs (by
  have nd:=zy.nd;have hu:=cg hr;exact(bM (fS 2 (ad (gq (ad aW))))
   #[bM #[Ja rfl AEs (LI 3)
   (A4 (AOr 2 (g9 (VT mK (ABo Φ (ydu (i:=2) rfl Cl AI' PY) D5)))))]
   (CI nX)])) ye7)) (fun _ _ _ _ _ _ us hl=>CY)
theorem nq:Akw A1y Ys:=AH
theorem zpq(F:Ω "rests_behind" "rests_behind" Ys)(hm:A0 "rests_behind")(oU:Υ z0o)(cI:AR "list")(jX:AR "reversed"):A7z:=
 BF nq zqs (fun cdv A outer s H E hr F0=>(AV zht (by
  have nd:=nq.nd;have hu:=cg hr;exact(bM (As (AGb (ADX 2 ["end"] ["end","some"]) (AKB A1y "end" Ys "end" "some") (ARP zyl jX NF) (He ["end","some"]) (bR (A2 Fi) AWu Φ)))
   #[bM (RC 3 oU BB (gq (ya AzF jX Δ)))
   (CI #[gq #[Jj (gq (ya AzF jX D5)) (Fv aW) Ji]])])) zqu)) (fun _ _ _ _ _ _ us hl=>CY)
theorem mL:Akw Ar4 RQ:=AH
theorem znc(F:Ω "greatest_cuts" "greatest_cuts" RQ)(hm:A0 "greatest_cuts")(jY:A7z)(iu:Υ zm6)(fM:AR "zip")(G4:AR "max"):A7_:=
 BF mL zqn (fun cdv A outer s H E hr F0=>(AV zgv (by
  have nd:=mL.nd;have hu:=cg hr;exact(bM (fS 2 (ad aW))
   (As (bM (As (Qg rfl (AZh (D_ Δ (AL9 jY))) (AOT 3 4)
   (As (bM (As (ybu (i:=5) nd rfl rfl (own:= ["end"]) (N' := Air) (by show GM Ar4 ["end"] [2,3] RQ Air;symm_saturate) rfl (kD (qw (vB Φ))) #[He Air,_] #[Kp (Fe (IY iu (PR Fi Φ AWu) BB)),_] #[oS,_]))
   (As (cF (As (Kr (i:=2) (A2 Qk) PySem.F.slot_list_append PySem.F.type_list_append rfl Cl (As (LU (SS (AAh (ykh rfl) G4 boot_max) (P5 (vD (own:= ["end"]) (N' := ApA) (by show GM Ar4 ["end"] [0,4] RQ ApA;symm_saturate) rfl (G0 dC) #[He ApA,_] #[Av0 (PR Fi AWu Φ) BB,_] #[oS,_])))))))))))))
   (CI #[gq (AXu BB)]))))) zpn)) (fun _ _ _ _ _ _ us hl=>CY)
theorem CQ:FB ["marks","bounds","some","lists"] "marks" "bounds" z7i:=AH
theorem ygx(F:Ω "cuts" "cuts" z7i)(hm:A0 "cuts")(Bp:A6N)(oU:Υ z0o)(jr:A7_)(aU:AR "len"):A'_:=
 BF CQ yjf (fun cdv A outer s H E hr F0=>(AV z8m (by
  have nd:=CQ.nd;have hu:=cg hr;exact(bM (wf (AgW Bp))
   #[bM (RC 3 oU BB Δ)
   #[bM #[sV #[oO (A2 yfj) (AAp NF) (KG D5 AI') ú]
   (A4 ī)
   EQ]
   (CI (ST jr BB Δ))]])) yi0)) (fun _ _ _ _ _ _ us hl=>CY)
theorem jy:EJ ["self","rows","rule","gap","scale","bounds","work","dealt"] Aet J0:=AH
theorem zlc{f:Addr}{cdv:Value}(AZD){s:Shared}{H H1:Hp}{E:XK}{F0:Hp}(c:Cls)(hr:ê 8 "Sitting.__init__" J0)(AsC):AXF ["self","rows","rule","gap","scale","bounds","work","dealt"] "Sitting.__init__" J0 J0 zcr:=by
 have nd:=jy.nd;show AAZ "Sitting.__init__" J0
 exact(bM (ANZ bJ nX)
 #[bM (ANZ bQ AUD)
 #[bM (ANZ bC #[iO zz7 aV (LU (gq (AOo Zj (LU (wu bL aM Hb)))))])
 #[bM (ANZ aO #[ye8 #[iO zt0 gU T']])
 #[bM (As9 aH #[z80 #[iO zt0 dF T']])
 #[bM (As9 au #[ZV])
 #[bM #[Ja rfl (AyL (zzy rfl rfl bh (LU Ahe))) (LI 6)
 (A4 (AME (ww zum 0 6 (hu1 hu) ao au (AV_ (Ajj aP (D_ RA (Qy (hu1 hu) Ahe RA))))) rfl Cl))]
 #[bM (EC 7 (AyL (z03 rfl rfl cI AFX)))
 (A4 (ANZ aQ (ST cA UK (IY ql UK dC))))]]]]]]])
theorem zjl(Az_)(AsC):AWx 9 Aet Ik:=
 AaK jy z6l (fun cdv A outer s H E hr F0 H0=>⟨zcr K c,BFk (zlc c hr aV gU),fun a bs t ds Q Ex h=>z5o h⟩)
theorem zjd(Az_)(M:Mk K c.ak f)(hm:mg "Sitting" =some (AW c.ak))(AsC):BEf:=
 ⟨⟨f,fd,BFk (zjl c F aV gU),M,hm,F.binds fun _ _ _ _ _ _ us hl=>by obtain⟨_,_,_,_,_,_,rfl⟩:=ach hl;exact rfl⟩,hZ z8r⟩
theorem oH:EJ ["_law_script","_law_rows_here","_law_people","_law_works","_law_found","_law_k","_law_cell_here","_law_more","_law_pair"] ["_law_script","_law_rows_here","_law_people"] RT:=AH
theorem zq8(F:Ω "_law_appeals" "_law_appeals" RT)(hm:A0 "_law_appeals")(aL:Υ O8)(bh:AR "sorted")(cj:AR "range")(jw:AR "set")(uQ:AR "int")(aU:AR "len"):BAp:=
 BF oH zts (fun cdv A outer s H E hr F0=>(AV zi5 (by
  have nd:=oH.nd;have hu:=cg hr;exact(bM (As (AOz 3 (P5 (AWy zsj jw (aA (NW PM PM (GM ["_law_script","_law_rows_here","_law_people","_law_works","_law_found","_law_k","_law_cell_here","_law_more","_law_pair"] PM [] RT PM) (G0 Δ) (Ah rfl (nJ (qh 0 PM) (APG (qh 1 PM) (qh 2 PM)))) oS) aN)))))
   (As (bM (yv ZW 4 #[yax])
   (As (bM #[Ke rfl rfl cj (g9 (ArA aW (AIY xB Δ AhD))) (LI 5)
   #[bM (AlO 6)
   #[bM (AlO 7)
   #[bM #[yie (j:=8) nd rfl Cl (ya aA (KG D5 (Ĕ RA (jp D5))) (KG BB (Ĕ (dl RA) (jp BB))))]
   (A4 #[ww yfk 4 8 (hu1 hu) #[bR (A2 mR) (dl UK) (KG (gq #[tO (D_ aW AxB)]) (WO UK))] rfl Cl rfl Cl])]]]]
   (AK8 (NW AwK AUl (GM ["_law_script","_law_rows_here","_law_people","_law_works","_law_found","_law_k","_law_cell_here","_law_more","_law_pair"] AwK [4] RT AUl) #[qw (ycj (i:=4) rfl Cl)] (AAS AUl AUl) (xu (aA Φ (D_ Δ (yly (hu1 hu) BB (xu (D_ Φ Δ)))))))))))))) zso)) (fun _ _ _ _ _ _ us hl=>g_)
theorem iQ:AZT zck:=AH
theorem zhf(F:Ω "sheet_copy" "Sitting.sheet_copy" zck)(M:Meth K c.ak "sheet_copy" f)(cG:Υ zed)(Bq:AR "dict")(ao:Sc)(aH:LY "sheets"):BAn:=
 AId (Gf F iQ (PZ zi2) fun cdv A outer s H E hr F0=>(AV zdz (by
  have nd:=iQ.nd;have hu:=cg hr;exact(bM BCY
   (A4 #[Vk #[z7h rfl Bq boot_dict (LU (AXz Ahe))]]))) zi0)) (fun _ _ _ _ _ _ us hl=>CY)
theorem jZ:EJ (AV0 "ahead") AJm J1:=AH
theorem zmi{f:Addr}{cdv:Value}(AZD){s:Shared}{H H1:Hp}{E:XK}{F0:Hp}(c:Cls)(hr:ê 7 "Sitting.renewed" J1)(Ary):AXF (AV0 "ahead") "Sitting.renewed" J1 J1 zc7:=by
 have nd:=jZ.nd;show AAZ "Sitting.renewed" J1
 exact(bM (EC 3 (AV_ (AXz AFX)))
 #[bM (AME (ww zum 0 1 (hu1 hu) ao au (AV_ (Ajj aP (D_ Δ BB)))) rfl Cl)
 #[bM (AME (ww zum 0 1 (hu1 hu) ao aH nX) rfl Cl)
 (A4 #[Z8 #[Uk (zz8 (kD (PD jI (AXz AFX) D5))) AhD (gq (ad Δ))]])]])
theorem zk2(F:Ω "renewed" "Sitting.renewed" J1)(Ary):AWx 8 AJm Rk:=
 AaK jZ zl2 (fun cdv A outer s H E hr F0 H0=>⟨zc7 K c,zmi c hr aP ao au aH,fun a bs t ds Q Ex h=>zlo h⟩)
theorem zln(F:Ω "renewed" "Sitting.renewed" J1)(M:Meth K c.ak "renewed" f)(Ary):BAk:=
 AId (zk2 c F aP ao au aH) (fun _ _ _ _ _ _ us hl=>g_)
theorem lH:EJ BCI AeQ J2:=AH
theorem zne{f:Addr}{cdv:Value}{A:Around}{outer:EG}{s:Shared}{H H1:Hp}{E:XK}{F0:Hp}(c:Cls)(hr:ê 8 "Sitting.appeal" J2)(bH:Υ zcf)(AoL):AXF BCI "Sitting.appeal" J2 J2 zdo:=by
 have nd:=lH.nd;show AAZ "Sitting.appeal" J2
 exact(bM (yv ZW 4 #[zs1 (kD (SS (AIs ye5 bH Φ) Δ))])
 #[bM #[z1o (i:=4) AFs rfl Cl nX AUD]
 (A4 #[yht 4 #[Z8 #[Ayl cD Cl (D_ Δ Hb)]]])])
theorem zlw(F:Ω "appeal" "Sitting.appeal" J2)(bH:Υ zcf)(AoL):AWx 9 AeQ Rm:=
 AaK lH znf (fun cdv A outer s H E hr F0 H0=>⟨zdo K c,zne c hr bH cD ao,fun a bs t ds Q Ex h=>znj h⟩)
theorem zl0(F:Ω "appeal" "Sitting.appeal" J2)(M:Meth K c.ak "appeal" f)(bH:Υ zcf)(AoL):BAl:=
 AId (zlw c F bH cD ao) (fun _ _ _ _ _ _ us hl=>Aw_)
theorem tL:FB BFK "_law_sitting" "_law_some" J3:=AH
theorem z16{f:Addr}{cdv:Value}(AZD){s:Shared}{H H1:Hp}{E:XK}{F0:Hp}(c:Cls)(hr:ê 9 "_law_done" J3)(Azf):AXF BFK "_law_done" J3 J3 zjk:=by
 have nd:=tL.nd;show AAZ "_law_done" J3
 exact(bM (wf #[gq uB])
 #[bM #[Ja rfl AEs #[Ah rfl (nJ (APE 3) (AcJ 4 5))]
 #[bM (EC 6 #[Ayl cJ Cl (aA D5 (D_ Hb dC))])
 #[bM #[sV (Alh (PD xB RA AhD) (PD xB RA (gq (ad D5))))
 (A4 #[Z8 #[Uh]])
 EQ]
 (A4 (wf #[gq #[Ku BB RA]]))]]]
 (A4 #[Z8 nX])])
theorem zyo(F:Ω "_law_done" "_law_done" J3)(cJ:Υ zdp)(ao:Sc):AWx 10 BHk O2:=
 AaK tL z1y (fun cdv A outer s H E hr F0 H0=>⟨zjk K c,z16 c hr cJ ao,fun a bs t ds Q Ex h=>z3a h⟩)
theorem zxm(F:Ω "_law_done" "_law_done" J3)(hm:A0 "_law_done")(Azf):BCh:=
 AO8 (zyo c F cJ ao) (fun _ _ _ _ _ _ us hl=>CY)
theorem oJ:FB ["_law_one","_law_other"] "_law_one" "_law_other" zgh:=AH
theorem zqw(F:Ω "_law_divisor" "_law_divisor" zgh)(hm:A0 "_law_divisor")(pK:AR "abs"):A'A:=
 BF oJ ztg (fun cdv A outer s H E hr F0=>(AV zi7 (by
  have nd:=oJ.nd;have hu:=cg hr;exact(bM (EC 0 (Aqq NF))
   #[bM (EC 1 (Aqq T'))
   #[bM #[z01 (AVe Ay)
   (A4 #[ww yjx 0 1 rfl nd rfl rfl τ rfl rfl (D_ Δ (Ĕ Φ Δ)) rfl])]
   (CI AEr)]])) zsd)) (fun _ _ _ _ _ _ us hl=>CY)
theorem vg:FB ["_law_top","_law_bottom","_law_by"] "_law_top" "_law_bottom" zpa:=AH
theorem z1z(F:Ω "_law_low" "_law_low" zpa)(hm:A0 "_law_low")(lX:A'A):A'G:=
 BF vg z8c (fun cdv A outer s H E hr F0=>(AV zrg (by
  have nd:=vg.nd;have hu:=cg hr;exact(bM (RC 2 lX Φ Δ)
   #[bM #[sV (AVe Fj)
   (A4 (NM 2 Fi aW BB))
   EQ]
   (CI A2X)])) z45)) (fun _ _ _ _ _ _ us hl=>CY)
theorem jz:BJy ["_law_script","_law_x","_law_y","_law_by","_law_points","_law_k","_law_cell_here","_law_height"] zc6:=AH
theorem zjc(F:Ω "_law_scale_points" "_law_scale_points" zc6)(hm:A0 "_law_scale_points")(aL:Υ O8)(oV:A'G)(cj:AR "range")(pK:AR "abs"):A6O:=
 BF jz zk9 (fun cdv A outer s H E hr F0=>(AV zez (by
  have nd:=jz.nd;have hu:=cg hr;exact(bM (NM 1 Fi AI6 aW)
   #[bM (NM 2 Fi AI6 aW)
   #[bM (A7s ABY)
   #[bM (fS 4 uB)
   #[bM #[Ke rfl rfl cj (g9 AVc) (LI 5)
   #[bM (AlO 6)
   #[bM (RC 7 oV BB (AIZ AkB))
   #[bM #[sV (Alh (PD Ay dC aW) (PD jI (WO RA) aW))
   (A4 (EC 7 #[fC (ydu (i:=4) rfl Cl (LT Fi dC) PY) aW PY]))
   EQ]
   #[bM (AOr 4 (AZZ xu (D_ (IY oV Δ D5) UK)))
   #[bM (NM 1 qY (LT qY Δ) AkB)
   (A4 (NM 2 qY (ip aW (LT qY (SS (AAh Zb pK boot_abs) BB))) AkB))]]]]]]
   (CI #[qv 4])]]]])) zj5)) (fun _ _ _ _ _ _ us hl=>Nc)
theorem pL:FB ["_law_script","_law_some","_law_left","_law_turned_here","_law_k"] "_law_script" "_law_some" zie:=AH
theorem ztp(F:Ω "_law_turned" "_law_turned" zie)(hm:A0 "_law_turned")(aL:Υ O8)(cI:AR "list")(Anu):A'H:=
 BF pL zve (fun cdv A outer s H E hr F0=>(AV zlb (by
  have nd:=pL.nd;have hu:=cg hr;exact(bM (fS 2 (AOo Zj T'))
   #[bM (fS 3 uB)
   #[bM #[Ke rfl rfl cj (AZZ AAp T') (LI 4)
   (A4 (AOr 3 (g9 (yam (i:=2) rfl Cl (LU (Ĕ (AHh aL (AIZ Hb)) (AoW BB)))))))]
   (CI AUD)]])) zuq)) (fun _ _ _ _ _ _ us hl=>CY)
theorem G5:BJy ["_law_script","_law_rows_here","_law_scale","_law_rule","_law_bounds","_law_one","_law_other","_law_first","_law_people","_law_some","_law_mine","_law_theirs","_law_ahead","_law_behind"] yg:=AH
theorem ymy(hr:ê 10 "law" yg)(Ar7):uw (kB (APB ["_law_script","_law_rows_here","_law_scale","_law_rule","_law_bounds","_law_one","_law_other","_law_first","_law_people","_law_some","_law_mine","_law_theirs","_law_ahead","_law_behind"] "law" (bB yg) f cdv A)) F0 H (v9 yg) (z84 K c):=by
 have nd:=G5.nd;show AAZ "law" yg
 exact(bM (EC 1 (ALj gW Φ AVc AVc))
 (As (bM (wf #[iO zz7 aV (LU (VT bT NF))])
 (As (bM (EC 3 #[fC (gq #[tO (D_ IW IW)]) AI6 PY])
 (As (bM (EC 4 #[gq #[yla (ad ASB) AVc]])
 (As (bM (BEV 5)
 (As (bM (BEV 6)
 (As (bM (EC 7 #[z4y (zs1 (kD A0X))])
 (As (bM (As (AOz 8 (P5 (Ku (P5 (AWy zsj jw (aA (NW PM PM (GM ["_law_script","_law_rows_here","_law_scale","_law_rule","_law_bounds","_law_one","_law_other","_law_first","_law_people","_law_some","_law_mine","_law_theirs","_law_ahead","_law_behind"] PM [] yg PM) (G0 Δ) (Ah rfl (nJ (qh 0 PM) (APG (qh 1 PM) (qh 2 PM)))) (qv 1)) aN))) (gq #[tO (D_ IW IW)])))))
 #[bM (EC 9 (ALj d9 Φ Δ vn))
 #[bM (EC 10 (ya (iO (zzr (i:=5)) gh rfl) Cl ADl))
 #[bM (EC 11 (ya (iO (zzr (i:=6)) gh rfl) Cl (AHh fG ADl)))
 #[bM #[sV #[Df (ygi (PD Us AS8 Uh) (ygi (PD Us AS7 Uh) (ydz (zz8 (kD (PD xB A0W (zt9 bA.mt ao y0 RA)))))))]
 (CI #[yf2])
 EQ]
 #[bM #[Qg rfl (AZh (D_ UK (z4y (zs1 (kD A0X))))) (AOT 12 13)
 (A4 #[sV #[Df (YT (PD xB BHc (ar (qv 13))) (YS (Df (ygi (A0a AS8) (ydz (A0a AS7))))))]
 (CI #[yf2])
 EQ])]
 (CI (AV_ (AKD (jp A0W) (jp UK))))]]]]])))))))))))))))
theorem yel(F:Ω "law" "law" yg)(Ar7):IC fO av 11 f fd BIW (pQ K (z0i c)):=
 iU F G5 (PZ yme) fun cdv A outer s H E hr F0=>(AV z84 (AsK (ymy c hr bA gW)) ynd)
theorem yne(F:Ω "law" "law" yg)(hm:A0 "law")(Ar7):DZ "law" 11 ["_law_script"] z0i:=
 AO8 (AsK (yel c F bA gW)) (fun _ _ _ _ _ _ us hl=>Nc)
#where
theorem yk0{l:W.OpenLaw}{w:World}{K:W.Frag}{h:Heap}{mg:CB}{fa:Addr}(O:AOp)(X:vx)(G:AJf h.Ns)(hfa:Af9 "law"):
 ∃fd:FuncData,(AN2 v Value (BindsTo s fd (FY [v]) [("_law_script",v)]))/\A8p (A_L base (gH l.prog w) 11 fa fd BIW (pQ K Zc)):=by
 show B8 B L Prod.mk.inj O;show B8 L M Prod.mk.inj L;show AK Dz 0;show AK JH 1;show AK Br 2;show AK Bs 3;show AK Bt 4;show AK Bu 5;show AK Bv 6;show AK Bw 7;show AK G6 8;show AK G7 9;show AK G8 10;show AK G9 11;show AK Hf 12;show AK Hg 13;show AK au 14;show AK aQ 15;show AK aM 16;show AK aO 17;show AK bC 18;show AK bJ 19;show AK bQ 20;show AK aH 21;show AK a0 22;show AK n0 23;show AK a1 24;show AK n1 25;show AK a4 26;show AK n4 27;show AK a5 28;show AK n5 29;show AK a12 30;show AK n12 31;show AK a40 32;show AK n40 33;show AK a41 34;show AK n41 35;show AK a47 36;show AK n47 37;show AK a55 38;show AK n55 39;show AK a57 40;show AK n57 41;show AK a58 42;show AK n58 43;show AK a59 44;show AK n59 45;show AK a3 46;show AK a48 47;show AK Aa 48;show AK XJ 49;show AK Hh 50;show AK JK 51;show AK XM 52;show AK XQ 53;show AK XR 54;show AK JL 55;show AK XS 56;show AK O9 57;show AK X3 58;show AK X4 59;show AK X5 60;show AK Bx 61;show AK X6 62;show AK Pa 63
 let c:Cls:={ak:=A2z "Sitting",Scale:=A2z "Scale"}
 have ao:Sc:=⟨Br,Bs,Bt,Bu⟩;have bL:AI3:=⟨G6,G7,G8,G9⟩;show MI d7 "enumerate" Aa;show MI aU "len" XJ;show MI bh "sorted" Hh;show MI cj "range" JK;show MI uQ "int" XM;show MI GQ "all" XQ;show MI fM "zip" XR;show MI qP "tuple" JL;show MI wL "any" XS;show MI cI "list" O9;show MI jw "set" X3;show MI pK "abs" X4;show MI G3 "sum" X5;show MI jX "reversed" Bx;show MI G4 "max" X6;show MI Bq "dict" Pa;show A7 l2;show A6 f2 fd2 a2 JM l2;show A7 l6;show A6 f6 fd6 a6 Ab l6;show A7 l7;show A6 f7 fd7 a7 BJ l7;show A7 l8;show A6 f8 fd8 a8 yc l8;show A7 l9;show A6 f9 fd9 a9 BK l9;show A7 l10;show A6 f10 ael a10 Hi l10;show A7 l11;show A6 f11 aem a11 BL l11;show A7 l13;show A6 f13 aen a13 Pb l13;show A7 l14;show A6 f14 aeo a14 Hj l14;show A7 l15;show A6 f15 aep a15 DG l15;show A7 l16;show A6 f16 aer a16 Hl l16;show A7 l17;show A6 f17 aes a17 DK l17;show A7 l18;show A6 f18 aeu a18 Ac l18;show A7 l19;show A6 f19 aev a19 DN l19;show A7 l20;show A6 f20 aew a20 DP l20;show A7 l21;show A6 f21 aex a21 BP l21;show A7 l22;show A6 f22 aey a22 Ad l22;show A7 l23;show A6 f23 aez a23 X7 l23;show A7 l24;show A6 f24 aeA a24 Ho l24;show A7 l25;show A6 f25 aeB a25 vY l25;show A7 l26;show A6 f26 aeC a26 Ae l26;show A7 l27;show A6 f27 aeD a27 DQ l27;show A7 l28;show A6 f28 aeE a28 Pg l28;show A7 l29;show A6 f29 aeF a29 JN l29;show A7 l30;show A6 f30 aeG a30 JQ l30;show A7 l31;show A6 f31 aeH a31 Hq l31;show A7 l32;show A6 f32 aeI a32 JR l32;show A7 l33;show A6 f33 aeJ a33 Af l33;show A7 l34;show A6 f34 aeK a34 Hr l34;show A7 l35;show A6 f35 aeL a35 sy l35;show A7 l36;show A6 f36 aeM a36 BR l36;show A7 l37;show A6 f37 aeN a37 JT l37;show A7 l38;show A6 f38 aeO a38 Ph l38;show A7 l39;show A6 f39 aeP a39 DR l39;show A7 l42;show A6 f42 aeQ a42 vh l42;show A7 l43;show A6 f43 aeR a43 Pj l43;show A7 l44;show A6 f44 aeS a44 Hs l44;show A7 l45;show A6 f45 aeT a45 Ht l45;show A7 l49;show A6 f49 aeU a49 vZ l49;show A7 l50;show A6 f50 aeV a50 Pk l50;show A7 l51;show A6 f51 aeW a51 JV l51;show A7 l52;show A6 f52 aeX a52 vm l52;show A7 l53;show A6 f53 aeY a53 ud l53;show A7 l54;show A6 f54 aeZ a54 Pn l54;show A7 l56;show A6 f56 ae0 a56 v7 l56;show A7 l60;show A6 f60 ae1 a60 BX l60;show A7 l61;show A6 f61 ae2 a61 v8 l61;show A7 l62;show A6 f62 ae3 a62 DW l62;show A7 l63;show A6 f63 ae4 a63 qm l63;show A7 l64;show A6 f64 ae5 a64 yd l64;show A7 l65;show A6 f65 aci a65 LK l65;show Nd l0;show On fd0 jA l0;show Nd l1;show On fd1 oK l1;show Nd l3;show On fd3 uf l3;show Nd l4;show On fd4 nu l4;show Nd l5;show On fd5 nA l5;show Nd l12;show On ae6 sE l12;show Nd l40;show On ae7 oM l40;show Nd l41;show On ae8 lJ l41;show Nd l46;obtain⟨f46,_,_,_,_,_,a46,JW,acj⟩:=Hd.funM_at l46;show Nd l47;show On ae9 j4 l47;show Nd l48;show On afa qW l48;show Nd l55;show On afb qp l55;show Nd l57;show On afc jg l57;show Nd l58;show On afd lK l58;show Nd l59;show On afe mO l59;have e:=hfa.symm.trans (y_ a65);cases e;show B0 aci (Hd.start_binds LK (fun _ _ _ _ _ _ _=>rfl)) (Α base kb nb);have cG:=AIH ziy c jA ⟨AH8 a0,n0,jA.kp⟩ ao au;have eY:=x6 zpe oK a1 n1 oK.kp cG ao au;show AG_ dZ yas JM a2;have jo:=B7 zng uf (AS0 a3) dZ d7 aU;have jq:=x6 znh nu a4 n4 nu.kp jo eY ao aQ;have bA:=x6 znm nA a5 n5 nA.kp eY jq bh ao au;have lE:=ž zvp Ab a6 cj uQ;have aL:=B7 zyx BJ a7 aU;show AG_ mX zss yc a8;have gW:=B7 zyr BK a9 lE aL mX cj aU;have uR:=B7 z8y Hi a10 dZ;have jR:=B7 zx7 BL a11 uR GQ aU fM;have aV:=AIH zmg c sE ⟨Hf,AH8 a12,n12,Hg⟩ (y_ (AS0 JH)) jR qP bL aM;have xW:=B7 ygm Pb a13 wL;have uU:=B7 z6p Hj a14 xW cI bh jw;show AG_ dF z3b DG a15;have vd:=B7 z8j Hl a16 uU dF bh cI;have jH:=B7 z2k DK a17 pK;have ou:=B7 zu7 Ac a18 jH;have rW:=B7 z2h DN a19 fM;have rY:=ž z2b DP a20 rW d7;have bF:=B7 zxa BP a21 jH;have oh:=B7 zvh Ad a22 cI;have GX:=B7 ykq X7 a23 oh cj aU;have uZ:=B7 z9e Ho a24 ou rY bF GX cj aU fM d7;show AG_ bW zq5 vY a25;show AG_ iu zu5 Ae a26;have mK:=ž z10 DQ a27 iu wL;have mY:=B7 yga Pg a28 bF;have jF:=ž z9x JN a29 mK mY;have xX:=B7 yah JQ a30 bW jF mY aU;have u6:=B7 z36 Hq a31 xX;have iJ:=B7 z9q JR a32 bF;have oE:=B7 zut Af a33 bF G3 aU;have u9:=B7 z74 Hr a34 jF iJ oE bW
 have iZ:=B7 zl9 sy a35 uZ u6 u9 bW aU;have gU:=B7 zxc BR a36 vd iZ dF cI fM;have xY:=B7 ycu JT a37 bF;have rZ:=B7 ygg Ph a38 bF;have su:=B7 z17 DR a39 xY mY iJ rZ;have jV:=x6 zoc oM a40 n40 oM.kp dZ su fM bL aM;have iK:=AIH zkb c lJ ⟨AH8 a41,n41,lJ.kp⟩ ao aO;show AG_ dI zo8 vh a42;have oF:=B7 yfg Pj a43 rZ jF aU;have jU:=B7 z7g Hs a44 aU;have gO:=ž z8e Ht a45 dZ aU;have xZ:=AHX yc5 c JW acj (y_ a46) dI oF jU gO aU;have aP:=x6 zjx j4 a47 n47 j4.kp jV iJ iK xZ bL ao bC bJ bQ;have cA:=B7 zk5 qW (AS0 a48) gO;have lW:=ž zq1 vZ a49 dZ aU;have Bp:=B7 yft Pk a50 lW bh jw;have oU:=B7 ya3 JV a51 mK;have jY:=B7 zpq vm a52 oU cI jX;have jr:=B7 znc ud a53 jY iu fM G4;have ql:=B7 ygx Pn a54 Bp oU jr aU;have bI:=AIH zjd c qp ⟨Bv,AH8 a55,n55,Bw⟩ (y_ (AS0 Dz)) aV gU dF aP cA ql bh cI ao bL bJ bQ bC aO aH au aQ aM;have d9:=B7 zq8 v7 a56 aL bh cj jw uQ aU;have bH:=x6 zhf jg a57 n57 jg.kp cG Bq ao aH;have cD:=x6 zln lK a58 n58 lK.kp aP ao au aH;have cJ:=x6 zl0 mO a59 n59 mO.kp bH cD ao;have gh:=ž zxm BX a60 cJ ao;have lX:=B7 zqw v8 a61 pK;have oV:=B7 z1z DW a62 lX;have bT:=B7 zjc qm a63 aL oV cj pK;have fG:=B7 ztp yd a64 aL cI cj aU;exact AsK (AHX yel c LK bA gW)
theorem hd_wit:lw.row.toRowW.promised:=by w_witness2
theorem hd_w:W.WalkO vw loose BI3 (fun w h=>∃K:W.Frag,vx/\AOp) lw.row.toRowW (Hd.recOf yg) [] BHD:=
 Hd.walk_ex (n:=63) (k:=11) (x:= "_law_script") (CX:=B2 (gH lw.prog w)) (sp:=fun K=>pQ K Zc) (Fx:=fun w K=>AOp) rfl τ hd_z ⟨rfl,Κ,Κ⟩ (AiI) (fun w K mg fa h O X G hm=>yk0 O X G (hd_n ▸ hm)) (fun K H a ns hl hO hS=>z5h hl hS) (AkX z (ycc z))
#print Lw
end
theorem PySem.Challenge.cw_hall_k75_whole_appeals_in_any_order_holds : PySem.Challenge.rw_hall_k75_whole_appeals_in_any_order.Holds :=
 Hd.holds Lw.hd_said (Hd.left Lw.hd_e Lw.hd_f Lw.hd_A Lw.hd_B Lw.hd_C Lw.hd_D) Lw.hd_d Lw.hd_p Lw.hd_k Lw.hd_ok Lw.hd_bare Lw.hd_wit rfl Lw.hd_w
