import PyProof.Rows.All
import Wide.All
import OpenK.AllK
import Wide.FinOn
import Lean
import PyProof.EqAt
import PyProof.EqKinds
import PyProof.TupleCall
import PyProof.NeKinds
import PySem.Challenge.RW_hall_k96_whole_higher_hand_same_grades
set_option Elab.async false
set_option linter.all false
set_option maxRecDepth 100000
set_option maxHeartbeats 4000000
set_option compiler.extract_closed false
open Lean in
local macro_rules|`(command|mutual $cs* end)=>do
 let cs:=cs.map fun c=>c.raw
 unless cs[0]!.isOfKind ``Parser.Command.where do Macro.throwUnsupported
 let ps:Array Name:=#[`ε,`ζ,`η,`θ,`ι,`ν,`ξ,`ο,`π,`ρ,`υ,`χ]
 let ap:= ``Parser.Term.app
 let un:=fun(s:Syntax)=>if s.isOfKind `par then s[0] else s
 let more:=fun(f:Syntax)(as:Array Syntax)=>if as.isEmpty then f else if f.isOfKind ap then .node .none ap #[f[0],mkNullNode (f[1].getArgs++as)] else .node .none ap #[f,mkNullNode as]
 let put:=fun(b:Syntax)(as:Array Syntax)=>b.rewriteBottomUp fun s=>match s with
  |.ident _ _ n _=>match ps.idxOf? n with
   |some i=>.node .none `par #[as.getD i s]
   |none=>s
  |.node i k l=>
   if k==ap&&s[0].isOfKind `par then
    let f:=s[0][0]
    more (if f.isOfKind ``Parser.Term.paren then f[1] else f) (s[1].getArgs.map un)
   else .node i k (l.map un)
  |s=>s
 let ex:=fun(tb:Std.HashMap Name (Nat×Syntax))(c:Syntax)=>c.rewriteBottomUp fun s=>
  let spl:=fun(l:Array Syntax)(k:SyntaxNodeKind)=>if l.any (·.isOfKind `spl) then l.flatMap fun x=>if x.isOfKind `spl then if k==nullKind then x.getArgs else #[x[0]] else #[x] else l
  match s with
  |.ident _ _ n _=>match tb[n]? with
   |some (0,b)=>b
   |_=>s
  |.node i k l=>
   if k==ap then match s[0] with
    |.ident _ _ n _=>match tb[n]? with
     |some (m,b)=>let as:=s[1].getArgs;more (put b (as.extract 0 m)) (as.extract m as.size)
     |_=>s
    |f=>if f.isOfKind ap then more f s[1].getArgs else s
   else if k== ``Parser.Tactic.show&&s[1].isOfKind ``Parser.Term.byTactic then .node .none `spl s[1][1][0][0].getArgs
   else if k== ``Parser.Term.explicitBinder&&s[2].getNumArgs==0 then
    let as:=s[1].getArgs
    match s[1][0] with
    |.ident _ _ n _=>match tb[n]? with
     |some (_,b)=>.node .none `spl (put b (as.extract 1 as.size))[1].getArgs
     |_=>s
    |b=>if b.isOfKind ``Parser.Term.forall then .node .none `spl b[1].getArgs else s
   else if k== ``Parser.Term.paren&&s[1].isOfKind ``Parser.Term.typeAscription then s[1]
   else .node i k (spl l k)
  |s=>s
 let mut tb:Std.HashMap Name (Nat×Syntax):={}
 for a in cs[1]![1][3][0][0][0].getArgs do
  let b:=ex tb a[3]
  let b:=if b.isOfKind ``Parser.Term.paren&&b[1].isOfKind ``Parser.Term.byTactic then b[1] else b
  let mut n:=0
  for x in b.topDown do
   if ps.contains x.getId then n:=n+1
  tb:=tb.insert a[1][0][0].getId (n,b)
 let mut au:Array Syntax:=#[]
 let mut o:=#[]
 for c in cs.extract 2 cs.size do
  if c.isOfKind ``Parser.Command.print then o:=o.push (<-`(command|end $(⟨c[1]⟩):ident)).raw
  else if c.isOfKind ``Parser.Command.where then o:=o.push (<-`(command|end)).raw
  else
   let c:=ex tb c
   for b in c.topDown do
    if b.isOfKind ``Parser.Term.binderTactic&& !au.contains b[2] then
     au:=au.push b[2]
     o:=o.push (<-`(command|theorem $(mkIdent (.str (.mkSimple "_root_") s!"_a{au.size}")) (h:True:=by $(⟨b[2]⟩)):True:=h)).raw
   let v:=au
   o:=o.push (c.rewriteBottomUp fun d=>match d with
    |.atom _ v=>.atom .none v
    |.ident _ r n p=>.ident .none r n p
    |.node _ k l=>
     let d:=Syntax.node .none k l
     if k== ``Parser.Command.declaration&&(d[1].isOfKind ``Parser.Command.definition||d[1].isOfKind ``Parser.Command.abbrev)&&d[1][1][0].getId != `lw then d.setArg 0 (d[0].setArg 4 (mkNullNode #[.node .none ``Parser.Command.noncomputable #[mkAtom "noncomputable"]]))
     else if k== ``Parser.Term.explicitBinder&&d[3][0].isOfKind ``Parser.Term.binderTactic then
      match v.idxOf? d[3][0][2] with
      |some i=>(d.setArg 3 (mkNullNode #[])).setArg 2 (mkNullNode #[d[2][0],.node .none ap #[mkIdent ``autoParam,mkNullNode #[d[2][1],mkIdent (.str (.str (.mkSimple "_root_") s!"_a{i+1}") "_auto_1")]]])
      |none=>d
     else d
    |s=>s)
 return mkNullNode o
mutual
#where
def q
|AG=>.ref ε|Υ=>fun ε=>ζ|AC=>(ε:Int)|ψ=>(by omega)|BU=>(ε:Rat)|Δ=>(by decide)|DE=>.int ε|Κ=>fun ε ζ η=> ?_|BI=>ε ->ζ ->Prop|Β=>List Str|DU=>ε X F0 H0 ζ η|HH=>ε b=some ζ|AV=>Υ _ ε|Μ=>decide (ε)|Α=>by omega|EH=>ε[ζ]?=some η|Ω=>.none|ABa=>Inv X pins ε ζ η|Ε=>List D|ω=>∀(K:W.Frag)(c:Cls),_|Sf=>ε ζ (aj η ao)|OL=>ABa σ ε ζ|Ο=>by rw[ε];exact ζ|NB=>cC (DE ε)|Ν=>(cV 0)|D8=>(by trivial)|At=>r.2.1|E3=>(ε:Nat)|GL=>Option ε|AD=>fun ε ζ=> ?_|Φ=>ε ->ζ ->η ->θ ->ι|CO=>.lst ε|Χ=>(qv 0)|C7=>ε ->Prop|C8=>fun _=>ε|Ξ=>fun z=>ε|A9=>some ε|ay=>List (ε×ζ)|Ζ=>List V|AO=>(ε ζ).map|FE=>.Name ε ζ|B8=>EH ε i ζ|AK=>if_neg ε|i7=>OL H ε|A_=>if_pos ε|EE=>ε a=some ζ|Θ=>(cV 1)|BM=>ε<=sizeLine|AL=>r.1|Ff=>fun _ ε=>ζ|Ρ=>(qv 1)|EF=>Sf aj ε ζ|B'=>by obtain⟨ε,ζ⟩:=η θ|Fh=>au ε (au ζ aN)|CF=>by refine⟨ε,ζ,η⟩|JJ=>(hr.mono Δ)|A7=>by exact ε|C9=>ε x=some ζ|Ψ=>(by simp)|Ι=>i7 s|AY=>if ε then ζ else η|FF=>fun b ε ζ=>η|GM=>cB ε ζ (NB η)|JO=>ε z E cx|ABb=>ε P w K mg base ζ η θ ι|Fk=>(AG f)|ABc=>{cls:= ε,data:= ζ}|AI=>.ref a|BO=>by refine⟨ε,ζ⟩|Bz=>by simpa using ε|AA=>List Rat|GN=>ε=false|Η=>by have ε:=Hd.ix B ζ rfl|OM=>by decide+kernel|Τ=>List Value|FG=>ABb cD ε ζ η (θ c)|DV=>(model prog w)|AZ=>ε P w K mg base c|Lv=>ε K F0 H0 ζ|P5=>bN (AV ε) ζ η|DZ=>ε (ζ :=η) (θ :=ι) (ν:= ξ)|BD=>by obtain⟨ε,ζ,η⟩:=θ ι|CA=>DU QE ε ζ|FH=>HH ε o|C_=>z6 (m:=ε)|a_=>Hd.adr (W.nsIn K mainGlobals ε)|B5=>⟨_,ε,ζ⟩|Au=>List α|A2=>p.1|Fm=>fun _ _ ε=>ζ|APt=>ε X.prog X.w|AF=>.non|AQ=>by decide|D1=>.inl ε|Da=>(e::es)|AW=>List Rw|BN=>(ε ζ).length|bE=>{ε with heap:=ζ}|CB=>BU (AC ε)|P6=>C8 Ex|AH2=>ABc (.type ε) (.ζ η)|H_=>ε _ _ _ _|Ch=>show ε from ζ|GS=>mg ε =none|BF=>by rw[if_neg ε]|ABd=>(Ff _ rfl)|i8=>BI ε (C7 ζ)|CH=>eval ε X.env|A0=>by simpa using ε|HI=>Nat ->ε|A3=>.pu (DE ε)|E4=>(X.wsh z)|qk=>fun _ _ _ ε=>ζ|AB=>dM K ε ζ η f fd|Ap=>List Nat|CI=>⟨_,ε⟩|Db=>by obtain rfl:ε:=ζ|Ki=>ε b=none|EI=>hName ε|D3=>by refine z6 (ε ζ)|CC=>by exact ε|BH=>by simp [ε]|BE=>by rw[<- ε];exact ζ|WA=>Same F ε|AJ=>by rw[ε] at this|BQ=>i+1|Si=>(APt model)|qo=>.Call ε ζ [] η|Cl=>AC (E3 ε)|FI=>HH ε u|FK=>aB ε ζ (aV η)|Ì=>ds.length=ε|AR=>List Addr|Kj=>AO List.range ε|i9=>FE x ε|L4=>dB ε ζ ABd|qq=>qk h (ε h)|A4=>by obtain⟨ε,ζ,η⟩:=θ ι ν|As=>GN (ε==(ζ :Str))|BA=>by show CF ε ζ ?_|AH3=>wpAny ε A ζ Q E s|Í=>fun ε ζ E=>η Γ (fun θ ι=>ν) E|CU=>by refine⟨ε,ζ,η,θ⟩|AE=>by nofun|AX=>(cV 2)|L5=>GL Value|bP=>ε K c (fin Q) ζ P6|JP=>⟨F,Γ,_,R,h,ε⟩|An=>List Int|Fr=>ε a=none|IA=>Κ b ε ζ|bS=>Lv SR ε ζ σ η|AM=>F.binds fun _ _ _ _ _ _ us hl=>ε|B9=>(AG a)|AH=>∀{c:Cls}{ds P E}(h:ε c ds P E),_|Ab5=>fun cdv A outer s H E hr F0=>ε|CY=>.inr ε|AN=>ε F ζ (qq η) (Ab5 ⟨θ K c,ι,ν⟩)|ON=>ε pins s σ H|BCP=>∀{ds Q Ex}(h:ε c ds Q Ex),_|ET=>.ref C|BV=>z7 (α:=_)|GT=>fun _ ε=>ζ|OO=>fun i ε=>ζ|qr=>Nat ->ε ->ζ|E5=>∀b,ε ->ζ|WB=>List (List ε)|Be=>ε (X:=X.wsh z)|AS=>by have hu:=ε hr|AT=>∀{K:W.Frag}{c:Cls}(BCP ε),_|AU=>fun ds Q Ex h=>ε h|IL=>⟨ε,ζ,η,rfl,θ⟩|A1=>by simp|Kk=>.type ε|AH4=>AG (a_ ε)|BG=>(qv 2)|BS=>(i+1)|L6=>r.2.2|B2=>Ο ε ζ|E6=>⟨ε,[]⟩|A5=>List Expr|OP=>W.mg_of X G ε|GU=>if ε= ζ then η else θ
|L7=>.builtin ε|DF=>by rw[if_pos ε]|JS=>aM K F ε ζ|NC=>bP ε (aG ζ ds)|BCh=>DZ ε P ζ w w base base|i_=>BI ε Hp|ND=>BCh ε l.prog|B1=>.no|A8=>⟨f,fd,ε,ζ,η,θ⟩|bX=>Κ ε s1 ζ|bc=>B8 ε x|GV=>upd H ε ζ|A6=>mg ε =some Fk|OQ=>(by rcases zV.mp ε with ζ | η)|OR=>bE s ε|bi=>L4 ε aP|JU=>au ε aN|WC=>by obtain⟨ε,rfl⟩:=ζ|B6=>List Row|Sj=>cA ε JJ rfl ζ|BB=>by obtain⟨ε,ζ,η,θ⟩:=Hd.fun_at ι|Î=>cA ε JJ rfl ζ|Cn=>ay α (β×Int)|q_=>ε X.K F0 H0 ζ|BC=>by show B' ε L Hd.seen_cons L|B3=>by exact .inl ε|IM=>EE H ε|DH=>fun ds P _=>ε|bq=>fun ε H1=>ζ|Cb=>by obtain⟨ε,ζ,rfl,η,θ⟩:=ι|E7=>⟨rfl,ε⟩|P7=>fun b o ε ζ=> η|Ï=>(ε rows ζ).length|B7=>Str ->L5|DA=>fun j=>ε|EU=>(AG C)|FL=>(ε ζ η).trans|i'=>(match ε with | ζ=>η | _=>False)|IN=>⟨_,ε,ζ,η⟩|IO=>(ε).toNat|CL=>fun i=>ε|De=>List Key|Fs=>by simp [ε]|NE=>(eO P w)|EJ=>if ε=true then ζ else η|Co=>.int i|Kt=>(.dK kvs)|IB=>⟨ε,ζ,rfl,η,θ⟩|Sk=>#[fO (i:=ε) nd rfl D8 ζ]|rL=>.Attribute ε ζ η|EV=>starEach ε X.env|EW=>(false,ε)::ζ|br=>bS ε ζ Γ|AH5=>qr Nat ε|BDU=>show(ε:Β).Nodup by show OM|DI=>fun h=>ε|ABe=>ay Str ε|Ð=>{ε with heap:=ζ,toks:=η}|B_=>.nil|GW=>FF o e ε|BY=>_::_|Do=>fun ε ζ η θ=>by obtain⟨F,Γ,ι,R,h,k⟩:=ν;exact ξ|D9=>∀r∈rows,ε|Bi=>by unfold ε at h|Bn=>by cases h|IP=>(by rfl)|DJ=>by exact .inr ε|JY=>by exact False.elim ε|FM=>fun b hb=>ε|FR=>(k+1)|WE=>BM (E3 ε)|Ct=>WA F'|AH6=>qo ε ζ pos|Fu=>AH3 DV ε|By=>∀(_:Cls),_|IQ=>∀b∈ε,ζ|DB=>by rw[ε,ζ]|C3=>X.calm=true|D4=>(zO _)|ABf=>(aV st)|FS=>Q (AG ε) ζ|B4=>A_ rfl|Sl=>P5 ε ζ aP|rS=>kW rows w|L8=>Í Γ P ε ζ Γ1 η|GY=>ε (fun ζ=>η)|Gc=>by rw[ε];rfl|IR=>#[bV #[ε]]|L9=>fun b hb=>ε|EK=>by rw[List.length_map]|Dx=>BI ε Shared|CS=>by show BO ε ?_|Ab6=>backTo ε (starEach ζ X.env)|bv=>At∈ε|DL=>fun ε ζ η θ ι=> ?_|CM=>(cV 3)|Sm=>s.2.1|rV=>DU ε ζ t|CD=>α ->Rat|DM=>P ε Γ1|L_=>by show WC t ε|ABg=>JP (fun ε Γ1 F1 H1 ζ R1 s1 r1 h1=>η)|NF=>(NB 1)|C4=>f a|DO=>Str ->Rat|D5=>CI rfl|Kx=>Υ ε (ζ - η)|rX=>BU (Ï ε ζ)|bz=>(s1.heap.objs.size+1)|DS=>(JO ha)|F6=>by exact absurd ε ζ|F7=>Î ε (Fh ζ η)|WF=>Ð s ε ζ|Sn=>⟨o,ε,ζ⟩|EX=>fun ε ζ η θ=> ?_|EZ=>List Bd|D6=>AC n|Cc=>AC k|Go=>FK ε [ζ,η] θ|F8=>Kj n|jI=>rL ε ζ apos|jS=>ON ε _ I h|Cf=>by obtain⟨_,_,rfl⟩:=len2 hl|re=>⟨ε,g,d,ζ,os⟩|DC=>by cases this|C5=>by split at h|DT=>(qv 3)|NG=>absurd ε (ζ η)|So=>Sf jm ε ζ|IS=>(EI 0)|FU=>by show CU ε ζ η ?_|EL=>Array Value|C6=>a::l|Jn=>Sj ε (Fh ζ η)|WG=>eval ε X.env|AH7=>.bool false|OS=>z9 _ rfl|b9=>List.getElem?_eq_getElem ε|HK=>if ε then ζ else 0|HL=>∀{ε :ζ},η ->θ|Ñ=>C9 ε c|DD=>Ì 2|ABh=>(AH4 "Sitting")|J_=>ε (X:=X.wsh z) (ζ:=η)|NH=>absurd ε ζ|NI=>DU QS ε ζ|WH=>q_ SR ε ζ σ η|D_=>AK q|D'=>A_ q|J'=>(bH _)|WI=>upd H1 ε ζ|D7=>by have ε:∀ζ∈η,θ:=fun ι ν=>ξ|rq=>GM cI ε 1|APu=>by obtain⟨_,rfl⟩:=ε|EA=>List β|EB=>(cV 4)|OT=>BU (E3 ε)|EC=>Φ ε ζ η (θ) ι|AH8=>rV QA ε|G0=>aC (ε c) (EF ζ η)|BEu=>#[.ref ε,Ω,Ω,Ω,ζ,Ω]|K0=>ε P w K mg base ζ η θ|EM=>fun ε=> ?_|FV=>by obtain⟨ε,ζ,η⟩:=h|b_=>.fields ε|F9=>if_neg (ε)|KA=>ε (i:=ζ) (η:=θ)|WJ=>X.mg ε=none|Ee=>cB cM ε ζ|HP=>cB cI ε ζ|WN=>AC ε≠0|Sr=>Sz 4000 ε|K2=>by show OQ ε rfl ζ|ja=>aF K c.ak ε|Ab7=>i8 D D|F_=>JS ds vs|ED=>br F H
|K_=>(ε b hb).1|AH9=>BEu ε AH7|AH_=>blk X sc N' ε|L'=>by obtain rfl:=ε|E8=>by grind|K'=>H ε=some ζ|ABi=>ε rows w|EN=>β ->Rat|G1=>B5 ε rfl|KB=>by show D3 ε ?_|Eg=>Uq rows|MA=>OR h'|KE=>(bi Χ)|NJ=>bW ε (bX ζ η)|IU=>fun σ H Q=>ε σ H (bq ζ η)|GA=>(.refl _)|LA=>gD Γ σ b|Su=>[.lst ε]|Ev=>⟨ε,?_⟩|GB=>List Env|E9=>List T|E2=>(qv 4)|LE=>GL Int|OU=>(CO vs)|P8=>∀b∈ε,ζ|IC=>(i9 npos)|E_=>bc X.N|LG=>Sk ε #[ζ]|OV=>AH5 Int|EG=>D ->Ab7|ABj=>(Ab6 ε ζ).any (·.1)=false|OW=>cJ Γ σ H b|LH=>.free|KF=>fun r=>ε|NL=>⟨ε,rfl,ζ⟩|HQ=>by rename_i q|LJ=>by rfl|IY=>(by show OM)|EO=>by exact h.elim|MB=>s1.heap.objs.size+1|P9=>ε (ζ:=η) (θ:= ι) (ν :=ξ) (ο :=π)|jb=>mC ε ζ=true|HR=>by have:=ε;omega|NM=>P5 nu ε ζ|NN=>AH2 ε fields ζ|G_=>H_ k.nx|EQ=>by intro pins s σ H Q I h|MC=>by refine z6 (ε ζ η ?_)|WO=>AH2 "tuple" seq ε|ER=>IA u e|IZ=>(ws.map (kW rows))|ES=>by obtain⟨_,_,rfl,_⟩:=h;rfl|P_=>(ε).natAbs|WP=>if ε then ζ b else η|KG=>∀{ε:ζ} {η:θ},ι ->ν|QP=>by obtain⟨ε,ζ,η,θ⟩:=h|Ò=>(ε ζ).objs.size|WS=>fun r ε=>ζ|Ic=>AC i|HU=>H ε=none|NO=>(n+1)|HA=>by by_cases e:ε=ζ|KI=>(zW.mp ε).1|WU=>(by rcases zU.mp ε with ζ | η)|FX=>Ki H|FA=>FF u e ε|MD=>dt rs ε|ID=>WB Str|GE=>IL ε _ ζ η|cE=>z8 _ e|Ó=>ε=pure false|cK=>fun b ε hb ζ=>η|HV=>(-1)|GG=>by rw[ε] at ζ;cases η|Ô=>wpAny Si X.A ε ζ X.xe s|APv=>DecidableEq ε|ME=>(ε).length|HZ=>fun w=>ε|FB=>by by_cases q:ε|Hb=>Υ z ε|cS=>BU ε.2.2|FC=>Nat.zero_le _|LL=>FF ε q ζ|QQ=>FG ε ζ [η] θ|NR=>(D1 rfl)|MG=>x At|OX=>E5 ε (ζ b=η b)|LM=>i_ St|Õ=>GM cI ε 0|APw=>W.findIn K ε ζ =some (A9 η)|cc=>Inv ε pins ζ η θ|Id=>fun ε ζ P hp=> η|FD=>oR (rZ ε)|LN=>(fM s b)|ABk=>bB X.prog X.w ε ζ η θ|r6=>k _ _ F H (Gr.refl sF) ε ζ|FY=>#[tL]|ABl=>by cases z|Iq=>(ε ζ).trans|S4=>by rw[ε ζ];exact η|NS=>fun i ε=>ζ|OY=>OL (GV ε ζ) η|MH=>by obtain⟨ε,ζ,η,θ⟩:=id ι|Hc=>by by_cases q:ε=ζ|Ö=>Hd.adr (W.findIn K ε ζ)|Fc=>∀(c:Cls),_|He=>b≠a|ABm=>ε+1<cLine|AH'=>d9 (i:=ε) (BDU ζ) rfl D8|ce=>GT _ False|cf=>by by_cases hb:b=ε|Ø=>(.frz oe (gW a C))|Hk=>Gl X x|S_=>(eU NE P w K mg base N qual ABf f cdv A outer s H E)|ABn=>["self",ε]|HC=>zO _|ABo=>.type "list"|TC=>EE h.get? ε|AIA=>CA ε te|QU=>by rw[q] at e|TD=>mg ε=some (AG ζ)|Ù=>(ε rows ζ).map|jn=>Cl (BN ε ζ)|r8=>i' ds ε ζ|r9=>IO (AC ε)|jp=>bG (gj e ε)|WV=>cH (fun ε ζ=>η) θ|GH=>show ε=ζ by omega|LO=>Rep K F d v|GI=>d9 (i:=0) (BDU ε) rfl D8|ci=>.cell|LP=>[AI]|Ix=>⟨ε,ζ,rfl⟩|MI=>by obtain⟨u,ε,ζ⟩:=η|js=>by obtain⟨ε,ζ,rfl,η,θ,ι⟩:=ν|ABp=>s1.trans ε|Hm=>List Pt|OZ=>fun v ε=>ζ|WZ=>HH H ε|ML=>EH ε j ζ|NU=>.pu (.str ε)|IE=>GL Addr|ck=>by show ε;omega|Ab8=>show ε by decide|Of=>B5 rfl ε|MM=>fun b u ε ζ=>η|TH=>x Sm|KK=>GS "len"|AIB=>List (Option ε)|jv=>qo ε ζ cpos|j_=>(a::bs)|HE=>aq l f|r_=>(ks.zip vs)|HG=>AD b hb|cn=>∀b o,FH ε ->ζ|cq=>[a,b]|AIC=>ε=vs.length|Hn=>by have ε:=ND ζ c η (OP θ) ι|TK=>(ε ζ).push|j'=>Υ b ε|QY=>Υ r ε|Qb=>BU L6|LS=>.ref l|IF=>(ε ζ η).length|Qr=>Ο ε q|Q1=>C7 Ε|cr=>(match ε with | ζ=>η | _=>false)|ABq=>Apart σ ε ζ|Iy=>zJ e|ABr=>Í ε Γ ζ η Γ1 θ|I_=>#[bV #[fH #[ε]]]|cy=>ε I.hok e|sA=>So oN ε|Ú=>Ñ X.env.cells.lookup|Ab9=>ε=Value.ref a|MO=>i8 Ε Ε
|We=>(ε b hb).2|cz=>ε pins s1 σ H1|BGd=>pP (AV ε) rfl aQ boot_len (au ζ aN)|Ab_=>Ctx E4 F0 H0 E|ABs=>by obtain⟨o',ε⟩:=ζ|sB=>Ne.symm ε|Q3=>Κ ε ζ e|Wp=>Same F1 ε|LT=>(JO hb)|NV=>C_ (ε _)|c0=>.refl _|On=>HI Nat|IG=>CC h|II=>Ì 1|LU=>by refine⟨ε,ζ,η,θ,ι,ν,ξ,?_⟩|IJ=>by refine z6 (ε ζ ?_)|kA=>∀x∈ε,x∈ζ|W_=>ε b o e|LV=>ji fun ε _=>ζ|APx=>hb (Fs ε)|W'=>by refine C_ ε (ζ ?_)|TL=>(ABi bY)|JA=>(by rcases ε with z | z)|kB=>Sf aC (ε c) ζ|Û=>cF s x|AIE=>Ab8 (WN ε)|Q4=>∀b u,FI ε ->ζ|AIF=>rR (j:=ε) rfl|MQ=>⟨ε,ζ,rfl,η⟩|JE=>by ·rw[ε];exact ζ|MR=>fun ε ζ=> ?_|Op=>(ε&&ζ)=true|kC=>by rw[ε,ζ];rfl|sC=>σ.set i ε|MS=>GM dO ε ζ|Os=>H_ k|kD=>by show Db (Ab9 ε) ζ|c8=>h∈s|TM=>bc xs|JI=>A.handled=none|Oy=>∀b o,ε ->ζ ->η|KL=>RelV y u|LW=>RelV v u|O0=>∀h∈m,ε|AIH=>CO (ε .str)|LX=>AH8 Da|Ü=>.ins C dx ε|XA=>P7 e n ε|TN=>(z8 _ e)|Q_=>aj ε ao|NW=>∀{K:W.Frag},_|Ý=>BGd vX ε|BG'=>fun _ _ _ _ _ _ q=>ε|KM=>by rw[show ε from ζ]|sD=>⟨ε,rfl⟩|O_=>by simp [ε,ζ]|LY=>(by grind)|XB=>by rw[ε,ζ];exact η|LZ=>Υ h ε|RA=>AC 0|NX=>.pu (CO ε)|RC=>Ξ ?_|sK=>.inl (D1 ε)|Lc=>(JO he)|NY=>P (DE ε)|XE=>.bl _|c9=>x h0|AII=>A0 hb|kF=>Ki F|KO=>by refine z6 ?_|MT=>WB α|TU=>cP i|TZ=>.tup [ε,ζ]|sL=>(bi Ρ)|PD=>(JU Χ)|kG=>i' d ε ζ|c_=>.int ε 0|APy=>WE 2|Tb=>IQ fp ε|Th=>∀b u,ε ->ζ ->η|ABt=>Rep K F' ε ζ|Na=>by show APu (len1 hl)|Nc=>qO X.env.scope x|KP=>e _ _ ?_|KS=>by have ε:ζ:=fun b hb=>η|KU=>∀j,j<ε ->ζ|dA=>∃r∈rows,ε|ABu=>wpAny Si X.A ε ζ η θ|APz=>fun ds P=>ε|KW=>by have s1:=yd|Kb=>∀{K:W.Frag}{F:Hp},_|MU=>(ofM rows m)|dC=>by show EJ ε _ _|RE=>ABg ds vs ε|Þ=>ε (aC (ζ c) (EF η θ))|Nd=>(fr t b).2|AIJ=>∀z E,Ab_ ->ε|BHZ=>(AH_ C s₀ H₀ fp)|AIK=>ε P w K mg base ζ η θ ι (ν c)|Nl=>.cons|sN=>fun c=>ε|Tk=>∀{ε:ζ} {η :θ},ι ->ν ->ξ|PF=>by obtain⟨ε,e⟩:=ζ|ß=>⟨fun ε=>ζ,η⟩|XG=>(ε ζ).toArray|PH=>ε (Ο ζ η)|MV=>fun c ε=>ζ|Ll=>K.In h|MW=>BU m|PM=>.ref p|dE=>DU QN ε ζ|à=>OL H' ε|AP0=>(CO [])|á=>Same ε H'|sQ=>Γ.set i ε|PP=>P (.bl ε)|sR=>rows[i]|ABv=>bE s' ε|ABw=>Ch (ABk ε ζ η θ) ι|Lm=>by obtain⟨F,Γ,P,R,h,k⟩:=ε|Lo=>NC ε 2|RF=>(.tup xs)|Nn=>by show Db (ε=ζ) Α|RH=>(ε).up Δ|No=>IB ε vs ζ η|AIL=>s.heap.get? ε=some o|â=>AH6 (FE ε p) ζ|AIM=>#[bV #[fH ε]]|Lu=>x::xs|PQ=>by show L_ rx|sT=>c::post|AIO=>C9 ε .local|sd=>by refine bW ε (Κ ζ η θ)|dL=>(.frz o Kt)|dP=>fun a ha=>ε|AIP=>ABj pos es|kH=>h0∈rS|se=>fun a b=>ε|ã=>seqObj "list" ε ζ|XI=>fun p hp=>ε|sf=>cK o e ε|MX=>α×β×Int|ä=>jb a b|AP1=>⟨ε,iter,ifs,0⟩|PR=>(fr t b).1|å=>by rw[List.length_map,ε]|PU=>by obtain⟨ε,ζ,q⟩:=η|MY=>by refine .inr ε|MZ=>by rw[ε]|dQ=>by cases ε|XL=>by exact_mod_cast ε|Mb=>by show OM|Mc=>List Stmt|dS=>.bool ε|Nw=>(ε ζ).symm|Md=>by exact⟨ε,ζ,η⟩|N0=>fun ε _=>ζ|RI=>(AG x)|Me=>BU 0|da=>BU b|kK=>DU QF ε ζ|sg=>HH ε ob|dc=>EH ε q ζ|Mm=>GL V|kL=>(A9 v)|kM=>(A9 B9)|æ=>B8 ε v|Tl=>BM xs.length|AP2=>A7 (ε (A7 ζ))|ABx=>aq ε (Kx s (cS s) ζ)|Tm=>FH s.heap.get?|Mn=>ps[i]|Mo=>by intro _;rfl|si=>FG ε 1 [ζ,η] θ|PV=>E7 rfl|My=>by have ε:ζ≠0:=Ξ η|M3=>i8 Ε D|di=>GW cE|AIQ=>AH2 "list" seq ε|ABy=>Fu (ε (AG ζ))|kN=>Sl qT ε|XN=>bv m|RO=>by refine⟨ε,ζ,η,θ,?_⟩|N1=>(rq Ν)|PY=>.leaf d|AIS=>[.int ε,.int ζ]
|dk=>bC K ε ζ=true|PZ=>by have ε:(ζ η).get? θ=some ι:=ν|Pc=>by show BD ε ζ rfl zF.mp η|AIT=>jR X (compareOp .ε) ζ|dl=>aM X.K ε ζ vs|M_=>t::ts|Pe=>ε b u e|M'=>by show BD u rfl rx vals1 r|RR=>aF X.K C f|AP3=>Int.gcd μ d|RS=>(Υ y (APx y))|sj=>[.Call ε ζ [] η]|Ab'=>ABc ET (.fields (AH9 ε))|AcA=>{ε with nx:=ζ,ct:=η,bk:=θ}|NA=>by subst hP hw hK|dq=>#[d9 (i:=ε) nd rfl D8]|AIU=>s.heap.push ε|kP=>Str.ofString ε|ABz=>.function|To=>by obtain⟨rfl,ε⟩:=ζ|Ts=>by obtain⟨o,ε,ζ⟩:=η|N3=>⟨o,ε⟩|N4=>by unfold ε at e|ç=>P.below ε|AB_=>by simp at ε|N9=>by subst e;exact ε|Tu=>DU QT ε ζ|kQ=>.int L6|XT=>C8 False|sq=>.inr (CY ε)|Pf=>Nat ->Rat|AcB=>("self" :Str)|sv=>FH h'.get?|dr=>bY rows w|kR=>(.dK r_)|Tx=>P (qD ε)|è=>by have:=ε;rwa [ζ] at this|é=>NJ ε ζ hz1|RU=>fun r hr=>ε|RY=>(AY ε ζ η)=some u|ê=>∀s∈S,ε|Rc=>Vals xs us|Ty=>WF h' tk|ë=>kZ (k:=ε)|N_=>by show cf a|OA=>by obtain⟨x,H1,I1,r1,q1⟩:=ε|ì=>(nZ qs)|Pi=>AIA e|OB=>∀(qs:AA),_|OC=>Pm n p|kT=>ε _ _ _ _ ζ|AIV=>W.mg_none_of X G ε|OE=>(by rcases ε with h | h)|AP4=>.obj C' fs ds|Re=>wpAny_field ε ζ (x:=η)|OF=>∀(I:Ι),_|AP5=>(jI e "values")|AIW=>(lV qs).getD|du=>cC (.str (Str.ofString ε))|OG=>#[qL ε ζ η J']|dy=>.pu (eE rows)|Rl=>Sat lt n ε ζ|T0=>c7 rows x r|AcC=>ε ->BI Hp VK|OH=>by show B' ε M zA M|AP6=>nQ ε (nQ ζ BJ)|T1=>AH2 "dict" dict #[]|AIX=>(L9 (k b (zX _ hb)))|OI=>fun z E cx=>ε ζ (Do η σ H θ D2 ι ν)|OK=>Μ (W.nsIn K mainGlobals ε =some none)|AP7=>∀C s₀ H₀ fp F0 H0,ε BHZ F0 H0 ζ η|í=>Value ->ε|T_=>.int|î=>⟨ET,ε,ζ,η⟩|T'=>by obtain⟨ε,ζ,η,θ⟩:=ι;exact ν|kU=>by rw[ε] at ζ⊢;exact η|XU=>Υ j ε|ï=>Υ i ε|Rs=>AC 1|AIY=>BU t|d4=>I.hok ε _ ζ|ð=>Hd.fnO K ε ζ|Pl=>by show B' ε ζ Hd.fun_of η|AIZ=>Fh ε aP|sw=>(model P w)|ñ=>b≠0|d5=>P5 vW ε ζ|XX=>FH h.get?|R_=>ws[i]|d6=>PE X (.ε ζ η pos) θ|kX=>HI D|AB'=>HI Row|AP8=>FI h'.get?|UA=>Fr F'|SA=>.tup xs|ka=>by unfold ε;grind|AIa=>E6 ce|ò=>FG ε 2 [ζ,η] θ|ó=>IM u|Po=>by intro pins s σ H D I h|AIb=>bG (gj q ε)|kg=>IR (fO (i:=ε) nd rfl D8 ζ)|XY=>ay κ V|ACG=>NH ε Ψ|AIc=>∀a∈l,ε|AP9=>ε (t' :=s.toks)|Pp=>by refine⟨ε,ζ,η,θ,ι,ν,?_⟩|Ps=>by have hl:=rv.length|ki=>Μ (ε K (a_ ζ)=true)|AcD=>(.own bz)|AId=>re h (t+1)|UB=>jO rs|SB=>ABm X.A.units|kl=>dF X (L7 ε) ζ|d_=>(ABp s2)|AIe=>fun σ H Q=>ε|Pw=>bV #[fH #[ε]]|ACH=>ABq Γ ε|XZ=>ABr D ε ζ η|P1=>aU ε (aC (ζ c) (EF η θ))|P2=>(AV (qb hu))|ô=>∀r∈rows,ε|eA=>ε σ H1 fun ζ H2=>η|km=>(0,0)|ACI=>APz (r8 ε ζ)|SC=>frs X.stack|P3=>nC P w H h|P4=>L8 t ds ε|SD=>CA a ta|AP_=>fk S n bs ε|AP'=>∀x c,Ú ->ε|UC=>Lean rows ms x|AcE=>J_ tH i i ε hv hd hcd|s0=>fun a=>ε|Xs=>⟨r,ε,ζ⟩|X0=>by obtain⟨ε,ζ,e⟩:=η|SE=>∃ε:Int,ζ|SG=>(by rcases ε with ζ | q)|SH=>by split at h1|ko=>h.get? ε=some ζ|s_=>ε (z ▸ ζ)|kq=>if_pos (ε ζ)|SI=>AC j|eB=>AC AP3|kr=>BU s.length|X2=>.ref s.heap.objs.size|SK=>Κ h' ε ζ|õ=>Μ (W.findIn K ε ζ =some none)|UD=>Lp lt p ε ζ=true|UE=>.int _|SL=>Sf pF ε ζ|UF=>AK Bool.false_ne_true|ö=>GM fJ ε ζ|SO=>(JO h)|ku=>C_ (ε _ _)|ky=>WA F1|tF=>AH3 Si ε|UH=>.tup [ε,ζ]|SS=>iw (A7 ε)|ø=>a::bs|kz=>OO H ε|AcF=>by show ε;decide|UI=>by unfold ε;rw[ζ,η]|ACJ=>z8 _ q|eC=>by show DF rfl|ST=>NC ε 4
|eD=>l.getD ε 0|UK=>LB rows|UM=>DH (∃(ε:ζ) (η:θ),ι)|UN=>ABe NameKind|X9=>bG hb|eI=>v= AI|SU=>b9 hi|SV=>d::ds|ù=>∀a∈as,ε|k7=>iB X.K C|AIf=>Su xs|ACN=>re h t|SW=>by refine⟨ε,ζ,η,θ,ι,?_⟩|AQA=>Ô ε (ζ X pins σ Q)|ú=>(xH st)|X_=>Fm q q|YA=>AIB Rat|eJ=>AIC ks.length|k8=>(j::cs)|tI=>.tr as ε|YE=>(AH6 (i9 p) Da)|SY=>(I.ok.hd hc)|SZ=>aW (dW ε)|û=>rX bY w|eK=>fun j hj=>ε|YI=>∀(he:starEach Da X.env=EW (CH e) (EV es):=by rfl) (hpl:AIP:=by rfl),_|Sb=>by refine ε (bW ζ (bX η θ))|Sc=>by have e' :ε:=e|eL=>ε fun o e=>ζ|eP=>Gr F H F' H'|k9=>AIJ (ε E4 ζ (q_ η t E))|UO=>IN OS rfl rfl|ü=>(ms.take i).flatten|eQ=>[AcB,a1,a2]|YN=>∀(K:W.Frag),_|Se=>by obtain⟨_,rfl,_⟩:=h;rfl|ACO=>IL ε H I ζ|AIg=>aM K F' ε vs|k_=>(apos.endLine==cpos.line)=true|UP=>(.ListComp elt [AP1 tg] sc pos)|ACP=>by obtain⟨hp,g,d,tk,os⟩:=ε|AQB=>(Lv SR F H σ Γ)|YO=>attributeBase e ε X.env (WG e)=CH e|AIh=>Hd.adr_of ε|UQ=>nomatch e|UR=>fun b=>ε|US=>fun x=>ε|UT=>by subst this|ACQ=>by rw[List.length_map] at ε|tJ=>ε<sizeLine|YR=>by rw[ε,ζ] at this|AcG=>by obtain⟨_,rfl,_,ε⟩:=ζ|UU=>by apply List.ext_getElem|AIi=>Obj.mapSeq ε|UV=>by kernel_rfl|ACR=>h'.get? ε=some ζ|YU=>fun ε s' =>ζ|YV=>(cV 5)|UX=>List.getElem?_eq_getElem h|tN=>BU j|UY=>BU l.length|AIj=>BI Nat ε|UZ=>by rw[List.mem_singleton.mp ε]|Uf=>(s.heap.objs.size+1)|AQC=>I.tok _|lI=>.inr x|tP=>B8 Γ ε|lL=>EE ε o|ý=>(I.tok _)|U1=>by show BO ε (AD ζ η)|AIk=>(List.nodup_cons.mp ε).1|AIl=>CA (.ε ζ η pos) θ|eR=>by have ε:ζ<s.heap.objs.size:=η|U2=>.str _|lP=>GS "list"|U_=>by show BA _ ε|YY=>AH3 M ε|eh=>Fr H|U'=>by rw[AK ε] at h|Ya=>Array Nat|lS=>OO hi ε|Yf=>GU i ε ζ η|tS=>(L7 id)|Y1=>(JU Ρ)|tT=>P7 ε ζ ?_|Y2=>b∈as|tj=>h'.get? ε=some o|VA=>by show JY hq|VC=>by rw[ε];grind|ei=>ay Key V|AQD=>NI (.Assign ε ζ pos) η|BJe=>WI s1.heap.objs.size ε|Y3=>LG ε (F7 ζ η θ)|AQE=>∀x,x∈ε↔ζ|tm=>(l.map qD)|lT=>APv κ|la=>(Õ Ν)|lc=>IsPair ε TO ζ η|VI=>RelV x v|AcH=>Μ (Hd.isRef (W.findIn K ε ζ)=true)|VM=>LD u|e_=>(x h - Û)|Y_=>(sA Ν)|fA=>L2.Cls K c.ak|þ=>wpAny DV A ε Q E ζ|VO=>PE X e te|VQ=>r::rs|lf=>OO j (.int ε)|VS=>Þ aW ε ζ η|VT=>AIM #[qv ε]|fE=>t σ H Q|ÿ=>mj c.ak ε Ν|lh=>yE aA ε Χ|ACS=>cr b ε ζ|li=>Ù bY w|VU=>f::fs|VV=>qD (v w)|Y'=>ABt d v|VW=>(AcE hN)|AcI=>cW ε (A.deeper ζ)|ZA=>AD p hp|VX=>ABg d v ε|VY=>by show dG _ ε _|fF=>(match ε with | ζ=>η | θ=>ι | _=>False)|VZ=>Fm x x|Ā=>KA Gi ε m ζ|AcJ=>Μ (W.isFn K (AG ε)=true)|V_=>ABw _ ε _ ζ η|ā=>bS F' H' Γ'|V'=>(eV ns ε).fmod|Ă=>Bo ε I ζ η S n ep|AIm=>pG knd kf ε o ks es ep t|ZE=>Inhabited ε|fI=>st.1|lj=>h1.1|ă=>by obtain⟨sl,ε⟩:=ζ|ZH=>s.heap.objs.size<=ε|Ą=>#[ε (i:=ζ) nd rfl D8 η]|ZI=>by split at q|AQF=>Hd.adr_of ε|ZN=>List κ|AQG=>s.toks+1|lm=>(AG I)|fN=>(AG s.heap.objs.size)|fR=>AC q.den|ą=>(DE 0)|lr=>H1 ε=none|Ć=>.int j|fS=>(NB 0)|AQH=>bs.length - ε|ć=>(CO xs)|lx=>C8 0|AIn=>.inr (D1 ε)|Ĉ=>FE "self" ε|ZO=>A_ ψ|ACT=>Value.ref a|AIo=>some ci|ZT=>.lst xs|ZU=>.lst ts|AcK=>GN (ε==sysModules)|ZY=>by show BF Δ|fT=>by show BF (Bz ε)|ACU=>Ki H'|tq=>by show D3 ε (ζ ?_)|ZZ=>isW rows w|Zl=>CC n.elim|fb=>BH lu|Zp=>Fr H0|Zs=>.tup [.str ε,ζ,η]
|fc=>.tup (AIS ε ζ)|Z3=>.bl b|ly=>(pA P w)|Z_=>by show DF (Bz ε)|Z'=>NC ε 3|ĉ=>h∈rS|aE=>IB ε _ ζ η|Ċ=>Vals ε us|fe=>AH5 Bool|aI=>ABe V|tw=>eval ε env|ċ=>FM ⟨ε,ζ⟩|ACV=>by rw[ε];omega|tz=>∀h',ε ->ζ ->η|t6=>Sl wC ε|aS=>IA u q|l_=>by have:=ε;simpa using ζ|ACW=>CO (ε .leaf)|Č=>Sn e ε|AIp=>d9 (i:=ε) nd rfl D8|aT=>l.length/2|ACX=>L2.upd H a ε|l'=>Q v H'|BJt=>W.Looks.here (s:=ε)|ACY=>jR X (binaryOp .ε) ζ|ACZ=>WS s' ε|fg=>(c::ds)|AQI=>FL hs.2 b ε|ACa=>Q () s'|ac=>(g i j)|č=>by show ABs e' ε|mB=>Fm _ False|ad=>Int.gcd t b|AIq=>Sem Value|ACb=>aj ε (aj ζ (EF η θ))|fh=>L8 te d ε|Ď=>(L2.upd F2 a Ø)|mE=>lU K H a xs|fq=>(Ý Χ)|t7=>BG' q.elim|ft=>sD t|AQJ=>(zJ e)|AcL=>X.fn x=true|t9=>cW k X.A|ae=>AY ε 1 0|AcM=>AIO X.env.scope.names.lookup|t_=>TR K F' H' ε ζ η|AQK=>(Rat.divInt t b).ε|mI=>r6 IP h|BJu=>["hand",ε,"sheets"]|AcN=>ε (t' :=s1.toks) ζ|fw=>NG ε yV _|uA=>∃t,u=ε|BJv=>Ó (swapsWith ε ζ pos.line X.env)|ACc=>ns.getD i 0|af=>by show kD u rx|mM=>dN (EF ε NF)|ai=>gq s o a|ACd=>ε X F0 H0 tg ζ η|mP=>AP' (c≠ε)|ď=>a==b|al=>by have ε:GS ζ:=AIV η|uB=>dW (gA ε)|AcO=>⟨F1,Γ1,_,R1,ε,ζ⟩|ACe=>by show wpAny _ _ ε _ _ s|Đ=>h0::hs|AIr=>∃m',m' <m/\ε|am=>k _ _ NR e|AIs=>(BJe AcD)|AIt=>Int ->Int ->ε|AcP=>BI Hp VK|ACf=>by obtain⟨ε,ζ,rfl,η⟩:=oX θ|AIu=>by show APu b;exact⟨ε,ζ,η⟩|av=>by show L' b;exact⟨ε,ζ,η⟩|aw=>Ord lt n|mS=>ε Γ1 (fun ζ Γ2=>η) E|AIv=>(upd H2 acc AP0)|ACg=>gZ 2 (bw ε (bw (EI ζ) gY))|f_=>fun x y P=>ε|mT=>ig xs ys|AcQ=>qN x (bY rows ε)|AIw=>ε X.prog X.w X.K X.mg X.base ζ η θ|AQL=>qj ε d es ep|ax=>∀x,foldedSetIterable ε X.env x=pure x|AIx=>{cls:= ABo,dict:=ε,data:= ζ,slots:= η}|gE=>wpAny _ _ ε _ _ _|đ=>.local|uC=>sR.1|gI=>⟨ε,ζ,rfl,η,θ,ι⟩|Ē=>⟨ε,h1,ζ⟩|gL=>by obtain⟨ε,rfl,ζ⟩:=η|uS=>by obtain⟨ε,ζ,rfl⟩:=η|gN=>by obtain⟨ε,ζ,η⟩:=hz1|gS=>show ε from rfl|gT=>(by rcases ε with rfl | ζ)|gc=>by rw[<- this]|AQM=>by with_unfolding_all rfl|md=>by rw[ε,ζ]|me=>(ε ζ).Nodup|gf=>by exact h1.elim|mh=>s.heap.objs.size+1|ē=>fun vs ε=>ζ|ua=>(AG it)|mo=>Υ w ε|ub=>Υ d ε|mr=>F' b|AIy=>Φ ε ζ η (P θ Γ') ι|mt=>(A9 1)|Ĕ=>AK hb|gi=>AK ψ|gu=>Same ε H|ĕ=>EE F ε|AIz=>BM kvs.length|gy=>(Nat.zero_le _)|g6=>.lst _|mv=>P []|mw=>P (CO ε)|AI0=>(Ff _ False)|ACh=>(APt pA)|g9=>HI Int|g_=>WA H|my=>by show AJ e|hG=>.str x|hV=>(i9 pos)|hW=>Array GenState|AQN=>ON h|ue=>aF K C ε|hZ=>by show B3 rfl|h_=>hS b hb|iA=>cP d|AQO=>b∈bs|m_=>ABe Addr|iE=>by refine z6 (wpAny_mono ε ζ η)|Ė=>JS xs vs|iF=>c::cs|iN=>(jS he)|AI1=>C9 ε .cell|ė=>(rq Θ)|nE=>i8 D Ε|iO=>by show KB z7|ui=>(lH w)|AQP=>(qs.map qD)|AI2=>fun σ2 H2=>ε|uj=>RelV x u|iP=>(.ow ds)|uk=>(n,k)|AQQ=>Wp F2|nI=>∀{rows:Cn},_|ACi=>cY f hs|iS=>lW K C=true|AQR=>sp ε ζ fun η=>E Γ1 θ|iX=>by show sd ε ζ s2 η|ia=>by show QU;cases e|ul=>ε X.K H ζ ys|ib=>AP2 JK ε|ACj=>(ε a ha).2|AQS=>.BoolOp .And ε pos|nK=>["hand","sheets"]|nL=>∀l:Au,ε|ic=>(frs X.stack)|ut=>(hn a ε).1|Ę=>mQ ε i=some ζ|AcR=>APw EU ε Fk|ie=>AcC Ζ|ii=>∀(te:cg),_|AQT=>AIb hn|ij=>by show FU (OO Γ ε) ζ ?_|AI3=>AIK Dl c.ak ε ζ η θ|uu=>by with_reducible refine wpAny_loadPart_at ε ?_|nN=>PE X a ta|nX=>PI X tg ε ζ
|ik=>by refine ji (AD r hr)|ACk=>cz ε _ I1 q1|uv=>qQ (AIZ ε)|AI4=>(τ r)|AQU=>D.nx σ H|AI5=>AcI ε (envOfC ζ η s.heap.objs.size f cdv)|AI6=>aq S fun s=>(HK ε ζ)|ng=>CA b tb|AQV=>BJt AId|ę=>Binds K fd ps []|Ě=>TR K F H t v as|AQW=>Gq I hg hm ε|im=>JH (i:=ε) nd rfl rfl|nk=>EP X pins σ Q ε ζ|io=>by obtain⟨_,_,_,rfl,_⟩:=h;rfl|ip=>by show K2 hb hb|iq=>Μ (Hd.isRef (W.nsIn K mainGlobals ε)=true)|ACl=>ε X vs H Q|ir=>(lo+hi)/2|AI7=>sIx items.size 0 lo|AI8=>AcA D ε ζ D.nx|BJw=>[ε,"_law_top","_law_bottom","_law_by"]|AcS=>fun b o e n ε hx=> ?_|AcT=>upd ε bz (.ins C s1.heap.objs.size ζ)|BJx=>BJv value (A9 ε)|i3=>fun _ _ _ h=>ε h|ě=>by show AcG k2 b;exact⟨ε,ζ,η⟩|BJy=>backToKw ε (keywordEach [] X.env)|AcU=>nF X pins H b|i4=>by obtain⟨v,_,rfl,⟨p,vs,rfl,hq,rs⟩,rfl⟩:=rs|AQX=>∀F Γ P,AQB ->(t Γ P E) ->(ε) ->ζ|BJz=>BT n A ε d tb rs fs ix|i5=>P9 ε mg mg P l.prog w w base base|i6=>by obtain⟨f0,f1,f2,f3,f4,f5⟩:=hf it Ψ|u7=>.next|u8=>⟨ε,ζ,h2,η⟩|u_=>fun k=>ε|nv=>by rw[List.map_map]|ACm=>X.s₀.heap.objs.size<=ε|AQY=>by rw[List.getElem?_map,ε] at ζ|ny=>(AG acc)|vE=>(cV 8)|vF=>(cV 7)|n5=>(qv 5)|vS=>by rw[decide_eq_false ε]|n_=>ε (i:=i)|oB=>absurd (ε ζ) η|ACn=>(CO ds)|AcV=>ε K mainGlobals ζ|vT=>i<xs.length|Ĝ=>.inl ⟨ε,ζ⟩|ĝ=>by rw[ε];omega|AI9=>au ε (au ζ (Fh η θ))|AI_=>ε rows AL|oC=>by show CF ε rfl ζ|ACo=>C9 mg ε|AI'=>C9 X.mg ε|Ğ=>some v|oP=>by show BO ?_ ε|oQ=>⟨ε,_,_,ζ,η,θ⟩|ğ=>m.map fun ε=>ζ|oS=>Ì 3|va=>Kj NO|oa=>by show BA ε rfl|Ġ=>(a::rs)|og=>by rw[A_ ε] at h|ACp=>b≠X.env.locals|vb=>(Kk T)|om=>(AH4 "Open")|vc=>(AH4 "Scale")|oq=>fun ds P E=>ε|ox=>h∈hs|AJA=>OR (AIU ε)|oy=>by intro pins s σ H R I h|ACq=>.pu (qD ε)|oz=>Sk ε #[bN (AV ζ) η θ]|o4=>by show DJ rfl|o5=>by show JY hq'|ve=>(by simp;omega)|o6=>bv g|o_=>ay De V|pE=>(jS ha)|ACr=>wpAny_call_entry ε ζ η ?_ (θ _)|vi=>L2.Cls X.K C|pM=>P7 q n ε|AJB=>Pv (BQ)|pS=>Loc X.env.scope x|pT=>KI hi|ġ=>OY s.heap.objs.size ε ζ|AQZ=>ABn "work"|pV=>TC o|pb=>j9 rs f|AJC=>(kW rows)|AJD=>(yW rows)|ACs=>ε A2=some p.2|AQa=>j' (GU b a ε ζ)|AQb=>R1.sl i _ ε|AQc=>(x h - c9)|pd=>We hn|pe=>kA ε U|pf=>dv t b|AcW=>(XO a C none)|AQd=>XO a C (A9 ε)|vj=>∀{rows:AW},_|ACt=>cc E4 σ ε ζ|vk=>x≠ "__name__"|vn=>FK [ε] [ζ] η|vt=>c_ 0|ph=>AIL S|vv=>qt rows x h|pj=>.dic ks ts|pk=>fun c xs ε=>ζ|pp=>CB ε/ CB ζ|pr=>AIT ε (rW X.K ζ)|AcX=>(ç ψ)|pv=>è ε List.length_map|vx=>IU ta x ε|ACu=>[.Subscript ε ζ pos']|BJ0=>ε K F0 H0 t E σ H Q|Ģ=>fun v s1 ε=>ζ|AJE=>Κ r s' ε|ACv=>(ns.map .int)|ģ=>AQA ε EP|Ĥ=>fun b hb u q=>ε|ĥ=>AIg ds|pz=>fun q hq=>ε|p_=>∀{α:Type},_|AcY=>B8 ys y|vy=>(aX.mp hr).1|AJF=>AQE ε (x∈ζ)|AcZ=>ε f ts vs bs AIX h|AJG=>KV kvs vs|qA=>i≠j|Aca=>.builtin "type.__call__" ε|AQe=>AcK a|qB=>(NM KE sL)|AQf=>(gj eb n1)|Acb=>AcN I1.kept ε|AJH=>AcO h1 ε|Ħ=>(ε b u ζ).stay|AJI=>WH F1 H1 Γ1|qE=>bB P w H h a ε|vz=>Array (Option Value)|v4=>(AcQ w)|AQg=>ε∈gk S n bs.reverse ζ|AQh=>∀{l:Au},ε|AJJ=>fun Γ P _=>ε|qS=>qr Ap Rat|AJK=>(vs++ [v])|ħ=>eZ K F H ts vs as|Ĩ=>gG t ε it l i|BJ1=>AP9 I.turned (sf ε) f0 f1 f3 f4 f5|v6=>BJz p
|Acd=>by obtain⟨oc,od,kV,doc,pm,an,cdv,ct,osl,rfl,lk,hcd⟩:=ε|qV=>AcL\/AcM|ACw=>{nx:=ε,rt:=ζ}|qa=>by obtain⟨_,_,_,rfl⟩:=yg hl|qc=>⟨AIE ε,uX Δ⟩|qf=>∀m∈ms,ε|qh=>Array (Int×Value)|v_=>(p AL+q At)|ĩ=>wO rows ms|AQi=>(fs++ [f])|ACx=>(bY rows AL)|Ī=>dN (aj ε (EF ζ η))|ACy=>fH (A7 (iw (A7 ε)))|ACz=>(Jn aR Χ aP)|wE=>sN (iC A k c*ε)|AC_=>fun Γ' =>ε (Γ'.set i B1)|AJL=>fun ε Γ2 F2 H2 ζ R2 s2 r2 h2=>η|qi=>⟨c0,ε,ζ,XA (by rw[e] at n;cases n)⟩|Ace=>ha ε pins s σ H _ I h|ī=>(rB p s i)|AJM=>⟨.type ε,ζ,η,θ⟩|wP=>⟨ε,ζ,η,rfl⟩|wS=>by obtain⟨ε,e2⟩:=ζ|wT=>⟨AIh ε,ζ,η⟩|wb=>rows.length<=ε|AQj=>by obtain⟨ε,_,_,_,e,_⟩:=ζ|Ĭ=>⟨ε,q⟩|wc=>Nat.ne_of_gt ε|we=>by trivial|ĭ=>wpAny_mono ε ζ η|wf=>by cases rx;exact ε|wn=>List Slot|AQk=>(List.range ε).ζ|Į=>Υ a ε|wo=>(cV 6)|AQl=>AC at_|wp=>AC qs.length|wq=>(qv 8)|į=>(qv 7)|wt=>if_neg h|ww=>BU d|İ=>.ref b|wx=>by rw[decide_eq_true ε]|AJN=>HH H' ε|AJO=>Μ kH|Acf=>v.scannable=true|wy=>.int k|ı=>(cC AF)|w4=>by have ε:=ND ζ c η (OP θ) ι ν ξ ο|AC'=>by show å ε;omega|AJP=>B8 Γ1 ε|AJQ=>i7 s'|w9=>by show CF ε ?_ ζ|w_=>(Bz h1)|Ĳ=>#[iw #[ε]]|AJR=>wpAny DV A ε ζ E s|Acg=>A3 (0+ AC ε)|xA=>BH nD|xB=>FI H|AQm=>(i9 ep)|xC=>by rw[jp ε];exact ζ|AJS=>(a::cs)|xD=>Fr F|xE=>(CY h)|ADG=>.bl true|Ach=>.bl (decide (ε))|xF=>(AH4 "Barred")|ADH=>i_ It|ADJ=>cols p|AQn=>Heap.get?_update_other _ _ ε|xI=>h.get? ε=some o|xL=>by show JY h1|AQo=>FS s.heap.objs.size ε|xN=>Gc List.map_map|xc=>congrArg ε e|Aci=>Int.gcd i j|xh=>.dic _ _|xi=>.qJ _ _|AQp=>∀x∈ε,C x|xj=>OT 0|ĳ=>K_ hn|ADK=>(.frz o u)|xk=>ε (t' :=tk)|AQq=>K' ε (.own ζ)|xl=>NL v ε|AQr=>by rw[ε] at ζ;cases η|xn=>by show BD ε ζ rfl List.mem_iff_getElem.mp η|xo=>WO us.toArray|xp=>α ->Bool|ADL=>Ò s.heap.push ε|ADM=>Vals xs its|Ĵ=>(Õ Θ)|ADN=>WF h' t'|AQs=>by obtain⟨vs,H1,I1,r1,q1⟩:=ε|ADP=>dF X (Kk ε) ζ|xt=>IN _ rfl ε|xw=>cn ε (FH ζ)|AJT=>(AH6 (jI o m) Da)|xx=>k ε Ψ _ ζ|ĵ=>R1.g.seq hq|AJU=>(sB hb)|ADQ=>L2.Cls K c.Scale|AJV=>Fm _ LJ|xy=>kB ε Ν|Ķ=>bG (Ξ ε)|AJW=>(pre++sT)|xz=>cY f S|ķ=>(L2.upd H' a Ø)|x0=>vO K H a xs|x5=>cc E4 σ1 ε ζ|x6=>BG' q|Acj=>Value.ref (MB)|x_=>sK gb|AJX=>dA (At=ε)|yA=>∀i,i<n ->ε|yB=>(sQ B1)|yT=>.qJ ks ts|AJY=>oe.data= b_ ε|yY=>Ab' s2.heap.objs.size|ADR=>iZ ds|ADS=>by by_cases hi:i<ε|AJZ=>by rw[ε (Bz hi),ζ] at e|ĸ=>codeAny ε ζ (.call η θ) ι ν|ya=>sq ψ|yb=>B8 σ o|ADT=>é ε us|AJa=>Un ε ζ H η s.heap θ|AJb=>10^ r9 30|ye=>í κ|ADU=>fun o e=>ε|yi=>∀{l:AA},_|yk=>ð (Ö ABh ε) ζ|Ack=>(FE "set" p2)|AQt=>E Γ x|yn=>Pv i σ H|yo=>AIe (BJ0 ε)|yv=>ACH a|Ĺ=>ACI AIf ε|yy=>(hu1 hu)|AJc=>(G3 aP)|ĺ=>(I.hok.fresh (zO _))|yz=>fun σ H Q ε=>ζ|Ļ=>ACO XE ε|y8=>by show ACP s|ADV=>AllBare s'.gens|AQu=>(Bt x)|y9=>∀(K:W.Frag)(C:Addr),_|AQv=>∀u,ó ->ε|y_=>AD q hq|ļ=>AIk nd|ADW=>P_ L6<2^ε|zC=>AcH ABh ε|zD=>∀{K:W.Frag}{F H:Hp},_|zI=>FT (top 71) ε|zS=>AcJ (Ö ABh ε)|ze=>AIm led|AJd=>b1++ (ε++b2)|zh=>AY ε _ _|Acl=>behindInMarks ε b=false|zk=>by show js ε ζ η θ h h|Ľ=>BJu "hands"|zn=>by intro i h1 h2|zo=>fun c hc=>ε|ADX=>bG (Ne.symm ε)|zt=>∀{t b:Int}(h:ñ),_|ľ=>(ε p hp).1|Ŀ=>iK S h|ŀ=>jn l.map qD|Ł=>AcR "__init__"|BJ2=>p.2= LH ->∃c,ε A2=some c
|zw=>.ob C fs ts|AJe=>∃o',HH B.get? o'|ADY=>AcS hb|z0=>by rw[List.append_nil] at hbs|AQw=>ε mainGlobals mg|z_=>∀(hc:C3),_|BJ3=>EH vs ε Value.none|ADZ=>(Ff z ABl)|À=>ε fun r hr=>ζ|ł=>p a=true|AQx=>GT z ABl|ADa=>[Co,.int j]|Ń=>fun x y H Q=>ε|ADb=>(F b).isSome|BJ4=>ε==NameKind.free&&ζ== ABz|Á=>#[yK (au ε aN)]|Â=>AB x qual st|AJf=>dG one (ε f) P|AJg=>fun s3 I3=>ε|Ã=>∀F0 H0,ε|BJ5=>["_law_work","_law_one",ε]|ń=>by subst h1 h2|Ņ=>AC (f j).den|ņ=>(env::outer)|Ň=>qK IP (ε ζ)|AQy=>s1.trans (s2.trans ε)|AJh=>Μ (APw ε ζ (L7 η))|ň=>Μ (key b=key a)|ŉ=>b1++ (ε++b2)|Ä=>#[au ε aN]|Å=>by show OQ ε q q|Æ=>D9 (qt rows x At)|ADc=>(Same F H)|Ç=>aC (ε c) (aj ζ (EF η θ))|ADd=>(jz S n)|AJi=>AIQ ([]:Τ).toArray|AQz=>FG ε 3 ["one","other"] ζ|È=>jU X.N sc own caps X.env N'|BJ6=>(hi _ _ _ q)|ADe=>gK m (a i)|Acm=>ABa σ' H' s'|AJj=>by obtain⟨v,_,rfl,ε,rfl⟩:=ζ|É=>KeyKind prog w κ|Ê=>⟨f,fd,ε,M,ζ⟩|Ŋ=>(rows.map (uZ m))|ADf=>fun D σ H=>ε σ H (bq ζ η)|ŋ=>∀{rows:Cn}{ws:Au},_|AQ0=>sIx items.size items.size hi|Ë=>by intro pins s σ H x y v u Q I rx ry h|ADg=>⟨BE e d0,BE e (d1 _ b1 b2)⟩|Ō=>.NotIn|AJk=>by rw[List.length_map,ε,ζ]|AJl=>⟨ε,kw⟩|ō=>by obtain⟨o,ε,_⟩:=ζ|Ŏ=>by rename_i hb|ŏ=>(by rcases ε with ζ | ⟨⟨xs,η⟩,θ⟩)|ADh=>by rw[e]|Ő=>List Bool|ő=>(by show AQM)|AJm=>by rw[ε,<- ζ];exact η|Œ=>if_pos h|œ=>BU 2|Ŕ=>Rat.inv_mul_cancel _ ε|ŕ=>(DE i)|ADi=>a.2.1|ADj=>(ε b hb).2.1|ADk=>(s₂.heap.objs.size+1)|Ŗ=>.int b|ŗ=>OL H1 ε|AQ1=>some b|AJn=>ε (rows.map ζ) η|Ř=>GL D|ř=>(CO ys)|AJo=>C7 Ζ|ADl=>Ξ (ε (ζ z))|ADm=>EE H1 ε|Acn=>ε i Str.empty|Ś=>C9 bootBuiltins ε|ADn=>GM cM ε ζ|ś=>j≠0|Ŝ=>d≠0|ŝ=>(Bz e)|ADo=>P5 GJ ε ζ|Ş=>fs[i]|ş=>Qu _ _|Š=>.kt _|š=>.exc _|Ţ=>.ptr _|AJp=>GS "sorted"|ţ=>by refine BV ?_|Ť=>.tup ds|ť=>WB Int|AJq=>(Kk "BaseException")|Ŧ=>by unfold ε;rw[ζ]|ŧ=>NC ε 1|Ũ=>i_ Bool|AQ2=>h∈m|ũ=>i2 b hb|Ū=>W.hideAll_get _ ε ζ|ADp=>ABe Value|ADq=>(j - 1)|ū=>(.bl false)|ADr=>bG (gj (ε b u e) ζ)|Ŭ=>Ab6 pos ε|ŭ=>by show F6 rfl ε|Ů=>Sn ho ε|AJr=>Go ε "self" ζ η|ů=>Jn bR ε ζ|AJs=>d::post|Ű=>by refine bW ε (bX ζ η)|ADs=>AH8 [a]|ű=>WJ x|AJt=>G1 OS|Ų=>α ->D|ų=>APv α|ADt=>f At|Ŵ=>Id ε ζ ?_|ŵ=>S4 bG ε ζ|Aco=>(ws.map .inr)|Ŷ=>(hs.map .inr)|AQ3=>(z7 ?_)|ŷ=>j9 rs (DA ε)|ADu=>iB K C|Ÿ=>ck APy|Ź=>MM ε ζ ?_|ź=>(p::cs)|Ż=>(r::rs)|ż=>Qr AQT|Ž=>AIF 0|ž=>AIF 1|ſ=>zH h1|AAG=>qm ts|AQ4=>(sC none)|AAH=>(List.length_filter_le _ _)|AQ5=>(Ü fs)|AAL=>dH qs|AAP=>AL=w|AAQ=>cB fj NF ε|AAR=>kG AP4 ε|AJu=>ABu ε ζ X.xe η|ADv=>K.In s.heap|AAS=>ß ε ζ (fun η=>θ)|AAT=>à s'|AAV=>ABv h6|ADw=>plainId_quiet ε _|AJv=>(dS true)|AAX=>ABy pyNext ε|AAZ=>dq 2|AJw=>kP "__next__"|ADx=>(X.hand a)|AAa=>10^ r9 12|AAb=>k::ks|AJx=>W.isFn K Fk=true|AQ6=>AP_ k|AAc=>["left","right"]|Acp=>(ps.map zu)|ADy=>PS X (.Assign ε ζ pos) η|AAd=>õ ABh ε|ADz=>AD r hr|Acq=>EE H' u|AD_=>zy rows ws|Acr=>by unfold ε;rw[ζ];rfl|AQ7=>qD (x h)|AAe=>comb ks rs j|AD'=>r∈rows|AAf=>by show ACQ hl|AAg=>⟨Α,Α⟩|AEH=>(AIY/ CB n)|AAh=>(WI a AcW)|BJ7=>knd.is k v=true|AAi=>by have hb:(g==ε)=false:=ζ|AAj=>standAt apos.atName|AEI=>fun w hw=>ε|AJy=>(AQH FR)|AQ8=>L.map fun r=> ε|AAk=>.cons r t
|AQ9=>by show MI hu ru ε|AEJ=>(∀q∈qs,Sr q)|AQ_=>Bv X.K F' ε H' C dx x|AJz=>∀S∈Ss,ε|AJ0=>(.dT kvs)|AJ1=>ay κ Value|AJ2=>î od (b_ (AH9 ε)) ζ|AQ'=>(cU jh NF)|AAl=>Meth K c.ak ε f|AEM=>BJw "_law_one"|ARA=>wpAny_holding (vs:= ε)|Acs=>W.instObj C ε|AJ3=>Ï kW w|AAm=>Ea X hC|AJ4=>Ò (ε t1 t2 s.heap l1) l2|ARB=>(jv AP5 [])|AAn=>dE e tn|AAo=>G0 Bq Ν (NB ε)|Acu=>⟨.int ε,H,AQC,ζ,q⟩|AAp=>Acb di|AAq=>cW FR X.A|AAr=>by show Acd Fn.ex|AEO=>pU ε a y o|AEP=>(xU own.length caps σ)|AJ5=>(Ace pos)|AJ6=>by rw[List.length_zip,<- ε,Nat.min_self]|AAs=>ε=decide (ζ)|AEQ=>PE X b tb|AAt=>by show WC t' ry|AAu=>(jc j_ H)|AEU=>GZ B q|AJ7=>kT Fn.len hs|AAv=>cL.mp ((e ε).mp ζ)|AJ8=>{s with toks:=AQG}|ARD=>fun C dx H' =>ε|AEV=>Th (b≠ε) (FI ζ) AP8|AJ9=>by have hl:ME ε=ps.length:=ζ|AEW=>ABc ABo (.seq its.toArray n)|Acv=>BJ2 env.cells.lookup|AJ_=>BJ3 2|ARF=>Li e ds vs ε|AEX=>Binds X.K fd ps []|AEZ=>ε K sp vs H Q E|AAw=>by show js c vs ec hkl rs (Mr e1 ε)|AAx=>Hd.adr (AcV W.nsIn ε)|AEa=>(match ε with | true=>ζ | false=>η)|AAy=>[x,y]|AEb=>[e1,e2]|AJ'=>[qD (l.getD ε 0),qD (l.getD ζ 0)]|AAz=>by have hn:=pB|AA_=>by subst r1 r2|AA'=>by simp only [List.lookup,hb,ε]|AEc=>by by_cases q:ε<;>simp [q]|ABG=>(Hd.recOf wz).ε|BJ8=>by rw[ε] at z;cases z|ABH=>ay De (Addr×Value)|ABJ=>by obtain⟨_,_,_,_,rfl,_⟩:=h;rfl|ABK=>by show A4 ε ζ η θ r hr|ABL=>#[dB ε ζ ABd]|Acw=>AIW (b+1) 0|AKB=>∀j,uR (ε j)|ARG=>by rw[Around.under_plainId ε _]|ARH=>(.xd (fs.zip ws))|BJ9=>{o with dict:=some ε}|ABM=>HL l Au (AIc ε) ζ|ABN=>by refine wpAny_passesOwn hp (bW ε ζ)|ABO=>(AcT AIs [])|AKC=>AQX ε (ζ t E σ H Q)|AKD=>qM hd b ε|ARI=>ε (fM s b)|ABP=>by have ε:=ND ζ c η (OP θ) ι ν|ABQ=>by have ε:=ND ζ c η (OP θ) ι ν ξ|ABR=>holding [ov] (getMethod ov ε ζ)|AEd=>∀{P:Program}{w:World}{K:W.Frag},_|ABS=>Value ->Value ->AIq|ABT=>(aM K F ds)|BJ_=>∃F2 Γ2,WH F2 H Γ2/\AQQ/\ε|AEe=>(a::r).filter|AEf=>(AH_ s3.heap.objs.size s3 AIv fp)|ABU=>by show WU hb hb hb|ABV=>Ó (swapsWith e ε pos.line X.env)|ARJ=>attributeBase ε ζ X.env (WG η)=CH θ|ABW=>Un fs ex H ε h ζ|ARK=>∀(i:Nat) x y,TM ->AcY ->ε|ABX=>callWith pos f first ε ζ|ABY=>⟨ε,ζ,η,k.rt,k.rf,k.rT,k.rm⟩|ABZ=>by intro i x y h1 h2|Acx=>List.map_congr_left ε|AKE=>xs.length=ε|AEg=>[s1.heap.objs.size]|AEh=>by rw[ε,ζ,List.map_map]|AEi=>by obtain⟨e,ε⟩:=ζ|AEj=>by obtain⟨v,ε⟩:=ζ|AEk=>by obtain⟨ε,_,rfl⟩:=ζ|AKF=>by obtain⟨ε,ζ,rfl,η,_⟩:=θ|AEl=>by rintro⟨ε,ζ,rfl⟩|AEm=>by simpa [ε] using ζ|BJ'=>(by kernel_rfl)|AEn=>(by size_fits)|Acy=>(s.heap.push ε).ζ|AEo=>if_pos (ε)|AEp=>(AG z)|AEq=>(qv 6)|AKG=>BU z|AEr=>Rat.mul_inv_cancel _ ε|AEs=>Κ ε ζ hz1|AEt=>(h.objs.size+1)|Acz=>(AV (#[]:EL))|AEu=>one=true|AEv=>(! ε)=true|ARL=>(NB 10)|AEw=>C7 D|Ac0=>i<es.size|AEx=>C8 rfl|AEy=>Ξ (s_ ε ζ)|AEz=>.inl i|AE_=>.inl rfl|AE'=>(ε b hb).2.2|AKH=>zV.mp z|AFG=>AK e|AKI=>i7 MA|Ac1=>by show B' ε ζ List.pairwise_cons.mp η|AKJ=>Fh Ρ ε|AFH=>(JO hi)|AFI=>(Bz h2)|AFJ=>ms[i]|AFK=>Tn _ _|AFL=>by refine wpAny_mono ε ζ η|AKK=>bE s1 ε|AFM=>CB qs.length|AFN=>H_ Heap.get?_update_ne|AFO=>GS "range"|AFP=>GS "zip"|AFQ=>by show BF hk|AFR=>by show BF Ψ
|AFS=>by show D3 wpAny_holding ε|AKL=>.str At|AFT=>Cl 0|AKM=>Cl Aci|AKN=>FI F1|BKB=>Ì ps.length|AFU=>x∈f|AFV=>by show L_ r;rfl|AFW=>(i9 pos')|AFX=>IA ε eb|AFY=>bV (A7 ε)|Ac2=>B2 ε True.intro|AKO=>E6 us|AFZ=>by show DF hk|AFa=>(.tup ys)|AFb=>i_ V|AFc=>i_ Ζ|AFd=>J2 ψ|AFe=>show ε by decide|AKP=>Î ε (au ζ (Fh η θ))|AFf=>IM Kt|AFg=>IM OU|AFh=>DA ?_|AFi=>decide_eq_false q|AFj=>decide_eq_true q|AFk=>b∈cs|AFl=>(l.length - 1)|AKQ=>.bool true|AKR=>P (ms.map ε)|AFm=>by rw[ε];decide|AFn=>A i j|AFo=>.dik _ _|AFp=>aC (ε c) (ACb ζ η θ ι)|AFq=>C9 ε .free|ARN=>by simp only [ε];exact ζ|AFr=>OT n|AFs=>dr≠ []|AKS=>W.plainGet K ε ζ=true|ARO=>ja "marks"|AKT=>WO rest.toArray|AFt=>(Kl w)|AFu=>(.ptr a::ds)|Ac3=>(ε==Value.none)=true|Ac4=>ABj cpos es|AKU=>lY K C|AFv=>Of ?_|ARP=>Fm q q.elim|ARQ=>AIB FuncData|AKV=>(rW X.K g)|AKW=>(.ow xs)|AFw=>by refine ji (AD ε _)|ARR=>(n,NameKind.cell)|AKX=>call (L7 ε) ζ|AFx=>by show W' ε BV|AFy=>wpAny DV A ε ζ E s₁|AFz=>GZ (ε*27720) ζ|AF_=>kC List.getElem?_map ε|AKY=>(sC kL)|Ac5=>rX bY AL|AF'=>by show dC (Μ (ε< ζ))|AGA=>á H|ARS=>á H1|AKZ=>ABv h5|AKa=>â ε [a]|AKb=>kK ε (pF ζ t)|Ac6=>sg s.heap.get?|AKc=>tn i s.heap|AGB=>æ vs|AKd=>Ab' h.objs.size|AGC=>v::vs|AKe=>e∈S|AKf=>n∈S|AGD=>AB_ h|AGF=>by show ε=ζ;grind|AGG=>(ACT::us)|AGH=>(Acj::us)|ART=>[.Attribute ε ζ pos']|AGI=>m∉fs|ARU=>dW (ε d7 (aC (ζ c) (EF η θ)))|AKg=>(FE "reversed" p2)|AKh=>W.keepIn K Fk=true|AKi=>fs c p|AGJ=>kg ε #[bN (AV ζ) η θ]|AKj=>(P8 fp ACU)|AGK=>kl ε (uo X.K ζ)|AGL=>["row","right"]|AGM=>fun x hx=>ε|AGN=>(ps.map pD)|AGO=>∀(i:Nat),_|AGP=>F8 fun i=>ε|AKk=>Sz 1900 q|AKl=>AcF APy|AGQ=>AcF (WE 1)|AGR=>by show QP ε rfl ζ h|AGS=>by show Db (b=it) AII|AGT=>by show Db (b=s1.heap.objs.size) AII|AGU=>Ε ->MO|AGV=>by rw[h1] at h2|AKm=>(R1.grow gr)|Ac7=>(b::rest)|AKn=>.pu (AIH nms.map)|AKo=>.pu (AIH uY.map)|AGW=>(n - e)|AKp=>AQD ε value ζ|AGX=>Up lt p ε|AGY=>þ ε ACN|ARV=>by rw[List.size_toArray,<- hl]|AKq=>by rw[ε] at e;cases e|AGZ=>AIn (kZ Δ)|AGa=>(fu.mp hr).2|AGb=>(ACX u)|AGc=>ACY ε (rW X.K ζ)|AGd=>by show ACe (ε>>=_)|AGe=>IsZip ε z TI TO .ellipsis|ARW=>o.cls= .type ε|ARX=>j::post|Ac8=>fun o=>(BJ9 ε)|AGf=>bootBuiltins ε =some (Kk ζ)|AGg=>(g*b)|AGh=>by rw[List.getElem?_set_self ε] at e2|AGi=>by show MC wpAny_seqItems ε rfl|AKr=>(.str x t)|Ac9=>dl F1 ds|AGj=>k a zY _ e3|ARZ=>Em ε=some (ks,xs)|AGk=>ε (aj Ν ao)|AGl=>(BJy pos)|ARa=>fun m hm=>ε|AGm=>∀(q:Rat),_|ARb=>rX nY hd|AGn=>by show F6 (Ch (false=true) ε) zK|ARc=>wd l b|AKs=>zP (ë ε ζ) Δ|ARd=>TK s1.heap.push W.emptyDict|AGo=>(AQd dx)|AGp=>by have:ε=0:=XL z|AGq=>Ă ε fst i|AKt=>ε fun a b=>ä|BKC=>env.kindOf n==AIo|AGr=>AQh (aq l ε=ζ)|AGs=>K0 fG NE k f fd ps (ε K sp)|AKu=>∀(pins:dD) (s:Shared) (σ:St) (H:Hp) (ε:ζ),Ι ->η ->Ô θ ι|AGt=>q::qs|AGu=>(Ch False r).elim|AGv=>["place","row"]|AGw=>⟨f,hf,ε⟩|AGx=>D.nx σ ε|AKv=>Fm e e|Ac_=>ε fun kv=>(Μ (kv.1=k))|ARe=>Μ (AL=w)|AGy=>Q3 x c|ARf=>ABu ε (Ff ζ η) z.xe θ|Ac'=>(fP ε xs ζ d).map .leaf|AGz=>fs.lookup f=some v|AG0=>mG Ss fs|AdA=>fun _ _ _ _ _ st h=>ε|AG1=>mU fs xs ε =some ζ|ARg=>Acl op
|AdB=>ε (m.getD j default)|ARh=>∀p∈X.pn++pins,A2≠ε|ARi=>fun i h h' st k=>ε|BKD=>BJ4 ε env.scope.kind|AG2=>∃W:AH5 ε,(∃m,ζ)/\η|AG3=>BJ5 "_law_mark"|AG4=>mq ks k=true|AKw=>by show WU hx q q|AKx=>k _ Γ1 F1 H1 _ R1 s1 ε h1|AG5=>by obtain⟨a,vs,bs,e1,rfl,e3,e4,h⟩:=h|AG6=>by unfold cutD HT.sIx|AG7=>by have ε:=Ā ζ η Δ|AG8=>by have ε :ζ:=fun r hr=>η|AG9=>by refine wpAny_call (codeAny_mono ε ζ)|AG_=>FK N ε st|ARj=>(.int i t)|AKy=>uT rows ws m|AG'=>by have line:WE ε:=AQ|AHA=>pJ S x h|AKz=>(ε prog w).is|AK0=>(tR (cC (DE 1)))|AHB=>∀(i j:Int),_|ARk=>ε R2 (s1.trans s2) ζ|AHC=>∀P:Q1,ε ->one (f ζ) P|AHD=>fun i h st b hb=>ε|ARl=>∀ε Γ' F' H' ζ,AIy ā Ct η θ ι|AdC=>(.xe as C fs ts)|ARm=>Rw ->Rw|AHE=>(LL u ACJ)|AdD=>(ns.map V.int)|ARn=>AIz/\ AQe/\ε|AHF=>Option (List ε)|AHG=>∀(K:W.Frag),_|AK1=>(h0::hs)|AK2=>by refine Rat.not_lt.mp RC|AHI=>AD j hj|AK3=>ay Β Ε|AHJ=>by obtain⟨_,_,_,_,_,rfl,_⟩:=h;rfl|ARo=>hA _ _ h1|AHK=>(Ff q q)|AdE=>ABb xY ε ζ ["rows"] (η c)|AHL=>Fm h' h'.elim|ARp=>∀(hd:As x "__debug__":=by decide)(hcd:As x "__classdict__":=by decide),_|AHM=>(ε w hw).2|AdF=>⟨F,Γ,_,S,q,ε⟩|AdG=>(a::b::rest)|ARq=>aF K c.Scale "points"|AK4=>GY if_neg hb ε|AHN=>Gh rows x m|AK5=>yH b _ AQf ε|AHO=>(AY (b=a) ε ζ)=some u|AHP=>Dn lt p ε|AHQ=>∀(t b:Int),_|AHR=>(assignEach ε X.env).map|AHS=>(dv t b).natAbs|BKE=>I.list (sF.seq hq)|AHT=>by show kU ε hp hp|AHU=>WH F H Γ|AHV=>cX X.N sc own caps X.env.scope N'|AHW=>P (d i j)|BKF=>fun v z=>(BJ8 d)|AHX=>AQI (zL (zN AQJ ε))|AHY=>ACd ε iter ti|AK6=>(ACg IS 1)|BKG=>((S_).wsh (E6 (S_).xe))|AHZ=>wpAny Si X.A ε Q E s|AHa=>GY fs.filter f (! ε)|AHb=>iy t1 s.heap l1 xs|AHc=>ABx TL TH/ û|AHd=>by show AQY (b9 hi') hi|AHe=>.int (iG ε (v w))|AK7=>(AQa none (H' b))|AHf=>by refine C_ (setField _ _ _) (wpAny_setField h1 h3 Ψ ?_)|AHg=>BK rfl (AP6 (AH' 0 ε) (AH' 1 ζ))|AHh=>KT H kvs xs|AHi=>by simp at h1;subst h1;simp [lu]|AHj=>I1.fpOk D4 (I1.hok.fresh D4)|AHk=>c8/\o∈s|AdH=>(some (Cj bs))|BKH=>Heap.get?_update_self _ ε (Obj.isFreed_of_fields ζ)|AHl=>G2 ->BI (BI ε G2) XW|AHm=>(Value.ref C::bm).contains|ARr=>∀r,(τ r).1=AL/\ AI4.2.1=At|BKI=>(pick Str.empty ys is).map|BKJ=>ε z TI TO i1 i2 l1 l2|ARs=>fun pins s σ H ε I q=>AQN ζ I BJ6|AdI=>ha z E cx ε pins s σ H|AHn=>[1,2,3]|AHo=>by simp only [List.mem_cons,List.not_mem_nil,or_false] at ε|AK8=>fun F0 H0=>(CC ε)|ARt=>bD (Br ì ε)|AdJ=>nF X pins ε b|AHp=>∃σ' H',Acm /\ε|AHq=>iy t2 s.heap l2 ys|ARu=>(.Tuple elts x1 pt)|AHr=>(.Tuple cq k2 Nr)|AK9=>Rr (AV ε) rfl bI boot_list ζ|AHs=>M8 (bY rows w)|AHt=>(! t.plain&&Μ (es.size>1))|ARv=>qD (d8 IZ ε o)|AHu=>by show MH oi h1 h2 h3 hit|AdK=>⟨F1,Γ1,ε,R1,s1,r1,h1⟩|AK_=>∀(P:Program) (w:World) (K:W.Frag),_|AdL=>(j7 sc s.heap.objs.size X.env).ε|AdM=>fun σ H R ε=>by obtain⟨F,Γ,P,S,q,k⟩:=ζ;exact η|AdN=>NN "range" #[.int lo t,.int hi u,.int 1 v]|ARw=>Res rows r g bd ε|AdO=>[.type "ValueError",.type "Exception",.type "BaseException",.type "object"]|AHv=>[.Tuple [.Name x px,.Name y py] kt pt]|AHw=>by refine RJ hit hg O rfl ?_
|ARx=>⟨ε,I.os,I.bare,I.base,I.loc,I.cell,I.free,I.freeC,ζ,I.hok,I.len⟩|AHx=>by obtain⟨e,n,ne,nf,d⟩:=I.pin p hp|AHy=>by obtain⟨a,vs,bs,rfl,rfl,ea,hkl,r⟩:=r|AdP=>fun Γ4 F4 H4 σ4 R4 s4 q=>ε|BKK=>∃N:LM,(∀σ' H',N σ' H' ->AIr ε)/\ζ|BKL=>∀{d:Int}{tb:OV}{rs:B6}{fs:AB'},_|AHz=>∀(cdv:Value) (A:Around) (outer:GB) (s:Shared) (H:Hp) (E:XK),AI5 k qual ABf ->ε|AH0=>by show BO (fun pins σ Γ F H1 s1 e s' I R hx=> ?_) (Fm h (PassesOwnAt.leavingOf h))|AH1=>by refine bW (Ri (E:=fun C dx H' =>E C dx H') I rfl rfl rfl (hx.imp (EX C dx H' z))) fun _ s'' z=>z|AK'=>hacc.1|AdQ=>["self"]|ARy=>if ε then none else ζ|AdR=>by rw[List.length_cons,ε]|ALA=>by rw[ε,List.map_append]|ALB=>by rw[ε,List.getElem?_map] at ζ|ALC=>by rw[List.length_map,ε,ζ,η]|AdS=>by rw[List.getD_eq_getElem?_getD,ε,ζ,η]|ALD=>List.replicate ε ζ|ARz=>I.hok.fresh ε|AdT=>mem_of_lookup ε|ALE=>by cases e|AdU=>(by cases z)|ALG=>(by simp only [List.size_toArray]<;>omega)|AdV=>by show AQj ε ζ;exact η|AR0=>ε (List.range ζ)|ALH=>s2.heap.objs.size+1|AR1=>(cV 9)|AR2=>AC l.length|AR3=>BU i|ALJ=>BU m.length|ALK=>.int a|BKM=>Ο ε Bool.false_ne_true|ALN=>Nat.lt_or_ge i ε|ALO=>GL FuncData|ALP=>GL Expr|ALQ=>GL Rat|ALR=>C7 T|AR4=>C7 G2|ALS=>Nat.lt_succ_self _|AR5=>(A9 e)|ALU=>by simp;omega|ALV=>by show EK;omega|ALW=>AK Δ|AR6=>EE ε (ã ζ η)|ALX=>BM ys.length|ALY=>some w|ALZ=>some u|ALa=>.lst ys|AR7=>(Bz hj)|ALb=>(zE.mp ε).1|ALc=>AZ Yv|ALd=>(a_ "Open")|ALe=>(a_ "Barred")|ALf=>fun z E cx=>ε ζ|ALg=>.tup _|AdW=>(match d with | ε=>ζ | _=> η)|ALh=>(match ε with | some ζ=> η | _=> θ)|ALi=>CB q.den|ALj=>CB (-1)|ALk=>A3 k|ALl=>A3 works|ALm=>Ki H1|AR8=>rC rows w|ALn=>Yn rows w|ALo=>BH ig|ALp=>by refine ε (wpAny_mono ζ η θ)|ALq=>x∈g|ALr=>Kj (bs.length+1)|AR9=>b≠s.heap.objs.size|ALs=>Array DictEntry|ALt=>a::dx::bs|ALu=>.bl false|AR_=>E5 (S b) ε|ALv=>(Kk "object")|AdX=>(Kk "StopIteration")|AR'=>E6 LP|ALw=>E6 (ε::us)|ALx=>z8 _ TN|ASA=>fun z E cx=>Oe ε ζ|ALy=>eE rows|ASB=>kj rows|ALz=>(.str x)|AL0=>Sj ε (JU ζ)|AL1=>Sj ε (AI9 ζ η θ ι)|AL2=>Î ε PD|AdY=>IM dL|AL3=>E7 ?_|AL4=>DI ?_|AL5=>(r - 1)|AdZ=>GW (W_ ε).1|Ada=>by have:=ε;omega|ASD=>IQ ø ε|AL6=>by rw[ε];simp|AL7=>Gc em|Adb=>IR (Oh (i:=ε) (AV ζ) η θ rfl D8 ι)|AL8=>(L9 ?_)|AL9=>Dx Unit|ASE=>xs.length<=i|AL_=>aq l (s0 ε)|AL'=>ε+1<scanBound|AMA=>ε+1<l.length|AMC=>∀h∈hs,ε|AMD=>∀h∈Đ,ε|Adc=>br F' H|AME=>(WG iter)|ASF=>b∉ch|AMF=>Ñ env.cells.lookup|Ade=>Q AF H'|ASG=>Sr g|Adf=>ja "kept_borders"|Adg=>(fs.zip vs)|ASI=>(s.heap.push ε).get?|AMG=>(ABi kW)|AMH=>#[qv 0]|AMI=>by have hl:=kv.length|AMJ=>APv β|AMK=>wpAny DV A ε ζ AI0 η|AML=>S4 List.mem_singleton.mp ε ζ|AMM=>ABm A.units|ASJ=>ABn "reach"|AMN=>ps[BQ]|AMO=>(fD qs)|AMP=>AIA o|AMQ=>j9 rs g|ASK=>o0∈rS|ASL=>WZ Kt|AMR=>NU L|AMS=>AIC fs.length|AMT=>i<=xs.length|AMU=>(.pu d)|AMV=>(AV (GR hu))|AMW=>kB ε Θ|AMX=>AIE 4|AMY=>Sem Bool|Adh=>hix i hi|AMZ=>cP j<=9000|AMa=>XB List.getD_eq_getElem?_getD ε ζ|AMb=>Tb AcU|ASM=>cW k A|ASN=>ε t1 t2 h l1|ASO=>rawInt 0|AMc=>own.length=n|AMd=>(xs.map .leaf)|ASP=>AIQ vs.toArray|BKN=>bw (EI ε) (bw (EI ζ) gY)|Adi=>z.pn++pins
|AMe=>AB_ e|AMf=>(l.drop ε).take|AMg=>ê s.Nodup|Adj=>APw EU ε (L7 ζ)|AMh=>fun o ho=>ε|AMi=>(ï ACc)|AMj=>AP_ FR|ASQ=>[e,e2]|AMk=>by refine ε ζ (List.map_congr_left η)|AMl=>cB rY Ν ε|ASR=>v8 rows ws|AMm=>ö AX ε|AMn=>cP (ε i j)|AMo=>by unfold ε;rw[ζ,η];grind|Adk=>by unfold ε;rw[ζ];grind|AMp=>by show QP ε ζ rfl h|AMq=>ws.map .inr|BKO=>ACR s.heap.objs.size ε|AMr=>AIj Heap|AMs=>tP s|AMt=>∃v,ε/\LO|AMu=>∀(a b:Rat),_|AMv=>Rv t1 t2 s.heap l1|AMw=>ACS ε ď|AMx=>by have hb:(g==ε)=true:=ζ|AMy=>X.ex= []|AMz=>(x,c)∈ε|ASS=>by rw[List.length_map,<- hl]|AM0=>.cons ε B_|AM1=>Ċ vs|AM2=>(aX.mp hr).2|AM3=>Č BKF|AM4=>by obtain⟨its,rv,p,hz⟩:=I.list hq|AM5=>AQK den|AM6=>(match ε,ζ with | η,θ=>ι | _,_=>False)|AM7=>Ej led t|AM8=>AQL s.heap|AM9=>IsZip ε z TI TO Ω|AM_=>ps[BQ].1|AM'=>BM ds.length/\ε|ANA=>x o/ kr|ANB=>aq rows (KF ε)|ANC=>IA o e|ANE=>fs s p|ANI=>AI1 sc.names.lookup|ANJ=>R.sl i _ e|ANK=>R.sl i _ e0|ASU=>AI6 c8 ε|ANL=>BJx (.Subscript ε ζ pos')|ANM=>ds.length - BS|ASV=>by rw[z,ε] at q;cases q|ASW=>ε (t' :=s.toks) (ζ:= η)|ASX=>AI' EU|ANP=>hN b (Ξ ε)|ANQ=>Μ (At=hd)|Adl=>(ã #[] 0)|ASY=>["some","ahead","bound"]|ANR=>AJE hq|ANS=>AJJ (P ε Γ)|ANU=>by obtain⟨Ss,F,p⟩:=G.pi|ANV=>fun h hh=>ε|ANW=>AQk ε all|ASa=>Acg w|ANX=>(GV a o)|ANZ=>.pu (gl m)|ANa=>D.nx (Γ1.set i ε)|ANb=>AQo (AJA ε)|ANc=>rX ofM m|ANd=>by show AQs hz1|ANe=>fun v σ H Q=>ε|ANf=>k9 PE e ε|ASb=>ms.Pairwise (se ä)|ANg=>dH (both.map f)|ASc=>AQv Acq|ANh=>z8 _ (z8 _ ε)|ANi=>JG K F Lx ε ζ|ASd=>∃a ε,x= AI/\ζ/\η|ANj=>(I.freeC x c e)|ANk=>W i m σ H|ASe=>(j8 val i)|Adm=>(aM K F ds vs)|BKP=>(ε (HT.sIx ζ 0 lo)).take|ANl=>dW (cu 1 ε (iL ζ) IS η Ν)|BKQ=>fnOf x qual (Jx st) ú ABf ε ζ η|ANm=>.any C|Adn=>s.heap.get? l=some ε|ANn=>by exact False.elim h|ANo=>(x::xs)|ANp=>by have ε:ζ=η:=Heap.size_push ..|ANq=>∀s',ε ->ACa|ASf=>PE X o td|ANr=>yW rows w ε|ANs=>ε K c (Cm Q) (aG ζ ds) P6|ANt=>(fun b z=>(ACG z))|ANu=>br F' H'|ASg=>FM (K_ hf)|ANv=>AC xs.length - 1|ASh=>E (AG e) ε|ASi=>by (with_reducible refine wpAny_isSubtype_exc ε ?_;rw[ζ])|ANw=>fun vs H Q=>(ACl ε)|ANx=>(AQn (sB ε)).trans|ANy=>∀i j,i<n ->ε|ASj=>tT e hx|ANz=>(fs.zip vs).lookup|AN0=>Acu ε D5|AN1=>by intro pins s σ H xs us Q I r h|AN2=>IntsAre vs ns|AN3=>∀i,ε<=i ->i<n ->ζ|AN4=>vQ N d q|AN5=>ß e ε (AD d hd)|AN6=>(.Compare a [op] [b] pos)|Ado=>⟨F1,Γ1,P,R1,q,ε⟩|Adp=>AIw fG (APt eO) k f fd ps ε|AN7=>(match ε with | some ζ=>η | none=>θ)|AN8=>[topFrame z]|BKR=>[.Name x pos']|AN9=>(Or.inl rfl)|AN_=>A.under (Aca ε)|AN'=>BI Ζ AR|AOA=>cY ε hs=true|Adq=>AO lV qs|AOB=>(ε ζ).congr (DA η)|AOC=>B5 ε (fun v z=>ABl)|AOD=>.int i _|AOE=>by show K2 ha ha|Adr=>R (.ok (.ret ε)) ζ|Ads=>(.tr j_ t)|ASk=>Ù nY h|Adt=>CL (vs.getD i Value.none)|BKS=>XG ps.map (fun(E3 ε)=>ζ)|AOF=>o.data= b_ vs|AOG=>s3.seq (s2.seq hq)|AOH=>ε X.K H a xs|BKT=>HT.sIx xs.length 0 lo|AOI=>by obtain⟨z,hd,vs,rel,dd⟩:=cy JC|AOJ=>I.write (x:=ε) (e:=ζ)|AOK=>by show A4 v hv rv wA rs ε|ASl=>V ->Ζ ->AcP|AOL=>Low rs cs a ε|AOM=>nM Γ σ ε a|AON=>by show Cb v us r1 r2 r|AOO=>fun i j hij hj=>ε|AOP=>ε P w outer H s E e s'
|BKU=>(s.heap.update a (AIi (C8 #[]))).ε|AOQ=>(zL (zJ e))|AOS=>fU.d c S b|AOT=>Rz rfl rfl iu (Fh ε ζ)|Adu=>DH (∃a b:Rat,ε)|AOV=>Turn P w K tg ε [it] it (NS h ζ)|BKV=>BKH ε (Obj.data_mapFields ζ _)|AOW=>BKJ ZipApart|AOX=>oe.cls= ET|AOY=>[AIW b 0,Acw]|Adv=>ε (H' :=upd H1 a ζ)|AOZ=>by obtain⟨h1,h2⟩:=ε|ASm=>ns.length<=63|AOa=>∀f∈fs,ε|AOb=>(Q9 ry)|AOc=>ε own.length caps ζ|AOd=>∀(w:World),_|AOe=>by have key:=List.pairwise_iff_getElem.mp ε|ASn=>(Qb - MG)|ASo=>(AQ0 - AI7)|ASp=>setField ε ζ (rawInt η)|AOf=>ofM rows m|AOg=>∀f∈fs,ε|ASq=>(m.getD i default)|AOh=>len _ _ _ hs|AOi=>Fm y y|ASr=>E5 LA (kF/\ε)|AOj=>GU g f ε ζ|Adw=>(nq X.K sp)|ASs=>entryFor table ε =some ζ|AOk=>Κ ε s₁ h₁|AOl=>by show HA A2 k|AOm=>bV (A7 (fH (A7 ε)))|AOn=>[(false,CH ε)]|Adx=>jn F8 (CL ε)|AOo=>ML X.N y|AOp=>W.mg_of X G (AQF ε)|AOq=>by intro _ h;cases h|BKW=>(TZ ą (DE 1))|ASt=>(w.params.setOrder S ep)|ASu=>Rep X.K ε d v|AOr=>(mj c.Scale "points" Ν)|AOs=>(yE bF aL Χ)|ASv=>AcA ε (I (BQ)) (I (BQ)) ζ|Ady=>(.dic Aco Acp)|AOt=>(bs.getD k km)|AOu=>fun vs H Q E=>ε|ASw=>fun _ _ _ H _ I h=>ε|AOv=>Be ε hu ζ η (JO θ)|AOw=>∀{rows:AW}{ms:ID},_|AOx=>ON ε ζ I h|AOy=>mH k ε S h|ASx=>BJx (rL ε f pos')|AOz=>by obtain⟨hq,hx⟩:=hg|AO0=>DU qP body tb|AO1=>by show č ε;rw[ζ] at e';cases e'|ASy=>fun σ H R=>ta σ H (bq vs ε)|AO2=>AQg RA bs.length|ASz=>AQr ε ha ha|Adz=>∀s∈rows,AL=s.1 ->ε|Ad0=>OX (¬OW) H2 H'|Ad1=>.tr as (.dic ks ε)|AO3=>by refine C_ (setState S) (wpAny_setState_of hg O.dat O.fit ?_)|AO4=>by show ABs e1 (I.base.there b o e hx)|Ad2=>AQR ds ε C C|AO5=>fun h' eb=>(E7 (BJ1 (eb b o hb e)))|AO6=>oZ K F H H0 s o|AO7=>(fun s o=>y s o - x o)|AO8=>by have ε:=ND ζ c η (OP θ)|AO9=>fM s b q|Ad3=>OX OW H2 H|AO_=>(eZ K F H ts)|BKX=>HT.sIx xs.length xs.length hi|AS0=>sp vs H Q E|AO'=>∀(w:World)(os:OsState),_|APA=>ABg d1 v1 (AJH (AJL d2 v2 ε))|APB=>Iw L (ε w hw)|AS1=>["rule","marks","gap"]|AS2=>(Sum Int Str)|APD=>pick AF ε is|APE=>by obtain⟨a,_,rfl,_⟩:=r;rfl|APF=>ε fun _ _ _ _ _ _ _ q=>ζ q|APG=>fun xs H Q=>ε|APH=>by show FV h1 h2 h3|Ad4=>(seqObj "tuple" vs.toArray 0)|APJ=>["_law_work","_law_one","_law_mark","_law_by"]|APK=>by obtain⟨v,_,rfl,⟨l,us,rfl,hq,rs⟩,rfl⟩:=r1|APM=>AP7 QG tg g|APN=>AP7 Ly ifs tc|APO=>(AY (i<0) (-i) i)|Ad5=>TD "Few" c.vP/\lC K c.vP|AS3=>GU kv.1 k (kv.1,ε) kv|BKY=>∀o u,X.H₀ b≠some (.frz o u)|APP=>W.typeIn K Fk=some (Kk "function")|APQ=>D.nx (Γ1.set i (.tr ε ζ))|AS4=>["row","lead","place","ahead"]|APR=>by cases (Ch (u=Value.ref b) ry)|APS=>E C dx H'|APT=>V ->LE ->LE ->AcP|APU=>by show A4 r hr e F.of S hS|APV=>by obtain⟨d,d0,bd,hd⟩:=ε|BKZ=>backTo ε (starEach args env)|Ad6=>lX.some_of (v:=v) (o:=ε)|Ad7=>by refine Call_ (AQW ε (PyProof.Rows.callWith_type1 ζ η θ))|APW=>(Heap.SameBut.update s.heap I _).ε|APX=>IsPair ε TI (AG i1) (AG i2)|APY=>(ε/\AQU)\/ (ζ/\BKK (W BS m' σ' H') (∀x H',η i H x H' ->θ))|APZ=>by obtain⟨its,rv,pl,hz⟩:=BKE|APa=>(∃x∈ε,C x) ->AQp ζ|APb=>["_law_work","_law_one","_law_mark","_law_hand"]|APc=>by simp only [List.mem_cons,List.not_mem_nil,or_false,not_or]
|APd=>by obtain⟨⟨old,q⟩,st⟩:=q|APe=>Lean cO pQ x'|BKa=>ABb xK ε outer s H|APf=>obs K=good w|APg=>Go ["one","other"] "one" "other" ε|APh=>∀ds Q E,sp ds Q E ->BKB|AS5=>fun Γ3 F3 H3 σ3 R3 s3 ε=>ζ|APi=>by have cx:Ctx BKG F0 H (AV Ex):=ε|APj=>by obtain⟨a0,u0,rfl,h0⟩:=oX h|Ad8=>ds= [qD a,qD b]/\Sr a/\Sr b/\ε|APk=>∀(X:Cx) (vs:Ζ) (H:Hp) (Q:VK),_|APl=>["_law_work","_law_one","_law_mark","_law_hand","_law_more"]|APm=>JP (fun c Γ1 F1 H1 R1 s1 q=>ε)|APn=>by have hu:(A.deeper (envOfC ε (aV ζ) s.heap.objs.size f cdv)).units+21<cLine:=HR hr.units|BKb=>DZ fU.look c c S S b ε|AS6=>∀{S:An}{n:Int}{bs:EZ},_|BKc=>∀c o,c≠z ->Φ (c≠TO) (c≠i1) (c≠i2) (AIL c) ε|APo=>hE x C dx F' H' z1 R'.gr (xr.back R.gr.h)|APp=>["_law_work","_law_one","_law_number","_law_top","_law_bottom","_law_by"]|APq=>by refine Q7 lk hcd S (DL vs H Q E hq1) fun A outer s H vs Q E hr hq2=> ?_|Ad9=>hbody cdv A outer s H E hr F0|APr=>by obtain⟨a,b,rfl,⟨a1,a2⟩,⟨b1,b2⟩,h⟩:=h|BKd=>fun _ _ _ _ _ _ _ _ _ q=>q.elim|APs=>["_law_script","_law_rows","_law_cell_here","_law_rule","_law_gap","_law_bounds_here","_law_told_here","_law_hand","_law_more","_law_higher","_law_many","_law_by","_law_greater"]|AS7=>Nat.le_succ_of_le ε|AS8=>ε (· < ·)|AS9=>ε=xs.length|AS_=>s1.heap.objs.size+ε|AS'=>["end"]|ATA=>if ε then ζ else η++ [θ]|ATB=>by rw[List.map_cons]|ATC=>by rw[Int.toNat_natCast]|ATD=>by rw[Rat.add_zero]|ATE=>by rw[List.getElem?_map] at ε|ATF=>⟨Ξ ε,ζ⟩|Ad_=>by simp only [Array.length_toList] at ε|ATG=>#[ztd]|ATI=>(by rcases ε with (ζ | ⟨o,η⟩) | θ)|BKe=>by simp only [Bool.and_eq_true,ε] at ζ|ATJ=>by unfold qt at ε⊢|ATK=>if h:ε then ζ else η|ATL=>Int.toNat ε|ATM=>by ac_rfl|ATN=>by simp [ε,List.find?_cons,ζ]|ATO=>List σ|ATP=>A.frames=some ε|ATQ=>(AG l)|ATR=>(AG sl)|ATS=>(AG S)|ATU=>(AG l1)|ATV=>(qv 9)|ATW=>BU y|ATY=>BU rows.length|ATZ=>BU (tb s p)|ATa=>.ref c|ATb=>.ref acc|ATc=>st.2.1|Ad'=>ε ζ (Rat.le_of_lt η)|ATd=>(AV GP)|ATe=>by have ε:=List.mem_range.mp ζ|ATf=>Μ ((ε a:Key)=ζ b)|ATg=>List.take_append_drop i ε|ATh=>E3 1|ATi=>GL Bool|AeA=>(CO us)|AeB=>(CO ws)|ATj=>C7 Addr|ATk=>C7 (WB D)|ATl=>Int.le_refl _|AeC=>C8 none|ATm=>.type "set"|AeD=>.inl (zP (ε ζ) Δ)|ATn=>by rw[ε,ζ];omega|ATo=>st.2.2|ATp=>AK hv|ATq=>A_ hb|ATr=>R1.gr.h _ _ ε|ATs=>assign ε X.env|ATt=>by show B' ε ζ Prod.mk.inj η|ATu=>Ap ->Rat|ATv=>by refine codeAny_mono ε ζ|ATw=>some []|ATx=>(JO hc)|ATy=>.lst ds|ATz=>.lst AQP|AT0=>(Bz h)|AT1=>(Bz hu)|AT2=>(Bz hk)|AeE=>(Bz hw)|AeF=>(List.of_mem_zip ε).1|AT3=>AZ Qy|AT4=>by show BD ε ζ η List.mem_flatten.mp θ|AeG=>FH X.s₀.heap.get?|AT5=>(a_ "Apart")|AT6=>(a_ "Few")|AT7=>Nat.le_add_right _ _|AT8=>.Subscript ε ζ pos|AT9=>H_ setNext|AT_=>HI LM|AT'=>by rw[List.getElem?_map] at e|AUA=>A3 n|AUB=>A3 at_|BKf=>wpAny_loadPart' hl|AUC=>by show D3 wpAny_attempt ε|AUD=>BH q|AUF=>.str r|AUG=>.str z|AUH=>.str work|AUI=>Cl BQ|AUJ=>Ì 4|AUK=>by cases (Ch ε r);rfl|AUL=>Kj bs.length|AUM=>getD_get? e|AUN=>Fr B.get?|AUO=>.tup ys|AeH=>(CY c3)|AUP=>(CY work)|AUQ=>ε C s₀ H₀ fp uz uD AIa jN Ef pins s σ H ζ η θ ι ν q|AeI=>(Kk "type")
|AUR=>by unfold ε;show eC|AUS=>OP (AQF ε)|AUT=>ws.take i|AUU=>A8 ε hm F.kp (AM (by show Na;exact rfl))|AUV=>IM o|AUW=>IM AQ5|AUY=>hn b hb|AUZ=>hN b hb|AUa=>o.dict=none|AUb=>A.in1.handled=none|AeJ=>DI AQ7|AUc=>ABe Stmt|AUd=>(.bl b)|AUe=>FM (.inl hb)|AeK=>by show ε;omega|AUf=>IR ztl|AUg=>ps.length - 1|AUh=>by show CS I1.kIn|BKg=>wpAny_loadPart' hb|AUi=>Sn ε rfl|AeL=>(jS hv)|AeM=>(jS hi)|AUj=>(jS ho)|AUk=>(aW Θ)|AUl=>b9 hj|AUm=>b∉X.fs|AUn=>NH ε Δ|AUo=>by refine List.map_congr_left (AD ε ζ)|AeN=>Q σ' H'|AUp=>GT _ rfl|AUq=>EM hm|AUr=>F9 (BKM ε)|AUs=>WJ "range"|AUt=>WJ "list"|AUu=>WJ "reversed"|BKh=>ja "kept_leanings"|BKi=>ja "scale"|AeO=>(.frz o kR)|AUv=>(ü++m.take j).map|AUw=>#[qv 2]|AeP=>Su AQP|AUx=>by obtain⟨ε,H1,I1,ζ,q1⟩:=hz1|AUy=>KF kQ|AUz=>Gl X "range"|AU0=>Gl X "list"|AU1=>Gl X "reversed"|AeQ=>WO its.toArray|AU2=>α ->β|AU3=>P_ Nd|AU4=>P_ PR|AeR=>Ò s1.heap.push ε|AU5=>AD b q|AU6=>zT.mpr rfl|AU7=>HZ AJO|AU8=>(knd.hash k)|AU9=>s.heap.IsList l ε|AU_=>(d::ds)|AU'=>e _ _ h1|AeS=>ABn "points"|AeT=>(.xd fs)|BKj=>(FE "range" p)|AVA=>bG hb2|AVB=>(ABp sF)|AVC=>(M6 rows)|AVD=>NU ru|AeU=>Of (z7 h)|AVE=>cn X.base.get? ε|AVF=>(.pu ACn)|AVG=>(lt i j)|AVH=>NV Builtin.Tuple.tupleExact|AVI=>AIE 3|AVJ=>AIF 2|AVK=>(by rcases zV.mp h with ε | h)|BKk=>kC List.take_add_one ε|AVL=>O0 (AJX h)|AVM=>(AIH BKI)|AVN=>.obj C fs ds|AVO=>TU<=9000|AeV=>V.ref (MB)|AVP=>sK (ε _ _ e2)|AVQ=>W.hasDictIn K C=true|AVR=>by show dC (!(Μ (ε<ζ)))|AVS=>storeSet a ε ζ|AVT=>à s2|AVU=>W.findIn K EU ε=some none|AVV=>∀(he:starEach Da X.env=EW (CH e) (EV es):=by rfl) (hpl:Ac4:=by rfl),_|AVW=>bs.length<=1000|AVX=>qs.length<=1000|AVY=>(cols p)|AVZ=>J.go i H|AVa=>J.stop i H|AVb=>ABy pyIter ε|AVc=>r6 IP h.2|AVd=>Hd.ex "__init__" ε ζ|AVe=>h _ ý|AVf=>B8 σ kM|AVg=>List.getElem?_append_left (Bz hi)|AVh=>Ó (swapsWithSole ε ζ pos.line X.env)|AVi=>AcC V|AVj=>k' ::ks|AVk=>fun h' hs' =>ε|AVl=>(ε :Str)∉fs|AeW=>(FE y np)|AeX=>(FE y yS)|AVm=>ka aq|AVn=>ki W.hasDictIn ε|AVo=>(P8 fp AcU)|AeY=>(f j).num|AeZ=>(Heap.SameBut.update ..)|AVp=>(tupleKind_room_in1 hu)|AVq=>EE F' u|AVr=>(2^105*27720)|AVs=>by unfold ε;rw[ζ,η];rfl|Aea=>(hx' b u e)|AVt=>comb ms rs j|AVu=>fun b hb u e=> ε|Aeb=>pre++post|AVv=>xs.length - 1 - i|Aec=>(AIi Acz)|AVw=>AIj G2|AVx=>AD q hq0|AVy=>AIl Subscript ε ζ η|AVz=>(AIY/ da)|AV0=>gK NO (ε i)|AV1=>(ÿ "marks")|AV2=>(lh aK)|AV3=>Rd H a Kt|AV4=>(x,NameKind.free)∈ε|Aed=>.done (.ret ε)|AV5=>by rw[z,ε] at e;cases e|AV6=>(Ĉ p1)|AV7=>GM ε Θ 0|AV8=>(ACV List.size_toArray)|AV9=>ACZ (r= Ω/\ε)|AV_=>k b u q|AV'=>AQK num|AWA=>uB (Q_ ε)|AWB=>AIt D|AWD=>AIt V|AWF=>AQL h|AWG=>o.cls= ET|AWH=>by by_cases hb:S b|Aee=>some (some ε)|AWI=>(Nu K a)|AWJ=>GY (Ab6 cpos ε).ζ η (! θ)|AWK=>fs s j|BKl=>(.str name t)|AWL=>(AQS Ac7)|AWM=>(AQS AdG)|AWN=>fun us s2 ε=>ζ|AWO=>by rw[ε] at q;cases q|AWP=>(1+ Ic)|AWR=>ACq g|Aef=>s.heap.IsCell c v|AWS=>Μ (At=h)|AWT=>PA X es t|AWU=>PA X Da t|BKm=>ACs s.heap.get?|AWV=>AQb e0|AWW=>["end","ahead","bound"]|AWY=>I.cell x c e|AWa=>some (.frz o kR)|AWb=>Ho xs.toList|AWc=>a∈as|AWd=>a.num*b.den
|AWe=>a.den*b.den|AWf=>(AL - l.1)|BKn=>(.tup (k.map kV))|Aeg=>typeLookup ε ζ =pure η|AWg=>.pu (Ci bs)|AWh=>.pu (Ci bd)|Aeh=>(HP Θ AQ')|AWi=>[(f,v)]|AWj=>I1.hok.fresh (zO _)|AWk=>I1.hok.fresh (Nat.le_succ _)|AWl=>AJY (AH9 fv)|AWm=>by show RO ε (OO Γ ζ) η ?_|AWn=>by show AJZ ε List.getElem?_replicate|AWo=>by show Cb a vs hq rs r1|AWp=>AJd cs|AWq=>Ą Ln ε #[yK aN]|Aei=>FL hs'.2 b hb e|AWr=>(X.hand b0).wsh|AWs=>JP (fun d Γ1 F1 H1 v R1 s1 rd ε=>ζ)|AWt=>JD R1.g ec|AWu=>(AQy s3)|AWv=>(hr.make C us [])|AWw=>nC X.prog X.w H' h'|AWx=>nC X.prog X.w H' s'.heap|AWy=>by show HQ;rw[D_] at hp;exact hp|AWz=>by show HQ;rw[D'] at hp;exact hp|AW0=>by ·rintro C s₀ H₀ fp pins s σ H Q I ⟨uz,uD,q⟩;exact ht C s₀ H₀ fp uz uD AIa jN Ef pins s σ H Q I q|AW1=>by ·rintro C s₀ H₀ fp pins s σ H Q I ⟨uz,uD,q⟩;exact he C s₀ H₀ fp uz uD AIa jN Ef pins s σ H Q I q|AW2=>s'.os=s.os|AW3=>fun f=>ACi|AW4=>fun y hy=>ε|AW5=>∀h',ε ->Q none MA|AW6=>Ο (jp ε) e|Aej=>iB K c.bK|AW7=>(Acn xs.getD)|AW8=>aq m f|AW9=>(L4 Ρ AJc)|AW_=>E5 OW BKY|AW'=>f.getD k 0|AXA=>iD f f[i]|AXB=>by refine z6 (wpAny_newObj_type ?_ ε)|AXC=>(Ee la ė)|AXD=>I.base.keep b o e n|AXF=>(n,k)::r|AXG=>by show Cb p vs hq rs r2|AXH=>XZ te d ε|AXI=>tu a1 b2|AXJ=>.dic _ ts|AXK=>(AQ8 (.inr At))|AXL=>PA X [a] ta|Aek=>ARA [_]|Ael=>GU ε p 1 0|AXM=>ARF h4|AXN=>(cB g ta tb)|AXO=>lZ (cT (G0 Et ε ζ))|Aem=>BJ_ (I i Γ2)|AXP=>Gr F0 H0 F H|AXQ=>ws.map v|AXR=>k∈ks|AXS=>["group","hands"]|AXT=>by rw[List.map_cons,List.map_cons]|AXU=>fun z hz=>ε|AXV=>U.length<=4|Aen=>fs.length<1000|AXW=>by simp only [List.lookup_cons,hx]|AXX=>#[Ws (i:=0) aA ε ζ rfl D8]|AXY=>ε I1.hok ea|Aeo=>(sF.trans gr.f)|AXZ=>(xW false)|BKo=>(R.unbase g)|AXa=>zL (Nat.lt_succ_of_lt ε)|AXb=>pure (ForInStep.yield ε)|Aep=>("self" ::ps)|AXc=>by refine wpAny_newObj_type ?_ ε|AXd=>(b*b')|AXe=>(cellsFrom ε ζ η).lookup|AXf=>(Ac2 e)|Aeq=>(ts++ [t])|AXg=>(rows++ [r])|BKp=>(AC its.toArray.size - 1)|AXh=>by have e:vR ε HV=some ζ:=η|Aer=>lU K H1 a xs|AXi=>⟨v,vs',ε,ζ,rfl,η,θ,ι⟩|AXj=>by show Hc At h|AXk=>Ac3 (Value.ref d)|AXl=>zP (Kc ?_) ε|Aes=>bC X.K C C1|AXm=>ck (WE 3)|AXn=>call Fk (.ref ε::ζ)|AXo=>Q4 h.get? AP8|AXp=>Oy ε Tm sv|AXq=>O_ nD (Oa xs)|AXr=>mq ks k|AXs=>qQ (au Χ ε)|AXt=>(z6 (z7 ?_))|AXu=>⟨ε,H,I,ζ,h⟩|AXv=>by refine z6 (wpAny_field ε hd ζ ?_)|AXw=>Ab (tN*B) AQc|AXx=>ACu IC k|AXy=>(Ac_ kvs.any)|Aet=>(qo Ack [a] pos2)|AXz=>lc s.heap a b|AX0=>(xM xs lo hi)|AX1=>yN d d' =true|AX2=>∀(qs:AA)(bs:EZ),_|Aeu=>(∃k,BJ7)/\Acf|AX3=>AdJ H'|AX4=>s1.heap.DictAt ACh a ws ep|BKq=>AdL cells.lookup|AX5=>hd∈g|AX6=>by have few:=O.few|AX7=>AL - l.1|AX8=>k*7 % ns.length|AX9=>(Be cX.cs S)|AX_=>.ext (DI ε)|AX'=>fun H s=>ε|AYA=>Value.int i t|AYC=>nY rows h|Aev=>PE X i ty|AYD=>Value.str x t|AYE=>(f p/q p)|AYF=>by have ε:ζ:=Ξ (by rw[z,η] at θ;cases ι)|AYG=>(by show APy;decide)|AYH=>(nY rows h)|AYI=>(zdt qs).mem_iff.mp|AYJ=>(MR x hx)|AYK=>(List.range' ε n).map|AYL=>(uZ m a)|AYM=>AP2 bV (ACy ε)|AYO=>(kN (t6 BG))|AYP=>ê (kA s hs)|AYQ=>by obtain⟨z,hd,xs,rel,dd⟩:=cy Ny|Aew=>GU k' k ε y|AYR=>WP AQO H (F b)
|AYS=>mR xs=some ns|AYT=>(ε q hq).up Δ|AYU=>WP AQO H1 (F1 b)|AYV=>ACt H s|AYW=>G_ ε s1 h1|Aex=>oW qs r v|AYX=>by show AJj rfl rs|AYY=>Í Γ P t c Γ' ε|AYZ=>DU QG tg g|Aey=>f p/q p*q j|AYa=>o9 n m a|AYb=>AJa ε [] H' s'.heap|AYc=>∀as,ε (zc i ζ) (Γ1.set i AdC) jN|AYd=>by rw[e1,e2] at hd|AYe=>wF ε xV (Q_ ζ)|AYf=>(rel.val k).lA|AYg=>FF u eb (yH b u ε ζ)|AYh=>by have e:b=it:=AII|Aez=>(P8 as (kF/\Ki H0))|AYi=>yx fun i j=> (Ach ε)|AYj=>AdA (ε st h)|AYk=>Be ε (hc z) hg hm ζ DS η θ he|Ae0=>BKU push|AYl=>∀b ob,Ac6 ->sg h'.get?|AYm=>SP E4 pins D f ε|AYn=>fun ds Q _=>ε|AYo=>∀c∈cs,f c=0|AYp=>by have hlt:=zJ e|AYq=>by have ls:=PX qs|Ae1=>lU K F a vs|AYr=>(.UnaryOp .Not a pos)|Ae2=>∀z,jR E4 (compareOp ε) ζ|AYs=>by show Cb ε r h1 h2 h|AYt=>⟨ε,ζ,η,θ,t7,BKd,fun _ _ _ _ _ _ _ _ q=>q.elim⟩|AYu=>cx.px pins σ Γ1 F1 ε s1 e s'|AYv=>by obtain⟨v,us,bs,cs,e1,rfl,h1,h2⟩:=h|AYw=>[dy,tI (gO ü x),ε,ζ,y4,y5]|Ae3=>(BKZ cpos)|BKr=>{nx:=ε,rt:=D.rt,bk:=ζ,ct:=η}|AYx=>vV K F0 H0 ε D2 D|AYy=>BKa A|AYz=>cand S n bs k (fk S n bs k)|AY0=>BKb b|AY1=>BKc (tj c)|AY2=>by intro wh pins s σ H Q I h|BKs=>X.env::X.outer|AY3=>σ ->Au|AY4=>St ->BI Hp (ε)|Ae4=>(rS,li fun r=> kQ)|AY5=>["sheet","hand"]|AY6=>bs++cs|AY7=>x.2≠y.2|AY8=>by obtain⟨_,_,_,_,rfl⟩:=KN hl|AY9=>by obtain⟨_,_,e,_⟩:=hS b z|AY_=>∃f∈fs,ε|AY'=>ElemsOf knd ε|AZA=>(s1.heap.push W.emptyDict)|AZB=>(ls.map pK)|AZC=>.ba ls|AZD=>X.env.frame=some X.env.locals|AZE=>X.mg ε=some (AG ζ)|AZF=>X.env.scope.names.lookup n=some ε|BKt=>(Str.ofString "abcdefghijklmnopqrstuvwxyz").ε|AZG=>ε (qs.map LN)|AZH=>BI Int Int|AZI=>s2.trans (s3.trans ε)|AZJ=>.pu (CO (ns.map .int))|AZK=>(k - l)|AZL=>.inl (sF.seq hq)|AZM=>.inr (sV sF hq)|AZN=>Heap.get?_update_other _ _ AJU|AZO=>(X.wsh z).hand a|AZP=>fun _ H Q=>ε|Ae5=>yF b (e - s)|Ae6=>PE X value tv|BKu=>BN ks.zip vs|AZQ=>BN gM ì|AZR=>(z9 _ rfl)|AZS=>by have hr' :=gJ.mp hr|AZT=>(B2 List.append_nil hl)|AZV=>swappedStores ε ζ X.env=pure η|Ae7=>(GV acc AP0)|AZW=>Ï ofM m|AZX=>gX X.K g|AZY=>tX X.K tc|AZZ=>Heap.get?_update_self _ ε rfl|AZa=>Ð s2 ε s2.toks|AZb=>D9 (AL∈ws)|Ae8=>PySem.call f vs|AZc=>(List.nodup_cons.mp nd).2|AZd=>(c7 rows x)|BKv=>∀x∈a,x∉b|BKw=>∀h∈AI_ kW,AQ2|AZe=>by have ε:ζ[j]=η:=by simpa [List.getElem?_eq_some_iff] using (zW.mp θ).2|AZf=>(L2.upd F a OU)|AZg=>R J H'|AZh=>Gr F ε F' H'|AZi=>Iq Pz.trans PB|AZj=>zL (Nat.lt_succ_self _)|AZk=>if_neg (Nat.lt_irrefl _)|Ae9=>D.rt v H|BKx=>(b∈X.ex\/ACm b)|Ae_=>T.keep _ _ _ ε fun b hb o e=>ζ|AZl=>Μ (W.mroIn K ε ζ=some true)|AZm=>by show PF t (Ch (uA ε) r);cases e;rfl|AZn=>by show W' setsByText zjz|Ae'=>ε (X.hand b0) F0 H0 ζ η|AZo=>(Ü ((AQi).zip AJK))|AZp=>ε K F0 H0 t E σ H R|AZq=>by obtain⟨_,_,_,_,o,_,_,e,_⟩:=k;exact CI e|AZr=>Heap.SameBut a s.heap ε|AZs=>(l+r)/2|AZt=>eZ K F' H' ε vs ζ|AZu=>["hand","mark","self"]|AfA=>⟨ε,R1.gr.h.free ζ,R1.apart η⟩|AfB=>K.lookup f=some ⟨oc,od,ε,ζ⟩|AfC=>∃o,ε/\∀v,o.data≠ .cell v|AZv=>eD (l.length/2)|AZw=>h v zY|AZx=>AIl Constant ε j ζ|AZy=>(zB _ _ _ ?_)|AZz=>X.env.scope.names.lookup y=some đ|AZ0=>Κ x H' y|AfD=>M5 rows ws ps
|AZ1=>by show tq z6 wpAny_onRaise|AZ2=>by rw[F9 (show¬(ε) from Bool.false_ne_true)]|AfE=>(es.getD p (0,Ω)).2|BKy=>h p (zX _ hp)|AfF=>WP LA H none|AZ3=>iy t s.heap l xs|AfG=>ABx ACx TH/ Ac5|AZ4=>qD (mH AJC AJD ws h)|AZ5=>by show OQ hx e hx|AfH=>WP LA H1 none|AZ6=>∃c,x= .bl c/\ε|AZ7=>∀(rows:AW)(w:Str),_|AZ8=>BJ1 (FL sb.2 b hb e)|AZ9=>by generalize BU a.num=x at*|AZ_=>by generalize BU b.num=y at*|AZ'=>by generalize CB b.den=v at*|AaA=>by generalize CB a.den=u at*|AfI=>List.zipWith ε as bs|AaB=>σ ->α ->Rat|AaC=>lt ε (p.getD ζ 0)|AaD=>AJR (tw ε) (fun ζ s₁=>η)|AaE=>∀{x qual:Str},_|AfJ=>HL cs Ap (ε) ζ|AaF=>JP (fun d Γ1 F1 H1 v R1 s1 r q=>ε)|AaG=>AJh ε "__setattr__" "object.__setattr__"|AaH=>ne c _ z (Fm w (dQ w))|AfK=>ne c _ z (GT w (dQ w))|AaI=>tH (pos:=ε) (i:=ζ)|AfL=>(.tr as (.ob C fs ts))|AaJ=>U i j hij ε|AaK=>((l+r)/2)|AaL=>(Zg b o e hx)|AaM=>gG t1 s.heap i1 l1 k1|AaN=>gG t2 s.heap i2 l2 k2|AfM=>J1 (Μ (ε=AQl)&& ! one)|AaO=>by obtain⟨a,vs,h0,h1,h2⟩:=h|AaP=>(qM hd m)|AfN=>Acy nW update|AaQ=>by show Ac1 p1 p2 ε|AaR=>Cl (sIx n 0 lo)|AaS=>(L2.upd F' acc OU)|AaT=>by refine z6 (wpAny_typeNameOfWhole_keyiter hit.typeIs AQ3)|AaU=>∀w,w∈ws↔ε|AaV=>(Uo r ta tb)|AfO=>.cons (Ch (RelV ε (Value.ref ζ)) rfl) r|AaW=>AQV J.type (z6 (AQV ε ζ))|AaX=>by rw[hc,ea] at q;cases q|AfP=>(.Raise (A9 (jv (i9 np) Da)) none pos)|AaY=>ZK ε (qq ZM) AJV|AaZ=>ε g tc ζ (pC own.length caps Γ)|BKz=>Oj K mg "NO_GAP" BKW|BK0=>⟨_,rfl,"set_iterator",_,ε,qY.lookup,ζ⟩|Aaa=>h.Ns1 dx mA|Aab=>ig xs ys=true|Aac=>holding ε (eval ζ X.env)|Aad=>Z5 I S e|Aae=>pI H F' a|AfQ=>g ε Γ (Υ Γ' ζ) E|Aaf=>lU K H a AdD|Aag=>ABk ε s.heap b u|AfR=>(BKN 1 2)|Aah=>AP7 QE elt te|AfS=>BKO (AIx none (.seq ε ζ) #[])|Aai=>AQD BKR e (ε i ζ)|AfT=>tz ε (s.heap.UpToSlots h') (Q () MA)|AfU=>by rw[typeLookup_type,builtinLookup_eq_fast];kernel_rfl|AfV=>P (ys++zs)|Aaj=>g x σ H' (AI2 (tb (AI8 N N) σ2 H2))|AfW=>BKQ ε Ω Ω|Aak=>by have n:=WT (t:=t) h|BK1=>∃S' ∈ε,AJF S S'|AfX=>AdM hq2 hq2 (AdF ε)|Aal=>BK rfl (nQ (AH' 0 ε) (AP6 (AH' 1 ζ) (AH' 2 η)))|Aam=>by refine RM AcX AcX (P.ne ψ ψ ψ) ?_|Aan=>(by intro q;cases q)|BK2=>EH Γ' 0 (.pu (.ptr a))/\ε|Aao=>W.methodCall_KW (pl:=pl)|Aap=>(by rcases hq with hq | hq)|AfY=>by obtain⟨_,o2,e2,nf⟩:=ε|Aaq=>by rw[hl] at st hx|Aar=>(Ra I.hok eb)|Aas=>(Ob I5 a)|Aat=>by exact IN ε AQ AQ|Aau=>∀{elts:A5}{x1},_|Aav=>∀[lT](val:HI κ),_|Aaw=>ε H2 (s2.trans s3)|Aax=>W.excIn K ε AdO "ValueError.__new__" =true|BK3=>EH nms v AL|Aay=>ε ζ es1 (SetTable.grown es1.size)|Aaz=>by refine wpAny_Call_Name_kw (Be DR I hg hm ?_ hdb)|Aa0=>by show B' rfl rs zj8 ε|Aa1=>#[BK rfl (AP6 (AIp ε) (AIp ζ))]|Aa2=>Os R1 s1 q|AfZ=>∀{rows cO :AW},_|Aa3=>by show DJ ⟨k,c,e,ε⟩|Aa4=>TR K F H t v ε|Aa5=>T.obj _ _ ε b hb|Aa6=>⟨0,0,0,0⟩|Afa=>Op (BKD k0) BKC|BK4=>by (obtain⟨_,_,z,_⟩:=r';cases z)|Aa7=>RW hA ts vs bs n h|Afb=>by show To ev (all G G' A A')|Afc=>(ï (Sum.inr (xs.getD i Str.empty):Key))|BK5=>(J9 K F H Ex E)|Aa8=>rB p s i|Aa9=>yH c _ (Υ hc ?_) q|Aa_=>⟨s3 _ _ (s2 _ _ e),Α⟩|Aa'=>∀(hs:Β)(x:DO),_|AbA=>fO (i:=ε) nd rfl D8 ζ
|AbB=>by show AIu (H_ .ε) (H_ .ζ) (H_ .η)|AbC=>by show AIu (.ε _ _ k1 hu0) (.ζ _ _ k1 hu0) (.η _ _ k1 hu0)|AbD=>wpAny sw X.A (pyNext (AG it)) (WS s1 ε) E s|AbE=>by show ě (.ε _ _ k2 hu0) (.ζ _ _ k2 hu0) (.η _ _ k2 hu0)|AbF=>ε pins s σ H _ _ u w Q I rx ry ζ|AbG=>(Iu ws v bs)|AbH=>by show PQ;exact ε a t' b t|AbI=>(Jz lo n).ε i H|AbJ=>by show ă e1 (I.base.slot b o e n hb hx)|AbK=>μ*d.fdiv eB|AbL=>Vf (AV ε) (C8 LJ)|AbM=>dt rs (cols p)|Afd=>nsIn K mainGlobals x=some (A9 Fk)|Afe=>fun a F0 hA=>(CC (bV ε))|AbN=>∀{n:Nat}{f:kX},_|Afg=>(NS v (∃h:Ac0,v=es[i].key))|AbO=>FL far b (Rg hT hdT q n)|AbP=>by obtain⟨_,_,_,q⟩:=hs;exact False.elim q|AbQ=>zmp (d:=ε) (lS ζ)|AbR=>obs (cut s.heap n)|Afh=>.inl (IL _ kk (JD ε ec) ζ)|AbS=>.ow (AO (Kj k) nm .str)|AbT=>by obtain⟨ws,kv,hd⟩:=zmx I hq OD|AbU=>by obtain⟨b1,b2,b3,b4⟩:=ε|AbV=>ZS I5.kIn Px ε e1|AbW=>ε X.prog X.w s.heap.objs.size ns|Afi=>ε pm an cdv ct|Afj=>SR X.K F1 H1 ε ζ σ η|AbX=>.ask i j k|AbY=>.ma ws v bs|Afk=>∀{t1 t2:Bool}{z TI TO i1 i2 l1 l2:Addr}{k1 k2:Nat},_|BK6=>IN (BKV ho hd) ((Obj.cls_mapFields ..).trans hc) ε|AbZ=>(AY (r=jd) 2 1)|Aba=>by obtain⟨z,its,n,r,e⟩:=ε|Afl=>BKP ε xs.length (BKX - BKT)|Abb=>∀kvs,u≠ .dK kvs|Abd=>by show ACf a1 u1 h1 h0|Abe=>by obtain⟨o,e,c,d⟩:=st|BK7=>(zR _ (Zm hb e))|Abf=>["spot","row","place","ahead","lead"]|Abg=>NI (.For tg ε body [] pos) (ζ η g tb)|Abh=>by obtain⟨hb,eb⟩:=nH b u eb|Abi=>AdP ⟨F4,Γ4,R4,s2.trans (s3.trans s4),q⟩|Abj=>["hands","sheets","lefts","rights","numbers"]|Afm=>show its.toArray.any (Bt x)=its.any AQu by simp|Abk=>GY (BJy cpos).all x (x.1).isSome|Afn=>∀{n p:Nat}{A:OV}(BKL),_|Afo=>Tk l Au P Q1 (AIc ε) (P (ζ η)) (AJf l.map)|Abl=>∀(t1 t2:Bool)(h:Heap)(l1 l2:Addr),_|Abm=>(match k with | lI=>x | .inl _=>Str.empty)|Abn=>[z,TI,TO,i1,i2]|Abo=>Μ (ε+ ([]:List Keyword).length+ (AY ([]:List Keyword).isEmpty 0 1)<30)
|Abp=>∀(hline:k_:=by rfl)
 (he2:starEach (sj AP5 [] cpos) X.env=EW (CH ARB) (EV []):=by rfl),_
|Afp=>IsZip ε z TI TO (rawInt ζ)|BK8=>∀(q:Nat) w p,dc ws w ->dc ps p ->ε|Abq=>Be Zn cx.po hc ε (JO hg) LT hs|Abr=>AdI pos (ē H1 (∃F1 Γ1 ds,AJI/\ky/\Ac9/\ε)) I (RE (AdK ds))|BK9=>k d Γ2 F2 H2 v R2 d_ ε ζ|Abs=>eZ.there ts vs bs h a ha|BK_=>Steps prog w A I S ε ep o|Abt=>by refine ZV e1 ε hob hobc (ζ PySem.F.excBase_ValueError.hasBase) ?_
|Abu=>by
 show Ts p1 p2 ε;show CF o p1 (Rb p2 GA ζ);have:η:=Ξ (by subst z;exact θ)
 rw[bG this];exact ι
|Afq=>Ck rows r g x ws v|Afr=>(match xs[j]?,ys[j]? with | some a,AQ1=>nD a b | _,_=>false)|Afs=>["self","rows","rule","gap","scale","bounds"]|Abv=>["part","head","row","lead","place","ahead"]|Abw=>z.sameBut hs (cne y c e)|Abx=>by show LU _ _ _ rfl AQ AQ AQ|Aby=>ε pins s σ H x _ v u Q I rx ry ⟨p,vs,rfl,ζ,Hf h1 r1,VH rs h2,r6 (Gc (Hg h1 r1 rs h2)) h3⟩|Abz=>CA AJT (ε C m sp te t)|Aft=>[.ExceptHandler (A9 (FE x1 WD)) ε (b1::mD) hp1,.ExceptHandler (A9 (FE x2 WK)) ζ (b2::mF) hp2]|Afu=>ε K C f sp vs H Q E|Afv=>by have em:ws'.map v' =AO ws'.map v LN:=Ο List.map_map (Acx ev)|BK'=>∀{tb:OV}{rs:B6}{fs:AB'}{ix:On},_|Ab0=>by obtain⟨q1,q2,⟨u,v,q3⟩,q4,q5⟩:=q|Ab1=>∀(P:Program) (w:World) (K:W.Frag) (mg:B7),_|Afw=>∀(w:World) (K:W.Frag) (mg:B7) (base:Heap),_|Ab2=>∀(X:Cx),Φ (X.prog=P) (X.w=w) (X.K=K) ε (∀(i:Nat) (pins:dD) (s:Shared) (σ:St) (H:Hp) (E:dh),ζ)|Ab3=>by have:=DZ (W0 (rs:=rs) (cs:=ε)) ks ks ss rs r ζ fun s hs=>hs|Ab4=>(by rcases g with ⟨kvs,k,e,ey,l⟩ | ⟨kvs,k,b,e,ey,eb,l⟩)|Afx=>["sheet"]|Afy=>["counts"]|Afz=>if ε then ζ else none|Af0=>by rw[Rat.intCast_mul,ε]|Af1=>by rw[ε,ζ,η,θ,List.getD_eq_getElem?_getD,ι]|Af2=>by rw[Heap.size_push]|Af3=>by rw[Int.natAbs_mul]|Af4=>by rw[List.pairwise_append]|Af5=>by rw[List.map_append]|Af6=>by rw[List.filter_filter]|Af7=>ε<=fs.flatten.length|Af8=>by obtain⟨_,_,_,_,e⟩:=ε|Af9=>by obtain⟨_,_,_,e⟩:=ε|Af_=>by obtain⟨_,_,_,e,_⟩:=ε|Af'=>by obtain⟨_,⟨_,_,_,e,_⟩,_⟩:=ε|AgA=>(by rcases ε with ⟨ζ,η⟩ | ⟨θ,c,ι,ν⟩)|AgB=>by simp only [List.length_map] at ε|AgC=>Int.gcd_dvd_left ..|AgD=>Int.gcd_dvd_right ..|AgE=>by simp only [List.lookup_cons,ε] at ζ|AgF=>by injection ε|AgG=>List Obj|AgH=>List L2.Key|AgI=>(by injection z)|AgJ=>by rw[<- ε,<- ζ];exact η|AgK=>AC (-(2^62))|AgL=>beq_eq_false_iff_ne.mpr h|AgM=>I.list h|AgN=>beq_iff_eq.mpr h|AgO=>List.drop_eq_getElem_cons h|AgP=>Nat.mul_le_mul_right _ ε|AgQ=>.ref s1.heap.objs.size|AgR=>(AV none)|AgS=>Μ XN|AgT=>Μ ĉ|AgU=>.int (lo+i)|AgV=>Ο List.length_map ε|AgW=>(CO xs.reverse)|AgX=>C7 Heap|AgY=>SeqAt.EqAt.same _|AgZ=>Ξ AdU|Aga=>by rw[e];rfl|Agb=>by subst r;rfl|Agc=>by show BF ψ;omega|Agd=>.inr uC|Age=>i7 ADN|Agf=>BM its.size|BLB=>BM vs.length|Agg=>BM items.size|Agh=>BM z.length|Agi=>BM es.size|Agj=>BM rest.length|Agk=>(Nat.le_refl _)|Agl=>(hm.push _)|Agm=>C9 h'.get? ε|Agn=>show ε by show OM|Ago=>(JO h1)|Agp=>(JO hk)|Agq=>.lst ACv|Agr=>by have ε:=Heap.get?_update_self ζ η rfl|Ags=>AZ ziu|Agt=>AZ zxz|Agu=>AZ zwy|Agv=>AZ zee|Agw=>List.length_filter_le _ _|Agx=>W.handedIn ε=true|Agy=>.none_bool _|Agz=>.bool_none _|Ag0=>(D1 hk)|Ag1=>(D1 hy)|Ag2=>CB AJb|Ag3=>CB (L6*m)|Ag4=>GS "enumerate"|Ag5=>by rw[Int.natAbs_mul] at e|Ag6=>by show D3 wpAny_standAt ε|Ag7=>CC PV|Ag8=>by refine Calls.spliced_nil ?_|Ag9=>by refine Calls.spliced_cons ?_|Ag_=>(.dK [])|Ag'=>by (show F6 ε zK)|AhA=>(a::dx::bs)|AhB=>by rw[List.pairwise_cons] at h|AhC=>(CY hy)|AhD=>by unfold ε;show EK|AhE=>i_ LE|AhF=>List.getElem?_eq_getElem ψ|AhG=>decide_eq_false ψ|AhH=>List.drop_eq_getElem_cons ψ|AhI=>show ε by omega|AhJ=>zx.up Δ|AhK=>(JU BG)
|AhL=>(JU DT)|AhM=>L.hS b hb|AhN=>(Fs hh)|AhO=>beq_eq_false_iff_ne.mpr q|AhP=>b∈X.fs|AhQ=>D9 (bv U)|AhR=>(.bl true)|AhS=>ns.length<=n|AhT=>Dx Flow|AhU=>Dx Result|BLC=>List.mem_singleton.mp hb|AhV=>.none_int _ _|AhW=>.none_str _ _|AhX=>.bool_bool _ _|AhY=>.int_none _ _|AhZ=>.str_none _ _|Aha=>vs.length<=i|Ahb=>by have:=ε;grind|Ahc=>Sn ε O.ex.1|Ahd=>NG ε Rat.not_lt.mpr ζ|Ahe=>Ñ BKq|Ahf=>List.nodup_cons.mpr ⟨ε,ζ⟩|Ahg=>by show ARV;exact ε|Ahh=>OT AJ3|Ahi=>OT (l.length+1)|Ahj=>by refine List.filter_congr (AD ε ζ)|Ahk=>AH8 cq|BLD=>WJ "sorted"|Ahl=>by show KB wpAny_handled|Ahm=>Cls X.K C|Ahn=>by have hl:=r.length|Aho=>HR Adh|BLE=>Gl X "sorted"|Ahp=>(Adq qD)|Ahq=>(z8 _ e1)|Ahr=>Ô ε (Ff s' ζ)|BLF=>decide_eq_true rfl|Ahs=>ε ζ a its.toArray|Aht=>((A2).map .inr)|Ahu=>(hf b hb)|Ahv=>k<ns.length|Ahw=>WZ BKn|Ahx=>ck (WE 1)|Ahy=>i<=ds.length|Ahz=>I_ (Î mO ε)|Ah0=>cy zwd|Ah1=>(sA Θ)|Ah2=>.ow (Kj ε fun j=>ζ)|Ah3=>kC List.getD_eq_getElem?_getD ε|Ah4=>(pre++ARX)|Ah5=>(pre++d::sT)|Ah6=>(pre++c::AJs)|Ah7=>(Ü Adg)|Ah8=>(Ý Ρ)|Ah9=>by show BD u rfl rx vals1 r1|Ah_=>oY x=true|Ah'=>FK ε ["rows"] ζ|AiA=>K.In s₁.heap|AiB=>(j_).Nodup|AiC=>by rw[List.getElem?_map] at h1|AiD=>XI BKy|BLG=>wpAny_truthy_bool ⟨ε,ζ,η⟩|AiE=>by show å List.length_range|AiF=>(topStub p)|BLH=>tn i s'.heap|AiG=>æ its|AiH=>(kN Χ)|AiI=>["hand","group"]|AiJ=>(frs outer)|AiK=>B8 σ kL|AiL=>NG ε Nat.not_lt_zero _|AiM=>List.getElem?_append_right (Bz hi)|AiN=>(du "made")|AiO=>rows.filter fun r=>ε|AiP=>by have hi:i<vs.length:=ε|AiQ=>by have hi:i<Γ.length:=ε|AiR=>.seq its n|AiS=>AP9 I.laid|AiT=>(ô (bv U))|AiU=>(ô (ADW 40))|AiV=>Array.getElem?_eq_getElem hi|AiW=>B.StaysIn h'|AiX=>Nat.lt_or_ge j ε|AiY=>(l.map .int)|AiZ=>.lst (bs.map ε)|Aia=>(200*27720)|Aib=>(zX _ hx)|Aic=>qD (x' h)|Aid=>wpAny_execs_nil ⟨ε,ζ,η,θ⟩|Aie=>a=X.env.locals|Aif=>(Gc q)|Aig=>by have ε:BM vs.length:=ζ|Aih=>tJ xs.length|Aii=>tJ kvs.length|BLI=>(g.unbase gr)|Aij=>lL s.heap.get?|Aik=>(WI a dL)|Ail=>AcH ε "__init__"|Aim=>Rd H a AJ0|Ain=>KV kvs ws|Aio=>AcJ (Ö ε "__init__")|Aip=>rv.up s1|Aiq=>(ks.map kV)|Air=>X.env.cells.lookup y=some ε|Ais=>(e - AQ6)|Ait=>Fm h h|BLJ=>(ACV List.length_take)|Aiu=>MD AJW*f j|Aiv=>.obj _ _ _|Aiw=>.bool_str _ _ _|Aix=>.str_bool _ _ _|Aiy=>AQI (W_ old)|BLK=>BJu "other"|Aiz=>fun e=>kf e.2|Ai0=>Int.lt_or_le 0 ε|Ai1=>ay Key Value|Ai2=>ĕ (.frz o (gW a C))|Ai3=>aq rows (Υ r (ε*T0))|Ai4=>ws.filter fun w=>ε|Ai5=>(Q5 K a)|Ai6=>(Ite K a)|Ai7=>xs.getD j 0|Ai8=>ue name|Ai9=>by rw[List.getElem?_set_ne ε] at e2|Ai_=>(ACk hb)|Ai'=>(ACk ho)|BLL=>BJw "_law_told_here"|AjA=>r1.up s2|AjB=>ε (by exact_mod_cast z)|AjC=>z.natAbs<=B|AjD=>c<s.heap.objs.size|AjE=>h.FunFrames ε l|AjF=>∀(ha:Tu a tA),_|AjG=>∀(ha:PT X a tA),_|AjH=>Ĝ (hstop rfl) ε|AjI=>(xs.map .str)|AjJ=>C9 h.get? o|AjK=>h'.IsCell c v|AjL=>ġ ε (WF h2 ζ)|BLM=>TK s.heap.push W.emptyDict|AjM=>AcZ eZ.move|AjN=>AcZ eZ.rep|AjO=>AcZ eZ.repN|AjP=>(X.wsh z).Ok|AjQ=>(Aca (AJl (ET::us)))|AjR=>K0 fG NE FR f fd ps (ε K sp)|AjS=>by obtain⟨Ss,F,p⟩:=G.g.pi|AjT=>o.data= .dict es ep
|AjU=>(vs= [.ref q])|AjV=>W.looks_clsIn X ε|AjW=>W.looks_findIn X ε|AjX=>o=some B9|AjY=>D2.nx (Γ1.set i ε)|AjZ=>ADL AdN|Aja=>ADP "list" ε|Ajb=>fun vs σ H Q=>ε|Ajc=>by show ADS ds.length|Ajd=>∀{i:Nat}(h:i<l.length),_|BLN=>AQw base.Ns|Aje=>AQw h.Ns|Ajf=>(I2.env0.make C us [])|Ajg=>dW (cu 1 ε (iL ζ) IS d7 η)|Ajh=>R1.g.trans sH|Aji=>by show AJk ε List.length_range|Ajj=>seqIndex_neg ψ ε|Ajk=>oe.dict=some dx|Ajl=>PW X (.BoolOp .Or ε pos) ζ|Ajm=>DU QW (.BoolOp .Or ε pos) ζ|Ajn=>iB K c.Open|Ajo=>hs.map fun h=> ε|Ajp=>B2 ε (Nat.le_succ _)|Ajq=>p.getD k 0|Ajr=>DB (bG ne) gb|Ajs=>DB (ADX n2) gb|BLO=>by have:=ε;show AJ ζ;omega|Ajt=>I.base.free b o e n|Aju=>k b o hc e|Ajv=>∀i,i<m.length ->ε|Ajw=>by show Nn i ds.length|Ajx=>sV R1.g hq|Ajy=>Acr ε List.map_map|Ajz=>Acr ε List.filter_map|Aj0=>tu a2 b2|Aj1=>.qJ _ ts|Aj2=>PA X cq ta|Aj3=>(Acs dx)|Aj4=>AJ4 zH4|Aj5=>Ĥ (Qr (bG (show He from ε)))|Aj6=>gG t1 ε i1 l1 (k1+1)|Aj7=>gG t2 ε i2 l2 (k2+1)|Aj8=>(N*M)^rs.length|Aj9=>(by rcases Nat.lt_or_gt_of_ne ε with q | q)|Aj_=>(by rcases Rat.mul_eq_zero.mp ε with q | q)|Aj'=>nG f v (ε::r)|BLP=>vs.length=ps.length|AkA=>seqIndex_of h0 ε|AkB=>AD w _|AkC=>AD w hw|AkD=>IA xs q|AkE=>∀r∈rs,AKB r|AkF=>FS acc H'|AkG=>(HP Ν Θ)|AkH=>.dik ks xs|AkI=>K' p ć|AkJ=>LV h E8|AkK=>.ow (rows.map sZ)|AkL=>(k,x)::r|AkM=>(h2 a h).2|AkN=>(hn a h).2|AkO=>kq decide_eq_true q|AkP=>zrx (t:=ε) (b:=ζ)|AkQ=>.none_tuple k2 hu0|AkR=>.none_list k2 hu0|AkS=>.tuple_none k1 hu0|AkT=>.list_none k1 hu0|AkU=>by obtain⟨its,r',pl,hz⟩:=I.list hq|AkV=>by obtain⟨its,r',pl,hz⟩:=I.tuple hq|AkW=>.bool_tuple _ k2 hu0|AkX=>.bool_list _ k2 hu0|AkY=>.tuple_bool _ k1 hu0|AkZ=>.list_bool _ k1 hu0|Aka=>Ac8 hp.objs.size|Akb=>bt.lead (N:=16)|Akc=>Ē x h2|Akd=>(ig xs ys)|Ake=>(lG xs ys)|Akf=>r j*MD cs|Akg=>WV ε ds (ζ*MD (j::ds)) cs|Akh=>(L9 (k b (zQ _ hb)))|Aki=>.tuple_list k1 k2 hu0|Akj=>.list_tuple k1 k2 hu0|Akk=>by show QP σ' H' I q;exact⟨σ',H',Ro I,q⟩|Akl=>by show QP σ' H' I q;exact⟨σ',H',Vr ok I,q⟩|Akm=>ARx ε I.pin|Akn=>W.KasT α|Ako=>T s.heap|Akp=>t.dummies= #[]|Akq=>by show AdR Nat.add_mul|Akr=>by rw[List.zip_cons_cons,List.lookup_cons]|Aks=>⟨0,ε,A1⟩|Akt=>BQ<ps.length|Aku=>by show AdS List.getD_eq_getElem?_getD ε ζ|Akv=>⟨#[c]⟩|Akw=>(AdT hk)|Akx=>Int.fdiv_eq_ediv_of_nonneg _ Δ|Aky=>F' acc=none|Akz=>Same H H1|Ak0=>(as++cs)|Ak1=>(ns.getD i 0)|Ak2=>aq TL (QY Qb)|Ak3=>BN qZ ns|Ak4=>BN ys.map V.str|BLQ=>BE r.length z|Ak5=>by intro pins s σ H Q I hw|Ak6=>D9 (XN ->BKw)|Ak7=>(Ada a.den_pos)|Ak8=>F7 ε Χ Ρ|Ak9=>OY l ε Ty|Ak_=>cn s.heap.get? sv|Ak'=>ABq Γ' a|AlA=>Q4 H' AJe|AlB=>by obtain⟨its,rv,pl,hz⟩:=I1.list hq|AlC=>by by_cases hlt:i<ds.length|AlD=>(d5 aP (kN ACz))|AlE=>Ħ I.hok e|AlF=>(hg x).mpr (D1 ε)|AlG=>by show B' h1 h2 zE.mp ε|AlH=>ABr _ t ds ε|AlI=>cutD tm (A9 ε) (some ζ)|AlJ=>(S0 w os)|AlK=>Adx ADe|AlL=>Ad2 (ub (DM d))|AlM=>qO (aV st) "self"|AlN=>WV d es (s d*h es) ε|AlO=>wpAny_callSpecial?_slot (name:=AJw) ε ζ (ACr η θ ι ν)|AlP=>fun _ _ _ _ _ ε=>ζ|AlQ=>JP (fun t Γ1 F1 H1 v as R1 s1 nd hn r1 h1=>ε)|AlR=>sc.kind= ABz
|AlS=>by have hlen:=r'.length|AlT=>show ε by show EK;omega|AlU=>by show BKe decide_eq_true_eq ε|AlV=>s.TypeIs ε "dict"|AlW=>(z.fdiv ε).fmod|AlX=>Q (.int ε s.toks) AJ8|AlY=>AD k hk|AlZ=>AD x hx|Ala=>(vs++ws)|Alb=>aq s (DI (ε* e_))|Alc=>by refine PyProof.Rows.callWith_type1 ε ζ rfl|BLR=>xs.all oY=true|Ald=>hs.map fun h=> ε|Ale=>S.filter fun e=>ε|Alf=>JS es us|Alh=>i.natAbs<2^k|Ali=>Lv SR F H ε (sQ ζ)|Alj=>(Sd a b)|Alk=>Go ε "some" "bounds" ζ|Alm=>K' l ć|Aln=>(P8 bs (Xz 4000 b))|Alo=>∀j,f j=a j+g j|Alp=>List.getElem?_append_right (Nat.le_refl _)|Alq=>P [.int e]|Alr=>BKk (b9 hi')|Als=>aq rows (QY MG)=0|Alu=>XG is.map Adt|Alv=>kK e tf|Alw=>d4 p hk|Alx=>Xs hr e|Aly=>X.xe e s'|Alz=>(ù (UA/\eh))|Al0=>(∀p∈names,Acv)|Al1=>Em S.marks=some (ks,ys)|Al2=>.str x _|Al3=>lt i j=true|Al4=>dt Ġ k8|Al5=>mids (lV qs)|Al6=>AQq dx a|Al7=>(start N vs)|Al8=>(rv.up s2).up|Al9=>aX.mpr ⟨h1,h2⟩|Al_=>t_ t v as|Al'=>Kj m fun j=> .int (ε j)|AmA=>by subst hb;rw[gb] at e;cases e;exact ε|AmB=>by show L' (zj6 rs hns)|AmC=>qP S_ F0 H ε t|AmD=>a.free c ob q n|AmE=>(Hr X.prog X.w q ns)|AmF=>by rw[List.nodup_cons,List.nodup_cons] at nd|AmG=>.ob _ _ ts|AmH=>.lst (ğ o (ARv h))|AmI=>(Υ j (nA rows ws m i j*AdB x))|AmJ=>gH ks ε k=some d|AmK=>by obtain⟨t,ht,hq⟩:=Ad9|AmL=>Adu (Ad8 (Tx ε))|AmM=>Bs s.heap x dx C mA|AmN=>by obtain⟨a,dx,vs,bs,e1,rfl,e3,e4,e5,e6,h⟩:=h|AmO=>BKt cps.toList|AmP=>(GM oO ARL 12)|BLS=>jR X (compareOp op) r|AmQ=>XB (jp ε) (jp ζ) e|AmR=>d6 Constant ε j (tC ζ)|AmS=>wK fs ts f=some ε|AmT=>Sz 4000 (dH (qs.take k))|AmU=>⟨F2,Γ2,_,R2,h2,ε⟩|AmV=>(zH1 t1 ε l1).objs.size|AmW=>by show Ad7 ε (ADT AJ5) hs rfl|AmX=>(startM N.length Ads ds)|AmY=>(zM Δ (pw 4000 Δ))|AmZ=>∀i,i∈ms↔i∈ε|Ama=>by obtain⟨a,vs,bs,e1,rfl,e3,h⟩:=h|Amb=>by obtain⟨a,dx,vs,rfl,ea,hl,rs⟩:=rd|Amc=>BK_ es.size|BLT=>ko C (excClassObj nm qn C N bs bm hdct sn sub ab col dd k0 k1 k2 k3 k5 ε)|Amd=>Hd.cB pg|Ame=>r.inj r'|Amf=>B.StaysIn s'.heap|Amg=>ps.map zu|Amh=>X.stack=BKs|Ami=>⟨ε,ζ,η,IsTup.new _ _⟩|Amj=>xs.length+ys.length|Amk=>(σ[j]?).join|Aml=>["end","some"]|Amm=>AIO sc.names.lookup\/ε|Amn=>∃u,ACR e u|Amo=>A.units<cLine|Amp=>U.length<60|Amq=>⟨vw,hd⟩|Amr=>by have RV:=kv.length|BLU=>by simp only [ε,Bool.false_eq_true,if_false]|Ams=>let ⟨o,ho,r⟩:=x;Sn (ε o ho) r|Amt=>by wp_walk using BKf,BKg|Amu=>l.length % 2|Amv=>by dsimp only at e1 e2|Amw=>(newList [])|Amx=>(SetTable.grown es1.size)|Amy=>(ys.map Pb)|Amz=>(cols (p+1))|Am0=>FL Ei.2 _ ε ζ|Am1=>A.handled=some B9|Am2=>l.most=some n|Am3=>env.frame=some L|Am4=>(p::ADJ)|Am5=>(acc::as)|Am6=>∀H1,WA H1 ->ε|Am7=>AD i hi|Am8=>AD c hc|Am9=>AO ws.take i|Am_=>.inr (FM (ε hb))|Am'=>B8 ds d|AnA=>X _ _ ho|AnB=>(xs++ys)|AnC=>CA value tv|AnD=>W.notCls o=true|BLV=>BE (jO r1) lj|BLW=>AH3 sw (pyIter (AG it))|AnE=>yU.there b o eb ε|AnF=>h ε (List.mem_cons_of_mem _ ζ)|BLX=>aF K c.bK "reach"|AnG=>.pu (pK S)|AnH=>.pu (outD o)|AnI=>eX X.K te|AnJ=>(Heap.SameBut.update _ I _)|BLY=>AH6 (jI ε "__init__") ζ|AnK=>Fu (call (Kk ε) ζ)|AnL=>absurd rfl h|AnM=>(ON h _ I hw)
|AnN=>by rw[Gj,decide_eq_true_iff];exact ε|AnO=>fun r _=>(ka c7)|AnP=>NL [] (DA ε)|AnQ=>(eU NE P w K mg base eQ qual ABf f cdv A outer s H mB)|AnR=>Ò s2.heap.push AJi|AnS=>PS X st t|AnT=>(ε _ z).2.1 rfl|AnU=>LL ob ACJ|BLa=>fun a b=>D.bl (ε a b)|AnV=>jn rows.map sZ|AnW=>Ix r hr|BLb=>min v.toNat n|AnX=>(O4 a Ex)|AnY=>(OZ _ (v= ADG))|AnZ=>ML Γ1 (.pu (nJ k))|Ana=>AJ_\/ε≠none|Anb=>by have ε:ζ AJq=true:=by rw[List.contains_cons,η,Bool.or_true]|Anc=>(jm g t)|Ane=>by cases h;subst r;rfl|Anf=>(y,k)::r|Ang=>k b ob q|Anh=>(p.getD m 0)|BLc=>(dP (ACj k))|Ani=>(m.getD j default)|Anj=>AIT ε (Lg (OO j (Ach ζ)))|Ank=>["end","found","bound"]|Anl=>["start","end","bound"]|Anm=>(old b o eb)|Ann=>RU (by(cases (hr)))|Ano=>cu 1 ε (iL ζ) IS|Anp=>Re hos hds ε|BLd=>.dic (jx ks ε) (Ac' ks ζ)|Anq=>QI X F0 H0 ARu ε ζ|Anr=>by have sH:Same H1 ε:=GW ζ|Ans=>T6 (H x)|Ant=>ne b _ q AQx|Anu=>no b _ q ADZ|Anv=>(cz ha _ I1 q)|Anw=>Ε ->i8 (ε) XV|Anx=>tu b1 a2|Anz=>fs.Pairwise (se BKv)|An0=>dH (qs.map LN)|BLe=>by refine BV ⟨ε,codeAny_builtin ζ ?_⟩|An1=>zgj rfl rfl dg ε|BLf=>(by rw[isSubtype_type];kernel_rfl)|An2=>{s with drawn:=d}|An3=>model prog w|An4=>ċ (K_ k) (We h)|An5=>(Υ r (g r*g r))|An6=>∀(n:Nat)(f:On),_|An7=>by show MC (seqEpoch_at (n:=ea)) ε rfl|BLg=>s1.heap.push (NN ε #[AI])|An8=>by obtain⟨t,hx⟩:=cy RK|An9=>by show OQ hb e hb|An_=>qD (fM ε ζ (v w))|An'=>by show FV hl hb h|AoA=>∀(rows:AW)(ws:Β),_|AoB=>by refine C_ (setField _ _ _) (wpAny_setField g1 g3 Ψ ?_)|AoC=>∀(pins:dD) (s:Shared) (σ:St) (H:Hp) (Q:ε),Ι ->fE ->ζ|BLh=>(pw 4000 Δ)|AoD=>by subst h;simp [aM]|AoE=>AJP (Ad1 ts)|AoF=>∀{k:Nat}{A:Around},_|AoG=>OX (¬OW) H1 H|AoH=>(z8 _ (z9 _ rfl))|AoI=>JG K F Hx ε ds|AoJ=>Í Γ P ta d Γ' ε|AoK=>fun D σ H=>ε|BLi=>fun ys hy=>(Ο (ε hy hq) hx)|AoL=>IsPart vl lo|AoM=>IsPart vu hi|BLj=>newExc AdX []|AoN=>GM ε (MS Ν 3) 1|AoO=>∀(h:Heap)(H:Hp),_|AoP=>(B2 z (yV _))|AoQ=>IO (hi - lo)|AoR=>tb Γ' P E|AoS=>AJr AQZ "work" ε|AoT=>lu n d d'|AoU=>k b o (Hb (hc (Fs z))) e|AoV=>AJz (BK1 JW)|AoW=>J1 (true&& ! false)|AoX=>ARK (lu n x y)|AoY=>by obtain⟨m,hn,hl⟩:=ε|AoZ=>H' acc=some OU|Aoa=>fun b ob q _=>ε|Aob=>bG (ne b _ q AQx)|Aoc=>bG (hm b _ q (Ξ z))|Aod=>ARU ε ζ Ν Θ|Aoe=>ACG (Ch (b∈ ([]:AR)) ε)|Aof=>by refine NV typeOf (wpAny_typeOf ε ?_)|BLk=>(cv.fdiv 3).fmod 40|Aog=>(ACW (AO bs.map bD))|Aoh=>WV c ds (ε*MD ds) cs|Aoi=>ARi (eL st.at (k it Ψ o e))|BLl=>ARk G_ (done _ ε)|Aoj=>ARs Q Q|Aok=>AC (BN ns.map D.int)|Aol=>zV.mp (I.stkSub b ε)|Aom=>by have ε:ζ=s.heap.objs.size+η:=DB Heap.size_push θ|Aon=>(.Tuple elts x1 pos)|Aoo=>IN rfl Α Α|BLm=>E Γ1 (.pay C [fl] [tr])|Aop=>by show Pc w hw hq|Aoq=>Adj "__setattr__" "object.__setattr__"|Aor=>ko e (AJ2 t #[])|Aos=>Adk aq (ε (l:=l))|Aot=>(xJ h H).get?|Aou=>(X.wsh ⟨xe,Adi⟩)|Aov=>(setAttr RI name v)|Aow=>by unfold cZ;rw[ih];grind|Aox=>(z.fdiv 4).fmod 3|Aoy=>∀{hs:Β}{h:Str},_|Aoz=>(kS hl1 hs1.extBut D.l1z)|Ao0=>ACw (C8 (Q AF)) Q|Ao1=>by refine ku specialOf (wpAny_specialOf hT2 ε ?_)|Ao2=>BKS p (rawInt p)|BLn=>[.leaf d1,.leaf d2]|Ao3=>∀{rs:B6}{cs:Ap},_|Ao4=>∀k v,BJ7 ->kf v=k
|Ao5=>eO X.prog X.w X.stack H s ε e s'|Ao6=>∀(K:W.Frag) (sp:ε) (vs:Ζ) (H:Hp) (Q:VK) (E:XK),_|Ao7=>qO X.env.scope y|Ao8=>AJn ε (qM hd b) ζ=η (qM hd b)|Ao9=>Adn (AIx ε (.seq items n) ζ)/\HH s.heap.get? η/\Adr θ ι|Ao_=>List.mem_range.mp (a1.mem_iff.mp hi)|Ao'=>by subst z;rw[ε] at mu;exact mu|ApA=>zj l r x|ApB=>HL qs AA (∀q∈qs,ε) ζ|BLo=>W.codeIn K cdv qual=true|ApC=>by have hlk:es.size=ε:=A0 O.key.length_eq|ApD=>Adv eZ.move ε GA ts vs bs ζ r|BLp=>MQ r hr rfl|ApE=>by show PU rfl VR q|ApF=>d6 Attribute e f ε|ApG=>rk S bs i|ApH=>∀(rows:Cn)(w:α),_|ApI=>is.map fun i=>ε i AF|ApJ=>Vals (ns.map T_) its|ApK=>by obtain⟨o,kvs,e1,e2⟩:=ε|ApL=>(vals.map kf).Perm ks|ApM=>ģ (call tS (ε::us))|ApN=>∀ds Q Ex,sp ds Q Ex ->t ε (gB N ds) P6|ApO=>⟨y,H2,I2,ε,q2⟩|ApP=>cutD (l.map qD) ε (A9 ζ)|ApQ=>∀(f:Str)(v:V),_|ApR=>fun ds Γ1 F1 H1 vs R1 s1 r1 h1=>ε|ApS=>by obtain⟨o,e3,w,rfl,nd,hn,r⟩:=AQb e2|ApT=>(h u _ ý ru)|ApU=>I.un (h' :=s.heap) (t' :=ε)|ApV=>(Nat.le_of_eq (Heap.size_push _ _))|ApW=>by show GG (R1.g _ _ q) n1 n1|BLq=>∀{K:W.Frag}{F:Hp}{a:Addr}{vs:Ζ},_|ApX=>by obtain⟨m,hm,hx⟩:=List.mem_flatten.mp (G.mem ε)|ApY=>ADf tv y (eA ta x ε)|BLr=>BindsTo s fd (E6 [u]) [(x,u)]|ApZ=>by have h1:=yw a.den b.den;have:=ha.2;have:=hb.2;omega|Apa=>{nx:=XT,rt:=XT,rT:=ε}|Apb=>∀{rows:AW}{r:Rw}{w:Str},_|Apc=>fun a ha b hb n e=>ε|Apd=>by obtain⟨h',g',d',tk',os'⟩:=s'|Ape=>BK6 (by rw[Obj.data_mapFields hd];simp [rawInt])|Apf=>fun d v F' H' gr rv hp=>ε|Apg=>ε X.prog X.w X.K X.mg X.base C m k ps sp|Aph=>ε=operate ζ (getItem η θ)|Api=>⟨vs,v,ε,hv⟩|Apj=>(match t with | false=>ε | true=>ζ)|Apk=>by by_cases hk:(k==NameKind.free)=true|Apl=>fun w hw q=>ε|Apm=>ε[SetTable.below t.place ζ]?|Apn=>∃its:Τ,ADM/\ε/\Tl|Apo=>["other","hand","sheets"]|Apq=>["end","some","rests"]|Aps=>(by (repeat (any_goals (first | assumption | wp_step))))|Apt=>AC 10^ r9 12|Apu=>∀{xs ys:Ε},ε|Apv=>by rw[ε,List.length_cons,List.length_cons,<- UB,ζ]|Apw=>by rw[List.length_cons,<- r.length,<- List.length_cons (a:=ε),ζ]|Apx=>(l.Pairwise (se (a.1≠b.1)))|Apy=>(revObj l BKp)|Apz=>j7 sc ε X.env|Ap0=>I.tuple (sV sF ε)|Ap1=>R'.sl 0 _ e0|Ap2=>.pu (v8 MU ws)|Ap3=>rows.map (qM hd ε)|Ap4=>.inr ⟨_,_,ε,rfl,rfl,rfl,rfl,ζ⟩|Ap5=>(hμ r hr).2|Ap6=>by show Db (g' =s.gens) hm.gens|Ap7=>OR (s.heap.push (Kl w))|Ap8=>IO (Ic+ AC m*1)|Ap9=>{s with heap:=ε,drawn:=d}|BLs=>fun ε s₃ h₃=>z6 (ζ (z7 h₃))|Ap_=>g ε σ H (AI2 (tb (AI8 AJB AJB) σ2 H2))|Ap'=>n c (zX _ hc)|AqA=>WH F' H' Γ'|AqB=>∃ks xs,ARZ d/\ε|AqC=>(AH_ s.heap.objs.size s H fp)|AqD=>jb (hdS a) (hdS b)|AqE=>by show MC wpAny_lookBehind hoD (B2 hdD (pastItsLine_dict (zP hcD ε)))|AqF=>by show WU hf hf hf|AqG=>by show WU hr hr hr|BLt=>∃es,o.data= .dict es ep|AqH=>jq F0 F b|AqI=>Nl ε (.cons ζ B_)|AqJ=>L2.upd Ď p ARH ε|AqK=>by have ε:ps.length=es.size:=A0 hps.length_eq|AqL=>Υ y (GU y name Ğ ε)|AqM=>(letOwnedTupleGo tg ua u)|AqN=>XI (ACG (Ch (p∈ ([]:dD)) hp))|AqO=>by rw[X9,n] at e;cases e|AqP=>Ke (N5 (Ga ε))|AqQ=>AIe (∃F0 H0,ε K F0 H0 t jN σ H Q)|AqR=>by show X0 ok ov st|AqS=>(cJ Γ σ H)|AqT=>tF (setAttr B9 f u)
|BLu=>1+ (cv.fdiv 120).fmod 3|AqU=>∃v,BK3/\ (v<w\/v=w/\∃o,o<ε/\EH uY o At)|AqV=>ε f ts vs bs (L9 (k b (zX _ (zX _ hb)))) h|AqW=>ACS (.ε ks' ys) (Μ (ks=ks')&&mT)|AqX=>(x - l.1)* (r.2 - l.2)|AqY=>(kI h1 hs1.extBut D.i1z)|AqZ=>(putK kvs k v)|Aqa=>zll hq' rfl ε kp|Aqb=>WV d es (ε*h es) cs|Aqc=>TD "Apart" c.Apart/\lC K c.Apart|BLv=>TD "HallError" c.dX/\lC K c.dX|Aqd=>by have hit2:=hit.Ou (rawInt ε)|Aqe=>fU.d c S AdH|Aqf=>e=x\/AQq e x|Aqg=>nA rows ws m ε|Aqh=>fun σ H=>(BJ_ (I BS Γ2))|Aqi=>by obtain⟨xs,hq,hx⟩:=hg|Aqj=>(items.toList.drop (sIx items.size 0 lo)).take|BLw=>W.fnOf x qual (Jx st) ú ABf ε kV doc|Aqk=>by obtain⟨mA,ns,r⟩:=d4 dx ed|Aql=>by rw[q] at h;cases h;rw[ε r q];rfl|Aqm=>by show AQ9 (Ad6 (mA f) (BE l (r f)))|Aqn=>by show AJ9 (us++ []) (AJm List.append_nil r.length AJ7)|Aqo=>ARJ o ε o o|Aqp=>by obtain⟨od,J,hl⟩:=I.look|Aqq=>by refine C_ (newFields _ _) (wpAny_newObj_type (BV (BK0 AJt ?_)))|Aqr=>by show PZ hS s.heap.push ε s.heap.objs.size ζ OS|Aqs=>by show uS bs e (zG.mp h)|Aqt=>Sq t1 K H a xs|Aqu=>Sq t2 K H b ys|Aqv=>ARa (hg m hm).ε|Aqw=>ARn (∃vs,AJG/\h.DictOf ly a vs)|BLx=>sp (AP4::es) (QY (P r Γ2)) fun Cx=>E Γ2 Cx|Aqx=>by have h1:dt (f::rs) k8=f j*MD cs:=zs4 z|Aqy=>(by rcases mf f hf with hf | rfl)|Aqz=>AdV b h (B5 _ e)|Aq0=>(relabel sc X.env).names.lookup|Aq1=>(gO (ws.take i) v)|Aq2=>Adb ε VF PySem.F.slot_list_append PySem.F.type_list_append ζ|Aq3=>(j' (WP (S b) H2 (H' b)))|Aq4=>by show Cb l xs hq q q1|BLy=>L8 ta d (kG (.exc C0) ((ε)/\DM ζ))|Aq5=>∀x y c,ε ->ζ ->x=y|Aq6=>∀k,k<n ->∀j,(ε k j).natAbs<=ζ|Aq7=>tF (getAttr B9 f b)|Aq8=>by show eR Rt p (by obtain⟨o,n,e,_⟩:=pl;exact Iy)|Aq9=>by refine wpAny_Call_Name_kw (AQW hb ?_ Δ Δ)|Aq_=>WV x es (g x (c::d::es)) post|Aq'=>∀u s',AJQ ->LW ->Q u s'|ArA=>(fore treeTable topGo p w os)|ArB=>0::qs.map fun m=>(AC (iD qs m))|ArC=>g<wd (lV qs) 0|ArD=>(by rcases ε with z | ⟨z1,z2,z3⟩)|ArE=>∀(q:Rat)(l:AA),_|ArF=>ε (ARI qs.map) bd=ζ qs bd|ArG=>Ctx X F0 H0 E|ArH=>(AY (k=f) ((k,v)::r) ((k,x)::nG f v r))|ArI=>AL=w/\At=h|ArJ=>by show BD u hu ru rv.get hx|ArK=>(iw #[Kg Χ (Gb aP) LC])|ArL=>⟨F2,Gr.refl s3,rv.up s2⟩|ArM=>pP (AV yhz) rfl u6 boot_abs ε|ArN=>⟨o,es,ε,h2,h3,h4⟩|ArO=>∀b xs,WZ RF ->AJN RF|ArP=>KG ds Ε vs Ζ F_ ε|ArQ=>by show D7 hr p r Acv p hp (hh p (zX _ hp))|ArR=>∃i j,x= Co/\y= Ć/\C i j/\ε|ArS=>(by simp only [Rep] at r;subst r;cases d' <;>simp only [Rep] at r' <;>first | (cases hf;done) | (cases r';done) | (cases r';exact Rn _) | show BK4)|BLz=>(GW (kp b o (Hb ?_) TN))|ArT=>(AdW Co (ARt i.toNat) AF)|BL0=>["_law_rows","_law_rule","_law_gap","_law_bounds_here"]|ArU=>fun xs ds P=>(r8 ε ζ)|ArV=>by obtain⟨f1,f2,f3⟩:=Iz|ArW=>by obtain⟨n1,n2,n3⟩:=nd|ArX=>by obtain⟨U,hU,hr⟩:=O.hs|ArY=>∃(its:Τ) (n:Nat),ε|ArZ=>by rw[Rf e1,List.set_set] at R2|Ara=>#[au ε (au ζ aN)]|Arb=>by rename_i dd cd sl ho|Arc=>(by rcases ARo with (z | ⟨_,_,z⟩) | z)|Ard=>∀{S:MT}{hs:Au},_|Arf=>decide (Ab (ε*B) AQc)|Arh=>Itz K t1 t2 a|BL1=>Calls.callWith_builtin rfl (PySem.evalArgs_none ?_)|Ari=>∀(X:Cx)(F0 H0:Hp)(tg e:Expr)(t:cN),_
|Arj=>∀σ H,Pv ε σ H ->AQU|Ark=>(z.fmod 4).fdiv 2|BL2=>Bv X.K F' H1 H' C' Mf x|Arl=>by obtain⟨F1,H1,I1,L,n0⟩:=lent I R|Arm=>∃cs t',EH Γ 0 (.tr AJS t')/\ε|Arn=>∀j,ZB M (r j)|Aro=>KG rs B6 cs Ap ε ζ|Arp=>Nv ha hb I h|Arq=>RH (Sg (z ε ψ) (z ζ ψ))|Ars=>sY knd kf led ε a ζ|Art=>gq (Slot.tr ε (.ob C fs ts)) kM ζ|Aru=>Sq t X.K H a ε|Arv=>(by refine ku firstArgMember (wpAny_of_eq (a:=Value.none) (by first | rfl | (simp only [firstArgMember];rfl)) ?_))|Arw=>wpAny_isInstance (T:= "StopIteration") (b:=true)|Arx=>(ACW (Iu ws v bs).map)|Ary=>by show ACf a2 u2 h2 h1|Arz=>PassesOwn Si X.A X.env X.xe|Ar0=>(putK kvs k v).length|BL3=>r=jd/\qs.length=2/\ε|Ar1=>k a zY _ (ε f g AIX h)|Ar2=>by obtain⟨I,i0,turn,done⟩:=h1|Ar3=>∀l,HU l ->FS l (GV l ε)|Ar4=>[(false,CH ε),(false,CH ζ)]|Ar5=>["rows","rights","table","ahead","place"]|Ar6=>∀{x qual:Str}{st:Stmt},_|Ar7=>(OZ H' (ARS /\∃H2,(Ad3)/\ (Ad0)/\Q v H2))|Ar8=>sp (AP4::es) (QY (qe r/\P r Γ)) fun x=>Ep x/\AQt|Ar9=>by show T' σ' H' I2 q q' (fin I2 I2.len (AJg (IN _ I3 q)))|Ar_=>∀v (hv:v<nms.length),ε ->uY[0]∈ζ|Ar'=>h b (zX a hb)|AsA=>lX (fs.lookup f) (mA f)|AsB=>d5 ε (NM ζ (zmy (AV ye8) rfl n6 boot_int (au η aN)))|AsC=>AJM "tuple" O8 (.seq ε dn) O9|AsD=>∀p,HU p ->FS p (GV p ε)|AsE=>bt.small (N:=16) ba ψ h1 hi|AsF=>s.heap.IsSliceOf sl vl vu Ω|AsG=>∀{A:OV}{d:Int}(BK'),_|AsH=>ε pins s2 σ H2 _ I2 q2|AsI=>∀{ta:TA}{p pos:Pos},_|AsJ=>∀(K:W.Frag)(F H:Hp),_|AsK=>ε f ts us cs (L9 (k b (zR _ hb))) h2|AsL=>by obtain⟨b,_,_,rfl,e,_⟩:=h;cases (e);rfl|AsM=>by refine zfw ε (DL i x u e1 e2)|AsN=>⟨F1,Γ1,R1,c0,i0⟩|BL4=>⟨ε,H1,I1,r,z,q⟩|AsO=>by obtain⟨xs,x,hq,hx⟩:=hg|AsP=>fun u' s2 I2 ru=>⟨v,H1,I2,ru,q⟩|AsQ=>∀C s₀ H₀ fp,ε BHZ ζ η|AsR=>["_law_told_here","_law_top","_law_bottom","_law_by","_law_table"]|AsS=>∀(hN:E_)(hv:Nc)(ARp),_|AsT=>(I.ok.cab x c hfn hc)|AsU=>(sliceBounds lo hi none n)|AsV=>(.Slice lo hi none p2)|AsW=>comb (rs.map lx) rs j|AsX=>Cds (Ky m.length) m x|BL5=>(k _ _ F H (Gr.refl sF) IP h)|AsY=>IQ ch (BKx/\ACp/\ (mP b)/\ARh b)|AsZ=>(eU CX P w K mg base N qual scope f cdv A outer s H E)|Asa=>by show MH oj g1 g2 g3 hit2|Asb=>(f ARj (.int j u))|Asc=>∃i j,x= Co/\y= Ć/\ε|Asd=>(J_ tH i j Wq hv2 hd2 HD)|BL6=>(ACZ (r= .ok (.ret AJv)/\OldK s₁.heap s'.heap/\s'.os=s₁.os/\ADV))|BL7=>entryFor_alias (id' := ε) BJ' rfl IY BJ'|Ase=>(Ch (gq (Slot.ow ds) kM a) rfl)|Asf=>by have Ei:Heap.SameBut ε h1 h2:=sb|Asg=>Os _ R1 s1 IP q|Ash=>by obtain⟨a,dx,vs,h0,h1,h3,h4⟩:=h|Asi=>∀(t:T) (v:V) (as:AR),(ù ε) ->Ě ->ζ|Asj=>∀(ts:E9) (vs:Ζ) (as:AR),(ù ε) ->ħ ->ζ|Asl=>⟨_,ht _ _ cx,F0,gB N ds,ε,Vm sF rs,hq ds Pd Ex hsp,ζ⟩|Asm=>∀{m n:Nat}{a b:Rat}(ha:Sz m a)(hb:Sz n b),_|BL8=>NG h (G9 i s o a) e|Asn=>Ado (fun d Γ2 F2 H2 v R2 s2 r p=>(BK9 r p))|Aso=>∀Γ F' H σ,Adc ->Ct ->ε Γ ->ζ|Asp=>∀(G:ε X.prog X.w X.K X.mg X.base x k ps sp)(hr:t9)(hg:Hk)(ha:LX)(hdb:As x "__debug__":=by decide)(YI),_|Asq=>zp rows x hd b ε (AKD ζ).2.1|Asr=>∀(ws:Β)(v:DO)(bs:YA),_|Ass=>DZ I.step g' s.gens d' s.drawn ch ε|Ast=>fun b ob eb=>yR b ob (ε b ob eb)
|Asu=>["some","bounds","found","bound","rests","steps"]|BL9=>y s h - cF (k s) (y s)|Asv=>(by rcases hc with rfl | rfl | rfl | rfl | rfl)|Asw=>DZ ε knd (pA X.prog X.w) kvs ws ep ep|Asx=>by show A4 hT hN hsm Zx I1 (D1 ⟨kvs,ε⟩)|BL_=>fun d v F' H' gr rv q=>ε|BL'=>fun Γ5 F5 H5 σ5 R5 s5 q=>ε|BMA=>fun j y v' e1 e2 e3=> ?_|BMB=>fun d v F' H' gr r h=>ε|Asy=>(cu n caps ti g tc te)|BMC=>fun D Γ _=>tb D Γ fun Γ1 Cv=>ε|Asz=>fun Γ F' H' σ R s h=>ε Γ F' H' σ BKo s h|As0=>fun Γ F1 H σ R s1 h=>ε Γ F1 H σ R (s.trans s1) h|As1=>by obtain⟨j,h1,h2,h3,h4,h5⟩:=zxr he|As2=>by obtain⟨go,yl⟩:=hgo ds[i] (zZ hlt)|As3=>yL ds g tb D0 E Γ1|As4=>∀C:C7 β,(ô (∀s∈rows,AL=s.1 ->C At ->C Sm)) ->(∃h∈m,C h) ->O0 (C h)|As5=>by rintro i m σ H ⟨rfl,hi,p⟩|BMD=>∃as ws ps x y z,M5 (rows.take ε) ws ps/\Γ= [dy,tI Ady,x,y,z]|As6=>CE outer P w H s Q u s'|As7=>fun Γ' F' H' σ' R' s h=>H_ ε (R'.drop i none) (Iq qd.f.trans s3 s) h|As8=>by obtain⟨v,vs',a1,a2,rfl,rfl,q1,q2⟩:=h|As9=>wpAny_mono (zxb (I:=I) hh hQ ε) (ARP) X_|As_=>h F1 ε z jN (Ru cx) pins s σ|As'=>Walks.list (toI (I.ok.hd hc)) s.heap.objs.size p (zL Rt) its.toArray|BME=>fun v u s2 x y H2 I2 rx ry q=>ε|AtA=>by obtain⟨F0,ds,Pd,Ex,sF,rs,hsp,hQ,hE⟩:=hq2|AtB=>by rename_i C' bm k0 k1 k2 k3 n k5 hm hs|AtC=>∀(dJ:AZ zhv)(dR:AZ zft)(dU:AZ ziy)(f9:AZ zkn)(aQ:KK)(n6:GS "int"),_|AtD=>∀(aZ:AZ zca)(fV:AZ zik)(cQ:AZ Yw)(bL:AZ zck)(bU:AZ zcu)(pN:AZ zwg)(bT:AJp)(bI:lP)(aA:fA)(bF:ADQ)(bA:ja "rule")(bJ:ja "gap")(aY:BKi)(aO:BKh)(bx:ja "sheets")(aK:ARO)(aD:Adf)(aL:ARq),_|AtE=>∀(i j:Int) (t u:Tok) (s:Shared) (Q:dh) (E:dh),ε|AtF=>by rintro pins s σ H Q I ⟨F,Γ,P,R,q,k⟩|AtG=>∀(pL:AZ zwj)(jD:AZ zor)(eY:AZ zi8)(aQ:KK)(lM:Ad5)(jE:BKz),_|BMF=>ε s1.heap.objs.size|BMG=>@W.check_slot|BMH=>["_law_script"]|BMI=>by rw[PySem.W.Fast.te15667345088766844465,ε,ζ]|BMJ=>by unfold Builtin.«sorted»|BMK=>by rw[List.pairwise_iff_getElem]|BML=>by simp only [Bool.and_eq_true] at ε|BMM=>eval_ListComp ..|BMN=>by simp only [ε,decide_eq_true_eq]|BMO=>(by rcases ZQ hc with ε | ⟨_,_,_,ζ,_⟩ | ⟨_,_,_,η,_⟩)|BMP=>by apply Array.toList_inj.mp|BMQ=>Nat.pos_of_ne_zero ε|BMR=>List.pairwise_append.mp ε|BMS=>by split<;>omega|BMT=>by split<;>decide|BMU=>(by assumption)|BMV=>by exact_mod_cast ε|BMW=>(by rw[List.size_toArray]<;>omega)|BMX=>Int.neg_dvd.mpr (ε)|BMY=>ε (List.eq_nil_of_length_eq_zero ζ)|BMZ=>s₂.heap.objs.size+1|BMa=>AC ps.length|BMb=>decide_eq_false h|BMc=>List.mem_iff_getElem.mp h|BMd=>(DE ns.sum)|BMe=>(DE (lo+i))|BMf=>(s2.heap.objs.size+1)|BMg=>GL W.CFound|BMh=>Nat.le_succ _|BMi=>List.Perm.refl _|BMj=>Int.natCast_nonneg _|BMk=>by unfold scanBound;omega|BMl=>Int.natAbs_eq_zero.mp z|BMm=>BM ns.length|BMn=>Heap.get?_update_self _ ε ζ|BMo=>(Nat.le_succ _)|BMp=>(ItemsOf.nil _)|BMq=>(args_sorted1 _)|BMr=>List.map_congr_left fun ε ζ=>η|BMs=>FH s₁.heap.get?|BMt=>(a_ "HallError")|BMu=>(Ff _ True)|BMv=>List.pairwise_singleton _ _|BMw=>Code.quiet_builtin _ ε|BMx=>CB both.length|BMy=>GS "tuple"|BMz=>decide_eq_true hl|BM0=>BH Rat.intCast_mul|BM1=>BH Rat.intCast_sub|BM2=>by refine wpAny_truthy_bool ?_
|BM3=>by refine wpAny_Try_except ?_|BM4=>decide_eq_false e|BM5=>Except.error e|BM6=>by unfold ε;split<;>simp|BM7=>(AH4 "HallError")|BM8=>List.set_eq_of_length_le ψ|BM9=>Int.natAbs_of_nonneg ψ|BM_=>Rat.intCast_le_intCast.mpr ψ|BM'=>beq_iff_eq.mpr q|BNA=>Rat.num_divInt_den q|BNB=>(its.toArray.size - 1)|BNC=>(by unfold Ky;omega)|BND=>(Int.gcd_eq_zero_iff.mp ε).2|BNE=>Int.mul_nonpos_of_nonneg_of_nonpos ε h|BNF=>DB ε List.length_map|BNG=>Gc I.ok.kind|BNH=>Gc List.any_map|BNI=>I.ok.funs.mem hb|BNJ=>IntMulOk i j|BNK=>DM xs.reverse|BNL=>List.map_congr_left fun ε _=>ζ|BNM=>List.filter_congr fun ε _=>ζ|BNN=>OT both.length|BNO=>GT _ trivial|BNP=>WJ "enumerate"|BNQ=>slotArgs _ _ _|BNR=>Gl X "enumerate"|BNS=>subscriptTail_builtinR (x:=ε)|BNT=>Vals xs its.toList|BNU=>Paired.length r|BNV=>S4 beq_false_of_ne ε ζ|BNW=>(Qx.map .inr)|BNX=>(Ù kW w .inr)|BNY=>(H_ hb ?_)|AtH=>i<=t.place.toList.length|AtI=>(W_ I.ok.Gn)|AtJ=>ε (List.mem_cons_of_mem _ ζ)|AtK=>(pre++x::post)|AtL=>(AIH ms.map)|AtM=>by rwa [List.take_length] at this|AtN=>O_ Builtin.List.listSameRef ε|AtO=>NY xs.length|AtP=>FK ε ["_law_script"] ζ|AtQ=>W.plainOver K C=true|AtR=>W.makesIn K C=true|AtS=>cW k callerA|AtT=>K.In s'.heap|AtU=>K.In s₂.heap|AtV=>(sc.names.map (·.1)).Nodup|AtW=>List.range_succ (n:=ε)|AtX=>PH List.getElem?_set_self ε ζ|AtY=>List.mem_filterMap.mpr ⟨ε,ζ,η⟩|AtZ=>fs.length<=1000|Ata=>l.length<=1000|Atb=>rows.length<=1000|Atc=>(behindTheImports p)|Atd=>(s.heap.objs.size+2)|Ate=>æ its.toArray|Atf=>Pe R6.gr.h|Atg=>Ab' s₂.heap.objs.size|Ath=>decide_eq_true h2|Ati=>of_decide_eq_true h2|Atj=>List.getElem?_set_ne hj|Atk=>["hand","mark"]|Atl=>by rw[List.getD_eq_getElem?_getD,ε] at e|Atm=>by dsimp only;grind|Atn=>(du "mean")|Ato=>(du "pair")|Atp=>(du "middle")|Atq=>(ô (bv uY))|Atr=>(f j).den_pos|Ats=>List.drop_eq_getElem_cons hi|Atu=>s'.heap.UpToSlots h'|Atv=>kq List.mem_singleton.mpr ε|Atw=>AllBare s.gens|Atx=>xs.length<64|Aty=>vs.length<64|Atz=>ws.length<64|At0=>(R2.grow gr)|At1=>lL K.lookup|At2=>(ÿ "sheets")|At3=>(ÿ "kept_borders")|At4=>d.params.defaults= []|At5=>(x,NameKind.cell)∈ε|At6=>scope.names.lookup y=some ε|At7=>(NM KE BG)|At8=>by obtain⟨its,rv,p,hz⟩:=I.tuple hq|At9=>Array.getElem?_eq_getElem hlt|At_=>xs.toList[k]|At'=>bG (Nat.ne_of_lt ε)|AuA=>AI1 X.env.kindOf|AuB=>jn qs.map qD|AuC=>∃o',HH h'.get? o'|AuD=>k<=xs.length|AuE=>W.of_hideAll _ q|AuF=>ĝ sizeLine_eq|AuG=>ĝ List.length_reverse|AuH=>C9 s.heap.get? o|AuI=>(jv (jI e "items") [])|AuJ=>(ã vs.toArray 0)|AuK=>(ã vals.toArray 0)|AuL=>(X.wsh z).env|AuM=>I1.cell x c e|AuN=>X.env.kindOf n==AIo|AuO=>Ho t.place.toList|AuP=>["spot","row"]|AuQ=>AC' hms.length_eq|AuR=>AC' List.length_range|AuS=>(.tup (ks.map kV))|AuT=>(A.so.wm _).mpr|AuU=>fun _ _ _ _ _ q h=>ε|AuV=>ws.Pairwise (se ä)|AuW=>dH (l.map f)|AuX=>BJ4 ε X.env.scope.kind|AuY=>BJ5 "_law_number"|AuZ=>I1.stack.mem hm|Aua=>(W_ I.ok.bs).1|Aub=>o.dict=some dx|Auc=>Nat.le_mul_of_pos_right _ ψ|Aud=>Int.fmod_eq_emod_of_nonneg _ ψ|Aue=>(Acn ns.getD)|Auf=>BN both.map f|Auh=>u=Value.bool b
|Aui=>(Sl nu Ρ)|Auj=>AC items.size - 1|Auk=>by (with_reducible refine wpAny_loadPart_at ε ?_;rw[ζ])|Aul=>(Acs s.heap.objs.size)|Aum=>IntsAre its ns|Aun=>fun h' eb=>(E7 (ASW zsi fp ε I ζ hf))|Auo=>by show ARG PyProof.Rows.F.plain_set_update_loop|Aup=>by show ARG PySem.F.plain_proto_collect|Auq=>by show ARG PySem.F.plain_list_iadd|Aur=>(ARI Option.map)|Aus=>AKE us.length|Aut=>ws.length=ps.length|Auu=>["row","hands"]|Auv=>by rw[List.getElem?_zipWith] at hd|Auw=>by simp only [Int.toNat_natCast,hx]|Aux=>#[z01 (i:=0) aA ε ζ rfl D8]|Auy=>by show BF Bool.false_ne_true;exact ε|Auz=>(s.heap.objs.size+4)|Au0=>(CO (ms.map .int))|Au1=>(HP Ν AX)|Au2=>(NS v (æ vals))|Au3=>Q4 s.heap.get? AP8|Au4=>.ow ((rows++ [ε]).map sZ)|Au5=>(AKa "enumerate")|Au6=>(.cons rfl r)|Au7=>(Υ r (v_*T0))|Au8=>ARW "tuple"|Au9=>Ac8 h.objs.size|Au_=>AKt ws.Pairwise|Au'=>(dP (k a ha))|AvA=>s.heap.DictAt ACh a ws ep|AvB=>l.Pairwise R|AvC=>s₁.gens= #[]|AvD=>by rw[List.zip_cons_cons,List.find?_cons]|AvE=>⟨vs,ε,fun hz=>k ds Γ1 F1 H1 _ R1 s1 ζ h1⟩|AvF=>a<h.objs.size|AvG=>(beq_iff_eq.mp hf)|AvH=>Int.fmod_eq_emod_of_nonneg _ Δ|AvI=>by rw[List.getElem?_eq_getElem hi]|AvJ=>by rw[List.length_eraseIdx_of_lt hi]|AvK=>Ο (List.mem_singleton.mp h) ε|AvL=>(Array.getElem?_eq_some_iff.mp h1).1|AvM=>(gJ.mp h1).1|AvN=>Vals ys its'|AvO=>b.natAbs<2^100|AvP=>t.natAbs<2^100|AvQ=>NG h Rat.not_lt.mpr ε|AvR=>by show EK;simp;omega|AvS=>by show EK;have:=ε;omega|AvT=>Nat.mul_le_mul ψ ψ|AvU=>listUpdate_at (n:=ea)|AvV=>by obtain⟨its,rv,pl,hz⟩:=I.list hq|AvW=>(Jn bQ Χ Ρ)|AvX=>(W.hideAll h ε).get?|AvY=>(Lv Gz tb E)|AvZ=>(Lv Gz ta E)|Ava=>ASs ε Builtin.«dict_keyiterator.__iter__»|Avb=>Good i (as i)|Avc=>sF.trans qd.f|Avd=>sF.trans Bk.f|Ave=>Value.builtin "BaseException.__getattribute__"|Avf=>Value.builtin "object.__getattribute__"|Avg=>(Int.gcd_eq_zero_iff.mp z).2|Avh=>["work","self"]|Avi=>["mark","marks"]|Avj=>["mark","least"]|Avk=>["part","multiple"]|Avl=>["part","head"]|Avm=>by rw[ε,Rat.intCast_mul,ζ,Rat.intCast_mul]|Avn=>Rat.mul_lt_mul_of_pos_right ε b0|Avo=>(s.heap.push T1)|Avp=>by simp only [h,if_true]<;>omega|Avq=>by simp only [h,if_false]<;>omega|Avr=>(s.heap.objs.size+3)|Avs=>qd.h _ _ ha'|Avt=>Bk.h _ _ ha'|Avu=>(B2 hsz hb)|Avv=>(Sj eY Y1)|Avw=>aF K c.Open "work"|Avx=>aF K c.Open "apart"|Avy=>(So Bj Ν)|Avz=>(So z0v Ν)|Av0=>(.ob C AQi Aeq)|Av1=>(.ob C AQi (ts++ [PY]))|Av2=>Tb (b<s.heap.objs.size)|Av3=>ki lW "Open"|Av4=>ki lW "Barred"|Av5=>(cB dO Ν Θ)|Av6=>lf (i.fmod j)|Av7=>lf (i.fdiv j)|Av8=>by refine wpAny_call (codeAny_of_tree ?_)|Av9=>fun b ob q _ _ _=>ε|Av_=>congrArg Prod.fst f|Av'=>congrArg Prod.snd f|AwA=>AEV e h.get?|AwB=>(Itw a o kvs)|AwC=>(Itm a o kvs)|AwD=>Heap.SameBut it s.heap h'|AwE=>Heap.ExtBut it s.heap h'|AwF=>ε it d BS es.size ep|AwG=>(AY ADb (F b) AfF)|AwH=>(AY ADb (F b) AfH)|AwI=>∀(hbase:YO "items":=by rfl)(hline:k_:=by rfl),_|AwJ=>by show MC wpAny_dictEntries hod hdd|AwK=>by show MC wpAny_dictEpoch hod hdd|AwL=>s.heap.IsTupleIter it l i|AwM=>by exact CI (Ch (HH h.get? _) k)
|AwN=>by exact CI (Ch (HH s2.heap.get? _) k)|AwO=>(AY (At=hd) 1 0)|AwP=>zV.mp ((h ε).mpr zY)|AwQ=>sp (.ob C [] []) ds ε Ex|AwR=>l.take (cnt q l)|AwS=>l.drop (cnt q l)|AwT=>(Ch (s.heap.IsTuple a its.toArray) p)|AwU=>(Ch (s1.heap.IsTuple a its.toArray) p)|AwV=>∀(k:Nat) (h:k<xs.length),ε ->ζ|AwW=>∀(k:Nat) (h:k<xs.toList.length),ε ->ζ|AwX=>Afl xs.drop|AwY=>List.length_pos_iff.mpr ne|AwZ=>List.mem_map_of_mem hr|Awa=>ms.Pairwise (· <= ·)|Awb=>u=Value.none|Awc=>c<=qs.length|Awd=>(s2.trans s3)|Awe=>PySem.Slot "set_iterator" ε ζ|Awf=>seqIndex? i ε=some j|Awg=>ε kindOf (P.zip vs) m x=some v|Awh=>by rw[List.mem_singleton.mp ε] at ζ;exact η|Awi=>List.getElem?_set_ne (ε hj)|Awj=>BI World Heap|Awk=>by rw[List.drop_eq_getElem_cons hi']|Awl=>(A9 (L7 "type.__getattribute__"))|Awm=>AO l.map D.int|Awn=>(bs.getD i false)|Awo=>by refine wpAny_isTrue_Compare1 (bW ε (Ģ ζ η)) θ|Awp=>some (L7 "ValueError.__new__")|Awq=>(L4 BG E2)|Awr=>(a::dx::(ŉ [c]))|Aws=>(PySem.F.args_dict_get_3 _ _ _)|Awt=>(hte _ _ cx)|Awu=>g5.get? c=some o|Awv=>by rw[ε,List.length_cons,List.length_cons];omega|Aww=>by refine codeAny_builtin PyProof.Rows.F.entry_set_update_loop ?_|Awx=>NL rfl rfl|Awy=>TD d.name fa|Awz=>(TZ (kV k) v)|Aw0=>(â "zip" cq)|Aw1=>(∀q∈l,AKk)|Aw2=>s.heap.Ns X.env.locals m|Aw3=>(ö Ν 24)|Aw4=>AQA (isTrue e X.env ε) TP|Aw5=>(∀p∈ex,BKm)|Aw6=>l_ rv.length this.symm|Aw7=>List.map_congr_left fun i hi=>ε|Aw8=>LV w (by show AEc ε)|Aw9=>(cB iR fS EB)|Aw_=>(GM iR Y_ 1)|Aw'=>BLO ε Array.length_toList|AxA=>(OZ H' (v= AF/\FS bz H'))|AxB=>(z7 (z7 AeU))|AxC=>(P5 qT ACz (Sl ZP aP))|AxD=>s₁.heap.get? e=some oe|AxE=>AR0 is.Perm vs.length|AxF=>by unfold ε;rw[List.filter_map];rfl|AxG=>(XU (r j+comb ks ss j))|AxH=>PySem.Within mA (fs.map (·.1))|AxI=>(l.map fun x=>D.bl (f x))|AxJ=>l.any fun s=>Ae5|AxK=>(Kx h (x h) Û)|AxL=>Vals (xs.map V.str) vs|AxM=>by refine plainObj_wpAny_Assign_Attribute (é AeL ε) hs|AxN=>(AY (i=p) _ _)|AxO=>by have:=ε _ _ q;show my;show DC;exact ζ|AxP=>codeAny DV A (.builtin ε ζ) η s|AxQ=>RB ε aA JJ Ρ (au Χ aN)|AxR=>TR.there t v as h3 a ε|AxS=>Afh R2.g rfl|AxT=>Afo (∀P,ε ->one (f a) P) ζ g|AxU=>BLT "ValueError.__new__"|AxV=>by show BLU bne_self_eq_false|AxW=>(aV st).names.lookup|AxX=>Κ k hk hle|AxY=>W.isFn X.K Fk=true|AxZ=>(Itv K a xs)|Axa=>(∀h∈m,vv)|Axb=>(Jn eF sL KE)|Axc=>.ob C fs (uK fs ts f (BLd ε ζ))|Axd=>∃a kvs,v= AI/\ADm Kt/\ ε|Axe=>⟨R'.gr.h,H2,e1,e2,ε⟩|Axf=>(fun i σ H=>Aem)|Axg=>(.BinOp a op b pos)|Axh=>(.IfExp c a b pos)|Axi=>[NX tm,NX (AJ' b (b+1)),ε,ζ]|Axj=>DH (∃qs:AA,ds= AeP/\ε/\ AEJ/\ζ)|Axk=>zP (kZ (ε r hr)) Δ|Axl=>(PIE X pins σ tg R)|Axm=>topRun treeTable p w 11 ann ε ζ η|Axn=>(.fresh 0 0 ui)|Axo=>by show B' q1 q2 Bool.and_eq_true_iff.mp q|Axp=>(fun b u e n=> ?_)|Axq=>fun c o hb e=>Ei.extBut c o RS ε|Axr=>ε++ (AY (AL=w) [At] [])|Axs=>by refine(zsb (B:=27720) ε).mono (Nat.mul_le_mul_right _ W.1)|Axt=>AIJ (PI E4 tg e (q_ ε t E))|Axu=>BL7 "dict_keyiterator.__iter__"|Axv=>∀(AK_) (mg:B7) (base:Heap) (x:Str) (k:Nat) (ps:Β) (sp:dw),_|Axw=>fun s Q E hit hg _ hQ=>ε
|Axx=>∀(F:Hp) (ks:De) (R:AJo) (v:V),_|Axy=>fun i s Q E hi hit hg _ hQ=>ε|Axz=>fun z E cx pins s σ H Q I hq=>ε|Ax0=>zov R1 hJ hx ha h1 fun ys F' H' vs R' sF a1 a2 a3 rs ap hp=>ε|Ax1=>Zq fun _ _ _ _ _ _ _ hc q=>ε|Ax2=>s2.heap.push AJi|Ax3=>I2.after hq'|Ax4=>w.params.followText "set-order"|Ax5=>raiseNew (<- BLj)|Ax6=>unsupported "internal:set_iterator"|Ax7=>zni O.tok.ris|Ax8=>pre.getLast hne|Ax9=>h'.objs.size=mh|Ax_=>(Sum.inr:Str ->Key)|Ax'=>i.length+j.length|AyA=>items.size+items2.size|AyB=>its.toArray.size+its2.toArray.size|AyC=>(W_ I.ok.bs).2|AyD=>["other","part"]|AyE=>["count","order"]|AyF=>[MB,s1.heap.objs.size]|AyG=>by rw[List.length_append,List.length_singleton]|AyH=>by rw[if_pos (by simp;omega)]|AyI=>¬(Op (! ε) (Builtin.List.listTooLong (ζ)))|AyJ=>qs.length<=61|AyK=>TU+cP j<=100000000|AyL=>s.heap.objs.size<h'.objs.size|AyM=>⟨R_,BH hx⟩|AyN=>⟨AD S hS,ADz⟩|AyO=>by have f3:=AutoSeq1.sub_list_list|AyP=>by have SF:=PySem.F.store_ValueError|AyQ=>by have Fv:=PySem.F.excBase_ValueError|AyR=>by simp only [List.getElem_map,List.getElem_range]|AyS=>by rw[List.map_cons,List.sum_cons,ε,ζ]|AyT=>by rw[List.any_cons,List.any_cons,ε,ζ]|AyU=>by unfold cP Builtin.Int.intBits|AyV=>by rw[List.length_map,List.take_length] at ε⊢|AyW=>by cases v<;>try (cases h)|AyX=>by rw[<- ε,List.flatten_append,List.nodup_append] at ζ|AyY=>by cases h;show Cb l1 vs h1 q1 r|AyZ=>(I.ok.hd hh)|Aya=>(rows.map τ)|Ayb=>by show QU;cases t<;>(cases e;exact DI h)|Ayc=>(by rcases h with ⟨_,z⟩ | ⟨_,z⟩ | ⟨_,z⟩ | ⟨_,_,_,z,_⟩ | ⟨_,z⟩<;>cases z)|Ayd=>by rw[<- e,Int.natAbs_mul];exact ε|Aye=>(Υ f (! ACi))|Ayf=>(Υ zs AfV)|Ayg=>.ref (Ò (ASN ε) l2)|Ayh=>ε (Int.ne_of_gt hb)|Ayi=>by have z:=Int.dvd_gcd_mul_iff_dvd_mul.mpr ε|Ayj=>by have p:=List.nodup_append.mp ε|Ayk=>.pu (TZ (.str c) (ε t))|Ayl=>.pu (.exc C)|Aym=>(CO (xs.set j v))|Ayn=>AO l.filter p|Ayo=>AO hs.map AeJ|Ayp=>by obtain⟨_,_,_,_,_,_,rfl,_⟩:=h;rfl|Ayq=>FL sb.2 b hb z|Ayr=>EE s₁.heap.get? ASP|Ays=>BM (BN BKI V.str)|Ayt=>kW rows nms[v]|Ayu=>(true==true)|Ayv=>(x.cps.toList==y.cps.toList)|Ayw=>(rb.getD i km)|Ayx=>hA b (by rw[q];simp)|Ayy=>(a.num*b.den)|Ayz=>(b.num*a.den)|Ay0=>(W.plainGet_of hg).1|Ay1=>(Array.getElem?_eq_some_iff.mp h3).1|Ay2=>(⟨#[ch]⟩:Str)|Ay3=>w.params.followText "set-order" =true|Ay4=>BN ps.map pD|Ay5=>BN gs.map hdS|Ay6=>(W.of_hideAll _ q)|Ay7=>(Nat.mul_le_mul_right _ h12)|Ay8=>bE s₂ ((s₂.heap.push ε).push ζ)|Ay9=>CB (E3 (qs.length+1))|Ay_=>A3 (num j)|Ay'=>CI (get?_update_seq ε (AV ζ))|AzA=>BE B.len hq|AzB=>by refine wpAny_call (codeAny_call_builtin ε ζ η)|AzC=>(.dK ((ks++ [kk]).zip AJK))|AzD=>.tup (k.map nJ)|AzE=>E5 (Best l b) (mw (AJ' b (b+1)))|AzF=>(B2 hk (B5 I' q))|AzG=>(B2 Gj BLF)|AzH=>OR (pushCells (s.heap.push T1) ε)|AzI=>h a List.mem_cons_self|AzJ=>(ps++ [([],[])])|AzK=>(fU.fs++ [("kept_borders" :Str)])|AzL=>IO (ε+ AC its.toArray.size)|AzM=>(Fs (I.ok.hd hc))|AzN=>EJ Aes ε (bC X.K C C2=true/\ζ)|AzO=>W.tail_of_in X ht|AzP=>(AH6 (jI o m) [])|AzQ=>Fu (AKX "sorted" ε)|AzR=>KJ (by show vS IY;rfl) h|AzS=>(Sl GJ fq)
|AzT=>w.params.followText "set-order" =false|AzU=>∀x∈Aeb,f x=0|AzV=>by refine call_reversed_list pl.isList ?_|AzW=>Μ (a.1<b.1)|AzX=>qD (X (m.idxOf h))|AzY=>[AKL,.int L6]|AzZ=>(Ee Ĵ N1)|Aza=>W.tailIn K J3 ε=true|Azb=>W.readsIn K ε AeI=true|Azc=>(∀a∈b1++b2,ASc)|Azd=>(Ae3).any (·.1)=false|Aze=>(ARd (Acs s1.heap.objs.size)).get?|Azf=>(P8 (a::cs) (Ki F'/\jc j_ H b=none))|Azg=>(NM sL KE)|Azh=>ε+ da* ((AY (ζ=hd) 1 0) - ARb/ η)|Azi=>(WS _ (W7 _))|Azj=>(Ö vc "scaled")|Azk=>by rw[size_push',Heap.size_update];exact ε|Azl=>TC (W.methodObj Fk ε)|Azm=>(I1.stkFree a hm)|Azn=>by rw[ε,ζ,Rat.intCast_add,Rat.intCast_mul];grind|Azo=>R2.sl i _ e2|Azp=>Gr F H (j' (ARy LA ε)) ζ|Azq=>(BGd ydz Χ)|Azr=>(xJ s₁.heap H)|Azs=>Q4 AK7 (He/\FI H')|Azt=>MS (cB fj ε (ADn ζ η)) 2147483647|Azu=>I.base.m9 b ps e|Azv=>(Ü (nG f y fs))|Azw=>by rw[List.mem_append,List.mem_singleton]|Azx=>NX (fs.map gl)|Azy=>k1.2.2 b o q|Azz=>CL (ns.getD i 0)|Az0=>CL (bs.getD i false)|Az1=>dA (AJF ε (AI_ rC))|Az2=>RE ⟨BLV,XI ε⟩|Az3=>PH El List.length_map ε|Az4=>dE value tn|Az5=>oT.data= b_ ts|Az6=>AKG/ CB 27720|Az7=>zF.mp (List.mem_of_mem_take hq)|Az8=>ABy Builtin.SmallTypes.nextOf it|Az9=>dk c.Apart c.Apart|Az_=>dk c.bK c.bK|Az'=>dk c.vP c.vP|A0G=>dk c.Open c.Open|A0H=>(BE Array.getElem?_toList e2)|A0I=>Rl ε (fun q=>Pm n q/\Up lt q n)|A0J=>(.ListComp elt [AP1 target] scope pos)|A0K=>SetTable.below xs j|A0L=>(XU (AdB f))|A0M=>dN (EF (mM ε) (mM ζ))|A0N=>fun Γ' =>(AIr (W m' Γ'))|A0O=>kq h1.symm.trans e|A0P=>Κ j s' q|A0Q=>Κ r' s' hq'|A0R=>.lst (ls.map pK)|A0S=>eK (k j (zX _ hj))|A0T=>by have:=List.length_eq_zero_iff.mp this|A0U=>by show YR List.Nodup List.pairwise_map|A0V=>s.TypeIs v T|A0W=>qQ (Fh (uv ε) (uv ζ))|A0X=>e (h1.trans z)|A0Y=>∀(x:Option (Option Value)),_|A0Z=>p.2= ci ->A2≠x|A0a=>(X.wsh ⟨ce,z.pn⟩).hand|A0b=>AIn (zP by_ Δ)|A0c=>by subst e;rw[Rat.div_mul_cancel hp];grind|A0d=>I.cell y c e|A0e=>isIn m b=false|A0f=>Rep X.K F d x|A0g=>Bv K F' ε H' C dx x|A0h=>Ē ob h2.2.1|A0i=>tn 0 s2.heap|A0j=>(Builtin.«zip.__next__» (E6 [.ref z]))|A0k=>(SetTable.below xs j)|A0l=>(md (b9 hq) e)|A0m=>s.heap.get? p=some AEW|A0n=>(k.base R.gr).mono|A0o=>ABc ABo (.seq its'.toArray n')|A0p=>(Υ h (Ŀ*x h))|A0q=>(Υ h (rX nY h*f h))|A0r=>h s (zX _ hs)|A0s=>h b (zX _ hb)|A0t=>h u (zX _ hu)|A0u=>nL (sW ε=some (l.map f))|A0v=>Ę z.cps.toList c|A0w=>nX iter wi|A0x=>AI6 (h∈k s) BL9|A0y=>∀o w,u≠ .frz o w|A0z=>fun r:Rw=>L6|A0_=>Prod.ext e1 e2|A0'=>(oU n (CL (A i n)))|A1G=>r=none/\i7 s1|A1H=>fun σ H R=>te σ H (bq v ε)|A1I=>vn "self" "self" ε|A1J=>vx (eA tb y (r x y H2 ε))|A1K=>⟨.str ε,H,AQC,D5,q⟩|A1L=>s.1=AL/\Sm=At|A1M=>pure (none:L5)|A1N=>tn BS s2.heap|A1O=>Hm ->Rat ->Rat|A1P=>(zU.mp hp).elim|A1Q=>(Į (GU ADi hd 1 0))|A1R=>(.List es pos)|A1S=>(Array.perm_iff_toList_perm.mp ε).trans P|A1T=>(kvs.map fun kv=>(AS3 y))|A1U=>(qo BKj [a] pc)|A1V=>Ķ (n1 (Fs z))|A1W=>(dP (mine a ha))|A1X=>by simp at g1;subst g1;simp [lu]|A1Y=>Ą Ln 3 #[AK9 VB ε]|A1Z=>∀p∈z.pn++pins,A2≠a|A1a=>by refine C_ (setEpoch S) (wpAny_setEpoch_of hg O.dat O.fit ?_)
|A1b=>AJg ⟨σ,_,I3,q2⟩|A1c=>AQy (gr.f.trans (s4.trans ε))|A1d=>h b (List.mem_cons_of_mem _ hb)|A1e=>AQz "plus" Qd|A1f=>AQz "minus" JZ|A1g=>AQz "times" Xb|A1h=>AQz "over" SQ|A1i=>release [v,ov,iv] []|A1j=>(l.map f).sum|A1k=>(.ref bz::vs)|A1l=>FW X body tb|A1m=>(cB iR Aeh Ν)|A1n=>(ADo aP E2)|A1o=>Gh rows x' m|A1p=>IN _ _ rfl|A1q=>IO (j - i)|A1r=>(rL IC f O5)|A1s=>∀i j,i<m ->j<m ->ε ->i=j|A1t=>(.Subscript IC k pos')|A1u=>s' _ _ (s1 _ _ e)|A1v=>∀i,s<=i ->i<s+n ->ε|A1w=>SlO K F H H0 ds o|A1x=>⟨F1,Γ1,D2,R1,q,k.mono s1⟩|A1y=>AIw fG (APt eO) k fa fd ps Adw|A1z=>fun Γ=>(BMD BS)|A1_=>j8 Afc xs.length|A1'=>z6 (wpAny_standAt ?_)|A2G=>pure (some true)|A2H=>GN (bC K c.bK c.Open)|A2I=>GN (bC K c.vP c.Apart)|A2J=>AKK (BLg "dict_items")|A2K=>Cl (sIx n n hi)|A2L=>(L2.upd H p OU)|A2M=>(ACW (AO ms.map gl))|A2N=>(g k*f j - f k*g j).fdiv|A2O=>FL far b (Ξ (ASV hB))|A2P=>(Hy X.prog X.w q xs)|A2Q=>⟨u,A0 e1,e2⟩|A2R=>xa u (BE z e)|A2S=>Ord lt vs.length|A2T=>s'.heap.get? ADk=some oe|A2U=>(.Tuple es k pos)|A2V=>D9 (XN ->Adz (Sm∈m))|A2W=>∀j,ε ->j<k ->UD k j|A2X=>∀j,ε ->b<j ->ARc<wd l j|A2Y=>WF (AIU AdN) tk|A2Z=>WF (AIU AeQ) s.toks|A2a=>∀j,cP (g j)<=143|A2b=>hz _ (Tj hj)|A2c=>hz _ (zm0 ψ)|A2d=>E Γ1 (.pay C [f1,f2] BLn)|A2e=>Ξ (q (Nw List.mem_singleton.mp z))|A2f=>Tx (AR3/ tN)|A2g=>((X.hand a).wsh ⟨xe,z.pn⟩)|A2h=>(SF.args RI BKl v)|A2i=>fc (0 - AJb) 1|A2j=>ASU (x h - Û)|A2k=>u8 r h1 h3|A2l=>Oy AeG (b∉X.fs) AJe|A2m=>cutD tm none (some 2)|A2n=>Option (Shared×Thread)|A2o=>ASr (∃u,AKN/\LDn u)|A2p=>WV x ds (g x (a::ds)) ε|A2q=>Adz (Ab B (MG - TH))|A2r=>GE X2 I2 (k _ ĺ)|A2s=>∀w' s',AJQ ->ε ->Q w' s'|A2t=>WV d es (s d*h (c::es)) ds|A2u=>JP (fun t Γ1 F1 H1 v as R1 s1 nd hn r h1=> ?_)|A2v=>BN ε qs=qs.length|A2w=>⟨q,W.cellsFrom_some _ _ _ (D1 q)⟩|A2x=>⟨AQ,AKs 5 Δ⟩|A2y=>⟨AQG,DB List.size_toArray ε⟩|A2z=>∀i∈is,vT|A2_=>LK ε (ADU (Ei.extBut _ o ζ e))|A2'=>D ->D ->Bool|A3G=>H1 dx=some AeT|A3H=>mA name=some v|A3I=>(ms.take BS).flatten|A3J=>lB (ps.map zu)|A3K=>(e _).mpr (cL.mpr BLp)|A3L=>(fun t Γ' =>(BK2 (Q t)))|A3M=>Κ x H2 y|A3N=>Κ x hx n|A3O=>Ad' Rat.mul_le_mul_of_nonneg_right ε b0|A3P=>BI (B7) Heap|A3Q=>DU Vj es gs|A3R=>.pay c.bK ["reach"] ε|A3S=>Q () (re h' tk')
|A3T=>by
 show JA (zV.mp h)
 ·cases (z);exact NH rfl ε
 ·show B3 z
|A3U=>∀v∈vs,(∃k,AKz ε k v=true)/\Acf|A3V=>(∀v∈vals,Aeu)|A3W=>W.mroIn K C ε=some true|A3X=>W.takerIn K C ε=some none|A3Y=>(AC BLk/ CB BLu)|A3Z=>(AeK (ABm (A.units+1+n)))|A3a=>(Kx r MG (x' At))|A3b=>(Kx r ASn AfG)|A3c=>NI (.Return AR5 pos) ε|A3d=>(Κ fl s' hs)|A3e=>AeR (NN "dict_values" #[AI])|A3f=>LL ps ⟨#[],by rw[ε,q];simp⟩|A3g=>r6 (hd i j F) hp|A3h=>(.xd [(f1,v1)])|A3i=>k1 c o RS RS|A3j=>P7 hb e (ε b o (LZ (APx h)) e)|A3k=>fun _ ob q _ _ _=>(Ĭ ob.slots)|A3l=>bY rows w= []|A3m=>(qU env scope.names [])|A3n=>(qU X.env sc.names [])|A3o=>(atKey xs k).isSome|A3p=>Y3 2 aR Χ aP|A3q=>ASp lm 1 (Ic+1)|A3r=>ASw (ε ⟨ζ,H,AQC,D5,h⟩)|A3s=>s.heap.IsKeyIter it d i es.size ep|A3t=>(fun _ _ _ _ n=>n)|A3u=>(fun j hj P hP=> ?_)|A3v=>(fun i hi P hP=> ?_)|A3w=>si "under" "one" "other" Et|A3x=>si "divisor" "one" "other" SN|A3y=>(AfI (BLa g))|A3z=>cu 1 ε (iL (dW (vZ Ν AK0 wD))) IS|A3_=>(AfO (AG bz) bz)|A3'=>C9 H (XO x C none)|A4G=>(.xd [(f1,v1),(f,y)])|A4H=>(.xd [(f1,v1),(f2,v2)])|A4I=>∃f fd,ε/\ACo Fk/\AKh/\ę|A4J=>∃f fd,ε/\Mk K C f/\ACo EU/\ę|A4K=>∀{i j:Int}(h1:TU<=4000)(h2:cP j<=4000),_|A4L=>∀{i j:Int}(h1:TU<=8000)(h2:cP j<=8000),_|A4M=>K0 fG NE k f fd ps (ε K C fl sp)|A4N=>K0 fG NE FR f fd Aep (ε K C fl sp)|A4O=>Aft none none|A4P=>I5.turned (t' :=s5.toks) (it:=C) (sf Aei) c1 c2 AeH c4 c5
|A4Q=>by
 obtain⟨its,r,pl,hz⟩:=I.list hq;refine ε AQu pl.isList (fun w hw=>UG rx fx r fs w AeE) (Ļ ?_)
 rw[Afm,Uz r fs]
 exact q
|A4R=>(FF ps e ⟨#[],by rw[e];simp⟩)|A4S=>((u7,ε),(true,ζ,good w))|A4T=>[W.topFrame Hd.z]|A4U=>fun F=>(Ň q2 F)|A4V=>by rw[List.getElem?_append_right (by show ASS;omega),List.getElem?_replicate,ε]|A4W=>L.back R' s'|A4X=>u=Value.type n|A4Y=>(by simpa [Rat.not_lt] using q)|A4Z=>onTheHeap (Value.ref C)|A4a=>Except.ok (Flow.ret v)|A4b=>t.slot j= .empty|A4c=>(fun d Γ' =>(BK2 (Q d)))|A4d=>Κ o ho hs|A4e=>Κ ws ps B|A4f=>UnR X ε (rU fun i=> .int ζ)|A4g=>(Br (nZ qs))|A4h=>OL ε (Ð s1 h' tk)|A4i=>∃k,k<n/\r=iC A k|A4j=>I.pins_of fun p hp=>ε|A4k=>(List.range h.objs.size).ε (s0 ζ)|A4l=>(AEe fun b=>ň)|A4m=>(B2 I.ok.glob (I.mod.glob.keeps I.bk))|A4n=>FL far a (sB hne)|A4o=>DI (Ix x h)|A4p=>ds= ADa/\NY (Int.gcd i j)|A4q=>D9 (Ab M Qb)|A4r=>(Kx j (f j) Aey)|A4s=>Go nK "hand" "sheets" ε|A4t=>HL is Ap (∀i∈is,ε) ζ|A4u=>by refine C_ (runValue _) (wpAny_runValue ε)|A4v=>F9 (ADl e h1.trans)|A4w=>fun r s' =>r=w/\nk r s'|A4x=>(Κ i v hv)|A4y=>GE LS (yc5 I2 d) ε|A4z=>HZ (HK (kH/\ASK) (f w))|A4_=>Q (DE ((m*m).fmod 2147483629))|A4'=>∀j,ε ->ARc<=wd l j|A5G=>MQ a oe (s1 _ _ e2)|A5H=>AIS (AC (BN qs.map qD)) 1|A5I=>∃sl,HH h'.get? {o with slots:=sl}|A5J=>Tu (.Compare a [ε] [b] pos) (cT (cB (Ku ζ) ta tb))|A5K=>z8p r _ _ hr|A5L=>ACI ADa (NY (AY ε j i))|A5M=>UI nZ (TF b0) List.map_reverse|A5N=>∀(X:Cx)(F0 H0:Hp)(es:A5)(t:cN),_|A5O=>fun b o eb n q1 q2=> ?_|A5P=>∀(sc:Scope)(x:Str),_|A5Q=>(∀p∈ps,Kz 4000 p)|A5R=>R.put i ε (GT h h.elim)|A5S=>aq l (Υ a ((C4+d a)* (C4+d a)))=ε|A5T=>t_ t' B9 AJS|A5U=>∀{kindOf:Str ->GL NameKind}{x:Str},_|A5V=>î none (b_ (AH9 s2.heap.objs.size)) #[]|A5W=>⟨UE,H,ε,D5,mI⟩|A5X=>zP (ë 1 Δ) ψ|A5Y=>AQg AQ6 (AQH k)|A5Z=>∀a vs,eI ->ε ->R vs ->ζ|A5a=>bindArgs ε AKO=pure (ps.zip us)|A5b=>∀{x y:Rat}(h1:uR x)(h2:uR y),_|A5c=>eL (fI).at (hk I Ψ o e)|A5d=>fun b ob u q=> ?_|A5e=>AKP ε Χ Ρ BG|A5f=>by have e:ε (BN ζ η)=θ:=DB List.length_map List.take_length|A5g=>WW (t:=z) (b:=27720)|A5h=>["some","bounds","backward","lists"]|A5i=>by have I1:AKI:=I.kept (t' :=s.toks) ε|A5j=>fun h' Lh hs=>h _ ?_|A5k=>zL (zN AQJ I.ok.above)|A5l=>AR6 (TK ε Ad4 Adl).get? #[] ζ|A5m=>IL AeV H' I3 q3|A5n=>eZ K F H ts vs bs|A5o=>∀i j,i<j ->j<r ->ε|A5p=>{D with nx:=u D}|A5q=>if x<AL then ε else ζ (r::t) x|A5r=>(hd j hj hj)|A5s=>Rep K (jq F0 F') d v|A5t=>AeD (ë 5) ψ|A5u=>EX a ha b hb|A5v=>k b u (hb b n) q|A5w=>by have hbs:=hb s us I.kIn hl|A5x=>∀(s:Shared) (u:Value),BLr|A5y=>dW (cu 3 ε (iL Θ) (gZ 3 (bw IS AfR)) d7 (Ī Ν Θ ζ))|A5z=>show ε<=200 by rw[List.length_map];exact ζ|A5_=>97+ ((num at_+ ε*AfM AQl).fmod 26).toNat|A5'=>V5 lt (W.kas_sort vs.length)|A6G=>∀{rows:AW}(u:Eg),_|A6H=>(TK (AeZ).extBut.push _ _)|A6I=>(BLY (i9 p) ASQ)|A6J=>(Υ o (d8 S h o*x o))|A6K=>APz (fF ds AIf ε [SA] ζ)|A6L=>UM rows AW U Β ε|A6M=>by show BLe (ADw PySem.F.plain_list_iadd) PySem.F.entry_list_iadd|A6N=>AIl Attribute AQm f (ε C f i)|A6O=>∀(C:Addr) (fs:Β) (ts:E9),_|A6P=>ε (NN (VP t1) #[.ref l1,vt])|A6Q=>(cutD (m.map D.str) mt none)|A6R=>by show MH o ho hc hd hit2|A6S=>by have hlt2:s.heap.objs.size<=l:=zP (Nat.le_of_lt ε) ζ
|A6T=>∀(te:cg)(tl th:Kf),_|A6U=>Hw ⟨P,a1,ck (r<=n),a3⟩|A6V=>fun b u e=>qd.h b u Aea|A6W=>∀(K:W.Frag) (C:Addr) (f:Str) (sp:ε) (vs:Ζ) (H:Hp) (Q:VK) (E:XK),_|A6X=>∀(K:W.Frag)(C:Addr)(f:Str)(sp:ε),_|A6Y=>⟨as,ε,_,_,_,_,ζ,rfl⟩|A6Z=>fun b u q n _=>(Ο ε n)|A6a=>∀vs H Q E,AS0 ->BLP|A6b=>∀{α:Type}{l:Au}{i:Nat}{d:α}(h:i<l.length),_|A6c=>AfT (wB B ņ a ε ζ (rawInt L) h')|A6d=>∀{ds:Ε} {vs:Ζ} {ns:ε},F_ ->ζ ->vs=ns.map η|A6e=>(BLs v wpAny_standAt)|A6f=>∀b o u,WZ ADK ->AJN ADK|A6g=>oV r g v4=some f|A6h=>BindsTo s fd args (ε us)|A6i=>⟨c,_,[],rfl,rfl,gb,zwz ε,RL (zna rs rd)⟩|A6j=>⟨kz (∃xs x,mE/\TM),fun i H x H' =>ε,kz (∃xs,mE/\ASE)⟩|A6k=>WalkO q loose XP YP l.row.toRowW d [] (fun f vs=>Ae8)|A6l=>(List.zipWith (fun k' y=>(Aew v)) ks vs)|A6m=>by have vw:(s1.heap.push (NN "dict_values" #[AI])).IsValuesView s1.heap.objs.size a:=UO|A6n=>by refine zlj I1 (R1.g _ _ ea) hc hm (zho VR) ?_|A6o=>by obtain⟨oD,esD,epD,hoD,hdD,hcD⟩:=hn'.count (Within.cons name v ε)|A6p=>ho z E cx pins s σ H (OZ H1 (∃F1 Γ1 d,AJI/\ky/\ASu F1/\ ε)) I ζ|A6q=>by obtain⟨x,H',I',rv,sm,H2,e1,e2,hQ⟩:=hq;exact⟨x,H2,L.thaw n0 I' sm e1 e2,rv,hQ⟩|A6r=>N' =own++caps.map fun j=>N.getD j ""|A6s=>w∈ GY ASk r AL|A6t=>Eg ->BK8 (p=Ae4)|A6u=>(∀a,Good i a ->P [F i a])|A6v=>∀a F,ε F a ->qP ADx F H0 (b::su) th|A6w=>⟨ε,R.len,R.sl,R.ap⟩|A6x=>(hz i him).2|A6y=>(zxq hn hg k ψ).2|A6z=>if c then a else b|A6_=>by rw[tk,List.filter_append,List.flatten_append]|A6'=>xs[k1]?=none\/ys[k2]?=none|A7G=>Kc (j:=27720)|A7H=>∃q,EE h'.get? q|A7I=>⟨m3,dv,yes⟩|A7J=>⟨z.1,ht _ _ z.2.1,z.2.2⟩|A7K=>⟨ε,ndc,fun x hx y hy e=>dis x hx (e ▸ hy)⟩|A7L=>show TC _ from x|A7M=>⟨? px,Fm h (PassesOwnAt.lookingOf h)⟩|A7N=>by have hp:=(zok ASt es).length_eq|A7O=>f p*HM.dt rs cs|A7P=>∀{cs:Ap},cH (MV ds ε) cs=ζ|A7Q=>by case ε=>subst r;show L_ rv;exact ft|A7R=>nx k % l.length|A7S=>by rw[List.length_zip,<- hkl,Nat.min_self] at ε|A7T=>W.hideAll s'.heap (a::SC)|A7U=>(hx (Tp,ot) Ψ)|A7V=>(W.codeRec_of KX hcd)|A7W=>Q8 (ε (X.wsh z)) (q_ Rj t E)|A7X=>(L2.start eQ [AI,v1,v2])|A7Y=>by simp [qD,qe,iZ]|A7Z=>ε ->G2 ->BI (AR4) XW|A7a=>(h.push T1).update|A7b=>by show AJ6 Kr;exact hl|A7c=>by simp;split at hf<;>(rename_i e;simp [e];omega)|A7d=>bD (q.map (fM AEH da))|A7e=>decide_eq_decide.mpr (yhx b0)|A7f=>(fun y hy=>k y (zX _ hy))|A7g=>backTo cpos (starEach ε X.env)= ζ|A7h=>(AfN s.heap.objs.size Aec).ε|A7i=>Κ p hp z|A7j=>Κ h4 held Pz|A7k=>Κ h5 fl PB|A7l=>Κ h6 PJ WL|A7m=>(.dik ks (lB ts))|A7n=>(BV (BV h))|A7o=>Μ (AKS (a_ ε) Str.empty)|A7p=>Μ (n.fmod 3=1)|A7q=>Ο (bG (AfK)) z|A7r=>Sh (ë 4000 ε) Δ|A7s=>Φ ε as.Nodup Aez Ě ζ
|A7t=>by
 split
 ·exact ε (n:=ζ) Δ Δ
 ·exact η (n:=θ) Δ Δ
|A7u=>by by_cases hl:xs.length=ys.length|A7v=>FF q1 q2 (by rw[ε,bG q2,bG q1])|A7w=>by simp at h1 h2;show ń;cases n<;>simp [lu]|A7x=>∃w,LD w/\HH F0 w|A7y=>∃f,Afd/\ε K f x=some g|A7z=>ε fun v hv=>ļ (AeF hv)|A7_=>by show(xU own.length caps σ).length=N'.length|A7'=>(hμ r hr).1|A8G=>aM K F0 ds vs|A8H=>zuz F Good ε (AD as has)|A8I=>PE X YE (Q8 r t)|A8J=>(Ch (gE (Builtin.«sorted» _)) ?_)|A8K=>(Ch (s.heap.IsTuple l xs) hl)|A8L=>ε ->Rep X.K F d v ->Rep X.K F d' v ->nD d d' =true|A8M=>A0 (congrArg Array.toList d1)|A8N=>(ps.map fun p=>AfE)|A8O=>(qo BKj cq pc)|A8P=>by show c∈_;simp|A8Q=>typeOf tS=pure (Kk "method_descriptor")|A8R=>by show Db (d' =s.drawn) hm.drawn|A8S=>OR (BLM (W.instObj C s.heap.objs.size))|A8T=>FL hs.2 c ?_ q|A8U=>EJ one 1 0|A8V=>EJ (bC K C C1) ε (dk C C2/\ζ)|A8W=>fun b z=>(NG z Uv b)|A8X=>FM (by simp at hb;simp [hb])|A8Y=>(by rw[List.length_cons,List.length_nil,sizeLine_eq];omega)|A8Z=>∀s,k<=s ->ε ->a s k=0|A8a=>∀u,isW rows u ->ε ->ζ=none|A8b=>Fu (exec (.Raise (A9 (jv AeW args)) ε pos) env)|A8c=>(X.env.scope.kind== .module&&X.env.locals !=X.env.globals)|A8d=>GY decide_eq_false q (nomatch q)|A8e=>ne g (zX _ hg)|A8f=>NG (zJ ε) Nat.not_lt.mpr hle|A8g=>zP (zog xs lo hi) hz|A8h=>Mod X.K X.mg X.base|A8i=>WO (BKS i (rawInt i))|A8j=>(Κ C hC hx)|A8k=>(Κ s6 I6 hz1)|A8l=>∀s∈ws.map (kW rows),ε|A8m=>OX (b∉ø) F' F|A8n=>∀b o,ACp ->Φ ε ASF Tm FX ζ|A8o=>S4 Rf e1 q|A8p=>(NS j (Μ (ACc>ns.getD j 0)))|A8q=>qX ASe (val i)|A8r=>TC (ABc Ω (.fields ps))|A8s=>OZ s1 (AJu (pyIter v) ε s1)|A8t=>(jv (jI IC name) Da)|A8u=>zR _ (zT.mpr rfl)|A8v=>K0 fG CX k f fd ps ε|A8w=>∀A' :Around,A'.handled=none ->ε|A8x=>by show W' (newList []) wpAny_newObj_type|A8y=>bB P w ε s'.heap b u|A8z=>fun v hv=>scn v (ε hv)|A8_=>fun v H' =>Dn.nx AKY H'|A8'=>Calls.Name_function_global I.ok.kind hg ε hd|A9G=>I.kIn a o hk|A9H=>(cutD xs l u)|A9I=>qD (iK IZ h)|A9J=>AIM #[qQ (Fh (P5 wC Χ BG) (P5 wC Ρ BG))]|A9K=>XI ⟨RH (ľ f3),RH (f3 p hp).2⟩|A9L=>AIT ε (fun x y H Q=>y= AF/\Q (.bl ζ) H)
|A9M=>by
 change RY ε ζ η at q
 by_cases hb:θ
 ·exact ι
 ·rw[Ĕ,n] at q;cases q
|A9N=>ê (me k s)|A9O=>ABx TL (x' Sm)/ û|A9P=>ABx ε (TH* MW)/ BU (IF bY Ŋ ζ)|A9Q=>(fs.zip ts).lookup f=some (.leaf d)|A9R=>qD (Qb - MG)|A9S=>some (assign (FE y py) X.env)|A9T=>(qN x' (bY cO w))|A9U=>AO H b (.frz (ob b))|A9V=>∀i h,tn i h ->Tb (AfC XX)|A9W=>(AY (j<0) (-j) j)|A9X=>YY (storeName X.env x u)|A9Y=>⟨z,H,I,tK,q⟩|A9Z=>lf (i^j.toNat)|A9a=>Q8 (ε K g) (Lv Rj t E) σ H Q|A9b=>((X.hand a).wsh ⟨z.xe,z.pn⟩)|A9c=>ċ (FZ p2 hb).1 (AD u q')|A9d=>#[ydn (i:=3) rfl D8 ε ζ]|A9e=>mS t es BLx|A9f=>fun o=> !(Μ (q<o))|A9g=>by rw[List.zip_cons_cons,List.map_cons,ε (Bz h)]|A9h=>(mo (HK ĉ (F w)))|A9i=>ε c o (I.cne x c e) hc|A9j=>AQR [AP4] ε Cx Cx|A9k=>nC P w H' s'.heap|A9l=>Be ε Lc hbase hline|A9m=>(.Subscript IC AeX pos2)|A9n=>GU At h ADt 0|A9o=>W.item i s _ _|A9p=>∀(YN) (F H H0:Hp) (as:AR),_|A9q=>ACw (GT H' Ade) Q|A9r=>(vs= .ref x::rest)|A9s=>⟨cs,t',e0,q⟩|A9t=>Nat.mul_le_mul_right _ (zP BLJ ε)|A9u=>List.getElem?_append_left (BE B.len hq)|A9v=>Nat.le_of_lt (L.mm r vy)|A9w=>vR xs.length k=some j|A9x=>EX x c e z|A9y=>GE ε I2 (q _ (I1.hok.fresh (zO _)))|A9z=>Ĺ (∃bs,sW xs=some bs/\PP (ε id))|A9_=>nM Γ1 σ i b|A9'=>l_ (h ε (j+1) ψ AR7) this|A_A=>AIx dd2 (.seq items2 n2) ε|A_B=>∀(ŋ){m:EA}(L:AKy),_|A_C=>E EU none H1|A_D=>∀h',Afp h' s.heap.objs.size ->ε|A_E=>V ->V ->V ->i8 Hp Hp|A_F=>E5 OW (∃kvs,ASL/\HH H1 (.frz (ob b) Kt))|A_G=>∀{n:Nat}{f:kX}{i:Nat}(h:i<n),_|A_H=>Gr F2 H' Ď ķ|A_I=>eZ.there _ _ _ rs a ε|A_J=>tF (compareOp ε u B9)|A_K=>AEI ((zv w hw).up Δ)|A_L=>by show AQ9 (KA rv.get i x ε (by rw[List.getElem?_map,List.getD_eq_getElem?_getD,ζ];rfl))|A_M=>(ARD (∃x F',AQt/\eP /\AQ_ H))|A_N=>∀(AEd){tg:Expr}(a it:Addr),_|A_O=>⟨rfl,rfl,fb,?_⟩|A_P=>AeY*μ.fdiv Ņ|A_Q=>aB N ps scope|A_R=>∀(hc:vi)(hm:Meth X.K C m fa),_|A_S=>∀{f:Addr}{fd:FuncData},_|A_T=>(AY (v<0) (IO (v+ D6)) BLb)|A_U=>∃d,Ę xs d/\P d|A_V=>∀b ps,WZ (.J4 ps) ->∃more,HH H' (.J4 (ps++more))|A_W=>∀b,kF ->¬LA ->Ki F1|A_X=>QQ "_law_bounds" 2 "_law_script" Yg|A_Y=>QQ "whole_row" 2 "row" Xd|A_Z=>QQ "rising" 2 "some" Qg|A_a=>QQ "is_scale" 3 "points" Xo|A_b=>QQ "mean_mark" 3 "sheet" XQ|A_c=>QQ "ends" 3 "marks" Xv|A_d=>∀v,v∈ws↔ (ε)\/v=ζ|A_e=>AKp (ART IC f) (ε C i f ζ)|A_f=>AI3 "must_have" 1 AQZ X6|A_g=>AI3 "mark" 2 AQZ Tc|A_h=>AI3 "grade" 3 AQZ X7|A_j=>ε pins s σ H x _ u w Q I rx ry (E7 (Ο e mI))|A_l=>ARf (noteFrame e X.env) s₂ ε ζ|A_m=>ADU (hm.heap S o hw e)|A_o=>AdE "by_work" 1 Ql|A_p=>AdE "groups" 3 XH|A_q=>AdE "leanings" 8 X3|A_r=>AK5 (yU.j6 b o u eb)|A_s=>Bool×ARQ×ARQ|A_t=>["some","order","part","place"]|A_u=>da* (ARb/ rX ofM g)|A_v=>(h.push (NN "list_iterator" #[PM,ASO])).ε|A_w=>∀{m:Β}(hm:m∈ms),_|A_x=>AR_ (∃o kvs,WZ dL/\HH H2 Kt)|A_y=>ASD (kF/\Ki H0/\ACH b)
|A_z=>by
 change RY ε ζ η at q
 split at q
 ·exact q
 ·exact θ b u q
|A_0=>(j' (WP Y2 H' mr))|A_3=>∀(X:Cx)(id:String)(r:ASl),_|A_4=>⟨sl,o,e,p1,hc⟩|A_5=>mQ (va f) HV=some (f n)|A_6=>∀{H:Hp}{a b:Addr},_|A_7=>CA YE (aC (Dj C fl sp) t)|A_8=>(hg x).mpr (CY ⟨f,hf,q,ε⟩)|A_9=>Adp (ε X.K C fl sp)|A__=>⟨kz (AdY/\i<kvs.length),fun i H x H' =>ε,kz (AdY/\kvs.length<=i)⟩|A_'=>Ο (ADr hx ha) (Pe hx)|A'A=>ASz (hx acc u e)|A'B=>ZR A s v u (nD d d')|A'C=>xK X.prog X.w X.K X.mg X.base X.A X.stack ε ζ|A'D=>(Inv X pins σ H' s')|A'E=>(Hd.fore treeTable W.topGo pg w os)|A'F=>AEa ε (rule "set.scan.the-table-gave-way") (pure ())|A'G=>⟨ε,_,c,hv,Ο Array.toArray_toList hg⟩|A'H=>show IO (Cl (o7 t ε))=o7 t ζ from Int.toNat_natCast _|A'I=>ε (us:= AI::us) (vs:= AI::ws)|A'J=>.pay c.Open ["work","apart"] [.leaf (.str ε),.leaf (.bl f)]|A'K=>Meets (ε (E6 [LS,İ])) ζ|A'L=>(rel.val k).getD rd|A'M=>EX h' tk hS hold|A'N=>KG ns An its Τ ε ζ|A'O=>QQ "least_number" 1 "rule" Xm|A'P=>QQ "middle" 1 "order" Xj|A'Q=>QQ "total" 4 "some" Qe|A'R=>QQ "width" 4 "two" Qi|A'S=>QQ "mean" 5 "some" Qf|A'T=>QQ "nearest" 5 "order" Xk|A'U=>OZ s₁ (AJu (WG b) (fun u s₂=>ε) s₁)|A'V=>TD "Open" c.Open/\DQ K c.Open=true|A'W=>TD "Barred" c.bK/\DQ K c.bK=true|A'X=>fun us s1 (BL4 xs)=>(Ev BLQ)|A'Y=>∀ms:Β,ASb ->(ε) ->AKR .str|A'Z=>∀a∈l,Ab k (f a)|A'a=>Aeg vb "__getitem__" (A9 tS)|A'b=>(â "list" (sj AP5 [] cpos))|A'c=>(â "list" (sj AKg [a] pos2))|A'd=>FG "rests_behind" 4 ["some","bounds"] Xw|A'e=>FG "greatest_cuts" 5 ["some","bounds"] Xx|A'f=>(ARN Rep (No l1 h1 q1))|A'g=>I1.laid (t' :=s1.toks) (FA cE) D4 ?_|A'h=>AK4 (AKq (hn b (List.mem_cons_of_mem _ ε)).1)|A'i=>∀{one:nE}{f g:kX},_|A'j=>∀{rs:B6}{f g:Row},_|A'k=>∀(NW){F H:Hp}{σ:St},_|A'l=>∀(NW){F0 H:Hp}{N:Β},_|A'm=>Hh K x ε st f fd (AG T)|A'n=>BKr (fun σ H=>D.nx AQ4 H) (fun σ H=>D.bk AQ4 H) (fun σ H=>D.ct AQ4 H)|A'o=>BKr (AC_ D.nx) (AC_ D.bk) (AC_ D.ct)|A'p=>by have KX:ADv:=e0.mod.Jy.keeps (AdZ e0.bs)|A'q=>by have lim:s.heap.NoLimit:=e0.mod.nolimit.keeps (AdZ e0.bs)|A'r=>Ae_ ε (ζ (b,o) (zR _ BK7)).1|A's=>AIK HN c.ak "table" 4 AdQ Yb|A't=>AIK HN c.ak "borders" 1 AdQ Yc|A'u=>AfJ (∀c ds,ds.length+1=cs.length ->ε) ζ|A'v=>∀(ho:Ae2 op AKV)(ha:SD)(hb:ng)(hm:ARg),_|A'w=>sp (.ob C [] []) ds (N0 t' (DM t')) (GT Cx (E Γ1 Cx))|A'x=>∀{K:Frag}{x:Str}{st:Stmt}(h:ε K x=ex x x st),_|A'y=>∀{K:Frag}{x:Str}{g:FuncData}(h:ε K x=some g),_|A'z=>SR K F1 H F1 H σ (jP Γ)|A'0=>SR K F1 H1 F1 H1 σ (mV Γ)|A'1=>Afj Kv Er Γ1|A'2=>∀(Afn){ix:On}(h:v6),_|A'3=>Ĩ h ->Heap.ExtBut c h h' ->it≠c ->Ĩ h'|A'4=>iy t h l ws ->Heap.ExtBut c h h' ->l≠c ->iy t h' l ws|A'5=>Φ (aM K F ds rest) (sp ds Pd Ex) ((ε)) BK5 (Afu ζ)|A'6=>k _ Γ1 F1 _ q _ R2 s1 q1 q2 q3 ε ap h1|A'7=>Inv.landed (t' :=s'.toks) I1 hex os bare un hok DY.1 fl.1 inB tZ (Pz.trans PB)|A'8=>fun pre c d post=>ε|A'9=>∀(names:UN) (cs:m_),ε|A'_=>L2.upd Ď p ARH|BAI=>setField lm 2 Ω|BAJ=>zxp l ψ ψ|BAK=>(z67 ψ q hq)|BAM=>(putK kvs k y)|BAO=>zo7 (k:=ε) (ks:=ks)|BAQ=>hq H1 (s1.trans s2)|BAS=>by refine .inl (Ev k);have:ε:=fun e=>hj (zsn hN ζ (e ▸ η));simp [this,e]|BAV=>P (o9 n m (Xc k s a))
|BAW=>by show BO (lim.keeps x.toInCall.keep) (codeAny_func ?_)|BAY=>(zmv (hf c hc) (zL (ε c hc))).1|BAZ=>by show BD q hq e List.mem_iff_getElem.mp ε|BAa=>bE s3 (s3.heap.push (NN "slice" #[vl,vu,Ω]))|BAb=>∀h' e,ε ->(∃o,tj e/\ARW "StopIteration") ->ASh MA|BAc=>H_ hQ R'.gr IP q|BAd=>i' Γ1[i]? (some AKW) (g xs ds fun ys=>ε)|BAe=>IR (zys rfl rfl ε ζ (JU Bw))|BAf=>EX s us X hl|BAg=>NI AfP (zxg C fl sp t)|BAh=>ds= [.str h,ε,ASR]/\UK/\AD_/\ζ|BAi=>pP (AV (yi5 rfl)) rfl wV boot_any (au ε aN)|BAj=>IsPair h' s.heap.objs.size x y|BAk=>∃u,us= [u]/\uj|BAl=>∃l,v= LS/\∃is,ε|BAm=>∀p∈sc.names,p.2= LH ->ε A2=some ci\/ζ A2=some LH|BAn=>BLG H1 I1 q|BAo=>∀base:Heap,K.In base ->BLN ->ε|BAp=>∀{K:W.Frag}{F F' :Hp}{d:D}{v:V},_|BAq=>f_ (fF y AF ε (.bl d) (i' x (.bl c) (PP ζ)))|BAr=>fun h hm=>up h (ε h hm)|BAs=>AIw ε x C fl k ps sp|BAt=>List.lookup x ((AY Afa ARR (n,k0))::_)=_|BAu=>ASA (Be ε hg hm DS hs) (AfX ζ)|BAv=>TR.move f t v as BLc r|BAw=>∀{x:V}{u:Value}(r:uj),_|BAx=>ADy (ART o f) value (ε C f ta tv)|BAy=>(fun a ha u hu=>mine a u ha hu)|BAz=>yG.k (k:=kk) ea (by show AJ6 hkl;exact hl)|BA_=>(by show a∉X.ex;rw[hex];simp)|BA'=>fun env he b hb=>zX _ (List.mem_filterMap.mpr ⟨env,he,hb⟩)|BBG=>by show BD cd' hc' hd' W.any_some c.hd|BBH=>∀{a b:Expr}{ta:TA},_|BBJ=>(Υ b (φ (key b)*g b))|BBK=>cu 2 [] (Ma (EF Ν ε)) AK6|BBL=>(names.map fun uk=>if (BKD k&&BKC) then ARR else uk).lookup|BBM=>(Kj bs.length fun k=>pK (rk ADd bs.reverse AJy))|BBN=>(AcT (upd F' s1.heap.objs.size AcD) [(fl,v)])|BBP=>∃ms:AA,ms.length=rs.length/\∀j,ε|BBQ=>ARf (setFlight e none) s₃ ε s₂|BBR=>BLl (by rw[jO rs];exact hI)|BBS=>∀{K:W.Frag}{F:Hp}{d:D}{v:V}(h:LO),_|BBT=>(hch c z).2.2.1 x c e rfl|BBV=>⟨F,Γ,D2,R.base,h,k.base R.gr⟩|BBW=>∀(P:Program) (Afw) (x:Str) (C:Addr) (fl:Str) (k:Nat) (ps:Β) (sp:ε),_|BBX=>∀(YN) (F0 H0:Hp) (t:cN) (E:XW) (σ:St) (H:Hp) (R:ADH),_|BBZ=>k d Γ F H v R GA ε h|BBa=>Ko prog w A E vs (Ow xs) ε oneType'|BBb=>BLy (lY K C0/\G6 K C0) (.bl ε)|BBc=>∀{τ:ARm}(e:ARr){rows:AW}{w:Str},_|BBd=>K0 Pr ε f fd C f1 f2 a1 a2
|BBe=>by
 show fT hn
 have e:dv i j=AKM:=by unfold dv;show BF hn
 exact⟨ADg,ADg,AKl,BE e h⟩
|BBf=>by refine⟨"dict","dict.values",PySem.F.plainAttrs_dict,PySem.F.slot_dict_values,PySem.F.type_dict_values,hT,hN,BL1⟩|BBg=>⟨I.ok,I.os,I.bare,⟨ADY,ADY,I.base.free,ASj,I.base.tups,I.base.j6,I.base.m9⟩,B5 hn' BMA,Q3 y c,I.free,I.freeC,ZA,ε,A0 I.len⟩|BBh=>Hw (IL rfl HC ε U)|BBi=>by unfold frs;rw[List.filterMap_cons,hf];exact ε|BBj=>(nms[w],uY[q],(z.fdiv 3).fmod most)|BBk=>{oe with data:= b_ #[.ref fv,Ω,AI,Ω,AKQ,Ω]}|BBl=>fun obj s₁=>obj= X2/\s₁=ε|BBm=>∃C fs ts,Cv= .pay C fs ts/\ε/\ζ|BBn=>show Gw 10 ε from ⟨AQ,AQ,AQ⟩|BBo=>∀i j F,Rep X.K F (d i j) (v i j)|BBp=>by simp only [List.zipIdx_cons,List.zipIdx_nil,List.forIn_cons,List.forIn_nil]|BBq=>by simp only [List.filter_cons,q,ε,ζ,η,List.flatten_nil,List.append_nil]|BBr=>∀(f m:Nat),1<=m ->m+f<=n ->ε ->ζ|BBt=>(do bindName X.env n Ω;unbindBehindTheSuite X.env n hp)|BBu=>(FL fz b hb e1)|BBv=>ex d.1 d.1 d.2|BBw=>Z9 qd Og ha'|BBx=>putSet_of es' t' hd|BBy=>(Uu inner Zr he2)|BBz=>(x.above y c (PySem.mem_of_lookup h))|BB_=>(fun f hf=>Ng (sr f hf))|BB'=>J.type.andThen (W.looks_mroIn X c.g.ob)|BCG=>(W.looks_clsIn X hcd).andThen|BCH=>(ε (b,o) (zR _ BK7)).2.1|BCI=>I1.fpOk hb2 (I1.hok.fresh hb2)|BCK=>aq AK1 (iK S)|BCL=>yH p _ pa ep|BCM=>(hl.add ((h.mul (dt rs AJW)).mul HV))|BCN=>zsd hl _ fun i a b z1 z2=>by simp only [z1,z2]|BCO=>ε _ _ e' (n1 b n hb)|BCQ=>(k (lt i j))|BCR=>(I1.ok.frames.trans (congrArg some hst))|BCS=>(ARd (W.instObj C s1.heap.objs.size))|BCT=>(AY (v<0) (max (v+ D6) 0) (min v D6))
|BCU=>by
 rw[UF] at q4;refine ε
 simpa using q4
|BCV=>FG "without" 1 AS4 Xe|BCW=>FG "reached" 2 ASY Xr|BCX=>FG "share" 5 BLK XJ|BCY=>FG "shares" 6 Ľ XM|BCZ=>FG "_law_told" 11 BL0 Qo|BCa=>FG "_law_moved" 3 AEM Te|BCb=>FG "_law_due" 4 BLL Tf|BCc=>A2=q.1/\K' q.2.1 (.tup ((A2).map kV))/\RelV p.2 q.2.2|BCd=>2^ (max (cP i) (cP j))|BCe=>(.While c body [] pos)|BCf=>fun ds P E=>sp ds ε E|BCg=>∀{c:Cls}{t ds P E}(h:M9 c t ds P E),_|BCi=>PIg X tg iter wi|BCj=>OR ((Ae0 Ad4).push Adl)|BCk=>if_neg (c:=BL3 _) (Ξ (q ⟨z.1,z.2.1⟩))|BCl=>pU.k (k:=kk) ea|BCm=>(∀d,ε≠ PY)/\∀k,ζ≠ .kt k|BCn=>fun D σ H=>te σ H ε|BCo=>(tb s p*tb ī j - tb ī p*tb s j).fdiv d|BCp=>IB l us ĵ (fun hz=>(AKx (ε hq rs hz)))|BCq=>Fu (setNext S slot given ε)|BCr=>same G G' _ hw|BCs=>#[bV #[Wg #[yc1 (i:=1) rfl D8]]]|BCt=>aq l fun a=>(HK ł C4)|BCu=>by have hn:ŀ=AR2:=by show EK|BCv=>NI (.Assign [.Name y py] UP spos) ε|BCw=>(.Compare a [op,op'] [b,c] pos)|BCx=>pushCells_keeps _ _ b o TN|BCy=>far b _ (Rg he hd q n) k|BCz=>∃f fd,ε/\Meth K C m f/\ę|BC_=>by show L' (Gm.uniq G'.g (C8 Iff.rfl))|BC'=>wpAny Si X.A (call Fk us) (EP E4 pins σ Q) z.xe s|BDG=>NL (A k j) (hA k hk j)|BDH=>Sf aC (Dj c.Scale "points" (Qj c)) ε|BDI=>by have hsz:its.toArray.size=ns.length:=A0 hl.symm|BDJ=>∀x:Str,vk ->mb x=bootBuiltins x|BDK=>zwn I S hk e|BDL=>(q.num* D6+t* fR)|BDM=>by have b:ε (q::qs) k=some q.2:=by simp [ζ,List.find?_cons,e']|BDN=>ydp u nw cw h
|BDO=>by
 show FU its.toList r ε
 have e:=r.length;show Ad_ e;omega
|BDP=>oZ K F' H' H0 s o|BDQ=>si "_law_names" "_law_cell_here" "_law_many" S8|BDR=>si "_law_cell" "_law_script" "_law_k" Bq|BDS=>si "_law_divisor" "_law_one" "_law_other" X4|BDT=>si "meet" "group" "hands" S7|BDV=>si "sheets_with" "hand" "sheets" M7|BDW=>si "is_within" "step" "bound" SX
|BDX=>by
 rw[e];show AKw
 ·exact zQ _ q
 ·exact zR _ (zX _ q)
|BDY=>⟨_,es',ep',hL,r'⟩|BDZ=>ò "_law_low" "_law_top" "_law_bottom" Qm|BDa=>ò "climbs" "left" "right" Xn|BDb=>ò "joined" "found" "hands" XF|BDc=>ò "fraction" "top" "bottom" JX|BDd=>ò "led" "table" "place" Xh|BDe=>ò "number_from" "least" "marks" Xu|BDf=>ò "grade_borders" "some" "mark" XD|BDg=>FG "solved" 3 ["rows","rights"] Xi|BDh=>FG "reach" 3 ["some","bounds"] Qk|BDi=>FG "borders_borders" 3 ["marks","counts"] XC|BDj=>(fP ks vs k v)|BDk=>eK (by show Db (j=0) ψ;exact ε)|BDl=>by rw[PH List.getElem?_append_right B.len (Nat.le_refl _)] at h2|BDm=>(AY (a<0) (-a) a)|BDn=>(ts.set q (.dic (jx OJ k2) (Ac' OJ k2)))|BDo=>∀F ds P,EC ADc Adm (g ds P) ε (ζ K g vs H Q)|BDp=>⟨x,H1,I1,r1,q1⟩|BDq=>{o with data:= .set es' (ep+1) t'}|BDr=>ybp (cs:=ε) wr (N:=N)|BDs=>SlT K F H H0 as t o|BDt=>SeqAt.EqAt A s u v ε|BDu=>AI3 "leaning" 1 (ABn "hand") X5|BDv=>AI3 "reckoned" 8 ["self","work","sheet"] X8|BDw=>qD (Yf 0 (iK IZ o) (d8 IZ ASq o))|BDx=>fun σ H R=>tl σ H (bq x (∃a,x= AI/\ ((ε)\/ (ζ))))|BDy=>(ACr F.slot_tuple_iterator_next hit2.typeIs F.entry_tuple_iterator_next F.args_tuple_iterator_next_1)|BDz=>∀(vj){ms:ID}(G:ĩ),_|BD_=>(Ī (HP EB vF) (HP YV AR1) (cB dO (ö vE 3) CM))|BD'=>holding [v,ov,iv] (setItem ov iv v)|BEG=>∀(i:Nat) x Γ,bc ds ->I i Γ ->AfQ x (tb (ASv ε ζ) Γ' E)|BEJ=>o.data= .set es ep t|BEK=>(â "sum" (sj AP5 [] cpos))|BEM=>ε pins σ Γ F H s e s'|BEO=>ε<=max (cP i) (cP j)+1|BEQ=>by have:=hacc.2 i acc[i] (Array.getElem?_eq_getElem ε)|BER=>z3p L x hi i0|BES=>AQR ds (Υ tr BLm) Cx Cx|BEU=>M.lv _ _ _ _ G G' w ε|BEV=>fun b o _ hb _ e n=>ε b o e n hb Ψ|BEW=>FG "cuts" 6 ["marks","bounds"] Xy|BEY=>(bW AeM (Ģ h1 (bW h1 (Κ itv s2 h2))))|BEZ=>(yu (cT (GM yC Ν 0)) (HP Θ (cU jh Ν)) ı)|BEa=>∀a ds Q Ex,sp ds Q Ex ->ε|BEb=>AKb (â "sorted" (sj Ack [a] pos2)) ε|BEc=>AKu D Ends (t D σ H) ε (SP X pins D)|BEd=>∀(X:Cx)(tg iter:Expr)(wi:TI),_|BEe=>ε kindOf ((p,w)::P.zip vs) m p|BEf=>fun x C' Mf F' H' hE gr xr=>⟨x,F',hE,gr.low sH,xr.back sH⟩|BEg=>(nG f v fs).map (·.1)|BEh=>∃m xs ys,n=m+1/\d= ε/\d' = ζ/\ARK (lu m x y)|BEi=>∀(m:Nat) (u:Pf),(cZ m (sN (- u c)))= - cZ m u|BEj=>∀s₁ (P:dh),P Ω s₁ ->ε|BLZ=>z5f ε h (kn I sF r rv) (kn I sF r' ru)|BEk=>(mH AJC AJD ws h)|BEl=>(U i ADq q' ψ)|BEm=>by show [jy (jQ.t c S AdH)]=_;rw[jQ.dn]|BEn=>∀x c v,Ú ->Aef ->ε|BEo=>∀(AS6)(h0:RA∈S)(hn:AKf),_|BEp=>⟨v,rfl,nd,ċ ĳ (ADj hn),r1⟩|BEr=>Builtin.Slice.sliceAdjust lo hi 1 D6|BEs=>∀{op:CmpOp}{r:R2}(ho:BLS)(ha:nN)(hb:AEQ)(hm:ARg),_|BEt=>(Eu k p a i)|BEv=>pJ (S.map k) x h|BEw=>FG "excess" 5 ["hand","sheets"] XR|BEx=>FG "group_leanings" 7 ["hands","sheets"] XS|BEy=>iC A (ix i) c|BEz=>by have hez:e≠z:=fun x=>by subst x;rw[ε] at hoe;cases hoe;simp at hce|BE_=>(cZ m (wE (AY (c<p) (- AKi) (Ael c))))|BE'=>∀{K:W.Frag}{c:Cls}{a:Addr}(BCP ε),_|BFG=>∀q,lr q ->FS q (WI q ε)|BFH=>FK ["table","place",ε,ζ] ["table","place",η] θ|BFI=>AKC (ARl d v ε d l') ζ|BFJ=>AKC (ARl ds vs ε ds (Q vs H')) ζ|BFK=>(ARN Rep ⟨l2,us,ADh,h2,q2⟩)|BFL=>∀d v F' H,Gr F0 H0 F' H ->ε ->ζ d ->Ae9|BFM=>∀d v F' H',eP ->ε ->P d ->l'
|BFN=>ON zl2 _ us Q I r (No p ε (fun l hl=>k _ _ l rs hl h))|BFO=>∀ms x pQ x',UC ->ε ->ζ|BFP=>Hh K "worth" "worth" Lb f fd (AG tV)|BFQ=>SlX K F H H0 as C fs ts o|BFR=>∀{X:Cx}{F0 H0:Hp}{e:Expr},_|BFS=>by have qd:Gr F' H' F4 H4:=gr.trans R4.gr|BFT=>by have Bk:Gr F' H' F5 H5:=gr.trans R5.gr|BFU=>(ARD (∃x F',E Γ1 x/\Gr F1 H1 F' H' /\AQ_ H1))|BFV=>∀{A B:Nat}{p q:Rat}(h1:GZ A p)(h2:AEU),_|BFW=>∀{A B:Nat}{x y:Rat}(h1:ZB A x)(h2:ZB B y),_|BFX=>k _ Γ1 F1 _ l2 _ R3 s1 q1 q2 q3 (Wj ms) ap (h1 ms ε ζ)|BFY=>⟨s',o,q,p1,hb⟩|BFZ=>Vc K F H H' dx fs ts|BFa=>(k a zY _ e3)|BFb=>Κ ε s3 ⟨z,H3,I3,r3,k,e,q3⟩|BFc=>(h r zY c).mul|BFd=>by show BD m hn hl id I.loc|BFe=>∀{rows:Cn}{x x' :EN},_|BFf=>KG xs Τ as (List AS2) (tW xs=some as) ε|BFg=>∃p ys,xs= [PM]/\ (ul lU p\/ul vO p)/\ε|BFh=>(aW (dN (EF (cB fJ Ν AX) (cB fJ Θ AX))))|BFi=>DH (∃ns:An,ds= Su ACv/\ASm/\ε)|BFj=>NL u (Uk (s:=MA) e c d Δ ⟨x,H,I1,ru,E7 (BLi ε),st',ASg⟩)|BFk=>KG binds ADp m B7 (∀v,(x,v)∉binds) (ε kindOf binds m x=m x)|BFl=>Rl ε (KF (Pm n r.2/\1<=AL/\AL<=n/\Up lt r.2 AL))|BFm=>(rk ADd bs.reverse AJy).contains (n - e)|BFn=>⟨_,_,_,rfl,rfl,rfl,hc⟩|BFo=>∀{rows:AW}{ws:Β}{ps:AK3}(B:AfD)(u:Eg),_|BFp=>sY knd kf ui h' s.heap.objs.size (j8 val items.size)|BFq=>Ge x=true/\xs.all Ge=true/\PP (AY neg (! inD x xs) (inD x xs))|BFr=>∀(C:Addr)(f:Str)(ta tv:TE),_|BFs=>∀{X:Cx}{pins:dD}{σ:St},_|BFt=>(match nsIn K mainGlobals x with | Aee Fk=>ε K f x | _=>none)|BFu=>∃f fd,ε/\Ł/\AJx/\ADu/\ACo EU/\ζ|BFv=>∀F ds P Ex,ADc ->Φ Adm (sp ds P Ex) ((ε)) BK5 (AEZ ζ)|BFw=>Tk ds Ε vs Ζ F_ (ds.all Ge=true) ε|BFx=>(fun C' Mf H' =>∃x F',E Γ1 x/\Gr F1 H1 F' H' /\BL2)|BFy=>∀{ks:De} {vs:Ζ},ks.length=vs.length ->ε|BFz=>∀(BLq){xs:Ε}(hq:Ae1)(rs:Ė)(hz:BLB),_|BF_=>fun d ds e=>h d fg ve|BF'=>BL' ⟨F5,Γ5,R5,s2.trans (gr.f.trans (s4.trans s5)),q⟩|BGA=>BMC (∃C,Cv.cls=C/\AKU/\dk C Cd/\th ε ζ jN)|BGB=>APw (AG ε) "__init__" Fk/\AJx|BGC=>∀j∈caps,j<N.length/\sc.names.lookup (N.getD j "")=some LH|BGD=>by simp only [show¬(Ic<0) from Α,if_false,Int.toNat_natCast,ε]|BGE=>["hand","other","sheets","both","through_works"]|BGF=>["found","hands","apart","together","group"]|BGG=>envOfC qual scope s.heap.objs.size f|BGH=>nextT k s d tb|BGI=>(hn b (mem b hb))|BGJ=>zsw c.Open "work" "apart" (EF Θ (cC ε))|BGK=>∀{τ:ARm}(e:ARr){rows:AW},_|BGL=>z4x (zzz (AK8 (zzt ε aA JJ į)))|BGM=>wpAny M A ε Q E ACN|BGN=>zsy (g:=ε) (μ r) (eK ζ)|BGO=>ydt R1 h1.2 (k.mono s1)|BGP=>aq hs (pJ S x)|BGQ=>BKm/\HU A2/\A2≠X.env.locals/\A2∉X.fs/\∀v,(p.2).data≠ .cell v|BGR=>ABb Ol "worth" 7 AS1 (S9 c)|BGS=>(ε (u:= ζ) (ut zY) (hn a zY).2.1 (hn a zY).2.2).frzM|BGT=>-(2^62)<=i/\i<2^62/\ -(2^62)<=j/\j<2^62|BGU=>FG "pair" 6 ["order","gap"] Xl|BGV=>DH (∃(rows:AW) (ws:Β) (h:Str),ε)|BGW=>k l _ (ARz hlt2) hms (zs1 a2)|BGX=>sZ (qM hd m r)|BGY=>⟨boot_heap w.params,Array.mk [],boot_drawn,boot_toks,os⟩|BGZ=>∀(lo hi:LE)(n:Nat),_|BGa=>re ((h.push AKT).push AKd) t|BGb=>IU ty y (eA td x (ASd o (AEO H2) (Q (.bl ε) H2)))|BGc=>by refine W.set_plain (s:=ACN) X J c.sa ?_|BGe=>∀a vs bs,eI ->Φ (as=ø) ε eJ (R vs bs) ζ
|BGf=>KG i Nat e Int ε AKe|BGg=>TR.move ε t0 v a1 (dP (k a (Fs ha))) q1|BGh=>L.back (R1.grow gr) (sF.trans gr.f)|BGi=>∀(NW){F0 H0 F H:Hp}{σ:St}{Γ:G2}(R:ED),_|BGj=>∀(NW){F F' :Hp}(e:Ct),_|BGk=>Hw ⟨Α,h4,fun j a b=>h5 j ψ b⟩|BGl=>zvw (ps.map pD) (k:=1) (by show EK;omega)
|BGm=>by
 rw[Ĕ] at e';rw[bG hb];split at e'
 ·exact e'
 ·exact ε b u e'
|BGn=>p.2.2 b hb b Ψ rfl|BGo=>∀{w h:Str}(hh:ĉ),_|BGp=>∀i v,ε ->knd.is (val i) v=true/\Acf|BGq=>∀(a:Addr)(o:Obj)(kvs:ei),_|BGr=>(by repeat (first | show uu he | show uu hC | show ASi hC hcB | wp_step))|BGs=>nj (ks.zip vs) k=some v|BGt=>∀(K:Frag)(f:Addr)(qual:Str),_|BGu=>∀{k:Nat}{A:Around}(r:ASM),_
|BGv=>by
 rw[Ĕ] at e';split at e'
 ·rename_i hm;exact(hn b (zX _ hm)).2
 ·show GG n e' e'
|BGw=>∀(nI){x:EN}{hd:β}{b:Int}{g:EA},_|BGx=>cx.px pins σ Γ1 F1 H1 s2 ε s'|BGy=>u_ (Tw (gs k) BLh Δ)|BGz=>hq a ds Pd Ex hsp|BG0=>envOfC qual scope s.heap.objs.size f cd|BG1=>zN (ε r ζ) (Nat.pow_le_pow_right Δ Δ)|BG2=>∀(r:Str)(g:Rat)(qs:AA),_|BG3=>ABu (handleBy e X.env ε) (SP E4 pins D) z.xe s₃|BG4=>g x Γ0 (Υ Γ1 (tc Γ1 (fun b Γ2=>(EJ b ε mv)) jN)) jN|BG5=>⟨o,ws,st o p1,p2,p3,p4⟩|BG6=>⟨l,rfl,h2,hl,hz,h⟩|BG7=>∀(hA:∀ds vs,ADR ->F_ ->ĥ),_|BG8=>∀{kvs:XY}{vs:AJ1}(r:AJG)(k:κ){y:V}{u:Value}(ry:KL),_|BG9=>by refine C_ (holding _ _) (Aek (wpAny_call_entry slot_list_sort (G1 hoL) entry_list_sort ε (args_list_sort _)))|BG_=>((dP (k a (by rcases zU.mp ha with z | z<;>simp [z]))))|BHB=>∀b o,Φ XX FX ε (b∉ex) ζ|BHC=>∀i h h',tn i h ->(P8 fp (∀o,XX ->sv)) ->tn i h'|BHD=>AJM t _ (.seq xs _) _|BHF=>tc Γ2 (fun w Γ3=>g' y w fun d=>P d Γ3) E|BHG=>ASy (∃a xs,vs= LP/\Aer/\ (Tl ->R ε H1))|BHH=>fun a ds Q Ex h=>ε h|BHJ=>⟨ε,A1,fun a ha b hb e=>ζ (by rw[BLC] at e;exact e ▸ ha)⟩|BHK=>show((fun r:Rw=>ARe) ∘ τ)=KF ARe from funext fun r=>by show Μ ((τ r).1=w)=_;rw[(e r).1]|BHL=>LR.extBut _ _ ε (ζ _ _ c4 (hs3.extBut _ _ c2 (hs2.extBut _ _ c3 (hs1.extBut _ _ c1 η))))|BHM=>∀(lt:fe)(p:Ya)(r:Nat),_|BHN=>(body ds vs rs I turn)|BHP=>by have hlz:BKu=ε:=by rw[List.length_zip,hkl,Nat.min_self]|BHQ=>∀(K:W.Frag)(H:Hp)(a:Addr)(xs:Ζ),_|BHR=>∀(K:W.Frag) (F:Hp) (R:AJo) (v:V),_|BHS=>FG "_law_star" 2 ["_law_script","_law_hands","_law_works"] Ye|BHT=>FG "cleared" 2 ["table","place","ahead"] Xf|BHV=>ĸ sw callerA (AG fa) AR' BL6 s₁|BHW=>∀{P:Β} {vs:Τ} {i:Nat} {m:B7},ε|BHX=>Ae' QS (.Raise (A9 (jv (i9 np) AEb)) (A9 (.Constant Ω j cp)) pos) (zsw C f1 f2 t)|BHY=>(ARD (∃x F',(Ep x/\AQt)/\Gr Kv Er F' H' /\AQ_ Er))|BHa=>∀(Afk){xs ys:EL}{x y a b:Value},_|BHb=>BK8 (ME A2=ME p.2/\(A2).Nodup/\ME A2<=rows.length/\∀h,h∈A2↔h∈AR8)|BHc=>fun c ob q n hc hx=>ε|BHd=>ε q loose (importedModules p.main.body) Xt true s|BHe=>∀(kvs:XY)(k:κ)(v:V),_|BHf=>fun pins s σ H Q I h=>ε|BHg=>∀{qs:AA}{bd:EZ}(g:lJ qs bd=true),_|BHh=>SJ (ns s hS) nh (sub s hS)|BHi=>hs i x σ _ (y xs q) p|BHj=>[.Name "self" p6,.Attribute (Ĉ p7) fl p8]|BHk=>by show A4 r h1 h2 G.hand hm hz;rw[<- h2];exact hr r h1|BHl=>fun t v as F' H' gr nd hn rt hp=>kk t Γ1 F' H' v as AKm Aeo nd (dP (AfA (ut ha) (ACj hn) (ACj hn))) rt hp|BHm=>∀(hg:Hk)(hm:ASX)(hC:k7)(hi:W.findIn X.K EU "__init__" =some (A9 Fk)),_|BHn=>G7 acc J AEP (gX K g) (tX K tc) (ε K ζ) Q Ae7|BHo=>∀(A:Around) (i:Nat) (s:Shared) (Q:dh) (E:dh),AKc ->FS it s ->BLW|BHp=>BMB (ε d v F' H' BLI ζ h)|BHq=>["rows","found","hands","sheets","hand","leaning"]|BHr=>⟨i,sl,o,q,e1,hb⟩|BHs=>.of_wp fun prog w A R s h=>ε|BHt=>zua S hr.hd e0 ε r x|BHu=>Vg K g x y H Q
|BHv=>by
 show ă e1 ε
 show AfY (I.ok.funs.mem hf);rw[e] at e2;cases e2;obtain⟨sl',e3⟩:=up b _ e1 nf;exact ζ
|BHw=>∀(hu:SB)(hi:Aev)(ho:ASf),_|BHx=>∀(he:Pi)(hl:DU QO lo tl)(hh:DU QO hi th),_|BHy=>∃od,ε/\∀name,W.lookIn name od=some (mA name)|BHz=>(a k k*a i j - a i k*a k j).fdiv p|BH0=>DH (∃(S:An) (n:Int) (bs:EZ),ε)|BH1=>(eU CX P w K mg base N qual scope f cd A outer s H E)|BH2=>fun s' acc c' hm hS' hacc=> ?_|BH3=>EC (dx≠x) (C9 H' (XO x C (A9 dx))) (H' dx=some ε) (∀b,b≠x ->b≠dx ->H' b=ζ b) Ade|BH4=>flat d d' v h r r'|BH5=>RE ⟨F1,ds,_,R1.g,r1,h1,ε⟩|BH6=>AIK Dl c.Scale "scaled" 5 (ABn "x") Xq|BH7=>AIK O6 "Sitting" c.ak 9 Afs M9|BH8=>Tk xs Ζ us Τ Rc BLR ε|BH9=>∀{kindOf:Str ->GL NameKind}{x:Str}{v:Value},_|BH_=>(sortedHeap h a vs out).get?|BH'=>fh (mS tl l (th Γ2 (fun u Γ3=>(kG ε ζ)) E))|BIA=>Ed (zyz B.nd l1 l2 (by rw[l1',l2',z]))
|BIC=>by
 show AK2;have h1:0< ε - a:=E8
 have h2:0< ζ:=E8
 have h3:0< (η - a)* θ:=Rat.mul_pos h1 h2;have h4:0<=a* (ι - a):=Rat.mul_nonneg h0 LY
 grind
|BID=>ε (v9 a1 b2) (v9 b1 a2)|BIF=>FG "exchanged" 1 ["table","place","spot"] Xg|BIH=>FG "between" 4 ["left","right","x"] Xp|BII=>Ĳ (Kg Χ (Gb ε) (Gb (Sl vW ζ)))|BIJ=>IU t xs (Tl/\∀p,lr p ->FS p (WI p ε))|BIK=>ds= ε/\ASB/\uW r/\ASG/\0<bd.length/\bd.length<=90/\∀o,ARw o ->Iv o ->ζ|BIL=>∀d z F' H',eP ->ABt d z ->P d ->Q z H'|BIM=>(by simp only [Rep] at r;show AKF a vs h1 r;cases d' <;>simp only [Rep] at r' <;>first | (cases hf;done) | (cases r';done) | (obtain⟨_,_,z,h2,_⟩:=r';cases z;exact(zvr I ε ζ).elim))|BIN=>∀a vs,Φ eI ε eJ (R vs) (ζ F ks R v)|BIO=>fun i s Q E hi st hQ=>ε|BIQ=>∀{rs:B6}{cs:Ap}{a f g:Row},_|BIR=>∀Γ' F' H' σ',Lv SR F' H' σ' Γ' ->Ct ->P Γ' ->AeN|BIS=>∀{env:Env}{s:Shared}{f:Addr}{y:Str}{np cpos pos:Pos},_|BIU=>∀{l r:Pt}(h:l.1<AL)(h2:l.2<=r.2),_|BIV=>∀{xs:Ζ} {us:Τ} (n:Nat),Rc ->Vals (ε n) (ζ n)|BIW=>∀{ds:Ε} {vs:Ζ} (n:Nat),F_ ->JS (ε n) (ζ n)|BIY=>K0 Mk2 "Scale" c.Scale "points" 4 AeS (Qj c)|BIZ=>K0 Ph "Barred" c.bK "reach" 4 ASJ (S6 c)|BIa=>∀(hs:starEach cq X.env=EW (CH a) (EV [b]):=by rfl)(hpl:ABj pos [b]:=by rfl),_|BIb=>(Afe #[zvy hA rfl fQ JJ (AKJ yfi)])|BIc=>fun c o c1 c2 c3 c4 e=>ε|BId=>Lv Ib F H σ Γ F1 H1|BIe=>TrY h B e cls dd fl|BIf=>∀{qs:AA}{r:Str}{v:Rat}(ne:qs≠ [])(h:Aex),_|BIg=>∀{K:Frag}{f:Addr}{x qual:Str}{st:Stmt}(h:ε K f qual=some (AfW Ω Ω none Ω Ω)),_|BIh=>Op (Cl AI7==0&&Rs==1) (ASo==items.size)|BIi=>lG (F8 f) (F8 g)=F8 (CL (UH (f i) (g i)))|BIj=>ε I.kIn c n hx rfl rfl rfl ns|BIk=>∀{kvs:XY}{vs:AJ1}(r:AJG)(k:κ),_|BIl=>∀{ks:De} {xs:Ε} {vs:Ζ},Ė ->ε|BIm=>∀{pins:dD}{σ:St}{H:Hp}{s:Shared},_|BIn=>fun vals h1 d tk hk hm hlt hold=> ?_|BIo=>BL_ (hQ d v F' H' gr rv q)|BIp=>{s with heap:=h',drawn:=d,toks:=tk}|BIq=>∃l xs ws F Pd ds,v= LS/\H2 l=some AeB/\WA H2/\aM X.K F xs ws/\dl F ds/\g xs ds Pd/\∀ys us,aM X.K F ys us ->Pd ys ->Q AF (upd H2 l AeA)|BIr=>zgr (scope:=sc) (env:=X.env) sc.names ε|BIs=>hC r1 h1 r2 g1 (h2.trans g2.symm) (B2 h3 ca)|BIt=>fd=BLw ε pm an cdv ct/\AfB (.func fd) osl/\BLo|BIu=>fun ε pins s σ H Q I q=>h ζ pins s σ H Q I BJ6|BIv=>by refine zvb he I h (Κ v H1 hq) hbase hline|BIw=>∀ms x ws v,UC ->Afq ->ε ->ARw ζ|BIx=>fun i v s' Q' E' hv hQ=> ?_|BIy=>fun Γ3 F3 H3 σ3 R3 s3 q3=> ?_|BIz=>(kS (kS (kS hl2 hs1.extBut D.l2z) hs2.extBut D.l2i1) hs3.extBut D.l2TO)|BI0=>∀(d:D) (v:V),qe d ->LO ->Y'|BI1=>∀(ds:Ε) (vs:Ζ),ADR ->F_ ->ĥ|BI2=>∃as fs ts,AJP AfL/\f∉fs/\Aen/\DX (fs++ [f])=true/\ε|BI3=>∃i vs σ' H',Inv AEf [] σ' H' s' /\BLH/\ AKj/\ε|BI4=>∀(c:k7)(n:RR)(he:PE X e ta)(hb:YO f),_|BI5=>z0b I S ε i x v h1 h2|BI6=>∀(o:Obj)(kvs:ei)(ep:Nat)(OD:BLt),_|BI7=>∀{P:Program}{w:World}{K:W.Frag}{mg:B7}{base:Heap},_|BI8=>∀(Fn:Adp Adw)(hr:t9)(hb:AEX)(cx:Ab_),_|BI9=>k _ Γ2 F2 H2 R2 d_ hp|BI_=>M2 X o "get" apos e f cpos|BI'=>∀{E:dh}{pins:dD}{s:Shared}{σ:St}{H:Hp}{x:Str}{u:Value}{pos:Pos}{Q:dh}(I:Ι),_|BJA=>wpAny DV A.in1 (Builtin.ObjectAttr.storeInDict dx BKl name v) (YU fin (fin= Aed Ω/\ACa)) AI0 s'|BJB=>(Afi (W.fnOf name qual params body scope dV kV doc))|BJC=>Ib X.K F0 H0 F H σ Γ F1 H1
|BJD=>∀(AfZ){ms pQ :ID}(h:ĩ)(h' :wO cO pQ)(e:∀r,r∈rows↔r∈cO),_|BJE=>∀j (g1:j<is1.toArray.size) (g2:j<is2.toArray.size),SeqAt.EqAt A.in1 s is1.toArray[j] is2.toArray[j] ((XU Afr) j)|BJF=>["self","rows","rule","gap","scale","bounds","work","dealt"]
|BJG=>by
 show Afb;show Afv
 rw[em,(zst M.pos _ _).1,gd] at gd';cases gd'
|BJH=>∀{z:NQ}{xe:dh}{D:Ends}{f:Flow},_|BJI=>by refine z6 (z0c X hC hi hf (ĭ h₂ (fun r s' hr=>⟨hr.1,z6 (wpAny_holding (wpAny_point (z7 ?_)))⟩) (Fm z z)) hlen)|BJJ=>SlN K F H H0 as c t o
|BJK=>(by
 rw[show its.toArray.size=bs.length by simp [hl],ε]
 refine zm6 (s:=s) (v:= .bl (ζ id)) I BLz rfl BL5
 rcases AKH with rfl | z
 ·exact fw AQJ
 ·cases z)
|BJL=>(kI (kI (kI h2 hs1.extBut D.i2z) hs2.extBut D.i12.symm) hs3.extBut D.TOi2.symm)|BJM=>∀{n p M N:Nat}{A:OV}(BKL),_|BJN=>∀{r s:MX}(hr:AD')(hs:s∈rows)(e:AL=s.1),_|BJO=>Ń (∃p xs i v,x= PM/\y= Co/\ε/\Ę xs v/\Q v H)|BJP=>Φ TB Program World Nat (Φ L5 Nat Shared Thread ε)|BJQ=>∀{K:W.Frag}{F:Hp}{a:Addr}{o:Obj}{ks:De}{vs:Ζ}{xs:Ε}(e:ĕ AeO)(hkl:eJ)(rs:Ė)(hz:BM BKu),_|BJR=>by refine wpAny_call (z03 (f:=f) I1.kIn M.makes M.init (beq_iff_eq.mp M.fn) ?_)|BJS=>(codeAny Si (X.A.mark (some B9)) (.handlers B9 [.ExceptHandler none ε (b::su) hp] X.env) (WS s₂ (match r with | .ok f=>ζ | .error x=>cameBackBy Si X.A X.env z.xe x s₂)) AKZ)|BJT=>∀(C:Addr)(m:Str)(sp:dw)(te:cg)(t:cN),_
|BJU=>∀(hc:C3)(hg:BLE)(hm:BLD)(hg2:Gl X "set")(hm2:WJ "set")(ha:ADs)(hb:bootBuiltins "sorted" =some (L7 "sorted"):=by show OM)
 (he:starEach [a] X.env=EW (CH a) (EV []):=by rfl) (he2:starEach (sj Ack [a] pos2) X.env=EW (CH Aet) (EV []):=by rfl),_
|BJV=>staticsOk (importedModules p.main.body) (boot_heap w.params) s.heap&&namesBound p s.heap&&gensDone s&&laidKept (boot_heap w.params) s.heap|BJW=>["enumerate","zip","dict_itemiterator","dict_reverseitemiterator","odict_iterator","itertools.zip_longest","itertools.pairwise"].contains|BJX=>∀(kV doc pm:Value) (an:IE) (cdv ct:Value) (ε:ζ),η|BJY=>K0 Xo2 "Open" c.Open "work" "apart" "work" "apart" 1|BJZ=>à {s with heap:=h',gens:=g',drawn:=d',toks:=t'}|BJa=>[S,x1,x2,A3 most,AKn,AKo,ε,ASa,A3 z,Acg q]|BJb=>fin s.heap s.drawn ε [] ζ D4 (AKv) (fun p q=>by cases q)|BJc=>⟨Gr.refl s2,XB ε List.length_map R.len,Q3 i s,fun i j a hz=>by obtain⟨s,o,e,_,h⟩:=hz;exact BL8⟩
|BJd=>∀(hc:k7)(hn:RR)(hi:E_)(hv:Nc)(hd:As x "__debug__":=by decide)(hcd:As x "__classdict__":=by decide)
 (hb:ARJ AQm f AQm AQm:=by rfl),_
|BJf=>∀(c:k7)(n:RR)(ha:PE X o ta)(hv:Ae6)(hs:ASx o),_|BJg=>fun pins s σ H v u Q I r q=>AQN v u Q I r (H_ hi q)|BJh=>BME (ho pins s2 σ H2 x y v u Q I2 rx ry q)|BJi=>ε (envOfC qual scope s.heap.objs.size f cd).kindOf (ps.zip us) AeC|BJj=>(.of (owner:= "set_iterator") (n:= ε) (AfU) IY IY IY (by first | show B3 IY | show DJ IY) BLf)|BJk=>AS5 hz (by obtain⟨m',l,w3⟩:=hz;exact⟨m',l,F3,Γ3,R3,s1.trans (s2.trans s3),w3⟩)|BJl=>∀(l b:Addr)(items items2:EL)(n n2:Nat)(dd dd2:IE)(sl sl2:vz)(x y:Str)(t u:Tok)(h1:EH items 0 AKr)(h2:EH items2 0 (.str y u))(hxy:x≠y),_|BJm=>∀(X:Cx)(pins:dD)(σ:St)(tg:Expr)(R:ADH)(itv:Value)(s2:Shared),_|BJn=>∃h' tk acc c',r= .ok (.ret fN)/\s' =Ty/\ (Oy AR9 (FH (ASI jw)) sv)/\AfS acc c'/\ItemsOf Afg acc es.size|BJo=>⟨_,_,rfl,rfl,rfl,rfl,rfl,rfl,rfl,AQ,AQ,AQ,AQ⟩|BJp=>⟨⟨oc,od,_,_,_,_,_,_,sl,ε,e,c⟩,k⟩|BJq=>⟨fun _ _ _ _ _ _ _ _ _ _ h=>by obtain⟨_,_,_,_,_,_,_,_,_,_,_,_,_,_,_,_,_,_,_,_,h⟩:=h;exact h.elim,ε⟩|BJr=>ε bT bI aA bF bA bJ aY aO bx aK aD aL|BJs=>∀(dZ:Aej)(gQ:Hs K c.dX)(iI:AZ zmt)(bI:lP)(iM:BLv)(bZ:BLX),_
theorem aac{α:Type _}{a:α}{P:Prop}(e:none=some a):P:=UQ
theorem aad{α:Type _}{a:α}{P:Prop}(e:Fr some):P:=UQ
theorem aae{P:Prop}(e:GN true):P:=UQ
theorem aaf{P:Prop}(e:false=true):P:=UQ
theorem aag{α:Type _}{a:α}{l:Au}{P:Prop}(e: []=C6):P:=UQ
theorem aah{α:Type _}{a:α}{l:Au}{P:Prop}(e:C6= []):P:=UQ
theorem aai{α:Type _}{a:α}{P:Prop}(e:a∈ ([]:Au)):P:=UQ
local macro_rules|`(tactic|omega)=>`(tactic|first|lia|omega (splitDisjunctions:=true))
local macro_rules|`(tactic|cases $e:ident)=>`(tactic|first|subst $e|exact aac $e|exact aad $e|exact aaf $e|exact aae $e|exact aah $e|exact aag $e|exact aai $e|exact False.elim $e|(have hx:=Option.some.inj $e;subst hx)|(have hx:=List.cons.inj $e;obtain⟨rfl,rfl⟩:=hx)|(have hx:=Prod.mk.inj $e;obtain⟨rfl,rfl⟩:=hx)|(have hx:=Prod.mk.inj (Option.some.inj $e);obtain⟨rfl,rfl⟩:=hx)|cases ($e))
local macro_rules|`(tactic|show $t)=>`(tactic|refine(?_: $t))
abbrev dh:=BI PySem.Value PySem.Shared
abbrev dD:=ay PySem.Addr PySem.Obj
section
open PySem PySem.Spec PyProof.Rows
abbrev z6:= @wpAny_bind
abbrev z7:= @wpAny_pure
abbrev z8:= @Heap.get?_push_of_some
abbrev z9:= @Heap.get?_push_size
abbrev zZ:= @List.getElem?_eq_getElem
abbrev zY:= @List.mem_cons_self
abbrev zX:= @List.mem_cons_of_mem
abbrev zW:= @List.getElem?_eq_some_iff
abbrev zV:= @List.mem_cons
abbrev zU:= @List.mem_append
abbrev zT:= @List.mem_singleton
abbrev zR:= @List.mem_append_right
abbrev zQ:= @List.mem_append_left
abbrev zP:= @Nat.le_trans
abbrev zO:= @Nat.le_refl
abbrev zN:= @Nat.lt_of_lt_of_le
abbrev zM:= @Nat.lt_of_le_of_lt
abbrev zL:= @Nat.ne_of_lt
abbrev zK:= @Bool.false_ne_true
abbrev zJ:= @Heap.lt_size
abbrev zH:= @Option.some.inj
abbrev zG:= @Option.map_eq_some_iff
abbrev zF:= @List.mem_map
abbrev zE:= @List.mem_filter
abbrev zB:= @Heap.get?_push_ne
abbrev zA:= @List.cons.inj
abbrev yZ:= @List.mem_of_getElem?
abbrev yX:= @List.getElem_mem
abbrev yV:= @Nat.lt_irrefl
#where
namespace L2
open PySem PySem.Spec PyProof.Rows
def FT(s:Stmt)(j:Nat):Stmt:=match s with
 | .ClassDef _ _ _ body _ _ _ _ _ _ _=>body.getD j (.Pass Aa6)
 | _=> .Pass Aa6
def Jx(s:Stmt):Arguments:=match s with
 | .FunctionDef _ a _ _ _ _ _ _ _ _=>a
 | _=>{posonlyargs:= [],args:= [],vararg:=none,kwonlyargs:= [],kw_defaults:= [],kwarg:=none,defaults:= []}
def xH(s:Stmt):Mc:=match s with
 | .FunctionDef _ _ b _ _ _ _ _ _ _=>b
 | _=> []
def aV(s:Stmt):Scope:=match s with
 | H_ .FunctionDef _ _ sc _ _ _=>sc
 | _=>{kind:= ABz,names:= [],isGenerator:=false,isCoroutine:=false}
#print L2
namespace L3
open PySem PySem.W PyProof.Rows L2
abbrev J3:Τ:= AdO
def lW(y9):Bool:=cr (K.lookup C) (some (AJM "type" _ (.cls cd) sl)) (match cd.mro,sl.toList with
  | .ref C' ::bm,[_,_,_,_,some (L7 n),_]=>C' ==C&&n== "ValueError.__new__" && ! cd.hasDel&&W.tailIn K J3 bm
  | _,_=>false)
def bC(K:W.Frag)(C D:Addr):Bool:=cr (K.lookup C) (some (IN _ (.cls cd) _)) (cd.mro.contains (AG D))
def DQ(y9):Bool:=cr (K.lookup C) (some (AJM "type" _ (.cls cd) _)) (cr cd.mro (.ref C' ::_) (C' ==C))
def isV(o:BMg)(s:String):Bool:=cr o (some (.val (L7 t))) (t==s)
#print L3
namespace Hd
open PySem PySem.W PySem.Calls PyProof.Rows L2 L3
noncomputable section
def Gk:qr AgG Frag
 | _,[]=> []
 | i,o::r=>AEa o.isFreed (Gk BS r) ((i,o)::Gk BS r)
def cut(h:Heap)(_:Nat):Frag:=Gk 0 h.objs.toList
def treeOf:AgG ->Nat ->BT ->BT
 | [],_,t=>t
 | o::r,i,t=>treeOf r BS (t.ins i o)
abbrev ann:L5:=some (AG 6)
abbrev z:Pos:=Aa6
def env(p:Program):Env:={scope:=p.main.scope,locals:=mainNs,globals:=mainNs,cells:= [],code:= .ref 13,frame:=some 14}
def cB(p:Program):Code:= .body (behindTheImports p) (env p)
def S0(AO'):Shared:=BGY
def Sa(x:A2n)(w:World)(os:OsState):Shared:=AN7 x y y.1 (S0 w os)
def Ta(s:Shared):SharedT:=⟨treeOf s.heap.objs.toList 0 B_,15,s.heap.life,s.gens,s.drawn,s.toks,s.os⟩
abbrev TB:=String ->GL Builtin
abbrev GoT:=BJP A2n
abbrev aaj:=TB ->Φ Program World Nat L5 (Φ Nat Nat SharedT Thread (Option (Flow×SharedT×Code×Pos)))
abbrev aak:=BJP (GL Shared)
def fore(tb:TB)(GO:GoT)(p:Program)(w:World)(os:OsState):Shared:=Sa (GO tb p w 11 ann 12 AlJ AiF) w os
def shot{α:Type}(tb:TB)(GO:GoT)(RUN:aaj)(TOP:aak)(EXS:Mc ->Env ->Sem Flow)(p:Program)(obs:Shared ->α)(w:World)(os:OsState):Option ((Flow×Code)×α):=
 (RUN tb p w 11 ann 1 30000 (Ta (fore tb GO p w os)) ⟨(EXS Atc (env p)).wrap doneF deadEnd id id,cB p,z,AN8⟩).bind (US ((TOP tb p w 11 ann 2 (x.2.1).abs ⟨doneF .next,x.2.2.1,x.2.2.2,AN8⟩).map fun s=>((x.1,x.2.2.1),obs s)))
def rest{α:Type}(SEEN:Program ->Β ->Φ Β (Shared ->Bool) Bool Shared α)(p q:Program)(loose:Β)(Xt:Shared ->Bool){β:Type}(obs:Frag ->β)(n:Nat)(w:World)(s:Shared):Bool×α×β:=
 (BJV,BHd SEEN,AbR)
def adr(A0Y):Addr:=match x with | Aee Fk=>f | _=>0
def isRef(A0Y):Bool:=cr x (Aee (AG _)) true
def allB:Ő ->Bool
 | []=>true
 | b::l=>AEa b (allB l) false
def nth(l:Ő)(i:Nat):Bool:=match l,i with
 | [],_=>true
 | b::_,0=>b
 | _::l,BQ=>nth l i
def bare(fd:FuncData):FuncData:={fd with kwdefaults:= Ω,doc:= Ω,pyModule:= Ω,annotations:=none,code:= Ω,closureTuple:= Ω}
def fnO(BGt):ALO:=ALh (K.lookup f) (IN _ (.func fd) _) (AEa (codeIn K fd.code qual&&keepIn K Fk) (some (bare fd)) none) none
def TQ(K:Frag)(v:Value):Bool:=cr v (.ref T) (cr (K.lookup T) (some BHD) (t== "tuple" &&(cr xs.toList [Ω] true)))
def fnD(BGt):ALO:=(fnO K f qual).bind fun fd=>(AEa (TQ K fd.defaults) (some {fd with defaults:= Ω}) none)
def TV(K:Frag)(x:Str):ALO:=BFt fnO
def fnM(K:Frag)(x:Str):ALO:=BFt fnD
abbrev ex(x qual:Str)(st:Stmt):ALO:=some (AfW Ω Ω none Ω Ω)
abbrev d(x:Str)(s:Stmt):Str×Stmt:=(x,s)
def seen(K:Frag)(ds:AUc):ARQ:=ds.map fun d=>TV K d.1
def due(ds:AUc):ARQ:=ds.map fun d=>BBv
def recOf(s:Stmt):DefRec:=match s with
 | .FunctionDef n a b _ _ _ sc _ _ ps=>⟨n,a,b,sc,ps⟩
 | _=>⟨Str.empty,Jx s,[],aV s,z⟩
def tW:Τ ->AHF AS2
 | []=>ATw
 | AOD::r=>AO tW r (.inl i:: ·)
 | Al2::r=>AO tW r (.inr x:: ·)
 | _=>none
def tupO(K:Frag)(a:Addr):AHF AS2:=ALh (K.lookup a) BHD (GU t "tuple" (tW xs.toList) none) none
def o9(w:World)(kvs:ABe Β):AHF (Int×Str×Β):=some (kvs.map fun p=>(hashStr w A2,A2,p.2))
#where
#print Hd
local macro_rules | `(tactic| nofun)=> `(tactic| exact ⟨rfl,rfl,rfl,by decide+kernel,rfl,by decide+kernel,by decide+kernel⟩)
namespace Lw
open PySem PySem.Spec PyProof.Rows L2 L3
def top(AGO):Stmt:=PySem.Challenge.pw_hall_k96_whole_higher_hand_same_grades.main.body.getD i (.Pass Aa6)
abbrev zit:Stmt:=top 76
abbrev zku:Stmt:=top 73
abbrev zlf:Stmt:=top 77
abbrev zfu:Stmt:=top 74
abbrev znw:Stmt:=top 75
abbrev zgi:Stmt:=top 78
abbrev zx9:Stmt:=top 18
abbrev ztg:Stmt:=top 58
abbrev YM:Stmt:=top 57
abbrev TX:Stmt:=FT (top 60) 0
abbrev YQ:Stmt:=top 32
abbrev YS:Stmt:=top 31
abbrev zou:Stmt:=top 28
abbrev zr1:Stmt:=top 30
abbrev znn:Stmt:=top 12
abbrev YT:Stmt:=top 35
abbrev YW:Stmt:=top 39
abbrev YX:Stmt:=top 38
abbrev zkt:Stmt:=top 13
abbrev zil:Stmt:=top 37
abbrev yhe:Stmt:=top 36
abbrev TY:Stmt:=top 34
abbrev YZ:Stmt:=top 43
abbrev zi2:Stmt:=top 66
abbrev T3:Stmt:=top 65
abbrev z7m:Stmt:=top 14
abbrev zx2:Stmt:=top 19
abbrev Y0:Stmt:=top 45
abbrev Y4:Stmt:=top 44
abbrev zwr:Stmt:=top 15
abbrev ziw:Stmt:=top 47
abbrev Y5:Stmt:=top 46
abbrev QV:Stmt:=top 42
abbrev Y6:Stmt:=top 41
abbrev zd4:Stmt:=FT (top 9) 0
abbrev zyg:Stmt:=top 16
abbrev z48:Stmt:=top 17
abbrev zob:Stmt:=top 59
abbrev zev:Stmt:=FT (top 60) 1
abbrev zc4:Stmt:=zI 6
abbrev z5t:Stmt:=top 20
abbrev zew:Stmt:=top 51
abbrev zx5:Stmt:=top 55
abbrev zoa:Stmt:=top 54
abbrev z3d:Stmt:=top 53
abbrev zs2:Stmt:=top 52
abbrev Y7:Stmt:=top 21
abbrev Lb:Stmt:=top 50
abbrev Y8:Stmt:=zI 1
abbrev Y9:Stmt:=top 23
abbrev zxx:Stmt:=top 64
abbrev QX:Stmt:=FT (top 8) 0
abbrev Za:Stmt:=top 63
abbrev Zb:Stmt:=top 62
abbrev Zc:Stmt:=top 69
abbrev T4:Stmt:=top 68
abbrev z37:Stmt:=top 67
abbrev Ld:Stmt:=zI 0
abbrev zcj:Stmt:=zI 3
abbrev zeu:Stmt:=zI 4
abbrev zec:Stmt:=top 25
abbrev zd7:Stmt:=zI 5
abbrev Zd:Stmt:=zI 2
abbrev zc6:Stmt:=zI 7
abbrev zk2:Stmt:=top 79
abbrev ziq:Stmt:=top 80
abbrev T5:Stmt:=top 81
abbrev wz:Stmt:=top 82
def ds:AUc:= [Hd.d "_law_names" zit,Hd.d "_law_cell" zku,Hd.d "_law_star" zlf,Hd.d "_law_divisor" zfu,Hd.d "_law_low" znw,Hd.d "_law_bounds" zgi,Hd.d "under" zx9,Hd.d "climbs" ztg,Hd.d "is_scale" YM,Hd.d "meet" YQ,Hd.d "joined" YS,Hd.d "by_work" zou,Hd.d "groups" zr1,Hd.d "divisor" znn,Hd.d "whole_row" YT,Hd.d "without" YW,Hd.d "cleared" YX,Hd.d "fraction" zkt,Hd.d "exchanged" zil,Hd.d "led" yhe,Hd.d "solved" TY,Hd.d "sheets_with" YZ,Hd.d "is_within" zi2,Hd.d "reached" T3,Hd.d "plus" z7m,Hd.d "total" zx2,Hd.d "share" Y0,Hd.d "shares" Y4,Hd.d "minus" zwr,Hd.d "mean_mark" ziw,Hd.d "excess" Y5,Hd.d "group_leanings" QV,Hd.d "leanings" Y6,Hd.d "times" zyg,Hd.d "over" z48,Hd.d "between" zob,Hd.d "mean" z5t,Hd.d "least_number" zew,Hd.d "width" zx5,Hd.d "nearest" zoa,Hd.d "pair" z3d,Hd.d "middle" zs2,Hd.d "rising" Y7,Hd.d "reach" zxx,Hd.d "number_from" Za,Hd.d "ends" Zb,Hd.d "rests_behind" Zc,Hd.d "greatest_cuts" T4,Hd.d "cuts" z37,Hd.d "_law_told" zk2,Hd.d "_law_moved" ziq,Hd.d "_law_due" T5,Hd.d "law" wz]
def fts(AHG):Ő:= [
 iq "Apart",
 iq "Few",
 iq "HallError",
 iq "Open",
 iq "Barred",
 iq "Scale",
 iq "Sitting",
 A7o "Scale",
 AVn "Scale",
 ki W.plainOver "Scale",
 AaG vc,
 ki W.makesIn "Scale",
 Μ (W.keepIn K vc=true),
 A7o "Sitting",
 AVn "Sitting",
 ki W.plainOver "Sitting",
 AaG ABh,
 ki W.makesIn "Sitting",
 Μ (W.keepIn K ABh=true),
 õ vc "points",
 õ om "work",
 õ om "apart",
 AAd "kept_leanings",
 AAd "scale",
 AAd "rule",
 AAd "gap",
 õ xF "reach",
 AAd "sheets",
 AAd "marks",
 AAd "kept_borders",
 Av3,
 AJh om "__getattribute__" "BaseException.__getattribute__",
 õ om "__getattr__",
 AJh om "__class__" "object.__class__",
 AZl ALd ALv,
 AZl ALd AJq,
 AaG om,
 AVn "Open",
 Av4,
 AJh xF "__getattribute__" "BaseException.__getattribute__",
 õ xF "__getattr__",
 AJh xF "__class__" "object.__class__",
 AZl ALe ALv,
 AZl ALe AJq,
 AaG xF,
 AVn "Barred",
 Μ (W.specialIn K BM7 "__getattribute__" =some Awl),
 Μ (Azb BMt),
 Μ (L3.isV (W.findCls K BM7 AeI "__init__") "ValueError.__init__" =true),
 Ail vc,
 Aio vc,
 Ail om,
 Aio om,
 AcH vc "scaled",
 AcJ Azj,
 zC "leaning",
 zS "leaning",
 zC "reckoned",
 zS "reckoned",
 Ail xF,
 Aio xF,
 zC "__init__",
 zS "__init__",
 zC "must_have",
 zS "must_have",
 zC "mark",
 zS "mark",
 zC "grade",
 zS "grade",
 zC "table",
 zS "table",
 zC "borders",
 zS "borders",
 iq "borders_borders",
 iq "grade_borders",
 Μ (Aax AT5),
 Μ (Aax AT6),
 Μ (Aax BMt),
 ki DQ "Open",
 ki DQ "Barred",
 OK "range",
 OK "int",
 OK "len",
 OK "abs",
 OK "all",
 OK "zip",
 OK "tuple",
 OK "any",
 OK "list",
 OK "sorted",
 OK "set",
 OK "enumerate",
 OK "sum",
 OK "reversed",
 OK "max",
 iq "NO_GAP",
 Μ (Hd.tupO K (Hd.adr (AcV W.nsIn "NO_GAP"))=some [.inl 0,.inl 1]),
 Μ (dk AT5 AT5),
 Μ (GN (bC K AT6 AT5)),
 Μ (dk AT6 AT6),
 Av3,
 Av4,
 Μ (dk ALd ALd),
 Μ (GN (bC K ALe ALd)),
 Μ (dk ALe ALe)]
def obs(AHG):A_s:=(Hd.allB (fts K),
 Hd.seen K ds,[ð (Ö vc "__init__") "Scale.__init__",
  ð (Ö om "__init__") "Open.__init__",
  ð Azj "Scale.scaled",
  yk "leaning" "Sitting.leaning",
  Hd.fnM K "worth",
  yk "reckoned" "Sitting.reckoned",
  ð (a_ "borders_borders") "borders",
  ð (Ö xF "__init__") "Barred.__init__",
  yk "__init__" "Sitting.__init__",
  yk "must_have" "Sitting.must_have",
  yk "mark" "Sitting.mark",
  ð (a_ "grade_borders") "grade",
  yk "grade" "Sitting.grade",
  yk "table" "Sitting.table",
  yk "borders" "Sitting.borders"])
def good(AOd):A_s:=(true,Hd.due ds,
 [AVd "Scale.__init__" TX,
  AVd "Open.__init__" zd4,
  Hd.ex "scaled" "Scale.scaled" zev,
  Hd.ex "leaning" "Sitting.leaning" zc4,
  Hd.ex "worth" "worth" Lb,
  Hd.ex "reckoned" "Sitting.reckoned" Y8,
  Hd.ex "borders" "borders" Y9,
  AVd "Barred.__init__" QX,
  AVd "Sitting.__init__" Ld,
  Hd.ex "must_have" "Sitting.must_have" zcj,
  Hd.ex "mark" "Sitting.mark" zeu,
  Hd.ex "grade" "grade" zec,
  Hd.ex "grade" "Sitting.grade" zd7,
  Hd.ex "table" "Sitting.table" Zd,
  Hd.ex "borders" "Sitting.borders" zc6])
abbrev pg:Program:=PySem.Challenge.pw_hall_k96_whole_higher_hand_same_grades
abbrev lw:W.OpenLaw:=PySem.Challenge.rw_hall_k96_whole_higher_hand_same_grades
abbrev vw:Program:=W.view pg [82]
def loose:Β:=pg.boundNames.filter fun x=>x != "law"
theorem hd_e:W.opening pg=W.plainProg pg.main.scope.names:=UV
theorem hd_f(s:Shared):PySem.fenceModules? pg s=some s:=UV
theorem hd_A(AO'):W.topGo treeTable pg w 11 Hd.ann 12 (Hd.S0 w os) (W.topStub pg)=some (Hd.fore treeTable W.topGo pg w os,⟨denote treeTable (Hd.cB pg),Amd,Hd.z,A4T⟩):=by
 show BMI PySem.W.Fast.te11892475500146522536 PySem.W.Fast.te14364793385576792824;kernel_rfl
theorem hd_B(AO'):W.segRun treeTable pg w 11 Hd.ann 1 1 A'E (W.blockOf (W.behindTheImports pg) (Hd.env pg) (Hd.cB pg) Hd.z A4T)=some (u7,Hd.fore treeTable W.topGo pg w os,Amd,Hd.z):=by
 show BMI PySem.W.Fast.te14374325043358763698 PySem.W.Fast.te14364793385576792824;kernel_rfl
theorem hd_C(AO'):(Hd.Ta A'E).abs=Hd.fore treeTable W.topGo pg w os:=by
 rw[PySem.W.Fast.te15667345088766844465,PySem.W.Fast.te14364793385576792824];kernel_rfl
theorem hd_D(AO'):Hd.shot treeTable W.topGo W.segRunT W.topRun execs pg (Hd.rest W.openSeen pg vw loose (AV true) obs 1500 w) w os=some (A4S Amd (W.openGood vw loose)):=by
 rw[PySem.W.Fast.te15667345088766844465,PySem.W.Fast.te10110043849684766642,PySem.W.Fast.te14082659384304107361,PySem.W.Fast.te12563942051412417395,PySem.W.Fast.te4187177175401517315,PySem.W.Fast.te14364793385576792824];kernel_rfl
theorem hd_s:lw.row.wellSaid=true:=UV
theorem hd_said:lw.wellSaid=true:=by
 unfold W.OpenLaw.wellSaid;rw[hd_s]
 kernel_rfl
theorem hd_ok:Op (W.chainsOk vw&&W.opensWell lw.row.prog) (W.frees lw.row.toRowW&&lw.row.within.isEmpty):=UV
theorem hd_bare:lw.row.prog.bare:=gI rfl rfl rfl rfl Mb
theorem hd_d:W.defOf vw lw.row.name=some (Hd.recOf wz,[]):=UV
theorem hd_p:lw.row.prog.theDef lw.row.name=some (ABG params,ABG body,ABG scope):=UV
theorem hd_k:W.kwWritten? (ABG params.kwonlyargs) (ABG params.kw_defaults)=some []:=UV
theorem hd_n:ABG name= "law" :=UV
theorem hd_z:ABG params.defaults= []:=UV
#print Lw
namespace L2
open PySem PySem.Spec PyProof.Rows
abbrev Key:=Sum Int Str
def tY:Key ->Value ->Bool
 | .inl k,v=>Value.isInt k v
 | lI,v=>Value.isStrOf x v
def aal(AOd):Key ->Int
 | .inl k=>hashInt k
 | lI=>hashStr w x
theorem CZ:KG k Key v Value (tY k v=true) ((∃i t,k=Sum.inl i/\v=AYA)\/ (∃x t,k=Sum.inr x/\v=AYD))
 | AEz,v,h=>by
  show PF t (Value.isInt_shape (k:=i) (v:=v) h);exact .inl (MQ i t e)
 | lI,v,h=>by
  show PF t (Value.isStrOf_shape (x:=x) (v:=v) h);exact .inr (MQ x t e)
theorem z8y(i:Int)(t:Tok):tY (D1 i) ARj=true:=O_ tY Value.isInt
theorem z5u(x:Str)(t:Tok):tY (CY x) AKr=true:=O_ tY Value.isStrOf
theorem yjs(a b:Int):ATf Sum.inl Sum.inl=(a==b):=by
 show HA a b
 ·subst e;simp
 ·have h:¬(Sum.inl a:Key)=Sum.inl b:=fun q=>e (Sum.inl.inj q);rw[BMb];exact Nw beq_eq_false_iff_ne.mpr e
theorem yke(a b:Str):AAs (ATf Sum.inr Sum.inr) (a=b):=by
 show HA a b
 ·subst e;simp
 ·have h:¬(Sum.inr a:Key)=Sum.inr b:=fun q=>e (Sum.inr.inj q);rw[BMb,BM4]
theorem yij(a:Int)(b:Str):GN (ATf Sum.inl Sum.inr):=A8d
theorem yj6(a:Str)(b:Int):GN (ATf Sum.inr Sum.inl):=A8d
def pA(prog:Program)(w:World):PySem.KeyKind prog w Key where
 is:=tY
 hash:=aal w
 inj:=fun v a b ha hb=>by
  rcases CZ ha with ⟨i,t,rfl,rfl⟩ | ⟨x,t,rfl,rfl⟩
  ·rcases CZ hb with ⟨j,u,rfl,e⟩ | ⟨y,u,rfl,e⟩
   ·injection e with e1 _;rw[e1]
   ·exact UQ
  ·rcases CZ hb with ⟨j,u,rfl,e⟩ | ⟨y,u,rfl,e⟩
   ·exact UQ
   ·injection e with e1 _;rw[e1]
 byValue:=fun k v h=>by
  rcases CZ h with ⟨i,t,rfl,rfl⟩ | ⟨x,t,rfl,rfl⟩<;>rfl
 pyHash:=fun hv h=>by
  rcases CZ hv with ⟨i,t,rfl,rfl⟩ | ⟨x,t,rfl,rfl⟩
  ·exact wpAny_pyHash_int h
  ·exact wpAny_pyHash_str h
 eqBool:=fun hu hv h=>by
  rcases CZ hu with ⟨i,t,rfl,rfl⟩ | ⟨x,t,rfl,rfl⟩
  ·rcases CZ hv with ⟨j,u,rfl,rfl⟩ | ⟨y,u,rfl,rfl⟩
   ·rw[yjs] at h;exact wpAny_eqBool_int h
   ·rw[yij] at h;exact SeqAt.EqAt.int_str i t y u _ _ _ _ h
  ·rcases CZ hv with ⟨j,u,rfl,rfl⟩ | ⟨y,u,rfl,rfl⟩
   ·rw[yj6] at h;exact SeqAt.EqAt.str_int x t j u _ _ _ _ h
   ·rw[yke] at h;exact wpAny_eqBool_str h
 «strs»:=fun k x t v h=>by
  rcases CZ h with ⟨i,u,rfl,e⟩ | ⟨y,u,rfl,e⟩
  ·exact UQ
  ·injection e with e1 _;subst e1;cases v<;>rfl
theorem zx4(prog:Program)(w:World)(i:Int)(t:Tok):AKz pA (D1 i) ARj=true:=z8y i t
theorem znz(prog:Program)(w:World)(x:Str)(t:Tok):AKz pA (CY x) AKr=true:=z5u x t
inductive V where
 | non | bl (b:Bool) | int (i:Int) | str (x:Str) | Ze (b:Array UInt8) | flt (b:UInt64) | ref (a:Addr) | ty (n:String)
 deriving DecidableEq
def RelV:BI V Value
 | AF,u=>Awb
 | Z3,u=>Auh
 | Co,u=>uA AYA
 | hG,u=>uA AYD
 | .Ze b,u=>uA (Value.bytes b t)
 | .flt b,u=>uA (Value.float b t)
 | AI,u=>Ab9 u
 | .ty n,u=>A4X
abbrev Vals:BI Ζ Τ:=Paired RelV
theorem Vals.length{xs:Ζ}{us:Τ}(r:Rc):Aus:=BNU
theorem Vals.get:∀{xs:Ζ} {us:Τ} {i:Nat} {x:V},Rc ->TM ->∃u,B8 us u/\uj
 | _,_,_,_,B_,e=>AMe
 | _,_,0,_,.cons r _,e=>by simp at e;subst e;exact Of r
 | _,_,BQ,x,Nl _ t,e=>by
  show A4 u h1 h2 (KA Vals.get i x x) t ŝ
  exact⟨u,A0 h1,h2⟩
theorem Vals.set(BAw):∀{xs:Ζ} {us:Τ} (i:Nat),Rc ->Vals (xs.set i x) (us.set i u)
 | _,_,_,B_=> B_
 | _,_,0,Nl _ t=> AAk
 | _,_,BQ,.cons q t=> .cons q (Vals.set r i t)
theorem Vals.append:∀{xs ys:Ζ} {us ws:Τ},Rc ->Vals ys ws ->Vals AnB (us++ws)
 | _,_,_,_,B_,s=>s
 | _,_,_,_,AAk,s=> .cons r (Vals.append t s)
theorem Vals.take:BIV xs.take us.take
 | _,_,0,_=> B_
 | _,_,_+1,B_=> B_
 | _,_,n+1,AAk=> .cons r (Vals.take n t)
theorem Vals.drop:BIV xs.drop us.drop
 | _,_,0,r=>r
 | _,_,_+1,B_=> B_
 | _,_,n+1,Nl _ t=>Vals.drop n t
def lX:BI Mm L5
 | Ğ,ALZ=>LW
 | none,none=>True
 | _,_=>False
def KV{κ:Type}:BI XY AJ1:=Paired fun(p:κ×V) (q:κ×Value)=>A2=q.1/\RelV p.2 q.2
def kV:Key ->V
 | AEz=> Co
 | lI=> hG
inductive HO where
 | lst (xs:Ζ)
 | tup (xs:Ζ)
 | dK (kvs:ei) | dT (kvs:o_)
 | set (S:Int ->Bool) (n:Nat)
 | ins (C dx:Addr) (fs:aI)
 | own (x:Addr)
 | xd (fs:aI)
 | met (f x:Addr)
 | rng (lo hi:Int)
 | frz (o:Obj) (u:HO)
 | J4 (ps:EL)
 | ext (φ:AgX)
abbrev Hp:=Addr ->GL HO
def upd(H:Hp)(a:Addr)(o:HO):Hp:=UR (GU b a (some o) (H b))
theorem gb{H:Hp}{a:Addr}{o:HO}:upd H a o a=some o:=AUR upd
theorem bG(A_6){o:HO}(h:He):upd H a o b=H b:=Ŧ upd wt
theorem ymj(A_6){o u:HO}(h:AUV)(h' :xB)(d:o≠u):a≠b:=by
 intro e;subst e;rw[h] at h';exact d (zH h')
theorem gj{H:Hp}{a b:Addr}{o:HO}(h:AUV)(h' :FX):a≠b:=by
 intro e;subst e;rw[h] at h';cases h'
section
variable(P:Program)(w:World)
def bB(H:Hp)(h:Heap)(a:Addr):C7 HO
 | ZT=>Tl/\ArY (ADM/\TC AEW)
 | SA=>Tl/\∃its:Τ,ADM/\Ahs IsTup h
 | .dK kvs=>Aqw
 | .dT kvs=>ARn (∃xs:ABH,
   Paired (fun(p:De×V) (q:De×Addr×Value)=>BCc) kvs xs/\
   ∃o es ep,pV/\o.ExactDict/\AjT/\es.toList=xs.map (entryOfKey (tupleKind ly))/\ (xs.map (·.1)).Nodup)
 | .set S n=>h.SetOf (intKind P w) a S n
 | .ins C dx fs=>Al6/\AtZ/\dx≠a/\TC Aj3/\
   ∃mA,Aaa/\ (∀f,AsA)/\AxH
 | .own _=>∃o,pV
 | .xd fs=>∃mA,h.Ns1 a mA/\∀f,AsA
 | .rng lo hi=>∃t u v,TC AdN
 | .frz o u=>pV/\bB H h a u
 | .J4 ps=>A8r
 | .met f x=>Azl RI
 | .ext φ=>φ h/\ (∃o,pV)/\∀h1 h2:Heap,φ h1 ->(∀o,lL h1.get? ->lL h2.get?) ->φ h2
def nC(H:Hp)(h:Heap):Prop:=∀a o,AUV ->qE o
#where
section
variable{P:Program}{w:World}{H H' :Hp}{h h' :Heap}{a:Addr}{o:HO}
theorem bB.lt(x:qE o):AvF:=by
 cases o with
 | lst xs=>show Af8 x;exact Iy
 | tup xs=>obtain⟨_,_,_,p⟩:=x;exact p.lt
 | dK kvs=>obtain⟨_,_,_,_,o,_,_,e,_⟩:=x;exact Iy
 | dT kvs=>obtain⟨_,_,_,_,o,_,_,e,_⟩:=x;exact Iy
 | set S n=>show AQj o x;exact Iy
 | ins C dx fs=>show Af_ x;exact Iy
 | own y=>obtain⟨_,e⟩:=x;exact Iy
 | xd fs=>show Af' x;exact Iy
 | rng lo hi=>show Af9 x;exact Iy
 | frz ob u=>obtain⟨e,_⟩:=x;exact Iy
 | J4 ps=>exact zJ (A7L)
 | met f y=>exact zJ (A7L)
 | ext φ=>obtain⟨_,⟨_,e⟩,_⟩:=x;exact Iy
theorem Paired.mapP{α β:Type}{F G:BI α β}:∀{l₁:Au} {l₂:EA},Paired F l₁ l₂ ->(∀a b,F a b ->G a b) ->Paired G l₁ l₂
 | _,_,B_,_=> B_
 | _,_,AAk,f=> .cons (f _ _ r) (Paired.mapP t f)
theorem bB.stay(x:qE o)(k:Th (b=a\/WZ (.own a)) (FI h.get?) AP8)
  (ho:E5 (WZ (.own a)) (AJN (.own a))) (ht:ArO):bB P w H' h' a o:=by
 induction o with
 | lst xs=>show Aba x;exact⟨z,its,n,r,am⟩
 | tup xs=>obtain⟨z,its,r,ob,e,c⟩:=x;exact⟨z,its,r,ob,am,c⟩
 | dK kvs=>obtain⟨z,y,vs,r,ob,es,ep,e,c⟩:=x;exact⟨z,y,vs,r,ob,es,ep,am,c⟩
 | dT kvs=>
  obtain⟨z,y,xs,r,ob,es,ep,e,c⟩:=x;exact⟨z,y,xs,Paired.mapP r fun p q z=>A7J,ob,es,ep,am,c⟩
 | set S n=>obtain⟨ob,es,ep,t,e,c⟩:=x;exact⟨ob,es,ep,t,am,c⟩
 | ins C dx fs=>
  obtain⟨d,z,ne,e,mA,⟨od,es,ep,e2,c⟩,r⟩:=x;exact⟨ho _ d,z,ne,am,mA,⟨od,es,ep,k _ _ (CY d) e2,c⟩,r⟩
 | own y=>show PF ob x;exact⟨ob,am⟩
 | xd fs=>obtain⟨mA,⟨od,es,ep,e,c⟩,r⟩:=x;exact⟨mA,⟨od,es,ep,am,c⟩,r⟩
 | rng lo hi=>show T' t u v e x ⟨t,u,v,am⟩
 | frz ob u ih=>show AEi q x;exact⟨am,ih q⟩
 | J4 ps=>
  have e:A8r:=x;exact k a _ NR e
 | met f y=>
  have e:Azl (AG y):=x;exact k a _ NR e
 | ext φ=>obtain⟨p,⟨o,e⟩,st⟩:=x;exact⟨st _ _ p fun o q=>k _ _ NR q,N3 am,st⟩
theorem nC.lt(x:P3)(e:AUV):AvF:=(x a o e).lt
theorem nC.fresh(x:P3)(e:h.objs.size<=a):eh:=by
 cases q:H a with
 | none=>rfl
 | some u=>exact fw (zN (x.lt q) e)
theorem nC.kept(x:P3)(k:AXo):nC P w H h' :=fun a o e=>
 (x a o e).stay (fun b u _ q=>AV_) AHK X_
theorem nC.laid(x:P3)(k:AXo)(hp:h.objs.size<=a)(new:bB P w ANX h' a o):nC P w ANX h' :=FA (by
 have hn:=x.fresh hp;show N_
 ·show AmA new
 ·rw[X9] at e;exact Ħ x e (fun c v _ q=>k c v q) (MV q ż) (pk q ż))
#where
def Rd(H:Hp)(a:Addr)(u:HO):Prop:=ó\/∃o,IM ADK
theorem Rd.ok{P:Program}{w:World}{H:Hp}{h:Heap}{a:Addr}{u:HO}(r:Rd H a u)(x:P3):qE u:=by
 rcases r with r | ⟨o,r⟩
 ·exact x a u r
 ·obtain⟨_,q⟩:=x a _ r;exact q
def T6:C7 (GL HO)
 | some (CO _)=>True
 | some (.dK _)=>True
 | some (.dT _)=>True
 | some (.set _ _)=>True
 | some (.ins _ _ _)=>True
 | some (.ext _)=>True
 | some (.xd _)=>True
 | _=>False
section
variable{P:Program}{w:World}{H:Hp}{h h' :Heap}{x e:Addr}{o' :HO}
theorem nC.write(ok:P3)(mu:Ans)(he:Aqf)(k:AwA)(heo:Amn)
  (new:bB P w (GV x o') h' x o'):nC P w (GV x o') h' :=LL u (by
 have T7:∀c y,AQq c y ->c≠x:=fun c y r z=>(Ao' r)
 have aam:∀c xs,K' c RF ->c≠x:=fun c xs r z=>(Ao' r)
 show cf x
 ·subst hb;rw[gb] at q;cases q;exact new
 ·rw[X9] at q;by_cases hbe:b=e
  ·have q' :WZ (.own x):=by
    show JA he
    ·exact oB hbe.trans z hb
    ·rw[hbe];exact z
   rw[q] at q';cases q';show AEj hv heo;exact⟨v,Ο hbe hv⟩
  ·refine Ħ ok q (fun c v hc r=>k c v ?_ r) (MV r (ŵ (T7 c b r) r)) (pk r (ŵ (aam c xs r) r))
   show gT hc hc
   ·exact hbe
   ·rintro rfl;show JA he
    ·exact T7 c b hc z
    ·rw[hc] at z;cases z;exact hb rfl)
#where
structure Un (fs ex:AR) (H H' :Hp) (h h' :Heap):Prop where
 keep:BHB (b∉fs) sv
 slot:BHB (b∈fs) A5I
 free:cn h.get? (FX ->b∉ex ->ACU)
 there:Oy XX (b∉ex) AuC
 tups:ArO
 j6:A6f
 m9:A_V
section
variable{fs fs' ex ex' :AR}{H H1 H2:Hp}{h h1 h2 h' :Heap}{a x e:Addr}{o:HO}
theorem Un.any(u:ABW H1 h1){b:Addr}{ob:Obj}(q:sg h.get?)(n:FX)(hx:b∉ex):∃sl,HH h1.get? {ob with slots:=sl}:=by
 by_cases hb:b∈fs
 ·exact u.slot b ob q n hb hx
 ·exact⟨ob.slots,u.keep b ob q n hb hx⟩
theorem Un.trans(a:ABW H1 h1)(b:Un fs ex H1 H2 h1 h2):ABW H2 h2 where
 keep:=BHc (b.keep c ob (a.keep c ob q n hc hx) (AmD hx) hc hx)
 slot:=BHc (by
  show ă e1 (a.slot c ob q n hc hx);show wS sl' (b.slot c _ e1 (AmD hx) hc hx);exact⟨sl',e2⟩)
 free:=fun c ob q n hx=>by
  show ABs e1 (a.there c ob q hx);exact b.free c o' e1 (AmD hx) hx
 there:=fun c ob q hx=>by
  show ABs e1 (a.there c ob q hx);exact b.there c o' e1 hx
 tups:=fun c xs q=>b.tups c xs (a.tups c xs q)
 j6:=fun c ob xs q=>b.j6 c ob xs (a.j6 c ob xs q)
 m9:=fun c ps q=>by
  obtain⟨m1,e1⟩:=a.m9 c ps q;show wS m2 (b.m9 c _ e1);exact⟨m1++m2,DB e2 Array.append_assoc⟩
theorem Un.kept(k:AXo):ABW H h' :=
 ⟨Av9 Ang,Av9 ⟨ob.slots,Ang⟩,fun _ _ _ n _=>n,Aoa ⟨ob,Ang⟩,X_,fun _ _ _ q=>q,fun _ ps q=>⟨#[],AL6 q⟩⟩
theorem Un.refl:ABW H h:=Un.kept X_
theorem Un.laid(k:AXo)(hp:h.objs.size<=a)(hn:eh):ABW ANX h' where
 keep:=fun b u q _ _ _=>AV_
 slot:=fun b u q _ _ _=>⟨u.slots,AV_⟩
 free:=A6Z (At' (Nat.lt_of_lt_of_le (Heap.lt_size q) hp))
 there:=MM q _ ⟨u,AV_⟩
 tups:=LL xs ż
 j6:=MM xs q ż
 m9:=A3f AQT
theorem Un.write(mu:Ans)(he:Aqf)(k:AwA)(heo:Amn):ABW (GV x o) h' :=by
 have hx:E5 FX (b≠x):=FF n z (Ao' n)
 have hb:E5 FX (b≠e):=FF n z (by
  subst z;rcases he with r | r
  ·exact hx b n r
  ·show GG n r r)
 have hm:Th xB (¬T6 (some u)) (b≠x):=fun b u q nm z=>by subst z;rw[q] at mu;exact nm mu
 refine⟨fun b u q n _ _=>A5v,fun b u q n _ _=>⟨u.slots,A5v⟩,A6Z (bG (hx b n)),Ź q _,
  LL xs (Qr Aoc),MM xs q (Qr Aoc),A3f Aoc⟩
 by_cases hbe:b=e
 ·subst hbe;exact heo
 ·exact⟨u,k b u hbe q⟩
#where
def tZ(AoO):AR:=A4k filter (H a).isSome
def xJ(AoO):Heap:=W.hideAll h (tZ h H)
theorem z42(AoO):(xJ h H).objs.size=h.objs.size:=W.hideAll_size _ _
theorem yac{h:Heap}{H:Hp}{b:Addr}{o:Obj}(e:XX)(n:FX):FH Aot:=
 Ū e (fun hm=>by
  have q:(H b).isSome=true:=(zE.mp hm).2;rw[n] at q;simp at q)
theorem yh8{h:Heap}{H:Hp}{b:Addr}{o:Obj}(e:FH Aot):XX/\FX:=by
 have e' :XX:=W.of_hideAll (tZ h H) e;show CS e';cases q:H b with
 | none=>rfl
 | some x=>
  have hm:b∈tZ h H:=zE.mpr ⟨List.mem_range.mpr (zJ e'),AUD⟩
  have z:Ki Aot:=W.hideAll_none (tZ h H) hm;rw[z] at e;cases e
def yer(g h:Heap)(L:Addr):dD:=A4k filterMap (ARy (a=L\/ (g.get? a).isSome=true) (AO h.get? a fun o=>(a,o)))
def rest(g h:Heap)(L d:Addr):dD:=(yer g h L).filter fun p=>(Μ (A2≠d))
structure Mod (K:W.Frag) (mg:B7) (base:Heap):Prop where
 Jy:K.In base
 glob:BLN
 blt:∃mb,base.Ns builtinsNs mb/\BDJ
 nolimit:base.NoLimit
structure Cx where
 prog:Program
 w:World
 K:W.Frag
 mg:B7
 base:Heap
 A:Around
 N:Β
 s₀:Shared
 H₀:Hp
 env:Env
 outer:GB
 stack:GB
 ex:AR
 fn:Str ->Bool
 calm:Bool
 pn:dD
 xe:dh
def frs(l:GB):AR:=l.filterMap (·.frame)
abbrev Cx.fs(X:Cx):AR:=frs X.outer
def qO(A5P):Prop:=Amm (ANI\/AFq sc.names.lookup)
def Loc(A5P):Prop:=Amm ANI
def Look(env:Env)(h:Heap)(m:B7)(x:Str)(u:Value):Prop:=
 (AIO env.kindOf/\C9 m u)\/ ((AI1 env.kindOf\/AFq env.kindOf)/\∃c,AMF/\h.IsCell c (some u))
structure Cx.Ok (X:Cx):Prop where
 mod:A8h
 kind:X.env.scope.kind= ABz
 glob:X.env.globals=mainGlobals
 blt:X.env.builtins=builtinsNs
 above:ACm X.env.locals
 inj:Aq5 Ú (Air c)
 has:∀x,(AuA\/AFq X.env.kindOf) ->∃c,Ú
 cab:∀x c,AcL ->Ú ->ACm c
 hd:C3 ->X.A.handled=none
 frames:X.A.frames=some X.stack
 stk:X.stack=X.outer\/ (X.stack=BKs/\AZD)
 Zf:IQ X.ex (ACp/\mP b)
 bs:AVE (AeG/\Ki X.H₀)
 bsz:X.base.objs.size<=X.s₀.heap.objs.size
 Gn:AVE (b∉X.ex)
 Gp:IQ X.ex AUm
 funs:X.s₀.heap.FunFrames X.base X.outer
 frf:IQ X.fs (Ki X.H₀)
structure Inv (X:Cx) (pins:dD) (σ:AIB V) (H:Hp) (s:Shared):Prop where
 ok:X.Ok
 os:s.os=X.s₀.os
 bare:Atw
 base:Un X.fs X.ex X.H₀ H X.s₀.heap s.heap
 loc:∃m,Aw2/\∀(i:Nat) (x:Str) (v:V),E_ ->AiK ->Nc ->∃u,LW/\Look X.env s.heap m x u
 cell:AP' (∃v,Aef)
 free:HU X.env.locals
 freeC:AP' (HU c)
 pin:∀p∈X.pn++pins,BGQ
 hok:nC X.prog X.w H s.heap
 len:σ.length=X.N.length
section
variable{X:Cx}{pins:dD}{σ:AIB V}{H H' :Hp}{s:Shared}{h' :Heap}
theorem Cx.Ok.nofr(ok:X.Ok){b:Addr}{o:Obj}(e:FH X.base.get?):AUm:=fun hb=>by
 have:=(ok.funs.mem hb).1;show my;show DC
theorem Inv.bs(OF):AVE (Tm/\FX):=GW ⟨I.base.keep b o Aua AyC (I.ok.nofr e) AtI,I.base.free b o Aua AyC AtI⟩
theorem Inv.bk(OF):AVE Tm:=AdZ I.bs
theorem Inv.mod(OF):A8h:=I.ok.mod
theorem Inv.kIn(OF):X.K.In s.heap:=I.ok.mod.Jy.keeps I.bk
theorem Inv.lt(OF):X.env.locals<s.heap.objs.size:=let ⟨_,hn,_⟩:=I.loc;hn.lt
theorem Inv.sz(OF):ACm s.heap.objs.size:=zP I.ok.above (Nat.le_of_lt I.lt)
theorem Inv.nofs(I:Ι){a:Addr}(h:ZH a):a∉X.fs:=fun hb=>by
 obtain⟨_,o,ho,_⟩:=BNI;exact fw (zN (zJ ho) (zP I.sz h))
theorem Inv.cne(OF):mP X.env.locals:=fun x c e z=>by
 obtain⟨v,o,ho,hd⟩:=AWY;obtain⟨m,⟨o',es,ep,ho',hd',_⟩,_⟩:=I.loc;rw[z,ho'] at ho;cases ho;rw[hd'] at hd;cases hd
theorem Inv.funs(OF):s.heap.FunFrames X.base X.outer:=by
 have all:∀(l:GB),(P8 (frs l) AhP) ->X.s₀.heap.FunFrames X.base l ->s.heap.FunFrames X.base l:=by
  intro l;induction l with
  | nil=>intro _ _;trivial
  | cons env r ih=>
   intro hs hl;obtain⟨hk,⟨L,o,hf,hn,ho,hd⟩,hr⟩:=hl;have hL:L∈X.fs:=hs L (BBi zY)
   show PF sl (I.base.slot L o ho (I.ok.frf L hL) hL (Ξ (I.ok.Gp L z hL)));exact⟨hk,⟨L,_,hf,hn,e,hd⟩,ih (L9 (hs b (BBi (zX _ hb)))) hr⟩
 exact all X.outer (Ff hb hb) I.ok.funs
theorem Inv.stack(OF):s.heap.FunFrames X.base X.stack:=by
 rcases I.ok.stk with e | ⟨e,hf⟩
 ·rw[e];exact I.funs
 ·rw[e];obtain⟨m,hn,_⟩:=I.loc;refine Nl (by rw[I.ok.kind];decide) hf hn ?_ I.funs
  exact Heap.get?_none_of_le (zP I.ok.bsz I.ok.above)
theorem Inv.stkSub(OF):IQ SC (b∈X.env.locals::X.fs):=FM (by
 rcases I.ok.stk with e | ⟨e,hf⟩
 ·rw[e] at hb;exact zX _ hb
 ·rw[e] at hb;unfold frs at hb;rw[List.filterMap_cons,hf] at hb;exact hb)
theorem Inv.stkFree(OF):IQ SC FX:=FM (by
 rcases Aol hb with e | hb
 ·rw[e];exact I.free
 ·obtain⟨_,o,ho,_⟩:=BNI;exact I.base.free b o ho (I.ok.frf b hb) (Ξ (I.ok.Gp b z hb)))
theorem Inv.step{g' :hW}{t' :Nat}{d' :Drawn}{ch:AR}(I:Ι)
  (hch:AsY)
  (keep:A8n AUm sv)
  (slot:A8n AhP A5I) (free:∀b o,ASF ->Tm ->FX ->ACU)
  (there:Oy ASF Tm AuC)
  (tups:ArO) (j6:A6f) (m9:A_V)
  (ns:∀m,Aw2 ->h'.Ns X.env.locals m) (hok:AWw) (hg:AllBare g'):
  BJZ:=by
 have neL:cn X.s₀.heap.get? ACp:=GW A5k;have Zg:Oy AeG (b∉X.ex) ASF:=fun b o e hx hb=>by
  show JA (K_ hch)
  ·exact hx z
  ·exact fw (zN (zJ e) z)
 have cellK:AP' (∀v,Aef ->AjK):=fun x c e v (Ů hd)=>by
  have T8:c∉ch:=Ξ BBT;by_cases hc:c∈X.fs
  ·obtain⟨sl,q⟩:=A9i slot T8 ho ANj;exact B5 q hd
  ·exact Sn (A9i keep T8 ho ANj) hd
 refine⟨I.ok,I.os,hg,⟨ADY,ADY,DL b o e n hx,ASj,fun b xs e=>tups b xs (I.base.tups b xs e),P7 xs e (j6 b o xs (I.base.j6 b o xs e)),IA ps e⟩,?_,AGy,?_,AGy,ZA,hok,I.len⟩
 ·exact keep b o (W_ neL) hb AaL (AXD hb hx) (Ajt hx)
 ·show AbJ;show wS sl' (slot b _ (W_ neL) hb AaL e1 (Ajt hx));exact⟨sl',e2⟩
 ·show AO4;exact free b o' AaL e1 (Ajt hx)
 ·show AO4;exact there b o' AaL e1
 ·obtain⟨m1,e1⟩:=Azu;show wS m2 (m9 b _ e1);exact⟨m1++m2,DB e2 Array.append_assoc⟩
 ·show AoY I.loc;show CF m (ns m hn) (fun i x v e1 e2 e3=> ?_);show MI r l (hl i x v e1 e2 e3);show BA u r;rcases l with l | ⟨k,c,e,z⟩
  ·show B3 l
  ·show Aa3 (cellK x c e _ z)
 ·show AEj z AWY;exact⟨v,cellK x c e v z⟩
 ·obtain⟨m,⟨o,_,_,ho,_⟩,_⟩:=I.loc;exact free _ o (Hb (AnT hch)) ho I.free
 ·show T' v o ho hd AWY (free c o (Hb BBT) ho ANj)
 ·show AHx;have T8:A2∉ch:=Ξ ((hch A2 z).2.2.2 p hp rfl);exact⟨keep A2 p.2 ne nf T8 e n,free A2 p.2 T8 e n,ne,nf,d⟩
theorem Inv.un{t' :Nat}(I:Ι)(u:AJa X.fs [] H' h')(hok:AWw):à ADN:=by
 obtain⟨m,⟨o,es,ep,ho,r⟩,_⟩:=id I.loc;obtain⟨sl,hL⟩:=u.any ho I.free Ψ
 exact Ass [] (Ff z (nomatch z)) (BEV u.keep) (BEV u.slot) (fun b o _ e n=>u.free b o e n Ψ) (fun b o _ e=>u.there b o e Ψ) u.tups u.j6 u.m9 (fun m' hm=>by
  obtain⟨o',es',ep',ho',r'⟩:=hm;rw[ho] at ho';cases ho';exact BDY) hok I.bare
theorem Inv.call{g' :hW}{t' :Nat}{d' :Drawn}{ch:AR}(I:Ι)(u:AJa ic ch H' h')(hok:AWw)(hg:AllBare g')
  (hch:AsY):
  BJZ:=by
 obtain⟨m,⟨o,es,ep,ho,r⟩,_⟩:=id I.loc;obtain⟨sl,hL⟩:=u.any ho I.free (Ξ (AnT hch));exact I.step (ch:=ch) hch (fun b o hL hb hc e n=>u.keep b o e n (Hb ((zV.mp (I.stkSub b z)).elim hL hb)) hc) (fun b o _ _ hc e n=>u.any e n hc) (fun b o hc e n=>u.free b o e n hc) (fun b o hc e=>u.there b o e hc) u.tups u.j6 u.m9 (fun m' hm=>by
  obtain⟨o',es',ep',ho',r'⟩:=hm;rw[ho] at ho';cases ho';exact BDY) hok hg
theorem Inv.turned{t' :Nat}{it:Addr}(I:Ι)(k:AXp (b≠it))(hn:HU it)(hL:it≠X.env.locals)
  (h1:it∈X.ex\/ACm it) (h2:mP it) (h3:ARh it):Age:=by
 have T9:Q4 H (b≠it):=MM e z (AV5 hn)
 refine Ass [it] AL8 (fun b o _ _ hc e _=>AoU) (fun b o _ _ hc e _=>⟨o.slots,AoU⟩) A3t
  (fun b o hc e=>(N3 AoU)) (AKv) (qk e e) A4R (MR m hm) (ER) I.bare
 ·show AYh
  subst e;exact u8 h1 hL h3
 ·obtain⟨o,es,ep,ho,r⟩:=hm;exact⟨o,es,ep,k _ o (Ne.symm hL) ho,r⟩
 ·refine AlE (fun c v hc q=>k c v ?_ q) AHK X_;show JA hc
  ·rw[z];exact Pe T9
  ·exact T9 c _ z
theorem Inv.tok(I:Ι)(t:Nat):i7 {s with toks:=t}:=ApU t Un.refl I.hok
theorem Inv.kept{t' :Nat}(I:Ι)(k:Au3):Age:=I.un (Un.kept k) (I.hok.kept k)
theorem Inv.laid{a:Addr}{o:HO}{t' :Nat}(I:Ι)(k:Au3)(hp:ZH a)(new:ABk ANX h' a o):
  OY a o ADN:=I.un (Un.laid k hp (ARz hp)) (I.hok.laid k hp new)
theorem Inv.write{x e:Addr}{o:HO}{t' :Nat}(I:Ι)(mu:Ans)(he:Aqf)(k:AEV e s.heap.get?)(heo:Amn)
  (new:ABk (GV x o) h' x o):OY x o ADN:=I.un (Un.write mu he k heo) (I.hok.write mu he k heo new)
theorem Inv.pins_of{pR :dD}(I:Ι)(h:∀p∈pR,BGQ):Inv X pR σ H s:=
 ARx I.ok (XI (A1P (Hb (I.pin p (zQ _ z))) (h p)))
theorem zsn{N:Β}(hN:N.Nodup){i j:Nat}{x:Str}(a:bc N)(b:ML N x):i=j:=by
 show B' h1 e1 zW.mp a;show wS h2 (zW.mp b);exact(List.getElem_inj hN).mp (e1.trans e2.symm)
theorem zo3{M:Model}{A:Around}{E:dh}{i:Nat}{x:Str}{v:V}{u:Value}{Q:Dx Unit}(I:Ι)(hN:X.N.Nodup)(hi:E_)(hx:pS)(r:LW)
  (h:∀s',ABa AKY H s' ->(∃a,AZr s'.heap/\ (Aie\/C9 X.env.cells.lookup a)) ->ACa) (hf:qV:=by first | show hZ | show o4 | assumption):A9X:=by
 show BFd;have hcls:(X.env.scope.kind== .class || A8c)=false:=BNG
 have Zh:i<σ.length:=Ο I.len pT
 have cne:=I.cne;have tracked:Tk a Addr h' Heap (∃o,Aij/\eh) (AZr h') (nC X.prog X.w H h') :=fun{a h'} ha hs b ob e=>by
  obtain⟨_,_,hfree⟩:=ha;refine(I.hok b ob e).stay (fun c w' hc q=>A8T) AHK X_;rintro rfl;show gT hc hc
  ·rw[hfree] at e;cases e
  ·show GG hfree hc hc
 rcases hx with hk | hk
 ·refine wpAny_storeName_local hk hn (Κ h' hn' hs) hcls;obtain⟨oL,_,_,hoL,_⟩:=id hn;refine h _ (BBg (tracked ⟨oL,hoL,I.free⟩ hs)) (B5 hs AE_)
  ·exact AHX I.ok.above (AXD hb hx)
  ·show AbJ;exact⟨sl,AHX I.ok.above e1⟩
  ·show AO4;exact⟨o',AHX I.ok.above e1⟩
  ·by_cases hj:j=i
   ·subst hj;rw[hi] at e1;cases e1;show AGh Zh;cases e2;exact⟨u,r,Ĝ hk A1⟩
   ·rw[Awi Ne.symm] at e2;show PU u' r' (hl j y v' e1 e2 e3);show BA u' r';show AgA q k e k e z
    ·show BAS (y≠x) e1 hi
    ·show Aa3 Abw
  ·obtain⟨w',z⟩:=A0d;exact⟨w',Abw⟩
  ·show AHx;exact⟨FL hs.2 A2 ne e,n,ne,nf,d⟩
 ·have hfn:AcL:=by
   show JA hf
   ·exact z
   ·show GG z hk hk
  obtain⟨c,hc⟩:=I.ok.has x Ag0;obtain⟨w',z⟩:=I.cell x c hc;refine wpAny_storeName_cell I.ok.kind hk hc z (Κ h' hc' hs);obtain⟨oc,hoc,aan⟩:=id z;refine h MA ⟨I.ok,I.os,I.bare,⟨ADY,ADY,I.base.free,ASj,I.base.tups,I.base.j6,I.base.m9⟩,⟨m,hn.sameBut hs (Ne.symm (cne x c hc)),BMA⟩,Q3 y c',I.free,I.freeC,ZA,tracked ⟨oc,hoc,I.freeC x c hc⟩ hs,A0 I.len⟩ ⟨c,hs,.inr hc⟩
  ·exact AHX AsT (AXD hb hx)
  ·show AbJ;exact⟨sl,AHX AsT e1⟩
  ·show AO4;exact⟨o',AHX AsT e1⟩
  ·by_cases hj:j=i
   ·subst hj;rw[hi] at e1;cases e1;show AGh Zh;cases e2;exact⟨u,r,.inr ⟨.inl hk,c,hc,hc'⟩⟩
   ·rw[Awi Ne.symm] at e2;show PU u' r' (hl j y v' e1 e2 e3);show BA u' r';rcases q with q | ⟨k,c',e,z'⟩
    ·show B3 q
    ·show MY ⟨k,c',e,z'.sameBut hs ?_⟩;rintro rfl;exact hj (zsn hN e1 (I.ok.inj _ _ _ e hc ▸ hi))
  ·by_cases hcc:c' =c
   ·subst hcc;exact CI hc'
   ·obtain⟨w2,z2⟩:=I.cell y c' e;exact⟨w2,z2.sameBut hs hcc⟩
  ·show AHx;refine⟨FL hs.2 A2 ?_ e,n,ne,nf,d⟩;intro q;rw[q,hoc] at e;have q' :oc=p.2:=zH e;exact d w' (BE q' aan)
theorem QZ{M:Model}{A:Around}{E:dh}{i:Nat}{x:Str}{v:V}{u:Value}{Q:Dx Unit}(I:Ι)(hN:X.N.Nodup)(hi:E_)(hx:pS)(r:LW)
  (h:ANq (ABa AKY H s')) (hf:qV:=by first | show hZ | show o4 | assumption):A9X:=
 zo3 I hN hi hx r (fun s' I' _=>h s' I') hf
theorem Inv.call'{s' :Shared}{ch:AR}(I:Ι)(ho:AW2)(u:AJa ic ch H' s'.heap)(hok:AWx)(hg:ADV)
  (hch:AsY):AAT :=by
 obtain⟨h',g',d',t',o'⟩:=s';have e:o' =s.os:=ho;subst e;exact DZ I.call g' g' t' t' d' d' u hok hg hch
#where
abbrev XK:=í (i_ IE)
abbrev St:=AIB V
abbrev VK:=AFb
abbrev TE:=AcC St
abbrev TT:=AY4 Ũ
abbrev TA:=AY4 AFc
structure Ends where
 nx:LM
 rt:VK
 bk:LM:=ce
 ct:LM:=ce
abbrev TS:=Ends ->LM
inductive EP (X:Cx) (pins:dD) (σ:St) (Q:VK) (u:Value) (s' :Shared):Prop
 | mk:∀v H',A'D ->(RelV v u) ->(Q v H') ->nk u s'
def TP(X:Cx)(pins:dD)(σ:St)(Q:Ũ)(b:Bool)(s' :Shared):Prop:=∃H',AAT /\Q b H'
inductive AP (X:Cx) (pins:dD) (σ:St) (Q:AFc) (us:Τ) (s' :Shared):Prop
 | mk:∀vs H',A'D ->(Vals vs us) ->(Q vs H') ->AP X pins σ Q us s'
def SP(X:Cx)(pins:dD)(D:Ends)(f:Flow)(s' :Shared):Prop:=
 match f with
 | u7=>AHp (D.nx σ' H')
 | .brk=>AHp (D.bk σ' H')
 | .cont=>AHp (D.ct σ' H')
 | .ret u=>∃v σ' H',Acm /\LW/\D.rt v H'
def PE(X:Cx)(e:Expr)(t:TE):Prop:=
 AoC VK (ģ (WG e))
def PT(X:Cx)(e:Expr)(t:TT):Prop:=
 AoC Ũ (Aw4 (WG e))
def PW(X:Cx)(e:Expr)(t:TT):Prop:=
 ∀(whole:AIq) (pins:dD) (s:Shared) (σ:St) (H:Hp) (Q:Ũ),Ι ->fE ->Aw4 whole
theorem PW.pt{X:Cx}{e:Expr}{t:TT}(h:PW X e t):PT X e t:=h _
def PA(X:Cx)(es:A5)(t:TA):Prop:=
 ∀(pos:Pos) (pins:dD) (s:Shared) (σ:St) (H:Hp) (Q:AFc),Ι ->fE ->AQA (spliced (Ŭ es)) AP
def PS(X:Cx)(st:Stmt)(t:TS):Prop:=
 BEc (exec st X.env)
def FW(X:Cx)(st:Mc)(t:TS):Prop:=
 BEc (execs st X.env)
theorem bW(p_){t:Sem α}{Q Q' :Dx α}{M:Model}{A:Around}{E:dh}{s:Shared}(h:YY t)(hQ:∀a s,Q a s ->Q' a s):wpAny M A t Q' E s:=wpAny_mono h hQ VZ
section
variable{X:Cx}
def Nk(AGO):TE:=AIe (∃v,AiK/\Q v H)
def tC(v:V):TE:=AZP (Q v H)
theorem tH{i:Nat}{x:Str}{pos:Pos}(AsS):PE X hV (Nk i):=by
 show EQ;show FV v e h;show AoY I.loc;show MI r l (hl i x v hN e hv);have fin:nk u s:=AXu v r;show AgA l hk hm hk hc hcell
 ·exact wpAny_Name (wpAny_loadName_local I.ok.kind hk hn hm fin) hd
 ·rcases hk with hk | hk
  ·exact wpAny_Name (wpAny_loadName_cell I.ok.kind hk hc hcell fin) hd
  ·exact wpAny_Name (wpAny_loadName_free I.ok.kind hk hc hcell fin hcd) hd
theorem yi8{i j pos}:AmR ŕ ŕ:=A3r wpAny_Constant_int Co
theorem yly{b j pos}:AmR (dS b) AUd:=ASw (Constant_bool (ACO Z3 h))
theorem yip{j pos}:d6 Constant Ω j (tC .non):=ASw (Constant_none (ACO AF h))
theorem yjc{x j pos}:AmR ALz ALz:=A3r Calls.Constant_str hG
def Gl(X:Cx)(x:Str):Prop:=C9 X.env.kindOf .globalImplicit
theorem DR(BI')(hg:Hk)(hm:AI' u)(h:Q u s)
  (hd:As x "__debug__":=by decide):AHZ (WG hV):=
 A8' (Calls.loadGlobal_global A4m hm h)
theorem Gq(BI')(hg:Hk)(hm:ű)(hv:Ś u)(h:Q u s)
  (hn:vk :=by decide) (hd:As x "__debug__":=by decide):AHZ (WG hV):=by
 obtain⟨mb,h1,h2⟩:=I.mod.blt;exact A8' (Calls.loadGlobal_builtin A4m hm (B2 I.ok.blt (h1.keeps I.bk)) (FL h2 x hn hv) h)
theorem yft{x:Str}{v:V}{u:Value}{pos:Pos}(hg:Hk)(hm:AI' u)(r:LW)(hd:As x "__debug__":=by decide):PE X hV (tC v):=
 ASw (DR I hg hm (AXu v r) hd)
variable{a b:Expr}{ta tb:TE}{pos:Pos}
def PC(X:Cx)(op:CmpOp)(a b:Expr)(t:TE):Prop:=
 AKu Q VK fE (WG a) (A'U (AJu (compareOp op v u) (EP X pins σ Q) s₂))
def tB(t:TE):TT:=IU t x (AZ6 (Q c H1))
theorem z7z{op:CmpOp}{t:TE}(h:PC X op a b t)(h1:ARg:=by first | exact Ua _ Δ Δ | rfl):PT X AN6 (tB t):=by
 show Ak5;show Awo AnM h1 (bW h1 fun u s2 h2=>bW h2 (AEs c s3)) h1;show OA hz1;show PU d rfl q1;cases r1;exact BAn
theorem ykg{e:Expr}{t:TE}(h:PE X e t)(he:∀whole,isTrue e X.env whole=(do let v<- whole;standAt e.pos;holding [v] (truthy v)):=by show Mo):PT X e (tB t):=by
 show Ak5;refine isTrue_plain (é AnM v) (he _);show OA hz1;show PU d rfl q1;cases r1;exact BAn
variable{tA J5 :TT}{rest:A5}
def aao(t u:TT):TT:=IU t c (EJ c (u σ H1 Q) (Q false H1))
def tOr(t u:TT):TT:=IU t c (EJ c (Q true H1) (u σ H1 Q))
def aap(t:TT):TT:=IU t c (Q (! c) H1)
theorem yhg(AjG):PW X (AQS [a]) tA:=by
 show AY2;show Sb isTrue_and (AOx ha Q) c e;cases c with
 | true=>exact isTrue_and_nil e
 | false=>exact e
theorem yju(AjG):Ajl [a] tA:=by
 show AY2;show Sb isTrue_or (AOx ha Q) c e;cases c with
 | false=>exact isTrue_or_nil e
 | true=>exact e
theorem yi7(ha:PT X a tA)(hb:PW X AWL J5):PW X AWM (aao tA J5):=by
 show AY2;show Sb isTrue_and pE c hz1;show gN H1 I1 q1;cases c with
 | true=>exact hb wh pins s1 σ H1 Q I1 q1
 | false=>show Md H1 I1 q1
theorem yl2(ha:PT X a tA)(hb:Ajl Ac7 J5):Ajl AdG (tOr tA J5):=by
 show AY2;show Sb isTrue_or pE c hz1;show gN H1 I1 q1;cases c with
 | true=>show Md H1 I1 q1
 | false=>exact hb wh pins s1 σ H1 Q I1 q1
theorem ykm(AjG):PT X AYr (aap tA):=by
 show EQ;exact isTrue_not (ON ha (MV H1 (Q (! c) H1)) I h)
def Ub(ta tb:TE):TE:=vx (AZ6 (EJ c (tb σ H1 Q) (Q ū H1)))
def Uc(ta:TE):TE:=vx (AZ6 (Q (.bl (! c)) H1))
theorem yiv{op}{t:TE}(h:PE X a t):d6 BoolOp op [a] t:=fun pins s σ H Q I hw=>BoolOp_one (AQN Q I hw)
theorem yk0(ha:nN)(hb:PE X AWL tb):PE X AWM (Ub ta tb):=by
 show EQ;show Sb BoolOp_and pE v DW;show OA DW;show gL c q1 q1;cases r1;show BM2;cases c with
 | true=>exact cz hb Q I1 q1
 | false=>exact IL ALu H1 I1 q1
theorem yi0(ha:nN):PE X AYr (Uc ta):=by
 show EQ;show Sb UnaryOp_ pE v Ud;show OA Ud;show gL c q1 q1;cases r1;exact not_of (wpAny_truthy_bool (IL (.bl (! c)) H1 I1 q1))
def tIf(t:TT)(ta tb:TE):TE:=IU t c (EJ c (ta σ H1 Q) (tb σ H1 Q))
theorem z9c{c:Expr}(hc:PT X c tA)(ha:nN)(hb:AEQ):PE X Axh (tIf tA ta tb):=by
 show EQ;show Sb wpAny_IfExp (jS hc) d hz1;show gN H1 I1 q1;cases d with
 | true=>exact cz ha Q I1 q1
 | false=>exact cz hb Q I1 q1
#where
def lU(BHQ):Prop:=
 Rd H a ć\/
  ∃(o:Obj) (its:EL) (n:Nat),At1/\o.cls= ABo /\AUa/\o.data= AiR/\Agf/\BNT
def vO(BHQ):Prop:=
 Rd H a RF\/
  ∃(o:Obj) (its:EL) (n:Nat),At1/\Au8 /\o.data= AiR/\Agf/\BNT
def aaq:í Mm
 | Ω=>some AF
 | .bool b=>some AUd
 | AOD=>some ŕ
 | Al2=>some ALz
 | .bytes b _=>some (.Ze b)
 | .float b _=>some (.flt b)
 | AI=>some B9
 | .type n=>some (.ty n)
 | _=>none
theorem RelV.abs(BAw):aaq u=some x:=by
 cases x with
 | non=>cases r;rfl
 | bl _=>cases r;rfl
 | int _=>show AFV
 | str _=>show AFV
 | Ze _=>show AFV
 | flt _=>show AFV
 | ref _=>cases r;rfl
 | ty _=>cases r;rfl
theorem RelV.inj{x y:V}{u:Value}(r:uj)(q:KL):x=y:=zH (r.abs.symm.trans q.abs)
theorem Vals.inj:∀{xs ys:Ζ} {us:Τ},Rc ->Ċ ys ->xs=ys
 | _,_,_,B_,B_=>rfl
 | _,_,_,AAk,.cons r' t' =>DB Ame (Vals.inj t t')
section
variable{X:Cx}{pins:dD}{σ:St}{H:Hp}{s:Shared}{a:Addr}{xs ys:Ζ}
theorem Inv.list(I:Ι)(h:AOH lU):Apn (Ahs PlainL s.heap):=by
 rcases h with h | ⟨o,its,n,hk,hc,hd,hs,hz,r⟩
 ·show Aba (h.ok I.hok);exact⟨its,r,⟨_,n,e,rfl,rfl,rfl⟩,z⟩
 ·show BDO ⟨o,n,A9G,hc,hd,A0 hs⟩
theorem Inv.tuple(I:Ι)(h:AOH vO):Apn (Ahs IsTup s.heap):=by
 rcases h with h | ⟨o,its,n,hk,hc,hs,hz,r⟩
 ·obtain⟨z,its,r,p⟩:=h.ok I.hok;exact⟨its,r,p,z⟩
 ·show BDO ⟨o,A9G,hc,n,A0 hs⟩
theorem Inv.list_inj(I:Ι)(h:AOH lU)(h' :ul lU a):xs=ys:=by
 obtain⟨its,r,⟨o,n,e,_,_,d⟩,_⟩:=AgM;obtain⟨its',r',⟨o',n',e',_,_,d'⟩,_⟩:=I.list h';rw[e] at e';cases e';rw[d] at d';injection d' with d1 _;have:its=its' :=A8M
 show UT;exact Ame
theorem Inv.tuple_inj(I:Ι)(h:AOH vO)(h' :ul vO a):xs=ys:=by
 obtain⟨its,r,⟨o,e,_,n,d⟩,_⟩:=I.tuple h;obtain⟨its',r',⟨o',e',_,n',d'⟩,_⟩:=I.tuple h';rw[e] at e';cases e';rw[d] at d';injection d' with d1 _;have:its=its' :=A8M
 show UT;exact Ame
#where
section
variable{X:Cx}{st:Stmt}{rest:Mc}{t u:TS}{e:Expr}{te:TE}{pos:Pos}
def Ue:TS:=AoK AQU
def aar(t u:TS):TS:=fun D σ H=>t A5p σ H
theorem yhk:FW X [] Ue:=fun _ _ σ H _ I h=>(Aid σ H I h)
theorem Zi(h1:AnS)(h2:FW X rest u):FW X (st::rest) (aar t u):=by
 show Po;show Sb wpAny_execs_cons (AOx h1 A5p) f q;cases f with
 | next=>
  show T' σ' H' I' q q (h2 pins s1 σ' H' D I' q)
 | ret v=>exact q
 | brk=>exact q
 | cont=>exact q
theorem Zj(h1:AnS):FW X [st] t:=by
 show Po;show Sb wpAny_execs_cons (AOx h1 D) f q;cases f with
 | next=>exact wpAny_execs_nil q
 | ret v=>exact q
 | brk=>exact q
 | cont=>exact q
theorem Inv.quiet{pins:dD}{σ:St}{H:Hp}{s:Shared}(I:Ι):interactive X.env=false:=O_ interactive I.ok.kind
def Ug(te:TE):TS:=BCn (GT H1 (AGx H1))
theorem zxw(he:VO)(hs:ABV none:=by rfl):PS X (.Expr e pos) (Ug te):=by
 show Po;exact wpAny_Expr_any (bW iN (Ģ Nm (by show OA Nm;exact⟨σ,H1,I1,q1⟩))) I.quiet hs
def aat(te:TE):TS:=BCn D.rt
theorem yc8(he:VO):PS X (.Return AR5 pos) (aat te):=by
 show Po;exact wpAny_Return_some (bW iN (Ģ Gs (by show OA Gs;exact⟨x,σ,H1,I1,r1,q1⟩)))
def aau(c:TT)(t u:TS):TS:=ADf c b (EJ b (t D σ H1) (u D σ H1))
theorem ymd{c:Expr}{a b:Mc}{tc:TT}(hc:PT X c tc)(ha:FW X a t)(hb:FW X b u):PS X (.If c a b pos) (aau tc t u):=by
 show Po;show Sb wpAny_If (jS hc) d hz1;show gN H1 I1 q1;cases d with
 | true=>exact cz ha D I1 q1
 | false=>exact cz hb D I1 q1
#where
abbrev TG:=V ->St ->BI Hp (LM)
abbrev Le:=Ζ ->St ->BI Hp (LM)
def PG(X:Cx)(target:Expr)(t:TG):Prop:=
 ∀(pins:dD) (s:Shared) (σ:St) (H:Hp) (v:V) (u:Value) (Q:LM),Ι ->LW ->t v σ H Q ->
  Ahr (assign target X.env u) (AHp AeN)
def Np(X:Cx)(ts:A5)(t:Le):Prop:=
 ∀(pins:dD) (s:Shared) (σ:St) (H:Hp) (vs:Ζ) (us:Τ) (Q:LM),Ι ->AM1 ->t vs σ H Q ->
  Ahr (assignInOrder ((assignEach ts X.env).map (·.2)) us) (AHp AeN)
abbrev Nq:=A_E
def Uh(X:Cx)(t:Nq):Prop:=
 ∀(pins:dD) (s:Shared) (σ:St) (H:Hp) (o i v:V) (ov iv u:Value) (Q:C7 Hp),Ι ->Φ (RelV o ov) (RelV i iv) LW (t o i v H Q) (Ahr (setItem ov iv u) (∃H',AAT /\Q H'))
section
variable{X:Cx}{pos:Pos}
def Lf(AGO):TG:=ANe (Q AKY H)
theorem ygn{i:Nat}{x:Str}(hN:X.N.Nodup)(hi:E_)(hx:pS)(hf:qV:=by first | show hZ | show o4 | assumption):PG X hV (Lf i):=by
 intro pins s σ H v u Q I r h;exact wpAny_assign_Name (QZ I hN hi hx r (fun s' I' =>(IN H I' h)) hf)
def aav:Le:=Ajb (vs= []/\Q σ H)
def Ui(t:TG)(u:Le):Le:=Ajb (∃v r,vs=v::r/\t v σ H fun σ' H' =>u r σ' H' Q)
theorem yg1:Np X [] aav:=by
 intro pins s σ H vs us Q I r h;show AEi h h;subst e;cases r;exact assignInOrder_nil ⟨σ,H,I,h⟩
theorem ya2{e:Expr}{es:A5}{t:TG}{u:Le}(h1:PG X e t)(h2:Np X es u)
  (hs:AHR Da (·.2)=ATs e::AHR es (·.2):=by rfl):Np X Da (Ui t u):=by
 intro pins s σ H vs us Q I r h;show QP v vr e1 h;subst e1;cases r with
 | cons r rr=>
  rw[hs];show Sb assignInOrder_cons (h1 pins s σ H _ _ _ I r h) _ hz1;obtain⟨σ1,H1,I1,q1⟩:=hz1;exact h2 pins s1 σ1 H1 _ _ Q I1 rr q1
def aaw(K:W.Frag)(n:Nat)(t:Le):TG:=ANe (∃a xs,v= AI/\x0/\xs.length=n/\t xs σ H Q)
theorem yjy{es:A5}{k:Nat}{t:Le}{n:Nat}(hc:C3)(h:Np X es t)
  (hn:IF assignEach es X.env=n:=by rfl) (hst:(assignEach es X.env).findIdx? (·.1)=none:=by rfl):PG X A2U (aaw X.K n t):=by
 intro pins s σ H v u Q I r hw;obtain⟨a,xs,e1,hq,hl,hw⟩:=hw;subst e1;cases r;obtain⟨its,rv,ht,hz⟩:=I.tuple hq;refine assign_Tuple_tuple SY ht (by simp [hn,<- hl,rv.length]) hst (AD h' hx)
 show A5i (GW (hx b o AOQ e));exact h pins _ σ H xs _ Q I1 (Bz rv) hw
def iR(to ti:TE)(t:Nq):TG:=ANe (to σ H (bq o (ti σ H1 (OO H2 (t o i v H2 fun H3=>Q σ H3)))))
theorem ylc{o i:Expr}{to ti:TE}{t:Nq}(ho:PE X o to)(hi:PE X i ti)(hs:Uh X t)
  (ha:∀v,assign (AT8 o i) X.env v=(do
   let ov<- Aac [v] o
   let iv<- Aac [v,ov] i
   standAt pos
   BD'
   A1i):=by show Mo):PG X (AT8 o i) (iR to ti t):=by
 intro pins s σ H v u Q I r h;rw[ha];show AFS (NJ AUj ov Gu);show OA Gu;show AFS (bW (ACk hi) (Κ iv s2 Gv));obtain⟨y,H2,I2,r2,q2⟩:=Gv;show Ag6 (z6 (wpAny_holding (bW (hs pins s2 σ H2 x y v ov iv u _ I2 r1 r2 r q2) (AEs _ s3))));show gN H3 I3 q3;exact wpAny_release ⟨σ,H3,I3,q3⟩
def Uj(te:TE)(g:TG):TS:=ADf te x (g x σ H1 D.nx)
theorem yj9{tg e:Expr}{te:TE}{g:TG}(he:VO)(hg:PG X tg g)(hs:AVh [tg] e:=by rfl)(hw:AZV [tg] e none:=by rfl)
  (h1:AHR [tg] (·.2)= [ATs tg]:=by rfl):ADy [tg] e (Uj te g):=by
 show Po;refine wpAny_Assign_stores (é iN v) hs hw;show OA hz1;rw[h1];exact bW (hg pins s1 σ H1 x v _ I1 r1 q1) fun _ s2 q=>q
theorem Zk{i:Nat}{x:Str}{e:Expr}{te:TE}{pos' :Pos}(hN:X.N.Nodup)(hi:E_)(hx:pS)(he:VO)(hs:ABV (A9 AFW):=by rfl)(hf:qV:=by first | show hZ | show o4 | assumption):
  ADy BKR e (Uj te (Lf i)):=by
 show Po;refine wpAny_Assign_Name (é iN v) hs;obtain⟨y,H1,I1,r1,q1⟩:=hz1;exact QZ I1 hN hi hx r1 (fun s2 I2=>(IN H1 I2 q1)) hf
def aax(i j:Nat)(ta:TA):TS:=ADf ta vs (∃v w,vs= [v,w]/\D.nx ((σ.set i kL).set j (A9 w)) H1)
theorem yin{i j:Nat}{x y:Str}(BBH){px py pt:Pos}{kt k2 Nr}(hc:C3)(hN:X.N.Nodup)(hi:E_)(hj:AOo)(hij:qA)
  (hx:AcM) (hy:AZz) (ha:Aj2)
  (hw:AZV AHv AHr (A9 AAy))
  (hs:AVh AHv AHr:=by rfl):
  ADy AHv AHr (aax i j ta):=by
 show Po;rw[exec_Assign_arm];show KB wpAny_standAt;rw[hs];show iO;show ZY
 show D3 Tuple_ (NJ (Ace _) us aay);show AQs aay;obtain⟨v,w,e1,q1⟩:=q1;subst e1;obtain⟨u1,u2,rfl,rv,tK⟩:∃u1 u2,us= [u1,u2]/\RelV v u1/\RelV w u2:=by
  cases r1 with
  | cons p q=>
   cases q with
   | cons p' q' =>
    cases q';exact aE _ p p'
 show AXc (by show BM 2;decide)
 have I2:ŗ (AKK (s1.heap.push (WO [u1,u2].toArray))):=AAp;rw[hw];show iO;show ABu (do rule "assign.swapped-stores";let items<- unpackItems (AG s1.heap.objs.size) 2 none;assignInOrder [fun v=>bindName X.env y v,fun v=>bindName X.env x v] items.reverse;pure Flow.next) _ _ _;show D3 wpAny_rule (z6 (unpackItems_tuple (items:= #[u1,u2]) (I.ok.hd hc) (IsTup.new s1.heap _) (AD h' hx')));have I3:=I2.kept (h' :=h') (t' :=s1.toks) (GW (hx' b o AOQ e));show D3 assignInOrder_cons (wpAny_bindName (QZ I3 hN hj Ag1 tK (MR s2 I4) AhC));refine assignInOrder_cons (wpAny_bindName (QZ I4 hN hi (D1 hx) rv (fun s3 I5=>assignInOrder_nil (z7 ?_)) (CY hx)));rw[List.set_comm _ _ (sB hij)] at I5;exact IN H1 I5 q1
#where
section
variable{X:Cx}{pos:Pos}
def Nt(c:TT)(tb:TS):TS:=AoK (∃W:AT_,(∃m,W m σ H)/\∀m σ H,W m σ H ->
 c σ H (bq b (EJ b (BKK (W m' σ' H') (tb (AI8 N N) σ H1)) (AGx H1))))
theorem ycb{c:Expr}{body:Mc}{tc:TT}{tb:TS}(hp:Arz)(hc:PT X c tc)(hb:A1l):PS X BCe (Nt tc tb):=by
 show Po;obtain⟨W,⟨m0,w0⟩,turn⟩:=h;refine wpAny_While (codeAny_whileLoop (YU n (AHp (W n σ' H'))) ?_ m0 ⟨σ,H,I,w0⟩);rintro n s1 ⟨σ1,H1,I1,w1⟩;show ABN (hc pins s1 σ1 H1 _ I1 (turn n σ1 H1 w1)) (IA s2 hz1);show gN H2 I2 q2;cases b with
 | true=>
  obtain⟨N,hN,q2⟩:=q2;show eC;show ABN (hb pins s2 σ1 H2 _ I2 q2) (Κ f s3 q3);cases f with
  | next=>
   obtain⟨σ3,H3,I3,n3⟩:=q3;obtain⟨m',hm,w3⟩:=hN σ3 H3 n3;exact⟨m',hm,σ3,H3,I3,w3⟩
  | cont=>
   obtain⟨σ3,H3,I3,n3⟩:=q3;obtain⟨m',hm,w3⟩:=hN σ3 H3 n3;exact⟨m',hm,σ3,H3,I3,w3⟩
  | brk=>exact q3
  | ret v=>exact q3
 | false=>
  show Auy (Aid σ1 H2 I2 q2)
#where
structure It where
 go:i_ Nat
 yld:qr Hp AFb
 stop:i_ Nat
def nF(X:Cx)(pins:dD)(H:Hp)(b:Addr):Prop:=
 FX/\ACp/\AUm/\ BKx/\ (mP b)/\ARh b
theorem Inv.fpOk(BFs){H H' :Hp}{s:Shared}{b:Addr}(I:Ι)(hb:ZH b)(hn:ACU):AX3:=by
 refine⟨hn,Nat.ne_of_gt (zN I.lt hb),I.nofs hb,.inr (zP I.sz hb),A9x,A7i⟩
 ·show AEj q AWY;exact fw (zN q.lt (B2 z hb))
 ·exact fw (zN (zJ (ľ I.pin)) (B2 z hb))
structure Turn (P:Program) (w:World) (K:W.Frag) (tg:Expr) (J:It) (fp:AR) (it:Addr) (tn:AMr):Prop where
 mem:it∈fp
 obj:A9V
 keep:BHC
 item:Ab2 C3 (Φ Ι AVo AKc AVZ (AbD (∃u,r=some u/\
   wpAny sw X.A AqM (Ff s2 (∃x H',AVT/\uj/\J.yld i H x H' /\A1N/\Tb ACU)) E s1)))
 done:Ab2 C3 (Φ Ι AVo AKc AVa (AbD A1G))
 self:BHo
abbrev TI:=AY4 ADH
def PIE(BJm):Prop:=
 ∃(it:Addr) (fp:AR) (tn:AMr) (J:It) (H' :Hp),itv= .ref it/\AVT/\Turn X.prog X.w X.K tg J fp it tn/\A0i/\ (P8 fp AX3)/\AZg
def PI(BEd):Prop:=
 AKu R ADH (wi σ H R) AME (A8s Axl)
theorem Uk{M:Model}{A:Around}{E:dh}{s:Shared}{tg:Expr}{it:Addr}{u:Value}{o:Obj}{n:String}{vs:EL}{Q:Dx Unit}(ho:AIL it)(hc:ARW n)(hd:AOF)
  (hn: BJW n=false) (hQ:Q () s):YY AqM:=by
 cases tg<;>first
  | exact z7 hQ
  | (
    cases u<;>first
    | exact z7 hQ
    | (
      show IJ wpAny_load ho;rw[hc,hd];show YY (zh (Op (BJW n) (vs[0]?==some (rawInt _))));rw[F9 (by intro h;rw[hn,Bool.false_and] at h;cases h)]
      exact z7 hQ))
def Q5(K:W.Frag)(a:Addr):It:=
 A6j (H' =H/\∀xs,mE ->TM)
def Nu(K:W.Frag)(a:Addr):It:=
 ⟨kz (∃xs x,x0/\TM),fun i H x H' =>H' =H/\∀xs,x0 ->TM,kz (∃xs,x0/\ASE)⟩
def Jz(lo:Int)(n:Nat):It:=⟨OO _ (i<n),fun i H x H' =>H' =H/\x= AgU,OO _ (n<=i)⟩
theorem zur(A_N):AOV Ai5 (h.IsListIter it a i) where
 mem:=A1
 obj:=AHD (by
  show AYh
  subst e;show Abe;exact AM3)
 keep:=Aoi
 item:=by
  intro X hP hw hK hc i pins s σ H E I hf st hg;show NA;show AsO;show AM4;show ArJ;show i6
  refine wpAny_pyNext_list_item st p.isList (x:=u) AT1 (SK st' sb)
  have I1:AKI:=AZ8;show MH o e c d st';exact BFj I.list_inj
 done:=by
  intro X hP hw hK hc i pins s σ H E I hf st hg;show NA;show Aqi;show AM4;show i6
  show Ps;exact wpAny_pyNext_list_end SY st p.isList ve AO5
 self:=AYj wpAny_pyIter_listiter
theorem zqk(A_N):AOV AWI (h.IsTupleIter it a i) where
 mem:=A1
 obj:=AHD (by
  show AYh
  subst e;show Abe;exact AM3)
 keep:=Aoi
 item:=by
  intro X hP hw hK hc i pins s σ H E I hf st hg;show NA;show AsO;show At8;show ArJ;show i6
  refine wpAny_pyNext_tuple_item st AwT (x:=u) AT1 (SK st' sb)
  have I1:AKI:=AZ8;show MH o e c d st';exact BFj I.tuple_inj
 done:=by
  intro X hP hw hK hc i pins s σ H E I hf st hg;show NA;show Aqi;show At8;show i6
  show Ps;exact wpAny_pyNext_tuple_end SY st AwT ve AO5
 self:=AYj wpAny_pyIter_tupleiter
theorem z1f(AEd){tg:Expr}(it:Addr)(lo:Int)(n:Nat):AOV (Jz lo n) (IsRangeIter h it (lo+ E3 i*1) (D6 - E3 i) 1) where
 mem:=A1
 obj:=AHD (by
  show AYh
  subst e;exact B5 st (fun v z=>by
   have z' :Data.fields _=Data.cell v:=z;cases z'))
 keep:=ARi (xx it st)
 item:=by
  intro X hP hw hK hc i pins s σ H E I hf st hg;show NA;show i6
  have W:=Walks.range (prog:=X.prog) (w:=X.w) SY it lo 1 n;refine A9o hg st fun v h' tk hv st' kk=> ?_;show L_ hv;have I1:i7 Ty:=I.turned (sf (kk b o (Bz hb) e)) f0 f1 f3 f4 f5
  show oC _ (Uk (s:=Ty) (n:= "range_iterator") st' rfl rfl Δ ⟨AgU,H,I1,Ev t,PV,st',ASg⟩)
  rw[Int.mul_one]
 done:=by
  intro X hP hw hK hc i pins s σ H E I hf st hg;show NA;show i6
  exact wpAny_pyNext_range_end SY st (by have:n<=i:=hg;omega) AO5
 self:=AYj wpAny_pyIter_rangeiter
section
variable{X:Cx}{tg:Expr}
theorem zzp{pins:dD}{σ:St}{H:Hp}{s:Shared}{R:ADH}{E:dh}{lo hi:Int}{t u v:Tok}{tk:Nat}(I:Ι)(h1: -(2^62)<=lo)(h2:lo<2^62)(h3: -(2^62)<=hi)(h4:hi<2^62)
  (q:R (Jz lo AoQ) H):ABu (pyIter (AG s.heap.objs.size)) Axl E A2Y:=by
 refine wpAny_pyIter_range (IsRange.new ..) (small_one h1 h2 h3 h4) ?_;have I1:i7 A2Y:=I.kept di;refine⟨AjZ,[AjZ],_,_,H,rfl,
  I1.kept (t' :=tk) di,z1f _ lo AoQ,?_,HG,q⟩
 ·have e1:lo+ AFT*1=lo:=A1
  have e2:Cl AoQ - AFT=Builtin.Range.rangeSize lo hi 1:=by rw[rangeSize_one];split<;>omega
  rw[e1,e2];exact OS
 ·have e:b=AjZ:=AII
  subst e;exact AHj
def Ul(ta:TA):TI:=ASy (SE j (vs= [Ć]/\ -(2^62)<=j/\j<2^62/\R (Jz 0 j.toNat) H1))
def Um(ta:TA):TI:=ASy (∃i j:Int,vs= ADa/\ (BGT)/\R (Jz i A1q) H1)
theorem z4q{a:Expr}(AsI)(hg:AUz)(hm:AUs)(ha:AXL)(hs:starEach [a] X.env= AOn a:=by rfl):nX (AKa "range") (Ul ta):=by
 show oy;show AmW boot_range;show ANd;obtain⟨j,e,q1,q2,q⟩:=q1;subst e;cases r1 with
 | cons r rr=>
  cases rr;show L_ r;exact call_range_1 (zzp I1 ψ ψ q1 q2 (Bz q))
theorem z28(BBH){p pos:Pos}(hg:AUz)(hm:AUs)(ha:Aj2)(hs:starEach cq X.env= Ar4 a b:=by rfl)(hs2:starEach [b] X.env= AOn b:=by rfl):
  nX (â "range" cq) (Um ta):=by
 show oy;show Ad7 boot_range (NJ AJ5 us ⟨vs,H1,I1,r1,q1⟩) (md hs hs2) (Gc hs2)
 obtain⟨i,j,e,⟨q1,q2,q3,q4⟩,q⟩:=q1;subst e;cases r1 with
 | cons r rr=>
  cases rr with
  | cons r' rr=>
   cases rr;show L_ r;show WC t' r';exact call_range_2 (zzp I1 q1 q2 q3 q4 q)
def aaz(wi:TI)(g:TG)(tb:TS):TS:=ADf wi J (AG2 LM (W 0 m σ H1) (∀i m σ H,ANk ->
 APY AVa AVZ J.yld Aaj))
def uc(fp:AR)(h:Heap):dD:=fp.filterMap fun b=>AO h.get? b fun o=>(b,o)
theorem Zm{fp:AR}{h:Heap}{b:Addr}{o:Obj}(hb:b∈fp)(e:XX):(b,o)∈uc fp h:=AtY b hb Aga
theorem z27{fp:AR}{h:Heap}{p:Addr×Obj}(hp:p∈uc fp h):A2∈fp/\ACs h.get?:=by
 show BD b hb e List.mem_filterMap.mp hp;cases q:h.get? b with
 | none=>show ia
 | some o=>
  show QU;have e' :(b,o)=p:=zH e;subst e';exact Ĭ hb
theorem Inv.pinned(BIm){fp:AR}(I:Ι)(hf:AMb)(ho:Tb (AfC Tm)):Inv X (pins++uc fp s.heap) σ H s:=
 A4j (A1P (Hb (I.pin p (zR _ z))) (Ξ (by
  show PF hb (z27 z);obtain⟨f0,f1,f2,_⟩:=hf A2 hb;show A4 o e' d ho A2 hb;rw[e] at e';cases e';exact⟨e,f0,f1,f2,d⟩)))
theorem Inv.unpinned{pins pl:dD}{σ:St}{H:Hp}{s:Shared}(I:Inv X (pins++pl) σ H s):Ι:=A4j (I.pin p (zR _ (zQ _ hp)))
theorem Zn{iter:Expr}{body:Mc}{wi:TI}{g:TG}{tb:TS}{pos:Pos}(hp:Arz)(hc:C3)(hi:A0w)(hg:PG X tg g)(hb:A1l)
  (hs:ax iter:=by show Mo):PS X (.For tg iter body [] pos) (aaz wi g tb):=by
 show Po;refine wpAny_For BEY hs;obtain⟨it,fp,tn,J,H2,e,I2,T,st2,f2,W,⟨m0,w0⟩,turn⟩:=h2;subst e
 
 have stat:HL H' Hp AKj (Tb AX3):=fun hn b hb=>⟨AUY,We f2⟩;refine codeAny_forLoop_any (YU n (∃i σ' H',Acm /\BLH/\ AKj/\W i n σ' H')) ?_ m0 ⟨0,σ,H2,I2,st2,FM (K_ f2),w0⟩;rintro n s3 ⟨i,σ3,H3,I3,st3,fr3,w3⟩;rcases turn i n σ3 H3 w3 with ⟨stop,qn⟩ | ⟨go,N,hN,step⟩
 ·show ABN (T.done X rfl rfl rfl hc i pins s3 σ3 H3 X.xe I3 (stat fr3) st3 stop) (AEs r s4);obtain⟨hr,I4⟩:=hz1;subst hr;exact Aid σ3 H3 I4 qn
 ·show ABN (T.item X rfl rfl rfl hc i pins s3 σ3 H3 X.xe I3 (stat fr3) st3 go) (AEs r s4);show MI hr h4 hz1;subst hr;show ABN h4 (Κ _ s5 aaA);obtain⟨x,H5,I5,r5,y5,Q6,Zo⟩:=aaA;have I5' :=I5.pinned (stat Zo) (T.obj _ _ Q6);show ABN (hg _ s5 σ3 H5 x u _ I5' r5 (step x H5 y5)) (AEs _ s6);obtain⟨σ6,H6,I6,q6⟩:=hz1;show ABN (hb _ s6 σ6 H6 _ I6 q6) (Κ f s7 q7);have again:Tk σ7 St H7 Hp (Inv X (pins++uc fp s5.heap) σ7 H7 s7) (N σ7 H7) (∃m,m<n/\∃i σ' H',ABa σ' H' s7/\tn i s7.heap/\ AKj/\W i m σ' H') :=fun{σ7 H7} I7 n7=>by
   obtain⟨m',hm,w7⟩:=hN σ7 H7 n7;refine⟨m',hm,BQ,σ7,H7,I7.unpinned,A'r Q6 I7.pin,HG,w7⟩;show Ts e d (Aa5 Q6);exact BCH I7.pin
  cases f with
  | next=>show T' σ7 H7 I7 n7 q7 (again I7 n7)
  | cont=>show T' σ7 H7 I7 n7 q7 (again I7 n7)
  | brk=>show T' σ7 H7 I7 q7 q7 ⟨σ7,H7,I7.unpinned,q7⟩
  | ret v=>obtain⟨x7,σ7,H7,I7,r7,q7⟩:=q7;exact⟨x7,σ7,H7,I7.unpinned,r7,q7⟩
#where
theorem ybn{K:W.Frag}{a:Addr}{xs:Ζ}{g:TG}{tb:TS}{D:Ends}{σ:St}{H:Hp}(Pv:AT_)(h0:Pv 0 σ H)(hl:∀i σ H,AMT ->yn ->mE)
  (hs:∀i x σ H,TM ->yn ->Ap_ x) (hd:Arj xs.length):
  AG2 LM (W 0 m σ H) (∀i m σ H,ANk ->
   APY ((Q5 K a).stop i H) ((Q5 K a).go i H) (Q5 K a).yld Aaj):=by
 show BA (fun i m σ H=>m=xs.length - i/\AMT/\yn) ⟨xs.length,A1,FC,h0⟩
 show As5;have q:=hl i σ H hi p;by_cases hlt:i<xs.length
 ·show MY ⟨⟨xs,xs[i],q,BH hlt⟩,AJB,fun σ' H' p' =>(IB (xs.length - BS) Α hlt p'),AZ0⟩
  show AEi y y;subst e;exact BHi
 ·have e:i=xs.length:=Α
  subst e;exact Ĝ ⟨xs,q,HC⟩ (hd σ H p)
theorem yg7{K:W.Frag}{a:Addr}{xs:Ζ}{g:TG}{tb:TS}{D:Ends}{σ:St}{H:Hp}(Pv:AT_)(h0:Pv 0 σ H)(hl:∀i σ H,AMT ->yn ->x0)
  (hs:∀i x σ H,TM ->yn ->Ap_ x) (hd:Arj xs.length):
  AG2 LM (W 0 m σ H) (∀i m σ H,ANk ->
   APY ((Nu K a).stop i H) ((Nu K a).go i H) (Nu K a).yld Aaj):=by
 show BA (fun i m σ H=>m=xs.length - i/\AMT/\yn) ⟨xs.length,A1,FC,h0⟩
 show As5;have q:=hl i σ H hi p;by_cases hlt:i<xs.length
 ·show MY ⟨⟨xs,xs[i],q,BH hlt⟩,AJB,fun σ' H' p' =>(IB (xs.length - BS) Α hlt p'),AZ0⟩
  show AEi y y;subst e;exact BHi
 ·have e:i=xs.length:=Α
  subst e;exact Ĝ ⟨xs,q,HC⟩ (hd σ H p)
theorem z4p{lo:Int}{n:Nat}{g:TG}{tb:TS}{D:Ends}{σ:St}{H:Hp}(Pv:AT_)(h0:Pv 0 σ H)
  (hs:∀i σ H,i<n ->yn ->Ap_ BMe) (hd:Arj n):
  AG2 LM (W 0 m σ H) (∀i m σ H,ANk ->
   APY (AbI stop) (AbI go) (Jz lo n).yld Aaj):=by
 show BA (fun i m σ H=>m=n - i/\i<=n/\yn) ⟨n,A1,FC,h0⟩
 show As5;by_cases hlt:i<n
 ·show MY ⟨hlt,AJB,fun σ' H' p' =>(IB (n - BS) Α hlt p'),AZ0⟩
  show AEi y y;subst e y;exact hs i σ _ hlt p
 ·have e:i=n:=Α
  subst e;exact Ĝ HC (hd σ H p)
abbrev R2:=V ->V ->AcP
def jR(X:Cx)(f:ABS)(r:R2):Prop:=
 ∀(pins:dD) (s:Shared) (σ:St) (H:Hp) (x y:V) (v u:Value) (Q:VK),Φ Ι VI KL (r x y H Q) (ģ (f v u))
def UnR(X:Cx)(f:í AIq)(r:AVi):Prop:=
 ∀(pins:dD) (s:Shared) (σ:St) (H:Hp) (x:V) (v:Value) (Q:VK),Ι ->VI ->r x H Q ->
  ģ (f v)
def dF(X:Cx)(f:Value)(r:ie):Prop:=
 ∀(pins:dD) (s:Shared) (σ:St) (H:Hp) (xs:Ζ) (us:Τ) (Q:VK),Ι ->Rc ->r xs H Q ->
  ģ (call f us)
def Uo(r:R2)(ta tb:TE):TE:=A1J Q
def tUn(r:AVi)(ta:TE):TE:=vx (r x H1 Q)
def rI(C:AZH)(g:AWD):R2:=Ń (ArR (Q ac H))
def Lg(g:AWD):R2:=Ń (Asc (Q ac H))
def rU(g:Int ->V):AVi:=fun x H Q=>∃i,x= Co/\Q (g i) H
section
variable{X:Cx}{a b c:Expr}{ta tb tc:TE}{pos:Pos}
theorem Nv(ha:nN)(hb:AEQ){pins:dD}{s:Shared}{σ:St}{H:Hp}{R:V ->AFb}(I:Ι)
  (h:ta σ H (bq x (eA tb y (R x y H2)))) {Q:dh} {f:ABS}
  (hf:∀v u s2 x y H2,Φ (OL H2 s2) VI KL (R x y H2) (AJu (f v u) Q s2)):
  Ô (WG a) (A'U (AJu (f v u) Q s₂)):=by
 show Ű pE v aaB;show OA aaB;show iX Ai_ u aaC;obtain⟨y,H2,I2,r2,q2⟩:=aaC;exact hf v u s2 x y H2 I2 r1 r2 q2
theorem yjk{op:Operator}{r:R2}(ho:jR X (binaryOp op) r)(ha:nN)(hb:AEQ):PE X Axg AaV:=by
 show EQ;exact wpAny_BinOp (Arp BJh)
theorem yl4{op:UnaryOp}{r:AVi}(ho:UnR X (unaryOp op) r)(ha:nN):d6 UnaryOp op a (tUn r ta):=by
 show EQ;exact UnaryOp_ (bW pE (Ģ aaD (by show OA aaD;exact cz ho x v Q I1 r1 q1)))
theorem Zq{f:ABS}{C:AZH}{g:AIt Int}
  (rule:AtE (C i j ->AlX ac ->AHZ Asb)):
  jR X f (rI C (lf ac)):=by
 show Ë;show js i j rfl hc q h;show PQ;show AAt;exact rule i j t t' s _ _ hc (AN0 ac)
theorem Ur{f:ABS}{g:AIt Int}
  (rule:AtE (AlX ac ->AHZ Asb)):
  jR X f (Lg (lf ac)):=by
 show Ë;show Cb i j rfl q h;show PQ;show AAt;exact rule i j t t' s _ _ (AN0 ac)
theorem Nx{f:ABS}{g:AIt Bool}
  (rule:AtE (Q (dS ac) s ->AHZ Asb)):
  jR X f (Lg (OO j (.bl ac))):=by
 show Ë;show Cb i j rfl q h;show PQ;show AAt;exact rule i j t t' s _ _ (ACO (.bl ac) q)
def Gw(AHB):Prop:=0<=j/\j<=1000000/\i.natAbs<2^64
theorem yi1:ACY Add (Lg (lf (i+j))):=APF Ur add_int
theorem ykv:ACY Sub (Lg (lf (i - j))):=APF Ur sub_int
theorem yec:ACY Mod (rI (Ff j ś) Av6):=Ax1 (mod_int' hc q)
theorem yi4:ACY Pow (rI Gw A9Z):=Ax1 (pow_int_small hc.1 hc.2.1 hc.2.2 q)
theorem unI{f:í AIq}{g:Int ->Int}
  (rule:∀(i:Int) (t:Tok) (s:Shared) (Q:dh) (E:dh),AlX (g i) ->AHZ (f ARj)):
  A4f f (g i):=by
 intro pins s σ H x v Q I rx h;show FV i rfl q;show PQ;exact rule i t s _ _ (AN0 (g i))
theorem yku:A4f (unaryOp .USub) (-i):=unI (AlP q (neg_int q))
#where
section
variable{X:Cx}{a b c:Expr}{ta tb tc:TE}{pos:Pos}
theorem yda{pins:dD}{σ:St}{H:Hp}{s:Shared}{Q:VK}{k k' :Bool}(I:Ι)(q:Q (.bl k) H)(e:k=k'):nk (dS k') s:=by
 subst e;exact ACO (.bl k) q
theorem yma:Anj Lt (i<j):=APF Nx lt_int
theorem ymh:Anj LtE (i<=j):=APF Nx le_int
theorem yl1:Anj Gt (j<i):=APF Nx gt_int
theorem yi3:A9L Is (decide (x= AF)):=by
 show Ë;show To q h;cases ry;refine is_none_gen (yda I q ?_);cases x<;>first
  | (cases rx;rfl)
  | (show PQ;rfl)
theorem yee:A9L IsNot (!(Μ (x= AF))):=by
 show Ë;show To q h;cases ry;refine isnot_none_gen (yda I q ?_);cases x<;>first
  | (cases rx;rfl)
  | (show PQ;rfl)
theorem bH(b:Expr){op:CmpOp}(h:op≠ .In:=by decide)(h2:op≠ Ō:=by decide):ARg:=by
 have e1:(op==CmpOp.In)=false:=by cases op<;>first | rfl | show ŭ h
 have e2:(op==CmpOp.NotIn)=false:=by cases op<;>first | rfl | show ŭ h2
 cases b<;>simp [behindInMarks,e1,e2]
theorem ygy(BEs):PE X AN6 AaV:=by
 show EQ;exact wpAny_Compare1 (Arp BJh) hm
def Us(t:TE):TT:=fun σ H Q=>t σ H fun x H' =>∃k,x= .bl k/\Q k H'
theorem yeo(BEs):PT X AN6 (Us AaV):=by
 show EQ;show Awo pE BDp (bW Ai_ fun u s2 (ApO r2)=>
  bW (ho pins s2 σ H2 x y v u _ I2 r1 r2 q2) (BFb c)) hm
 subst e;cases r3;exact BLG H3 I3 q3
def Gx(r r' :R2)(ta tb tc:TE):TE:=A1J (fun z H3=>∃k,z= .bl k/\
 (AY (k=true) (tc σ H3 fun w' H4=>r' y w' H4 Q) (Q ū H3)))
theorem ybg{op op' :CmpOp}{r r' :R2}(ho:BLS)(ho' :jR X (compareOp op') r')(ha:nN)(hb:AEQ)(hc:PE X c tc)
  (hm:lastMarks [op,op'] [b,c]=false:=by show AQM):PE X BCw (Gx r r' ta tb tc):=by
 show EQ;refine Compare_chain (bW pE (Ģ BDp (chain_link (bW Ai_ fun u s2 (ApO r2)=>
  bW (ho pins s2 σ H2 x y v u _ I2 r1 r2 q2) (BFb d))))) hm
 subst e;cases r3;show BM2;cases k with
 | false=>exact ite_ff (IL ALu H3 I3 q3)
 | true=>exact ite_tt (chain_last (bW (hc pins s3 σ H3 _ I3 q3) fun w' s4 aaE=>by obtain⟨z',H4,I4,r4,q4⟩:=aaE;exact ho' pins s4 σ H4 y z' u w' Q I4 r2 r4 q4))
theorem pB:E3 sizeLine<2^63:=AFm sizeLine_eq
theorem z1m:ACY Add (fun x y H Q=>∃i j,x= .str i/\y= .str j/\BM Ax'/\Q (.str (i++j)) H):=by
 show Ë;show js i j rfl hz q h;show PQ;show AAt;exact add_str (fun t' tk=>(A1K (i++j))) hz
theorem vals1{x:V}{us:Τ}(r:Ċ [x]):BAk:=by
 cases r with
 | cons r1 r2=>cases r2;exact Of r1
theorem vals2{x y:V}{us:Τ}(r:Ċ AAy):∃u w',us= [u,w']/\uj/\RelV y w' :=by
 cases r with
 | cons r1 r2=>
  cases r2 with
  | cons r3 r4=>cases r4;exact aE _ r1 r3
theorem z9y:kl "abs" (APG (∃i,xs= [Co]/\Q (DE APO) H)):=by
 show AN1;show FV i rfl q;obtain⟨u,rfl,t,rfl⟩:=vals1 r;exact call_abs_int fun u tk=>(AN0 APO)
#where
structure Bs (h:Heap) (x dx C:Addr) (mA:B7):Prop where
 obj:C9 h.get? Aj3
 ns:Aaa
 ne:dx≠x
theorem zv3{h:Heap}{dx:Addr}{mA:B7}(n:Aaa):BHy (ko dx od):=by
 obtain⟨o,es,ep,ho,hd,hk,_,hm⟩:=n;show CF o ho (EM name);have e:=hm name;unfold nsFind findBy at e;rw[<- Array.find?_toList] at e;unfold W.lookIn;rw[hd];dsimp only;split
 ·rename_i y q;show QU;exact xc some
 ·show HQ;show QU;have a:es.toList.any (·.refKey)=false:=by
   rw[List.any_eq_false];intro y hy;obtain⟨z,t,hkey⟩:=hk y (Array.mem_toList_iff.mp hy);simp [DictEntry.refKey,hkey]
  have a' :¬es.toList.any (·.refKey)=true:=Ο a zK
  show BF a';exact xc some
theorem Bs.look{h:Heap}{x dx C:Addr}{mA:B7}(I:Bs h x dx C mA):BHy (W.InstAt h x Aj3 C (A9 od)):=
 let ⟨od,ho,hl⟩:=zv3 I.ns
 ⟨od,MQ I.obj rfl ho,hl⟩
section
variable{prog:Program}{w:World}{A:Around}{E:dh}{s:Shared}{K:W.Frag}{x dx C f:Addr}{mA:B7}{name:Str}{v:Value}
theorem yfb{expr:Bool}{Q:dh}(X:ADv)(I:AmM)(hg:AKS C name)(hh:AVQ)
  (ha:AVU name) (hv:A3H) (hv' :Agx v) (h:Q v AJ8):
  Fu (getAttr RI name expr):=by
 show Aqp;exact W.get_value X J Ay0 (W.findObj_own hh ha rfl (md hl hv)) hv' h
theorem yce{pl:AMY}{Q:Dx (Value×Τ)}(X:ADv)(I:AmM)(hg:AKS C name)
  (hf:AcR name) (ht:AJx) (hv:mA name=none) (h:Q (.ref f,[.ref x]) s):
  Fu (getMethod RI name pl):=by
 show Aqp;exact W.method_fn X J Ay0 (W.plainGet_of hg).2 hf (beq_iff_eq.mp ht) (by show(W.lookIn name od).map (·.isSome)=some false;rw[hl,hv];rfl) h
theorem yhv{ns:Β}{Q:Dx Unit}(X:ADv)(I:AmM)
  (hs:Aoq) (hp:AtQ) (ht:A3X name) (hh:AVQ)
  (hw:PySem.Within mA ns) (hsz:BMm)
  (h:tz (Bs h' x dx C (AqL (mA y))) (Heap.SameBut dx s.heap h') (Q () (WF h' (s.toks+2)))):
  Fu Aov:=by
 show Aqp;refine W.set_plain X J hs (W.osa_open (s:=AJ8) (r:=none) X J hp ht fun b=> ?_);show BD cd hc hd' W.any_some hh;have hx:C9 s.heap.get? (î (some dx) .plain #[]):=I.obj;show D3 z7 (z6 (z6 (wpAny_loadPart hx (z6 (BJt AJ8 (AjV hc) ?_)))));rw[hd'];refine z7 (a:=some dx) (z6 (z7 (z6 ?_)));refine wpAny_nsSet1 (s:=AJ8) I.ns (SK hn2 hs2);obtain⟨oD,esD,epD,hoD,hdD,hcD⟩:=hn2.count (PySem.Within.cons name v hw);show AqE (ACV List.length_cons)
 exact z7 (h _ ⟨FL hs2.2 _ (sB I.ne) I.obj,hn2,I.ne⟩ hs2)
theorem z03{R:AhU}{vs:Τ}{kw:ADp}(X:ADv)(hm:AtR)
  (hi:Ł) (hf:APP)
  (h:ĸ DV (AN_ (AJl (ET::vs))) Fk (AJl (.ref Uf::vs)) (W.InitBack Uf R) A8S):
  ĸ DV A EU (AJl vs) R s:=by
 obtain⟨hh,g,d,t,os⟩:=s;exact W.make_core (W.makes_of X hm) (AjW hi) (Υ self (W.bind_fn X self hf)) NR h
#where
def nG(ApQ):aI ->aI
 | []=> AWi
 | (g,x)::r=>AOj ((g,v)::r) ((g,x)::nG f v r)
theorem zoe(f g:Str)(v:V):∀fs:aI,(nG f v fs).lookup g=AOj Ğ (fs.lookup g)
 | []=>by
  show List.lookup g AWi=_;by_cases h:g=f
  ·show AMx f AgN;show AA' Œ
  ·show AAi f AgL;show AA' wt
 | AkL=>by
  have ih:=zoe f g v r;show KM (Aj' (k,x)=ArH) rfl;by_cases hk:k=f
  ·show AFZ;by_cases h:g=k
   ·show AMx k AgN;show AA' (kq h.trans hk)
   ·show AAi k AgL;show AA' (F9 (fun e:g=f=>h (e.trans hk.symm)))
  ·show AFQ;by_cases h:g=k
   ·show AMx k AgN;show AA' (F9 (fun e:g=f=>hk (h.symm.trans e)))
   ·show AAi k AgL;simp only [List.lookup,hb];exact ih
theorem zoi(ApQ):∀fs:aI,f∈ BEg/\∀g,g∈fs.map (·.1) ->g∈ BEg
 | []=>⟨BH nG,fun g h=>AGD⟩
 | AkL=>by
  obtain⟨i1,i2⟩:=zoi f v r;show KM (Aj' (k,x)=ArH) rfl;by_cases hk:k=f
  ·show AFZ;subst hk;exact⟨A1,fun g h=>(A0 h)⟩
  ·show AFQ;show U1 ?_ g h
   ·rw[List.map_cons];exact zX _ i1
   ·rw[List.map_cons] at h⊢;rcases zV.mp h with e | e
    ·exact zV.mpr (D1 e)
    ·exact zX _ (i2 g e)
theorem zno(ApQ):∀fs:aI,(nG f v fs).length<=fs.length+1
 | []=>BH nG
 | AkL=>by
  have ih:=zno f v r;show KM (Aj' (k,x)=ArH) rfl;by_cases hk:k=f
  ·show Awv (A_ hk)
  ·show Awv (AK hk)
theorem lX.some_of{v:V}{o:L5}(r:lX (some v) o):∃u,o=some u/\LW:=by
 cases o with
 | none=>exact AGu
 | some u=>exact NL u r
theorem lX.none_of{o:L5}(r:lX none o):o=none:=by
 cases o with
 | none=>rfl
 | some u=>exact AGu
theorem zn5{v:V}{u:Value}(r:LW):Agx u:=by
 cases v with
 | non=>show AUK Awb
 | bl b=>show AUK Auh
 | int i=>show AZm AYA
 | str x=>show AZm AYD
 | Ze b=>show AZm (Value.bytes b t)
 | flt b=>show AZm (Value.float b t)
 | ref a=>show AUK (Ab9 u)
 | ty n=>show AUK A4X
section
variable{P:Program}{w:World}{H H' :Hp}{h h' :Heap}{a C dx:Addr}{fs fs' :aI}
theorem zwd(hok:P3)(e:AUW):∃mA,Bs h a dx C mA/\ (∀f,AsA)/\AxH/\AtZ/\Al6:=by
 obtain⟨d,z,ne,ob,mA,n,r,q⟩:=(Ch (qE AQ5) (hok a _ e));exact⟨mA,⟨ob,n,ne⟩,r,q,z,d⟩
#where
structure Cls (y9):Prop where
 pg:AKS C Str.empty
 hd:AVQ
 po:AtQ
 sa:Aoq
theorem Cls.get{K:W.Frag}{C:Addr}(c:Cls K C)(f:Str):AKS C f:=c.pg
def aF(K:W.Frag)(C:Addr)(f:Str):Prop:=AVU f
theorem aF.taker{K:W.Frag}{C:Addr}{f:Str}(n:ue f):A3X f:=by
 unfold W.takerIn;show KM (AVU f) n
 rfl
structure Meth (K:W.Frag) (C:Addr) (m:Str) (f:Addr):Prop where
 at_:AcR m
 fn:AJx
 kp:AKh
section
variable{X:Cx}{pins:dD}{σ:St}{H:Hp}{s:Shared}{a C dx:Addr}{fs:aI}{f:Str}{v:V}{A:Around}{E:dh}
theorem z09{b:Bool}{Q:dh}(I:Ι)(e:AUW)(c:Ahm)(n:RR)(l:AGz)
  (h:Aq'):Aq7:=by
 obtain⟨mA,O,r,_,_,_⟩:=Ah0;show Aqm
 exact yfb I.kIn O (c.get f) c.hd n hu (zn5 ru) ApT
theorem zlj{m:Str}{g:Addr}{pl:AMY}{Q:Dx (Value×Τ)}(I:Ι)(e:AUW)(c:Ahm)(k:Meth X.K C m g)(l:fs.lookup m=none)
  (h:Q (.ref g,LP) s):tF (getMethod B9 m pl):=by
 obtain⟨mA,O,r,_,_,_⟩:=Ah0;have hn:mA m=none:=lX.none_of (BE l (r m))
 exact yce I.kIn O (c.get m) k.at_ k.fn hn h
theorem z2l{y:V}{u:Value}{Q:Dx Unit}(I:Ι)(e:AUW)(c:Ahm)(n:RR)(hl:Aen)(ry:KL)
  (h:ANq (OY a Azv s')):AqT:=by
 obtain⟨mA,O,r,wi,_,ho⟩:=Ah0;have hz:BM (ME (fs.map (·.1))):=AC' sizeLine_eq
 refine yhv I.kIn O c.sa c.po n.taker c.hd wi hz fun h' O' sb=>h _ ?_;have hd:∃o,tj dx:=let ⟨o,_,_,e',_⟩:=O'.ns;N3 e';refine AOJ a dx AXf (CY ho) (cK q z Ayq) hd ?_
 refine⟨ŵ O.ne ho,?_,O.ne,O'.obj,_,O'.ns,EM g,AD g hg⟩
 ·have:=zno f y fs;omega
 ·rw[zoe];show Hc g f
  ·rw[D',D'];exact ry
  ·rw[D_,D_];exact r g
 ·show Hc g f
  ·rw[q];exact(zoi f y fs).1
  ·refine(zoi f y fs).2 g (wi g (Ξ (hg ?_)));show(AY (g=f) ALZ (mA g))=none;show BF q;exact z
theorem Inv.made(OF):OL (upd (GV s.heap.objs.size (.own Uf)) Uf (.ins C s.heap.objs.size [])) A8S:=by
 show PZ e1 s.heap.push W.emptyDict s.heap.objs.size W.emptyDict (z9 s.heap rfl);show PZ e2 BLM Aul Uf Aul (è (z9 (s.heap.push W.emptyDict) (o:=W.instObj C s.heap.objs.size) rfl) Heap.size_push)
 have e3:Acy W.emptyDict Ns s.heap.objs.size AgR:=⟨W.emptyDict,#[],_,e1,rfl,(fun e he=>(ACG he)),AEx⟩
 have I1:=P9 I.laid a s.heap.objs.size o (.own Uf) h' (AIU W.emptyDict) t' s.toks AHE D4 (CI e1);refine DZ I1.laid a mh o (.ins C s.heap.objs.size []) t' s.toks AHE ApV ?_;have ne:s.heap.objs.size≠mh:=AZj;refine⟨Ajr,FC,ne,e2,AeC,(Heap.Ns1.of_empty e3).at fun o q=>ACJ,C8 True.intro,AW4 (NH rfl hy)⟩
theorem zwp{prog:Program}{w:World}{env:Env}{e:Expr}{f:Str}{pos:Pos}{s:Shared}{Q:dh}(hb:attributeBase e f env (tw e)=eval e env)
  (h:AaD e o (þ (getAttr o f true) s₁)):Fu (tw (.Attribute e f pos)):=
 Attribute_any_ h (md arm_eval_Attribute hb)
#where
def aaF(K:W.Frag)(ta:TE)(f:Str):TE:=vx (∃a C dx fs v,x= AI/\ADm AQ5/\Cls K C/\ue f/\AGz/\Q v H1)
def aaG(YN)(ta tv:TE)(f:Str):TS:=ApY (∃a C dx fs,x= AI/\EE H2 AQ5/\Cls K C/\ue f/\Aen/\
 AGx (upd H2 a Azv))
section
variable{X:Cx}{o e value:Expr}{f:Str}{pos pos' tpos:Pos}{ta tv:TE}
theorem yd5(he:PE X e ta)(hb:YO f):ApF (aaF X.K ta f):=by
 show EQ;refine zwp hb (bW iN (bX u aaH));obtain⟨x,H1,I1,rx,a,C,dx,fs,v,ex,ea,c,n,l,q⟩:=aaH;subst ex;show af;exact z09 I1 ea c n l AsP
theorem z6r(ha:PE X o ta)(hv:Ae6)(hs:ASx o):ADy (ART o f) value (aaG X.K ta tv f):=by
 show Po;show AxM u;obtain⟨y,H1,I1,ry,q⟩:=hz1;show iX Anv ov hz2;obtain⟨x,H2,I2,rx,a,C,dx,fs,ex,ea,c,n,l,q2⟩:=hz2;subst ex;show kD ov rx;exact z2l I2 ea c n l ry A1b
#where
structure cW (k:Nat) (A:Around):Prop where
 hd:JI
 dp:A.depth+3*k+5<recursionLimit
 un:A.units+16*k+200<cLine
theorem cW.mono{j k:Nat}{A:Around}(r:ASM)(h:j<=k):cW j A:=⟨r.hd,HR r.dp,HR r.un⟩
theorem cW.deeper(AoF)(r:cW FR A)(env:Env):AcI k env:=
 ⟨r.hd,by have:=r.dp;show A.depth+1+3*k+5<_;omega,by have:=r.un;show A.units+3+16*k+200<_;omega⟩
theorem z1b{A:Around}{C:Addr}{us:Τ}{kw:ADp}:(A.under AjQ).depth=A.depth+1:=by
 first | rfl | simp [Around.under,Code.weight,Code.isCreation,Code.isGuard,Code.isCaller,Code.frames,Code.isFrame,guardIds]
theorem z2c{A:Around}{C:Addr}{us:Τ}{kw:ADp}:(A.under AjQ).units=A.units+1:=by
 first | rfl | simp [Around.under,Code.cUnits,Code.frames,Code.isFrame]
theorem cW.make(AoF)(r:cW FR A)(C:Addr)(us:Τ)(kw:ADp):cW k (A.under AjQ):=
 ⟨r.hd,by have:=r.dp;rw[z1b];omega,by have:=r.un;rw[z2c];omega⟩
theorem cW.depth(BGu):A.depth<recursionLimit:=HR r.dp
theorem cW.units(BGu):A.units+64<cLine:=HR r.un
def aaI:TA:=AZP (Q [] H)
def Ut(ta:TE)(tr:TA):TA:=vx (eA tr xs (Q ANo H2))
section
variable{X:Cx}{e:Expr}{es:A5}{te:TE}{t:TA}{pos:Pos}
theorem Zr:PA X [] aaI:=fun _ _ _ _ H Q I h=>Calls.spliced_nil (AXu [] B_)
theorem Uu(ha:VO)(hr:AWT)(hs:starEach Da X.env=EW (CH e) (EV es):=by rfl):PA X Da (Ut te t):=by
 intro pos pins s σ H Q I h;rw[hs];show Sb Calls.spliced_cons pE u aaJ;show OA aaJ;exact bW (hr pos pins s1 σ H1 _ I1 q1) (AWN aaK (by obtain⟨xs,H2,I2,r2,q2⟩:=aaK;exact⟨Lu,H2,I2,.cons r1 r2,q2⟩))
def aaL(t:TA):TE:=BIJ RF
def aaM(t:TA):TE:=BIJ ć
theorem yj0{x1}(h:AWT):d6 Tuple es x1 (aaL t):=by
 intro pins s σ H Q I hq;refine wpAny_Tuple_spliced (bW (h pos pins s σ H _ I hq) A'X)
 have hf:lr s1.heap.objs.size:=AWj;refine IL AgQ (upd H1 s1.heap.objs.size RF) A'g (q _ hf);exact⟨z,us,r,IB _ OS _ rfl⟩
theorem yjn(h:AWT):PE X A1R (aaM t):=by
 intro pins s σ H Q I hq;refine wpAny_List_spliced (bW (h pos pins s σ H _ I hq) A'X)
 have hf:lr s1.heap.objs.size:=AWj;refine IL AgQ (upd H1 s1.heap.objs.size ć) A'g (q _ hf);exact⟨z,us,0,r,OS⟩
#where
abbrev Sp:=Ζ ->Hp ->BI VK XK
abbrev JB:=Φ GB Hp Shared XK (Dx Value)
structure xK (AK_) (mg:B7) (base:Heap) (A:Around) (outer:GB) (s:Shared) (H:Hp):Prop where
 frames:ATP outer
 mod:Mod K mg base
 bs:cn base.get? (Tm/\FX)
 bsz:base.objs.size<=s.heap.objs.size
 funs:s.heap.FunFrames base outer
 frf:IQ (frs outer) FX
 hok:nC P w H s.heap
 bare:Atw
def CE(outer:GB)(P:Program)(w:World)(H:Hp)(s:Shared)(Q:VK)(u:Value)(s' :Shared):Prop:=
 ∃v H',s'.os=s.os/\ADV/\AYb AiJ/\A9k/\LW/\l'
def CR(CX:JB)(outer:GB)(P:Program)(w:World)(H:Hp)(s:Shared)(Q:VK)(E:XK)(r:Result)(s' :Shared):Prop:=
 match r with
 | .ok (.ret u)=>As6
 | .ok _=>False
 | .error e=>CX outer H s E e s'
structure fG (P:Program) (Afw) (CX:JB) (k:Nat) (f:Addr) (fd:FuncData) (ps:Β) (sp:Sp):Prop where
 len:A6a
 run:∀(A:Around) (outer:GB) (s:Shared) (H:Hp) (args:Args) (us:Τ) (vs:Ζ) (Q:VK) (E:XK),ASM ->Φ AYy (A6h ps.zip) AM1 AS0 (ĸ sw A Fk args (CR CX outer P w H s Q E) s)
theorem fG.imp(BI7){CX:JB}{k:Nat}{f:Addr}{fd:FuncData}{ps:Β}{sp sp' :Sp}(F:A8v sp)
  (h:∀vs H Q E,sp' vs H Q E ->AS0):A8v sp' :=
 ⟨fun vs H Q E q=>F.len vs H Q E (H_ h q),fun A outer s H args us vs Q E hr he hb hv hs=>F.run A outer s H args us vs Q E hr he hb hv (H_ h hs)⟩
theorem xK.make(BI7){A:Around}{outer:GB}{s:Shared}{H:Hp}(e:AYy)(C:Addr)(us:Τ)(kw:ADp):
  BKa (AN_ (AJl (ET::us))):=⟨by first | exact e.frames | (simpa [Around.under,Code.envs,Code.isFrame,pushEnvs] using e.frames),e.mod,e.bs,e.bsz,e.funs,e.frf,e.hok,e.bare⟩
section
variable{X:Cx}{pins:dD}{σ:St}{H:Hp}{s s' :Shared}
theorem Inv.env0(OF):A'C s H:=
 ⟨I.ok.frames,I.ok.mod,I.bs,zP I.ok.bsz I.sz,I.stack,I.stkFree,I.hok,I.bare⟩
theorem Inv.after{Q:VK}{u:Value}(I:Ι)(h:CE X.stack X.prog X.w H s Q u s'):nk u s' :=by
 obtain⟨v,H',os,bare,un,hok,r,q⟩:=h;obtain⟨hh,g,d,t,os'⟩:=s';show Db (os' =s.os) os;exact⟨v,H',DZ (I.call (h' :=hh) (g' :=g)) d' d t' t ch [] un hok bare ANt,r,q⟩
#where
def Binds(K:W.Frag)(fd:FuncData)(ps:Β)(ds:Τ):Prop:=
 ∀(s:Shared) (us:Τ),ADv ->ME (us++ds)=ps.length ->BindsTo s fd AKO (ps.zip (us++ds))
theorem Binds.all{K:W.Frag}{fd:FuncData}{ps:Β}(h:∀us:Τ,us.length=ps.length ->A5a fd):ę:=fun s us _ hl=>by
 rw[List.append_nil] at hl⊢;exact .of_eq (h us hl)
section
variable{X:Cx}{CX:JB}{k:Nat}{f C:Addr}{fd:FuncData}{ps:Β}{sp:Sp}{dvs:Ζ}{ds:Τ}{E:XK}{x m:Str}{p pos apos:Pos}{e o:Expr}{es:A5}{ta:TE}{t:TA}
structure Mk (K:W.Frag) (C f:Addr):Prop where
 makes:AtR
 init:Ł
 fn:AJx
 kp:W.keepIn K EU=true
#where
structure aB (N P:Β) (sc:Scope):Prop where
 kind:AlR
 co:GN sc.isCoroutine
 gen:GN sc.isGenerator
 nd:N.Nodup
 pre:N.take P.length=P
 par:∀x∈P,Amm ANI
 nofree:∀y∈sc.names,y.2≠ LH
theorem zt1(A5U):BFk bindL
 | [],_,_=>rfl
 | (n,v)::r,m,h=>by
  unfold bindL;rw[zt1 (AEI (AnF w hw))];split
  ·have:x≠n:=by rintro rfl;exact AZw
   simp [this]
  ·rfl
theorem zvi(A5U):BFk bindC
 | [],_,_=>rfl
 | (n,v)::r,m,h=>by
  unfold bindC;rw[zvi (AEI (AnF w hw))];split
  ·rfl
  ·have:x≠n:=by rintro rfl;exact AZw
   simp [this]
theorem zu4(BH9):BHW (Φ P.Nodup (bc P) AGB (AIO kindOf) (Awg bindL))
 | [],_,_,_,_,h,_,_=>AGD
 | BY,[],_,_,_,_,h,_=>AGD
 | p::P,w::vs,0,m,nd,h1,h2,hk=>by
  simp at h1 h2;subst h1;subst h2;show BEe bindL=_;unfold bindL;rw[A7z zt1,A_ hk];simp
 | p::P,w::vs,BQ,m,nd,h1,h2,hk=>by
  unfold bindL;exact n_ zu4 AZc w_ AFI hk
theorem zvn(BH9):BHW (Φ P.Nodup (bc P) AGB (kindOf x≠some đ) (Awg bindC))
 | [],_,_,_,_,h,_,_=>AGD
 | BY,[],_,_,_,_,h,_=>AGD
 | p::P,w::vs,0,m,nd,h1,h2,hk=>by
  simp at h1 h2;subst h1;subst h2;show BEe bindC=_;unfold bindC;rw[A7z zvi,AK hk];simp
 | p::P,w::vs,BQ,m,nd,h1,h2,hk=>by
  unfold bindC;exact n_ zvn AZc w_ AFI hk
def start(N:Β)(vs:Ζ):St:=vs.map some++ALD (N.length - vs.length) none
def eU(CX:JB)(P:Program)(Afw)(N:Β)(qual:Str)(scope:Scope)(f:Addr)(cd:Value)(A:Around)(outer:GB)(s:Shared)(H:Hp)(E:XK):Cx where
 prog:=P
 w:=w
 K:=K
 mg:=mg
 base:=base
 A:=A.deeper (BGG cd)
 N:=N
 s₀:=s
 H₀:=H
 env:=BG0
 outer:=outer
 stack:=BG0::outer
 ex:= []
 calm:=true
 fn:=C8 true
 pn:= []
 xe:=fun e s' =>wpAny sw (A.deeper (BGG cd)) (leaving (envOfC qual scope s.heap.objs.size f cd) e) (Ff s'' (CX outer H s E e s'')) (fun e' s'' =>CX outer H s E e' s'') s'
theorem zy7{sc:Scope}{n:Nat}{x:Str}(h:ANI):∃c,Ñ (AXe n sc.names []):=by
 have q:=W.cellsFrom_some sc.names n [] (D1 h);exact Option.isSome_iff_exists.mp q
theorem zua{CX:JB}{P:Program}{w:World}{K:W.Frag}{mg:B7}{base:Heap}{N ps:Β}{qual:Str}{scope:Scope}{f:Addr}{cd:Value}{A:Around}{outer:GB}{s s1:Shared}{H:Hp}{E:XK}{us:Τ}{vs:Ζ}
  (S:A_Q) (hd:JI) (e0:AYy) (hl:BLP) (r:AM1)
  (x:InCallC s s.heap.objs.size (BJi bindL) (cellsFrom Uf scope.names []) (BJi bindC) s1):
  Inv BH1 [] Al7 H s1:=by
 have hpl:ps.length<=N.length:=by have:=congrArg List.length S.pre;show AJ List.length_take;omega
 obtain⟨h1,tk,rfl,hk⟩:=x.done;have Uv:∀b:Addr,b∉ (BH1).ex:=fun b z=>(Aoe z)
 refine⟨⟨e0.mod,S.kind,rfl,rfl,HC,DL y z c h1 h2,AD y hy,fun y c _ h=> ?_,C8 hd,Around.frames_deeper e0.frames,.inr PV,A8W,e0.bs,e0.bsz,FF _ _ (Uv b),A8W,e0.funs,e0.frf⟩,
  rfl,e0.bare,Un.kept hk,B5 x.toInCall.ns (fun i y v h1 h2 h3=> ?_),fun y c h=>(CI (x.cell y c h)),e0.hok.fresh (zO _),Κ y c h,AqN,e0.hok.kept hk,?_⟩
 ·exact name_of_addr x.apart (PySem.mem_of_lookup h1) (PySem.mem_of_lookup h2)
 ·have hy:At6 ci\/At6 LH:=hy;rcases hy with hy | hy
  ·exact zy7 hy
  ·exact absurd rfl (S.nofree _ (PySem.mem_of_lookup hy))
 ·exact Nat.le_of_lt BBz
 ·show AiP (by
   unfold start at h2;show ADS vs.length
   ·exact hi
   ·rw[List.getElem?_append_right (Bz hi)] at h2
    rw[List.getElem?_replicate] at h2;split at h2<;>cases h2)
  have ha:AGB:=by
   unfold start at h2;show ALB AVg h2
   cases e:vs[i]? with
   | none=>rw[e] at h2;cases h2
   | some a=>rw[e] at h2;cases h2;rfl
  show BD u hu rv r.get ha;have hp:B8 ps y:=by
   rw[<- S.pre,List.getElem?_take_of_lt ψ];exact h1
  have ndP:ps.Nodup:=BE S.pre (S.nd.sublist (List.take_sublist _ _))
  show BA u rv;rcases S.par y (yZ hp) with k | k
  ·show B3 ⟨k,zu4 ndP hp hu k⟩
  ·show B' c e (zy7 (n:=mh)) k;show MY ⟨.inl k,c,e,?_⟩;have q:=x.cell y c e;rw[zvn ndP hp hu (by show scope.names.lookup y≠_;rw[k];decide)] at q
   exact q
 ·exact e0.hok.fresh (Nat.le_of_lt BBz)
 ·unfold start;show _=N.length;rw[List.length_append,List.length_map,List.length_replicate];omega
theorem Q7{CX:JB}{P:Program}{w:World}{K:W.Frag}{mg:B7}{base:Heap}{k:Nat}{f:Addr}{name qual:Str}{params:Arguments}{body:Mc}{scope:Scope}{dV kV doc pm cdv ct oc:Value}{an od:IE}
  {osl:vz} {N ps:Β} {sp:Sp} (lk:AfB (.func BJB) osl) (hcd:BLo) (S:A_Q)
  (len:A6a)
  (hbody:∀(A:Around) (outer:GB) (s:Shared) (H:Hp) (vs:Ζ) (Q:VK) (E:XK),AI5 k qual scope ->AS0 ->
   ∃t,FW AsZ body t/\t A9q Al7 H):
  K0 fG CX FR f BJB ps sp:=by
 show BO len (fun A outer s H args us vs Q E hr e0 hb r hsp=> ?_);have hl:=kT len hsp;show A'p;show A'q;show D7 hkind y (ps.zip us) (scope.names.lookup y.1=some đ\/ (scope.names.lookup y.1=some ci/\ (AXe Uf scope.names [] y.1).isSome=true)) ⟨n,v⟩ hy (by
  show SG (S.par n (AeF hy)) q
  ·show B3 q
  ·show DJ A2w)
 refine codeAny_call_function hr.depth (KX _ _ lk) rfl S.co S.gen rfl A7V BNY;refine wpAny_newFunctionEnv_cells S.kind hkind (EX env he s1 x);subst he;show BAW;obtain⟨t,ht,hq⟩:=hbody A outer s H vs Q E (hr.deeper _) hsp;have I:Inv AsZ [] Al7 H s1:=BHt hl;show AFL (ht [] s1 (start N vs) H _ I hq) A3d (fun e s' hs=>hs);have fin:∀{σ' :St} {H' :Hp} {v:V} {u:Value},Inv AsZ [] σ' H' s' ->LW ->l' ->As6 :=
  fun{σ' H' v u} J rv q=>⟨v,H',J.os,J.bare,J.base,J.hok,rv,q⟩
 cases fl with
 | ret u=>
  obtain⟨v,σ',H',J,rv,q⟩:=hs;exact fin J rv q
 | next=>
  show T' σ' H' J q hs (fin (v:=V.non) (u:=Value.none) J rfl q)
 | brk=>
  show AbP
 | cont=>
  show AbP
section
variable{X:Cx}{x:Str}{p pos:Pos}{e:Expr}{es:A5}{t:TA}{id T:String}{r:ie}
def Q8(r:ie)(t:TA):TE:=IU t vs (r vs H1 Q)
theorem Uw(hc:kl id r)(hg:Hk)(hm:ű)(hv:Ś tS)(ha:AWU)(hn:vk :=by decide)(hdb:As x "__debug__":=by decide)
  (YI):A8I:=by
 show EQ;refine wpAny_Call_Name_kw (AQW hv ?_ hn hdb);exact PyProof.Rows.callWith_builtin1 (bW AJ5 fun us s1 aaN=>by show AQs aaN;exact cz hc vs us Q I1 r1 q1) he hpl
theorem Zt(hc:dF X vb r)(hg:Hk)(hm:ű)(hv:Ś vb)(ha:AWU)(hn:vk :=by decide)(hdb:As x "__debug__":=by decide)
  (YI):A8I:=by
 show EQ;refine wpAny_Call_Name_kw (AQW hv ?_ hn hdb);exact PyProof.Rows.callWith_type1 (bW AJ5 fun us s1 aaO=>by show AQs aaO;exact cz hc vs us Q I1 r1 q1) he hpl
#where
#print L2
namespace HT
open PySem PyProof.Rows
section
open PySem.SeqAt
open PySem.AutoSeq1 (wpAny_loadPart')
open PySem.MeetsSeq PySem.MeetsSeq2 PySem.MeetsSeq3
#where
section
variable{prog:Program}{w:World}{A:Around}{E:dh}{s:Shared}
def sIx(n d:Nat):LE ->Nat
 | none=>d
 | Ğ=>if v<0 then IO (v+ D6) else BLb
theorem yjb(n d:Nat)(hd:d<=n)(o:LE):sIx n d o<=n:=by
 cases o with
 | none=>exact hd
 | some v=>
  show A_T<=n;by_cases hv:v<0
  ·show DF hv;omega
  ·show BF hv;exact Nat.min_le_right _ _
theorem z8m(v:Int)(n d:Nat):BCT=Cl (sIx n d (some v)):=by
 show BCT=Cl A_T;by_cases hv:v<0
 ·simp only [A_ hv];omega
 ·simp only [ATp];omega
theorem z16(BGZ):BEr=(AaR,A2K):=by
 have h1:¬(Rs<0):=Α
 refine Prod.ext ?_ ?_
 ·cases lo with
  | none=>rfl
  | some v=>exact z8m v n 0
 ·cases hi with
  | none=>rfl
  | some v=>exact z8m v n n
theorem z2i(i j:Nat):Builtin.Slice.slicePlaces Ic SI 1=j - i:=by
 unfold Builtin.Slice.slicePlaces;have h1:Rs>0:=Α
 simp only [h1,if_true,Int.ediv_one];split<;>omega
theorem zqs{v:Value}{o:LE}{Q:Dx LE}(p:IsPart v o)(h:Q o s):Fu (Builtin.Slice.slicePartIndex v):=by
 cases p with
 | none=>exact slicePart_none h
 | int i t=>exact slicePart_int h
theorem zl6{sl:Addr}{vl vu:Value}{lo hi:LE}{n:Nat}{Q:Dx (Int×Int×Nat)}(hs:AsF)(pl:AoL)(pu:AoM)
  (h:Q (AaR,1,sIx n n hi - sIx n 0 lo) s):Fu (Builtin.Slice.sliceApplied ATR (pure D6)):=by
 show MH os hos hcs hds hs;show D3 z6 (Anp vl rfl (z6 (Anp vu rfl (z6 (Anp Ω rfl AQ3)))));show KB slicePart_none;show ZY
 refine z6 (zqs pl (z6 (zqs pu AXt)));show ACe (match BEr with | (lo,hi)=>pure (lo,Rs,Builtin.Slice.slicePlaces lo hi 1))
 rw[z16 lo hi n];show ACe (pure (AaR,Rs,Builtin.Slice.slicePlaces AaR A2K 1));rw[z2i];exact z7 h
theorem ybj(xs:EL)(i k:Nat):XG (AQk k filterMap) (fun(E3 m)=>xs[Ap8]?)=XG (xs.toList.drop i).take k:=by
 have e:(Υ (E3 m) xs[Ap8]?)=fun m=>xs[i+m]?:=by
  funext m
  have:Ap8=i+m:=Α
  rw[this]
 rw[e];have:=pick_run xs i k;show AJ List.filterMap_map;have e2:((Υ x xs[x]?) ∘ US (i+x))=fun m=>xs[i+m]?:=rfl;show AJ e2;rw[this]
theorem getItem_tuple_cut{t sl:Addr}{items:EL}{vl vu:Value}{lo hi:LE}{Q:dh}(ht:IsTup s.heap t items)(hs:AsF)(pl:AoL)(pu:AoM)
  (hw:¬(AI7=0/\AQ0=items.size))
  (h:ANb (WO (XG Aqj ASo)))
  (hsz:Agg):Fu (getItem (AG t) ATR):=by
 have Dc:sizeOk (.seq (XG Aqj ASo)):=by
  show BM (Aqj ASo).toArray.size;rw[List.size_toArray,List.length_take,List.length_drop,Array.length_toList];omega
 have hj:AQ0<=items.size:=yjb _ _ D4 hi;show MH os hos hcs hds hs;have hTs:s.TypeIs ATR "slice" :=⟨os,hos,hcs⟩;unfold getItem
 try with_reducible refine wpAny_holding ?_
 first | show iO | skip
 show MC wpAny_sequenceKey ht.typeIs Δ
 refine z6 (wpAny_callSpecial?_slot (name:=kP "__getitem__") ht.typeIs PyProof.Rows.slot_tuple_getitem
  (wpAny_call_entry PyProof.Rows.slot_tuple_getitem ht.typeIs entry_tuple_getitem ?_ (args_tuple_getitem _ _)))
 show AGd (Builtin.Tuple.tupleItemsOf (AG t));show IJ tupleItemsOf_ ht;show IJ wpAny_typeOf hTs;show DF Δ
 refine z6 (zl6 hs pl pu ?_);have hno:¬(BIh):=by
  intro q;rw[Bool.and_eq_true,Bool.and_eq_true] at q;have q1:Cl AI7=0:=eq_of_beq q.1.1;have q2:AQ0 - AI7=items.size:=eq_of_beq q.2;exact hw ⟨Α,Α⟩
 show ACe (zh BIh);rw[AK hno,ybj]
 first
  | exact AVH (wpAny_newObj_type (z7 AeU) Dc)
  | exact AVH (wpAny_newObj_type (z6 AxB) Dc)
  | exact z6 (AVH (wpAny_newObj_type AxB Dc))
  | exact z6 (AVH (wpAny_newObj_type (z7 AeU) Dc))
#where
#print HT
namespace L2
open PySem PySem.Spec PyProof.Rows
abbrev TO:=AY4 AhE
def PO(X:Cx)(e:ALP)(t:TO):Prop:=
 AKu Q AhE fE (evalPart e X.env) (YU u (∃o H',AAT /\IsPart u o/\Q o H'))
def yef:TO:=AZP (Q none H)
def Ux(t:TE):TO:=IU t x (∃i,x= Co/\Q (some i) H1)
section
variable{X:Cx}{e:Expr}{te:TE}{lo hi:ALP}{tl th:TO}{pos p2:Pos}
theorem yf6:PO X none yef:=by
 show EQ;rw[evalPart_none];exact z7 (AXu none Ω)
theorem yhh(h:VO):PO X AR5 (Ux te):=by
 show Ak5;rw[evalPart_some];show Ű AnM u aaP;show OA aaP;show PU i rfl q1;show L_ r1;exact⟨some i,H1,I1,.int i t,q⟩
def SlR(X:Cx)(r:APT):Prop:=
 ∀(pins:dD) (s:Shared) (σ:St) (H:Hp) (x:V) (v vl vu:Value) (lo hi:LE) (sl:Addr) (Q:VK),Ι ->VI ->Φ AsF AoL AoM (r x lo hi H Q) (∃T id,A'a/\A0V/\ģ (getItem v ATR))
def tSl(r:APT)(te:TE)(tl th:TO):TE:=IU te x (eA tl l (th σ H2 fun u H3=>r x l u H3 Q))
theorem zzl{r:APT}(hr:SlR X r)(he:VO)(hl:PO X lo tl)(hu:PO X hi th):d6 Subscript e AsV (tSl r te tl th):=by
 show EQ;show Sb Subscript_ iN v aaQ;show OA aaQ;refine wpAny_Slice (bW (ACk hl) (AEs vl s2));obtain⟨l,H2,I2,pl,q2⟩:=hz1;show sd (AsH hu) vu s3 hz2;obtain⟨u,H3,I3,pu,q3⟩:=hz2;rw[evalPart_none];refine z7 ?_;have I4:OL H3 BAa:=I3.kept (t' :=s3.toks) AnU;obtain⟨T,id,hT,ht,hg⟩:=hr pins BAa σ H3 x v vl vu l u s3.heap.objs.size Q I4 r1 (Heap.IsSliceOf.new ..) pl pu q3;exact tail_any (ops:= [.ref s3.heap.objs.size,v]) ht hT hg ő
def xM(xs:Ζ)(lo hi:LE):Ζ:=AwX
theorem zog(xs:Ζ)(lo hi:LE):(xM xs lo hi).length<=xs.length:=by
 unfold xM;rw[List.length_take,List.length_drop];omega
def aaR(AHG):APT:=fun x lo hi H Q=>∃a xs,x= AI/\x0/\
 ¬(BKT=0/\BKX=xs.length)/\AsD (.tup AX0)
theorem yj1:SlR X (aaR X.K):=by
 intro pins s σ H x v vl vu lo hi sl Q I rx hs pl pu h;show js a xs hx hw q h;cases rx;obtain⟨its,r,ht,hz⟩:=I.tuple hx;have hlen:its.toArray.size=xs.length:=Ο List.size_toArray r.length.symm
 show RO "tuple" _ PyProof.Rows.slot_tuple_getitem.lookup ht.typeIs;refine HT.getItem_tuple_cut ht hs pl pu (B2 hlen hw) ?_ (B2 hlen hz)
 rw[hlen];refine GE X2 (ASW I.laid o (.tup AX0) (AnU) D4 ?_) (q _ ĺ);exact Ami A8g _ (Afl r.drop)
#where
def vR(n:Nat)(i:Int):GL Nat:=if 0<=i then(AY (i<n) (some i.toNat) none) else Afz (-D6<=i) (some (IO (i+n)))
def mQ(p_)(xs:Au)(i:Int):GL α:=(vR xs.length i).bind fun j=>xs[j]?
theorem z8v{n:Nat}{i:Int}{j:Nat}(h:vR n i=some j):Awf n/\j<n/\ -D6<=i/\i<n:=by
 show Bi vR;by_cases h0:0<=i
 ·show og h0;by_cases h1:i<n
  ·show og h1;have e:i.toNat=j:=zH h;exact⟨DB (AkA h1) e,Α,Α,h1⟩
  ·show U' h1;cases h
 ·show U' h0;by_cases h1: -D6<=i
  ·show og h1;have e:IO (i+n)=j:=zH h;exact⟨DB (Ajj h1) e,Α,h1,Α⟩
  ·show U' h1;cases h
theorem zxr{α:Type}{xs:Au}{i:Int}{v:α}(h:Ę xs v):∃j,Awf xs.length/\ML xs v/\j<xs.length/\ -(AC xs.length)<=i/\vT:=by
 show Bi mQ;cases e:vR xs.length i with
 | none=>rw[e] at h;cases h
 | some j=>
  rw[e] at h;obtain⟨h1,h2,h3,h4⟩:=z8v e;exact⟨j,h1,h,h2,h3,h4⟩
theorem rR{α:Type}{xs:Au}{j:Nat}{v:α}(h:ML xs v):mQ xs SI=some v:=by
 have hj:j<xs.length:=KI h;have e:vR xs.length SI=some j:=by
  unfold vR;rw[ZO,ZO];simp
 unfold mQ;rw[e];exact h
def zyb(b:Expr):Prop:=∀o i,Aph (subscripted b false o i) [o,i] o i
def Zu(X:Cx)(r:R2):Prop:=
 ∀(value slice:Expr) (pins:dD) (s:Shared) (σ:St) (H:Hp) (x y:V) (v u:Value) (Q:VK),Ι ->Φ VI KL (r x y H Q) (Aph (subscripted slice false v u) [v,u] v u) (ģ (subscriptTail value slice v u))
def MtR(A_3):Prop:=
 ∀(pins:dD) (s:Shared) (σ:St) (H:Hp) (x:V) (xs:Ζ) (v:Value) (us:Τ) (Q:VK),Φ Ι VI Rc (r x xs H Q) (ApM v)
section
variable{X:Cx}{a b:Expr}{ta tb:TE}{pos:Pos}
theorem yjd{r:R2}(hr:Zu X r)(ha:nN)(hb:AEQ)(hs:zyb b):d6 Subscript a b AaV:=by
 show EQ;exact Subscript_ (Arp (BME (hr a b pins s2 σ H2 x y v u Q I2 rx ry q (hs _ _))))
def aaS(AHG):R2:=BJO (lU K H p xs)
def aaT(AHG):R2:=BJO (vO K H p xs)
def aaU:R2:=Ń (∃z i c,x= AUG/\y= Co/\Agh/\A0v/\Q (.str Akv) H)
theorem z6s:Zu X (aaS X.K):=by
 intro value slice pins s σ H x y v u Q I rx ry h hs;obtain⟨p,xs,i,z,rfl,rfl,hq,he,q⟩:=h;cases rx;show L_ ry;obtain⟨its,r,pl,hz⟩:=I.list hq;show As1;show BD w ew tK r.get h2;show Ahn;show AAz;have fin:nk w s:=A9Y;by_cases h0:0<=i
 ·have hj:i.toNat=j:=by
   rw[AkA h5] at h1;exact ſ
  exact item_listR pl.isList h0 ψ (by rw[hj];simpa using ew) fin hs
 ·have hj:AzL i=j:=by
   rw[Ajj h4] at h1
   show ARV;exact ſ
  exact BNS w pl.isList.typeIs slot_list_getitem.lookup
   (wpAny_getItem_list_neg (Q:=A4w) pl.isList ψ BMW ψ (by rw[hj];simpa using ew) (E7 fin)) hs
theorem ykf:Zu X (aaT X.K):=by
 intro value slice pins s σ H x y v u Q I rx ry h hs;obtain⟨p,xs,i,z,rfl,rfl,hq,he,q⟩:=h;cases rx;show L_ ry;obtain⟨its,r,pl,hz⟩:=I.tuple hq;show As1;show BD w ew tK r.get h2;show Ahn;show AAz;have fin:nk w s:=A9Y;exact BNS w pl.typeIs slot_tuple_getitem.lookup
  (getItem_tuple (j:=j) (Q:=A4w) pl ψ ψ (Ahg h1) (Bz ew) (E7 fin)) hs
theorem yk1:Zu X aaU:=by
 intro value slice pins s σ H x y v u Q I rx ry h hs;obtain⟨z,i,c,rfl,rfl,hz,he,q⟩:=h;show PQ;show AAt;show As1;have hl:z.cps.toList.length=z.length:=BH Str.length
 rw[hl] at h1 h4 h5;show AAz;exact tail_any (typeIs_str s z t) slot_str_getitem.lookup (getItem_str (c:=c) (by
  have e1:Μ (i< -(AC (2^63)))=false:=AhG
  have e2:Μ (i≥2^63)=false:=AhG
  rw[e1,e2,Bool.or_false]) (by rw[h1];simpa using h2) (A1K Akv)) hs
theorem z2v(its:Τ)(n j:Nat)(u:Value):Obj.mapSeq (·.setIfInBounds j u) AEW=ABc ABo (.seq (its.set j u).toArray n):=BH Obj.mapSeq
theorem Inv.lst{pins:dD}{σ:St}{H:Hp}{s:Shared}{p:Addr}{xs:Ζ}(I:Ι)(h:AkI):
  ArY (ADM/\A0m/\Tl):=by
 show Aba (d4 p h);exact⟨its,n,r,e,z⟩
theorem Inv.lstUpd(BIm){p:Addr}{xs ys:Ζ}{its its' :Τ}{n n' :Nat}{f:Obj ->Obj}(I:Ι)(h:AkI)
  (ho:A0m) (hf:f AEW=A0o) (r:AvN) (hz:ALX) (t:Nat):
  OY p ř (WF (s.heap.update p f) t):=by
 have e:(s.heap.update p f).get? p=some A0o:=DB (Heap.get?_update_self f ho (by rw[hf]<;>rfl)) hf
 refine AOJ p p (by rw[h];trivial) NR (cK u q ((AQn AJU).trans q)) (CI e) ?_
 exact⟨hz,its',n',r,e⟩
def Uy:A_E:=fun o i v H Q=>∃p xs k j,o= PM/\i= wy/\AkI/\A9w/\Q (GV p Aym)
theorem ya9:Uh X Uy:=by
 intro pins s σ H o i v ov iv u Q I ro ri rv h;obtain⟨p,xs,k,j,rfl,rfl,hp,hj,q⟩:=h;cases ro;show L_ ri;obtain⟨its,n,r,ho,hz⟩:=I.lst hp;obtain⟨h1,h2,h3,h4⟩:=z8v hj;show Ahn;show AAz;have I' :OY p Aym (OR (s.heap.update p (Obj.mapSeq (·.setIfInBounds j u)))):=
  I.lstUpd hp ho (z2v its n j u) (r.set rv j) (B2 List.length_set hz) s.toks
 by_cases h0:0<=k
 ·have hk:k.toNat=j:=by
   rw[AkA h4] at h1;exact ſ
  exact W.ki_setAt ho h0 ψ (Ahg h4) AzF
 ·have hk:AzL k=j:=by
   rw[Ajj h3] at h1
   show ARV;exact ſ
  exact W.ki_setBack ho ψ (Ahg h3) ψ AzF
theorem zue(BGZ):AsU.1=Cl (HT.sIx n 0 lo)/\ AsU.2.1=Cl (HT.sIx n n hi)/\ AsU.2.2=1:=by
 show w9 ?_ rfl
 ·cases lo with
  | none=>simp [sliceBounds,HT.sIx]
  | some i=>
   simp only [sliceBounds,HT.sIx,Option.getD_none,Ab8 (Rs>0),if_true]
   by_cases h:i<0
   ·show Avp
   ·show Avq
 ·cases hi with
  | none=>simp [sliceBounds,HT.sIx]
  | some i=>
   simp only [sliceBounds,HT.sIx,Option.getD_none,Ab8 (Rs>0),if_true]
   by_cases h:i<0
   ·show Avp
   ·show Avq
theorem ztn(its:Τ)(lo hi:LE):slicePick its.toArray lo hi none=XG (BKP its.drop its.length) (HT.sIx its.length its.length hi - HT.sIx its.length 0 lo):=by
 obtain⟨h1,h2,h3⟩:=zue lo hi its.toArray.size;unfold slicePick;rw[h1,h2,h3];simp only [sliceRange_one,pick_run,List.size_toArray]<;>rfl
def aaV(AHG):APT:=fun x lo hi H Q=>(ASd xs mE (AsD (CO AX0)))
theorem yex:SlR X (aaV X.K):=by
 intro pins s σ H x v vl vu lo hi sl Q I rx hs pl pu h;show Cb a xs hx q h;cases rx;obtain⟨its,r,ht,hz⟩:=I.list hx;have hlen:=r.length;show RO "list" _ slot_list_getitem.lookup ht.isList.typeIs;refine wpAny_getItem_list_slice ht.isList hs pl pu Ω Ψ ?_ BMW
 rw[ztn,<- hlen];refine GE X2 (ASW I.laid o (.lst AX0) (AnU) D4 ?_) (q _ ĺ);exact⟨A8g,_,0,Afl r.drop,OS⟩
def oY:V ->Bool
 | AF=>true
 | XE=>true
 | UE=>true
 | U2=>true
 | _=>false
def J6:V ->V ->Bool
 | AF,AF=>true
 | .bl a,Z3=>ď
 | .bl a,Ŗ=>(ae a)==b
 | ALK,Z3=>a==(ae b)
 | ALK,Ŗ=>ď
 | .str a,.str b=>ď
 | _,_=>false
theorem yi9{A:Around}{s:Shared}{y x:V}{u v:Value}(ry:KL)(rx:VI)(fy:oY y=true)(fx:Ah_):BDt (J6 y x):=by
 cases y with
 | non=>
  cases ry;cases x with
  | non=>show wf AgY
  | bl b=>show wf (SeqAt.EqAt.none_bool b)
  | int b=>show PQ;exact SeqAt.EqAt.none_int b t
  | str b=>show PQ;exact SeqAt.EqAt.none_str b t
  | _=>show AGn fx
 | bl a=>
  cases ry;cases x with
  | non=>show wf (SeqAt.EqAt.bool_none a)
  | bl b=>show wf (SeqAt.EqAt.bool_bool a b)
  | int b=>show PQ;exact SeqAt.EqAt.bool_int a b t
  | str b=>show PQ;exact SeqAt.EqAt.bool_str a b t
  | _=>show AGn fx
 | int a=>
  show AAt;cases x with
  | non=>show wf (SeqAt.EqAt.int_none a t')
  | bl b=>show wf (SeqAt.EqAt.int_bool a t' b)
  | int b=>show AbH SeqAt.EqAt.int_int
  | str b=>show AbH SeqAt.EqAt.int_str
  | _=>show AGn fx
 | str a=>
  show AAt;cases x with
  | non=>show wf (SeqAt.EqAt.str_none a t')
  | bl b=>show wf (SeqAt.EqAt.str_bool a t' b)
  | int b=>show AbH SeqAt.EqAt.str_int
  | str b=>show AbH SeqAt.EqAt.str_str
  | _=>show AGn fx
 | _=>show AGn fy
def Bt(x:V)(u:Value):Bool:=match u with
 | Ω=>J6 AF x
 | .bool b=>J6 AUd x
 | AOD=>J6 ŕ x
 | .str z _=>J6 (.str z) x
 | _=>false
theorem yd3{x y:V}{u:Value}(r:KL)(f:oY y=true):Bt x u=J6 y x:=by
 cases y with
 | non=>cases r;rfl
 | bl b=>cases r;rfl
 | int i=>show AFV
 | str z=>show AFV
 | _=>show AGn f
theorem Uz{x:V}:BH8 (us.any (Bt x)=xs.any fun y=>J6 y x)
 | _,_,B_,_=>rfl
 | y::xs,u::us,AAk,f=>by
  rw[List.all_cons,Bool.and_eq_true] at f;show AyT (yd3 r f.1) (Uz t f.2)
theorem UG{A:Around}{s:Shared}{x:V}{v:Value}(rx:VI)(fx:Ah_):BH8 (∀u∈us,BDt (Bt x u))
 | _,_,B_,_=>fun u hu=>(dQ hu)
 | y::xs,u::us,AAk,f=>fun u' hu=>by
  rw[List.all_cons,Bool.and_eq_true] at f;show K2 hu hu
  ·rw[yd3 r f.1];exact yi9 r rx f.1 fx
  ·exact UG rx fx t f.2 u' hu
def inV(x:V)(xs:Ζ):Bool:=xs.any fun y=>J6 y x
def rIn(K:W.Frag)(neg:Bool):R2:=Ń (∃p xs,y= PM/\ (lU K H p xs\/vO K H p xs)/\Ah_/\BLR/\Q (.bl (AY neg (! inV x xs) (inV x xs))) H)
theorem zu6:AIT In (rIn X.K false):=by
 show Ë;obtain⟨p,xs,rfl,hq,fx,fs,q⟩:=h;cases ry;show Aap
 ·show A4Q SeqAt.in_listAt
 ·obtain⟨its,r,pl,hz⟩:=I.tuple hq;refine SeqAt.in_tupleAt AQu pl (fun w hw=>UG rx fx r fs w AeE) (Ļ ?_)
  rw[Afm,Uz r fs]
  exact q
theorem zlz:AIT NotIn (rIn X.K true):=by
 show Ë;obtain⟨p,xs,rfl,hq,fx,fs,q⟩:=h;cases ry;show Aap
 ·show A4Q SeqAt.notIn_listAt
 ·obtain⟨its,r,pl,hz⟩:=I.tuple hq;refine SeqAt.notIn_tupleAt AQu pl (fun w hw=>UG rx fx r fs w AeE) (Ļ ?_)
  rw[Afm,Uz r fs]
  exact q
theorem zly:kl "len" (APG (BFg (Q (DE ys.length) H))):=by
 show AN1;show Cb p ys hq q h;show M';cases rx;show AAz;show Aap
 ·show AkU;show AlS;exact Calls.call_len_list pl.isList ALG (Acu ys.length (A2y hlen))
 ·show AkV;show AlS;exact len_tuple pl ALG (Acu ys.length (A2y hlen))
theorem zv0:kl "len" (APG (∃z,xs= [AUG]/\Agh/\Q (DE z.length) H)):=by
 show AN1;show QP z rfl hz q;obtain⟨u,rfl,t,rfl⟩:=vals1 r;show AAz;exact len_str ψ (AN0 z.length)
theorem zl2:Aja (APG (BFg (Ar3 ř))):=by
 show AN1;show Cb p ys hq q h;show M';cases rx;have fin:∀(its:Τ),Vals ys its ->ALX ->∀(h' :Heap) (c' :Nat),(∀b o',HH s.heap.get? o' ->HH h'.get? o') ->
   AfS its.toArray c' ->nk fN MA:=fun its r' hz h' c' kp e=>
  (GE X2 (AiS kp D4 (V_ h' ř ⟨hz,its,c',r',e⟩)) (q _ ĺ))
 show Aap
 ·show AkU;have hlen:=r'.length;obtain⟨o,ho,hc,n,hd⟩:=pl.isList;exact call_list_seq p NR ho hc hd (fun h' c' kp e=>fin its r' hz h' c' kp e) ALG
 ·show AkV;have hlen:=r'.length;obtain⟨o,ho,hc,n,hd⟩:=pl;exact call_list_seq p (CY rfl) ho hc hd (fun h' c' kp e=>fin its r' hz h' c' kp e) ALG
theorem zkb:ADP "tuple" (APG (∃p ys,xs= [PM]/\ ((ul lU p/\Ar3 AFa)\/ (ul vO p/\FS p H)))):=by
 show AN1;show AMp p ys;show M';cases rx;rcases h with ⟨hq,q⟩ | ⟨hq,q⟩
 ·show AkU;show AlS;refine call_tuple_list pl.isList (MR h' kp) ALG
  show A5i kp;have I2:OY h'.objs.size AFa (OR (h'.push AeQ)):=
   AP9 I1.laid (di) D4 (V_ _ AFa (Ami hz its r'))
  exact A9y (.ref h'.objs.size)
 ·show AkV;exact call_tuple_same pl (ACO PM q)
def tyV(K:W.Frag)(T:String)(x:V)(H:Hp):Prop:=match x with
 | U2=>T= "str"
 | UE=>T= "int"
 | PM=>(T= "list" /\∃xs,lU K H p xs)\/ (T= "tuple" /\∃o,K.lookup p=some o/\Au8 /\AUa)\/
   (T= "dict" /\ ((∃kvs,K' p Kt)\/∃kvs,K' p AJ0))\/ (T= "set" /\∃S n,K' p (.set S n))
 | _=>False
theorem ykr{pins:dD}{σ:St}{H:Hp}{s:Shared}{T:String}{x:V}{v:Value}(I:Ι)(r:VI)(ty:tyV X.K T x H):
  A0V/\∀a,eI ->∃ob,EE s.heap.get? ob/\ob.dict=none:=by
 cases x with
 | str z=>
  show L_ r;cases (Ch (T= "str") ty);exact⟨typeIs_str s z t,GT e UQ⟩
 | int i=>
  show L_ r;cases (Ch (T= "int") ty);exact⟨typeIs_int s i t,GT e UQ⟩
 | ref p=>
  cases r;rcases ty with ⟨rfl,xs,hq⟩ | ⟨rfl,o,hk,hc,hd⟩ | ⟨rfl,hk⟩ | ⟨rfl,S,n,hk⟩
  ·obtain⟨its,_,pl,_⟩:=I.list hq;show U1 pl.isList.typeIs a e;cases e;obtain⟨o,n,e,c,hd,_⟩:=pl;exact Č hd
  ·show U1 (Sn (I.kIn p o hk) hc) a e;cases e;exact Sn (I.kIn _ o hk) hd
  ·have z:∃o,AIL p/\o.ExactDict:=by
    rcases hk with ⟨kvs,hk⟩ | ⟨kvs,hk⟩
    ·obtain⟨_,_,_,_,o,_,_,e,ex,_⟩:=Alw;exact⟨o,e,ex⟩
    ·obtain⟨_,_,_,_,o,_,_,e,ex,_⟩:=Alw;exact⟨o,e,ex⟩
   show Ts e ex z;show U1 (Č ex.1) a e2;cases e2;exact Č ex.2.1
  ·obtain⟨o,_,_,_,e,ex,_⟩:=Alw;show U1 (Č ex.1) a e2;cases e2;exact Č ex.2.1
 | _=>show JY ty
def tBM(K:W.Frag)(T:String)(r:ASl)(to:TE)(t:TA):TE:=IU to x (tyV K T x H1/\eA t xs (r x xs H2 Q))
variable{o e:Expr}{es:A5}{to:TE}{t:TA}{name:Str}{apos cpos:Pos}{T id:String}{r:ASl}
theorem ylt(pa:PlainAttrs T)(slot:Slot T name id)(hty:A8Q)(hm:MtR X id r)(ho:PE X o to)(ha:AWU)
  (hbase:Aqo name:=by rfl)
  (hfew:Op (AWJ Da all x x.1&&Abk) (Abo (ME Da)):=by rfl)
  (hline:k_:=by rfl) (hs:starEach Da X.env=EW (CH e) (EV es):=by rfl) (hplain:Ac4:=by rfl):
  PE X (jv (jI o name) Da) (tBM X.K T r to t):=by
 show EQ;refine wpAny_Call_method_late hbase hfew hline rfl (NJ AUj v aaW);obtain⟨x,H1,I1,r1,ty,q1⟩:=aaW;obtain⟨h1,h2⟩:=ykr I1 r1 ty;show LU T id pa slot hty h1 h2;have hA:=ha cpos pins s1 σ H1 _ I1 q1;rw[hs] at hA⊢;refine Calls.callWith_builtin (by show(false || (backTo cpos (starEach es X.env)).any (·.1))=false;rw[hplain]<;>rfl) (Calls.evalArgs_plain ?_)
 exact bW hA (AWN aaX (by obtain⟨vs,H2,I2,r2,q2⟩:=aaX;exact hm pins s2 σ H2 x vs v us Q I2 r1 r2 q2))
#where
def MtM(A_3):Prop:=
 ∀(pins:dD) (s:Shared) (σ:St) (H:Hp) (x:V) (xs:Ζ) (v:Value) (us:Τ) (Q:VK),Φ Ι VI Rc (r x xs H Q) (ApM v)
theorem Vals.one:KG x V us Τ (Ċ [x]) BAk
 | _,_,.cons r B_=>Of r
theorem Vals.reverse{xs:Ζ}{us:Τ}(h:Rc):Vals xs.reverse us.reverse:=by
 induction h with
 | nil=>exact B_
 | cons r t ih=>rw[List.reverse_cons,List.reverse_cons];exact Vals.append ih (AM0 r)
section
variable{X:Cx}{pins:dD}{σ:St}{H:Hp}{s:Shared}{l b:Addr}{xs ys zs:Ζ}
theorem Inv.lset{its its' :Τ}{n:Nat}{f:EL ->EL}{t' :Nat}(I:Ι)(hH:Alm)
  (e:Adn AEW) (hf:f its.toArray=its'.toArray) (hv:AvN) (hz:ALX):
  OY l ř (WF (s.heap.update l (Obj.mapSeq f)) t'):=by
 have q:=PySem.IsL.update e f;rw[hf] at q;refine AOJ l l (B2 hH trivial) NR (fun b' u hb hu=>(Heap.get?_update_other s.heap (AIi f) AJU).trans hu) (CI q) ?_
 exact⟨hz,its',_,hv,q⟩
theorem Inv.lnew{its:Τ}{t' :Nat}(I:Ι)(hv:Vals ys its)(hz:ALX):
  ġ ř (WF (AIU (AIQ its.toArray)) t'):=
 I.laid (Fm q ACJ) D4 ⟨hz,its,0,hv,OS⟩
theorem Inv.fresh(OF):HU s.heap.objs.size:=I.hok.fresh (zO _)
theorem Inv.lstM(I:Ι)(hH:Alm):Tl/\ArY (ADM/\AKE its.length/\Adn AEW):=by
 show Aba (d4 l hH);exact⟨z,its,n,r,r.length,e⟩
theorem z84{n:Nat}(h:BM n):Builtin.List.listTooLong n=false:=CC AhG
#where
section
variable{X:Cx}
def ye7:ASl:=fun x vs H Q=>∃l xs y,x= LS/\vs= [y]/\Alm/\Aih/\Q AF (GV l (CO (xs++ [y])))
theorem zt4:MtM X "list.append" ye7:=by
 intro pins s σ H x vs v us Q I rx rv h;obtain⟨l,xs,y,rfl,rfl,hH,hz,q⟩:=h;cases rx;show MI rfl ru rv.one;obtain⟨z,its,n,r,hl,e⟩:=I.lstM hH;refine call_meets F.slot_list_append (G1 e) F.entry_list_append (F.args_list_append_2 _ _) (PySem.list_append l its.toArray n u AV8) (Ev e)
 refine GE AF (I.lset (its' :=its++ [u]) hH e Ψ (r.append (AM0 ru)) ?_) q
 show AyG;omega
#where
section
variable{κ:Type}[lT]
def nj(kvs:XY)(k:κ):Mm:=AO kvs.find? (fun kv=>(Μ (kv.1=k))) (·.2)
def putK(BHe):XY:=
 EJ AXy (GY kvs.map kv (AS3 v)) (kvs++ [(k,v)])
theorem ztj{p:κ×V}{r:XY}{k:κ}(e:A2=k):nj (p::r) k=some p.2:=ATN nj e
theorem zrg{p:κ×V}{r:XY}{k:κ}(e:¬A2=k):nj (p::r) k=nj r k:=ATN nj e
theorem zy9(k:κ):∀kvs:XY,AXy=(nj kvs k).isSome
 | []=>rfl
 | p::r=>by
  rw[List.any_cons];show AOl
  ·simp only [ztj e,decide_eq_true e,Bool.true_or,Option.isSome_some]
  ·rw[zrg e,BM4,Bool.false_or];exact zy9 k r
theorem zo4(BHe):Ar0<=kvs.length+1:=by
 unfold putK;split
 ·show EK;omega
 ·rw[List.length_append,List.length_cons,List.length_nil];omega
theorem lX.lA{o:Mm}{u:L5}(r:lX o u):o.isSome=u.isSome:=by
 cases o with
 | none=>cases u with
  | none=>rfl
  | some _=>exact AGu
 | some _=>cases u with
  | none=>exact AGu
  | some _=>rfl
theorem lX.getD{o:Mm}{u:L5}{d:V}{d' :Value}(r:lX o u)(rd:RelV d d'):RelV (o.getD d) (u.getD d'):=by
 cases o with
 | none=>cases u with
  | none=>exact rd
  | some _=>exact AGu
 | some _=>cases u with
  | none=>exact AGu
  | some _=>exact r
theorem KV.val(BIk):lX (nj kvs k) (valueAt vs k):=by
 induction r with
 | nil=>exact True.intro
 | @cons p q ps qs h t ih=>
  show AOZ h;show AOl
  ·have e' :q.1=k:=h1.symm.trans e;show BDM valueAt valueAt
   rw[ztj e,b];exact h2
  ·have e' :¬q.1=k:=Ξ A0X;have b:valueAt (q::qs) k=valueAt qs k:=ATN valueAt e'
   rw[zrg e,b];exact ih
theorem KV.any(BIk):AXy=vs.any fun kv=>(Μ (kv.1=k)):=by
 induction r with
 | nil=>rfl
 | cons h t ih=>show AyT ih h.1
theorem KV.repl(BG8):
  KV A1T (vs.map fun kv=>(AS3 u)):=by
 induction r with
 | nil=>exact B_
 | @cons p q ps qs h t ih=>
  show AXT;refine .cons ?_ ih;show AOZ h;show AOl
  ·rw[A_ e,A0O];exact⟨h1,ry⟩
  ·rw[AFG,A4v];exact⟨h1,h2⟩
theorem KV.put(BG8):KV BAM (stored vs k u):=by
 unfold putK stored;rw[r.any k];by_cases e:(Ac_ vs.any)=true
 ·rw[A_ e,A_ e];exact r.repl k ry
 ·rw[AFG,AFG];exact Paired.snoc r (E7 ry)
theorem KV.length{kvs:XY}{vs:AJ1}(r:AJG):AIC kvs.length:=BNU
#where
theorem Q9{P:Program}{w:World}{k:Key}{u:Value}(r:RelV (kV k) u):(pA P w).is k u=true:=by
 cases k with
 | inl i=>show PF t (Ch (uA AYA) r);subst e;exact zx4 P w i t
 | inr x=>show PF t (Ch (uA AYD) r);subst e;exact znz P w x t
theorem zvp{P:Program}{w:World}:KG ks De us Τ (Vals (ks.map kV) us) (ItemsAre ly ks us)
 | [],_,r=>by rw[List.map_nil] at r;cases r;exact B_
 | AAb,_,r=>by
  rw[List.map_cons] at r;cases r with
  | cons h t=>exact Nl (Q9 h) (zvp t)
abbrev KT(H:Hp):BI o_ ABH:=Paired fun p q=>BCc
theorem KT.val{H:Hp}{kvs:o_}{xs:ABH}(r:AHh)(k:De):lX (nj kvs k) ((atKey xs k).map (·.2)):=by
 induction r with
 | nil=>exact True.intro
 | @cons p q ps qs h t ih=>
  obtain⟨h1,_,h2⟩:=h;show AOl
  ·have e' :q.1=k:=h1.symm.trans e;show BDM atKey atKey
   rw[ztj e,b];exact h2
  ·have e' :¬q.1=k:=Ξ A0X;have b:atKey (q::qs) k=atKey qs k:=ATN atKey e'
   rw[zrg e,b];exact ih
theorem KT.repl{H:Hp}{kvs:o_}{xs:ABH}(r:AHh)(k:De){y:V}{u:Value}(ry:KL):
  KT H A1T (xs.map (putAt k u)):=by
 induction r with
 | nil=>exact B_
 | @cons p q ps qs h t ih=>
  show AXT;refine .cons ?_ ih;show APH;unfold putAt;show AOl
  ·rw[A_ e,A0O];exact⟨h1,h2,ry⟩
  ·rw[AK e,A4v];exact⟨h1,h2,h3⟩
theorem KT.put{H:Hp}{kvs:o_}{xs:ABH}(r:AHh)(k:De){b:Addr}{y:V}{u:Value}(hb:Ahw)(ry:KL):
  KT H BAM (storedH xs k b u):=by
 have e:AXy=A3o:=by
  rw[zy9,(r.val k).lA,Option.isSome_map]
 unfold putK storedH;rw[e];show FB (A3o=true)
 ·rw[D',D'];exact r.repl k ry
 ·rw[D_,D_];exact Paired.snoc r ⟨rfl,hb,ry⟩
theorem KT.keeps{H H' :Hp}{kvs:o_}{xs:ABH}(r:AHh)(ht:∀b ys,WZ AFa ->AJN AFa):KT H' kvs xs:=
 Paired.mapP r (Fm z A7J)
section
variable{P:Program}{w:World}{H:Hp}{h:Heap}{a:Addr}
theorem yit{u:HO}(ok:P3)(e:Rd H a u):qE u:=e.ok ok
theorem JC{kvs:ei}(ok:P3)(e:AV3):Aqw:=
 show qE Kt from yit ok e
theorem Zv{kvs:ei}(ok:P3)(e:AFf):Aqw:=JC ok (D1 e)
theorem Ra{ks:De}(ok:P3)(e:IM AuS):(tupleKind ly).is h ks a:=by
 obtain⟨_,its,r,o,h1,h2,n,h3⟩:=(Ch (qE AuS) (ok a _ e));exact⟨o,its.toArray,n,h1,h2,h3,A0 (zvp r)⟩
theorem Ny{kvs:o_}(ok:P3)(e:Aim):ARn (∃xs,AHh/\h.DictOfH (tupleKind ly) a xs):=by
 obtain⟨z,y,xs,r,o,es,ep,h1,h2,h3,h4,h5⟩:=(Ch (qE AJ0) (yit ok e));refine⟨z,y,xs,r,o,es,ep,h1,h2,h3,h4,AlZ,h5⟩;have all:KG l o_ m ABH (KT H l m) (∀x∈m,(tupleKind ly).is h x.1 x.2.1):=by
  intro l m q;induction q with
  | nil=>intro x hx;exact nomatch hx
  | @cons p q ps qs hq t ih=>
   intro x hx;show AZ5
   ·show N9 (Ra ok (BE hq.1 hq.2.1))
   ·exact ih x hx
 exact all r x hx
theorem ymb{kvs:o_}(ok:P3)(e:IM AJ0):ARn (∃xs,AHh/\h.DictOfH (tupleKind ly) a xs):=Ny ok (D1 e)
#where
def pU(H:Hp)(a:Addr)(y:V)(r:Mm):Prop:=
 (∃kvs k,AV3/\y=kV k/\r=nj kvs k)\/∃kvs k b,Aim/\y= İ/\Ahw/\r=nj kvs k
def yG(H:Hp)(a:Addr)(y v:V)(H' :Hp):Prop:=
 (∃kvs k,AFf/\y=kV k/\Aii/\H' =upd H a (.dK AqZ))\/
 ∃kvs k b,IM AJ0/\y= İ/\Ahw/\Aii/\H' =upd H a (.dT AqZ)
theorem pU.k{H:Hp}{a:Addr}{kvs:ei}{k:Key}(e:AFf):pU H a (kV k) (nj kvs k):= .inl (IL kvs k (.inl e) rfl)
theorem yG.k{H:Hp}{a:Addr}{kvs:ei}{k:Key}{v:V}(e:AFf)(hl:Aii):yG H a (kV k) v (GV a (.dK AqZ)):= .inl ⟨kvs,k,e,rfl,hl,rfl⟩
section
variable{X:Cx}{pins:dD}{σ:St}{H:Hp}{s:Shared}{a:Addr}{y v:V}{u r:Value}{o:Mm}{A:Around}{E:dh}
theorem Inv.big(OF):sysModules<s.heap.objs.size:=by
 show eR h mainGlobals (I.mod.glob.keeps I.bk).lt;exact Nat.lt_trans Δ h
theorem z59{Q:dh}(hu:AMM)(I:Ι)(g:pU H a y kL)(ry:KL)(h:A2s (RelV v w')):
  tF (getItem B9 u):=by
 show Ab4
 ·subst ey;show AOI;obtain⟨w',hw,tK⟩:=PH (Ad6 (valueAt vs k)) l (rel.val k)
  exact wpAny_getItem_of AOb dd.mapOf hw (h w' _ ý tK)
 ·subst ey;show APR;show AYQ;obtain⟨w',hw,tK⟩:=PH (Ad6 ((atKey xs k).map (·.2))) l (rel.val k)
  show BD p hp hp2 zG.mp hw;refine wpAny_getItem_heap AVp Aar dd hp ?_;rw[hp2];exact h w' _ ý tK
theorem aaY{Q:dh}(hu:AMM)(I:Ι)(g:AEO H)(ry:KL)(h:∀s',AJQ ->Q (dS o.isSome) s'):
  A_J .In:=by
 show Ab4
 ·subst ey;show AOI;refine wpAny_in_of AOb hd dd.mapOf ?_;rw[<- AYf,<- l];exact AVe
 ·subst ey;show APR;show AYQ;refine wpAny_in_heap AVp Aar hd dd ?_;have q:=AYf;rw[Option.isSome_map] at q;rw[<- q,<- l];exact AVe
theorem yfd{Q:dh}(hu:AMM)(I:Ι)(g:AEO H)(ry:KL)(h:∀s',AJQ ->Q (dS (! o.isSome)) s'):
  A_J Ō:=by
 show Ab4
 ·subst ey;show AOI;refine wpAny_notIn_of AOb hd dd.mapOf ?_;rw[<- AYf,<- l];exact AVe
 ·subst ey;show APR;show AYQ;refine wpAny_notIn_heap AVp Aar hd dd ?_;have q:=AYf;rw[Option.isSome_map] at q;rw[<- q,<- l];exact AVe
theorem z7x{h' :Heap}{t' :Nat}{ob:HO}(I:Ι)(mu:T6 (H a))(hs:AZr h')(he:A7H)(new:ABk (GV a ob) h' a ob):
  OY a ob ADN:=
 AOJ a a mu NR (cK q z (AQI hb z)) he new
theorem yk5{P:Program}{w:World}{H' :Hp}{h' :Heap}{kvs:ei}{vs:Ai1}(z:AIz)(hd:AQe)(rel:AJG)(dd:h'.DictOf ly a vs):
  bB P w H' h' a Kt:=⟨z,hd,vs,rel,dd⟩
theorem z22{H' :Hp}{Q:AL9}(hu:AMM)(I:Ι)(g:yG H a y v H')(ry:KL)(rv:RelV v r)(h:ANq AAT):
  tF (setItem B9 u r):=by
 rcases g with ⟨kvs,k,e,ey,l,eH⟩ | ⟨kvs,k,b,e,ey,eb,l,eH⟩
 ·subst ey eH;obtain⟨z,hd,vs,rel,dd⟩:=cy Zv;show Aig hz (BE rel.length z)
  have hl:BM Ar0:=HR (zo4 kvs k v)
  refine wpAny_setItem_pairs (hsz:=hz) AOb dd A5j;have he:A7H:=let ⟨q,_,_,hq,_⟩:=Lh;⟨q,hq⟩;exact z7x I AXf hs he (yk5 hl hd (rel.put k rv) Lh)
 ·subst ey eH;show APR;obtain⟨z,hd,xs,rel,dd⟩:=cy ymb;have hz:Tl:=BE (Paired.length rel) z
  have hl:BM Ar0:=HR (zo4 kvs k v)
  refine wpAny_setItem_heap (hsz:=hz) AVp Aar dd A5j;obtain⟨q,es,ep,hq,h2,h3,h4,_,h5⟩:=Lh;refine z7x I AXf hs ⟨q,hq⟩ ⟨hl,hd,_,(rel.put k eb rv).keeps (Κ c ys ec),q,es,ep,hq,h2,h3,h4,h5⟩
  rw[bG (ymj ec e (Hb (nomatch z)))];exact ec
#where
section
variable{X:Cx}{pins:dD}{σ:St}{H:Hp}{s:Shared}{a:Addr}{kvs:ei}{k:Key}{u:Value}{A:Around}{E:dh}
theorem ylv{Q:dh}(I:Ι)(e:AV3)(h:∀t s',AJQ ->Q (.int kvs.length t) s'):tF (AKX "len" LP):=by
 show AOI;refine call_len_dict hd dd (by rw[<- rel.length];rw[sizeLine_eq] at z;omega) ?_
 rw[<- rel.length];exact h _ _ ý
#where
def J7(i:Expr):Prop:=∀ov iv,Aph (subscripted i false ov iv) [ov,iv] ov iv
theorem yey{prog:Program}{w:World}{A:Around}{E:dh}{s:Shared}{env:Env}{value slice:Expr}{pos:Pos}{T id:String}{Q:dh}
  (hl:A'a) (hs:J7 slice)
  (h:AaD value o (AFy (tw slice) (NS s₂ (s₂.TypeIs o T/\þ (getItem o i) s₂)))):
  Fu (tw (AT8 value slice)):=by
 show ALp Subscript_ h (fun o s₁ h₁=>wpAny_mono h₁ (Κ i s₂ h₂) VZ) VZ;obtain⟨hT,h₂⟩:=h₂;show KO;rw[getitemInPython_of_ne hT.not_modules];show MC wpAny_specialOf hT hl;have fin:wpAny DV A (subscripted slice false o i) (WS s₃ (þ (letTemporaryGo value o r>>=C8 (pure r)) s₃)) E s₂:=Ο (hs o i) (wpAny_operating (wpAny_mono h₂ (BLs r wpAny_letTemporaryGo) VZ))
 first
  | exact z7 (z6 fin)
  | exact z6 (z7 (z6 fin))
  | exact z6 fin
theorem zw8{X:Cx}{pins:dD}{σ:St}{H:Hp}{s:Shared}{a:Addr}{y:V}{o:Mm}(I:Ι)(g:AEO H):AlV B9 :=by
 rcases g with ⟨kvs,k,e,_,_⟩ | ⟨kvs,k,b,e,_,_,_⟩
 ·obtain⟨_,_,vs,_,dd⟩:=cy JC;exact dd.typeIs
 ·obtain⟨_,_,xs,_,dd⟩:=cy Ny;exact dd.typeIs
def UJ(td ty:TE):TE:=IU td x (eA ty y (ASd v (pU H2 a y kL) (Q v H2)))
def aaZ(ty td:TE):TE:=BGb o.isSome
def yfr(ty td:TE):TE:=BGb (! o.isSome)
def UL(td ty tv:TE):TS:=ADf tv v (eA td x (ty σ H2 fun y H3=>(ASd H4 (yG H3 a y v H4) (AGx H4))))
section
variable{X:Cx}{o i e value:Expr}{pos pos' tpos:Pos}{td ty tv:TE}
theorem z26(hu:SB)(ho:ASf)(hi:Aev)(hs:J7 i):d6 Subscript o i (UJ td ty):=by
 show EQ;refine yey PySem.F.slot_dict_getitem.lookup hs (é AUj u);show AUx x rx;show iX (ACk hi) iv hz2;obtain⟨y,H2,I2,ry,a,v,ex,g,q2⟩:=hz2;subst ex;show af;exact⟨zw8 I2 g,z59 hu I2 g ry fun w' s3 I3 tK =>⟨v,H2,I3,tK,q2⟩⟩
theorem yjg(BHw):PC X .In i o (aaZ ty td):=by
 show EQ;show Ű AeM iv hz1;show AUx y ry;show iX Ai' u hz2;obtain⟨x,H2,I2,rx,a,ov,ex,g,q2⟩:=hz2;subst ex;show af;exact aaY hu I2 g ry (AJg (IL (.bl ov.isSome) H2 I3 q2))
theorem zu5(BHw):PC X Ō i o (yfr ty td):=by
 show EQ;show Ű AeM iv hz1;show AUx y ry;show iX Ai' u hz2;obtain⟨x,H2,I2,rx,a,ov,ex,g,q2⟩:=hz2;subst ex;show af;exact yfd hu I2 g ry (AJg (IL (.bl (! ov.isSome)) H2 I3 q2))
theorem Zw(hu:SB)(ho:ASf)(hi:Aev)(hv:Ae6)(hs:ANL o i):
  ADy (ACu o i) value (UL td ty tv):=by
 show Po;refine wpAny_Assign_Subscript (é AeL r) hs;show AUx v rv;show iX Ai' u hz2;obtain⟨x,H2,I2,rx,q2⟩:=hz2;show sd (AsH hi) iv s3 hz3;obtain⟨y,H3,I3,ry,a,H4,ex,g,q3⟩:=hz3;subst ex;show af;exact z22 hu I3 g ry rv fun s4 I4=>⟨σ,H4,I4,q3⟩
#where
theorem ybk{P:Program}{w:World}{H:Hp}(h:Heap)(hb:sysModules<h.objs.size):bB P w H (h.push T1) h.objs.size Ag_:=
 ⟨FC,beq_eq_false_iff_ne.mpr (Ne.symm (zL hb)),[],B_,Heap.DictOf.new h⟩
def Nz:TE:=AZP (AsD Ag_)
section
variable{X:Cx}{pos:Pos}
theorem yb7:d6 Dict [] [] Nz:=BHf (wpAny_Dict_empty (GE X2 (DZ I.laid a s.heap.objs.size o (.dK []) t' s.toks (Fm q ACJ) D4 (ybk s.heap I.big)) (h _ ĺ)))
#where
structure M1 (X:Cx) (o:Expr) (m:Str) (apos:Pos) (e:Expr) (cpos:Pos):Prop where
 base:Aqo m
 few:Op (AWJ [e] all x x.1&&Abk) (Abo ([e]:A5).length)
 line:k_
 trees:A7g [e] (AOn e)
structure M2 (X:Cx) (o:Expr) (m:Str) (apos:Pos) (e f:Expr) (cpos:Pos):Prop where
 base:Aqo m
 few:Op (AWJ [e,f] all x x.1&&Abk) (Abo ([e,f]:A5).length)
 line:k_
 trees:A7g [e,f] (Ar4 e f)
def IsD(H:Hp)(a:Addr):Prop:=(∃kvs,AV3)\/∃kvs,Aim
theorem Zx{X:Cx}{pins:dD}{σ:St}{H:Hp}{s:Shared}{a:Addr}(I:Ι)(d:IsD H a):
  AlV B9 /\ (E5 (Value.ref a= İ) (∃ob,Ac6/\ob.dict=none))/\ AQe:=by
 rcases d with ⟨kvs,e⟩ | ⟨kvs,e⟩
 ·obtain⟨_,hd,vs,_,dd⟩:=cy JC;show CF dd.typeIs AU5 hd;cases q;obtain⟨ob,_,_,h1,h2,_⟩:=dd;exact A0h
 ·obtain⟨_,hd,xs,_,dd⟩:=cy Ny;show CF dd.typeIs AU5 hd;cases q;obtain⟨ob,_,_,h1,h2,_⟩:=dd;exact A0h
section
variable{X:Cx}{pins:dD}{σ:St}{H:Hp}{s:Shared}{a:Addr}{y d:V}{u r:Value}{o:Mm}{A:Around}{E:dh}
theorem ykn{Q:dh}(hu:AMM)(I:Ι)(g:AEO H)(ry:KL)(rd:RelV d r)(h:A2s (RelV (o.getD d) w')):
  tF (AKX "dict.get" [AI,u,r]):=by
 show Ab4
 ·subst ey;show AOI;refine call_meetsIn PySem.F.slot_dict_get dd.typeIs PySem.F.entry_dict_get Aws (meets_dict_get_default ACh a AOb hd r) (B5 dd.mapOf (h _ _ ý ?_));rw[l];exact A'L
 ·subst ey;show APR;show AYQ;refine call_meetsIn PySem.F.slot_dict_get dd.typeIs PySem.F.entry_dict_get Aws (meetsH_dict_get_default (tupleKind (pA X.prog X.w)) a b hd r) ⟨tupleKind_room_in1 hu,k,xs,Ra I.hok eb,dd,h _ _ ý ?_⟩;rw[l];exact A'L
#where
def NK(td ty tx:TE):TE:=IU td x (∃a,x= AI/\IsD H1 a/\eA ty y (tx σ H2 fun z H3=>∃o,AEO H3/\Q (o.getD z) H3))
section
variable{X:Cx}{o e f:Expr}{apos cpos:Pos}{td ty tx:TE}
theorem z9a(hu:SB)(ho:ASf)(he:PE X e ty)(hf:PE X f tx)(m:BI_):PE X (jv (jI o "get") [e,f]) (NK td ty tx):=by
 show EQ;refine wpAny_Call_method m.base m.few m.line PySem.F.plainAttrs_dict PySem.F.slot_dict_get PySem.F.type_dict_get (NJ AUj u aa0);obtain⟨x,H1,I1,rx,a,ex,d,q1⟩:=aa0;subst ex;show af;obtain⟨t1,t2,_⟩:=Zx I1 d;show BA t1 t2;rw[m.trees];refine Calls.callWith_builtin rfl (Calls.evalArgs_plain (Calls.spliced_cons (bW (ACk he) fun iv s2 (ApO ry)=>
  Calls.spliced_cons (bW (AsH hf) fun fv s3 ⟨z,H3,I3,rz,ov,g,q3⟩=>Calls.spliced_nil ?_))))
 exact ykn hu I3 g ry rz fun w' s4 I4 tK =>⟨_,H3,I4,tK,q3⟩
#where
#print L2
namespace Att
open PySem PySem.W PySem.Calls PyProof.Rows
theorem zpc{P:Params}{h:Heap}:∀(ns:An) (vs:Τ),WellAll P h vs (ns.map WData.int) ->AN2:=by
 intro ns;induction ns with
 | nil=>
  intro vs w;rw[List.map_nil] at w;cases w;exact B_
 | cons n ns ih=>
  intro vs w;rw[List.map_cons] at w;cases w with
  | cons a b=>
   cases a;exact Nl _ _ (ih _ b)
theorem z5l{l:OpenLaw}{n:Nat}(hn:Am2){P:Params}{h:Heap}{args:List WData}{vals:Τ}
  (hpre:l.row.toRowW.claim.pre args=true) (hwl:WellAll P h vals args):
  ∃a vs ns,vals= [ACT]/\args= [WData.list (ns.map WData.int)]/\TC ASP/\AN2/\AhS:=by
 have hsh:WShape.hasAll [] args [.list T_]=true:=(pre_splitW hpre).1;have hc:l.pre.holds [] {args:=args}=true:=(pre_splitW hpre).2;show Cb d r h1 h2 (hasAllW_cons hsh);show L' (hasAllW_nil h2);show BD xs rfl h3 hasW_list h1;show B' ns rfl items_int h3;have hlen:ns.length<=n:=by
  have h4:(WTm.not (.lt (.lit (DE D6)) (.len (.arg 0)))).holds [] {args:= [.list ACv]}=true:=by
   have h4:=(holds_andW hc).1;rw[hn] at h4;exact h4
  have h5:=condW_of h4 (w_not (w_lt w_lit (w_len_list (w_arg rfl))));show ACQ h5;refine Nat.le_of_not_lt (EM q);have q' :D6< Cl ns.length:=Α
  first
   | (rw[decide_eq_true q'] at h5;exact NH h5 Δ)
   | (simp at h5;omega)
 cases hwl with
 | cons w1 w2=>
  cases w2;cases w1 with
  | list ho hall=>exact⟨_,_,ns,rfl,rfl,ho,zpc ns _ hall,hlen⟩
theorem z3b(l:OpenLaw)(args:List WData):l.row.toRowW.claim.post args AJv args=true:=
 postW_of (r:=l.row.toRowW) (X:=Ayu)
  (show WShape.has [] AJv .bool=true by first | rfl | decide | simp [WShape.has,WShape.arms,WShape.armsAll])
  (Ch ((WTm.eq .res (.lit AJv)).value [] {args:=args,res:=some AJv,after:=args}=some (dS Ayu)) (w_eq_bool (w_res rfl) w_lit)) rfl
theorem yI{l:OpenLaw}{n:Nat}{q:Program}{loose:Β}{XP:A3P}{YP:Awj}{d:DefRec}
  (hn:Am2) (hdf:At4)
  (call:∀(w:World) (s₀ s₁:Shared) (mg mb:B7) (fa:Addr) (o:Obj) (pm cd doc:Value) (a:Addr) (vs:Τ) (ns:An),
   Ground q loose [] XP w s₀ mg mb s₁.heap ->YP w s₁.heap ->
   Φ (s₁.heap.get? fa=some o) (o.data= .func (docDef d.name d.params d.body d.scope pm cd doc)) (s₁.heap.CodeRec cd d.name) Awy (Φ Ayr AN2 AhS AvC (ĸ (model l.prog w) callerA (AG fa) AR' BL6 s₁))):
  A6k:=by
 intro w s₀ s₁ mg mb G Y fa o pm cd doc dV kV ho hd hcd hD hmg hg args vals as hpre hlay hrd hwl hlo;show Db (dV= Ω) (Dflts.none hD hdf);show Db (kV= Ω) (Dflts.noKw hD);obtain⟨a,vs,ns,rfl,rfl,hobj,hints,hlen⟩:=z5l hn hpre hwl;refine enter_call (codeAny_mono (call w s₀ s₁ mg mb fa o pm cd doc a vs ns G Y ho (fd_plain hd) hcd hmg hobj hints hlen hg) ANR);obtain⟨rfl,h2,h3,h4⟩:=hq;exact⟨.inl ⟨AKQ,AKQ,[],rfl,AEx,AKQ,z3b l _,C8 ⟨List.Pairwise.nil,GT hm (nomatch hm)⟩⟩,h2,h3,h4⟩
section
variable{prog:Program}{w:World}{A:Around}{E:dh}{s:Shared}{K:Frag}
#where
#print Att
namespace L2
open PySem PySem.Spec PyProof.Rows
theorem UW:KG vs Τ ns An AN2 (Vals (ns.map V.int) vs)
 | _,_,B_=> B_
 | _,_,.cons n t h=> Nl ft (UW h)
def Only(H:Hp):Prop:=∀b,FX\/∃o xs,WZ (.frz o ć)
theorem ycl(AEd){mg mb:B7}{CX:JB}{k:Nat}{fa a:Addr}{fd:FuncData}{x:Str}{sp:Sp}{s₁:Shared}{vs:Τ}{ns:An}
  (KX:AiA) (hns:AQw s₁.heap.Ns) (hb:s₁.heap.Ns builtinsNs mb) (hbb:BDJ) (hlim:s₁.heap.NoLimit) (hg:AvC)
  (ha:Ayr) (hi:AN2) (hl:BMm) (hr:AtS)
  (F:BAo (K0 fG CX k fa fd [x] sp)) (hbind:A5x)
  (hsp:∀H:Hp,Only H ->Aaf ->sp LP H AnY mB)
  (hCX:∀H e s',CX [] H s₁ (mB) e s' ->False):
  BHV:=by
 have rv:=UW hi;have lenV:=hi.length
 
 have core:∀H:Hp,Only H ->EC Aaf (nC P w H s₁.heap) (E5 (H b≠none) (b=a)) (H a≠none ->Fr K.lookup) BHV:=by
  intro H hO hS hok hA hK;have Dd:Tk b Addr o Obj BMs FX (FH (xJ s₁.heap H).get?):=fun e n=>yac e n;have Uv:∀{b:Addr} {o:Obj} {es:ALs} {ep:Nat},BMs ->AjT ->FX:=fun{b o es ep} e d=>by
   cases q:H b with
   | none=>rfl
   | some u=>
    have e' :b=a:=Ayx
    subst e';rw[ha] at e;cases e;have d' :Data.seq vs.toArray _=Data.dict es ep:=d;cases d'
  have Zy:KG b Addr m B7 (s₁.heap.Ns b m) ((xJ s₁.heap H).Ns b m):=fun{b m} U0=>by obtain⟨o,es,ep,e,d,r⟩:=U0;exact⟨o,es,ep,Dd e (Uv e d),d,r⟩
  have hKb:K.In (xJ s₁.heap H):=GW (Dd (W_ KX) (by
   cases q:H b with
   | none=>rfl
   | some u=>
    have e' :b=a:=Ayx
    subst e';rw[hK (AL6 q)] at e;cases e))
  have hM:Mod K mg Azr:=⟨hKb,Zy hns,⟨mb,Zy hb,hbb⟩,let ⟨mc,h1,h2⟩:=hlim;⟨mc,Zy h1,h2⟩⟩;have e0:xK P w K mg Azr callerA [] s₁ H:=⟨rfl,hM,GW (yh8 e),Nat.le_of_eq (z42 _ _),trivial,FM (Aoe hb),hok,.of_eq hg⟩
  show ATv ((F _ hKb (Zy hns)).run callerA [] s₁ H AR' LP LP _ _ hr e0 (hbind s₁ B9) (AM0 rfl) (hsp H hO hS)) (AJE h);cases r with
  | error e=>exact(hCX H e s' h).elim
  | ok fl=>
   cases fl with
   | next=>show ANn
   | brk=>show ANn
   | cont=>show ANn
   | ret u=>
    obtain⟨v,H',os,bare,un,hok',r',q⟩:=h;have q' :v= ADG:=q;subst q';show Db (u=Value.bool true) r';show CU rfl (OldK.of_keep ANC) os bare;cases q:H b with
    | none=>exact un.keep b o e q (by intro z;exact Aoe z) Ψ
    | some u=>
     rcases hO b with z | ⟨ob,xs,z⟩
     ·rw[q] at z;cases z
     ·have z2:=un.j6 b ob _ z;obtain⟨e1,_⟩:=hok b _ z;obtain⟨e2,_⟩:=hok' b _ z2;rw[e] at e1;cases e1;exact e2
 cases hk:K.lookup a with
 | some o=>
  
  have e:=KX a o hk;rw[ha] at e;cases e;refine core AgR (AV AE_) (CY ⟨_,vs.toArray,_,hk,rfl,rfl,rfl,XB List.size_toArray lenV hl,A0 rv⟩) (FF u z (by have z' :(none:GL HO)=some u:=z;cases z')) (fun b z=>(NH rfl z)) (Ξ (NH rfl z))
 | none=>
  refine core (AQa (some (.frz ASP (CO AdD))) none) (j' ?_) (D1 (CY ⟨ASP,B4⟩)) (IA u z) (fun b z=> ?_) (C8 hk)
  ·show N_
   ·show DJ (B5 _ ATq)
   ·show B3 (if_neg hb)
  ·show N_
   ·have z' :=(if_pos hb).symm.trans z;cases z';subst hb;exact⟨ha,AgV hl,vs,_,rv,ha⟩
   ·have z' :=(if_neg hb).symm.trans z;cases z'
  ·show N_
   ·exact hb
   ·exact oB if_neg hb z
abbrev E0:XK:=mB
structure dM (YN) (x qual:Str) (st:Stmt) (f:Addr) (fd:FuncData):Prop where
 ex:∃(oc:Value) (od:IE) (kV doc pm:Value) (an:IE) (cdv ct:Value) (osl:vz),
  BIt Ω
 kp:AKh
section
variable{P:Program}{w:World}{K:W.Frag}{mg:B7}{base:Heap}
theorem dM.binds(AaE){st:Stmt}{f:Addr}{fd:FuncData}{ps:Β}(F:Â)
  (h:BJX us Τ (us.length=ps.length ->A5a (Afi (BLw Ω)))):ę:=by
 show Acd F.ex;exact .all (h kV doc pm an cdv ct)
#where
def Same(H H' :Hp):Prop:=xw H H'
theorem Same.refl(H:Hp):gu H:=Ait
theorem Same.trans{H H1 H2:Hp}(a:Akz)(b:Same H1 H2):Same H H2:=fun c o h=>b c o (a c o h)
theorem Same.free{H H' :Hp}(e:AGA){l:Addr}(h:H' l=Option.none):H l=Option.none:=by
 cases q:H l with
 | none=>rfl
 | some o=>
  rw[e l o q] at h;cases h
theorem Same.seq{K:W.Frag}{H H' :Hp}{a:Addr}{xs:Ζ}(e:AGA)(h:mE):lU K H' a xs:=by
 show ATI h h h h
 ·show B3 (D1 (e _ _ h))
 ·show B3 (CY (N3 (e _ _ h)))
 ·show DJ h
#print L2
namespace L3
open PySem PySem.Spec PyProof.Rows L2
abbrev St:=L2.St
inductive D where
 | non | bl (b:Bool) | int (i:Int) | str (x:Str) | tup (xs:Ε) | lst (xs:Ε) | exc (C:Addr) | ptr (a:Addr)
 | obj (C:Addr) (fs:Β) (xs:Ε) | dic (ks:De) (xs:Ε) | qJ (ks:WB Key) (xs:Ε) | dik (ks:De) (xs:Ε)
def gW(a C:Addr):HO:= AX_ (∃o vs,pV/\o.cls= ET/\AOF/\ (Ana o.dict))
def Bu(F:Hp)(a:Addr):Prop:=∃o C,Ai2
inductive IsT (BHR):Prop
 | mk:A5Z (vO K F a vs) (IsT K F R v)
inductive U3 (BHR):Prop
 | mk:A5Z Ae1 (U3 K F R v)
inductive U4 (F:Hp) (C:Addr) (fs:Β) (R:AJo) (v:V):Prop
 | mk:∀a dx vs,Φ eI (ĕ Ah7) AMS (R vs) (U4 F C fs R v)
inductive U5 (Axx):Prop
 | mk:BIN (ĕ kR) U5
inductive U6 (F:Hp) (ks:WB Key) (R:AJo) (v:V):Prop
 | mk:BIN (Rd F a (.dT r_)) U6
inductive U7 (Axx):Prop
 | mk:∀a o vs,Φ eI (ĕ AeO) eJ (R vs) (U7 F ks R v)
inductive IsC (P:C7 V) (R:AJo) (vs:Ζ):Prop
 | mk:∀v r,vs=v::r ->P v ->R r ->IsC P R vs
mutual
def Rep(K:W.Frag)(F:Hp):BI D V
 | AF,v=>v= AF
 | Z3,v=>v= Z3
 | Co,v=>v= Co
 | hG,v=>v= hG
 | Ť,v=>IsT K F ABT v
 | ATy,v=>U3 K F ABT v
 | .exc C,v=>∃a o,v= AI/\Ai2
 | .ptr a,v=>eI
 | AVN,v=>U4 F C fs ABT v
 | .dic ks ds,v=>U5 F ks ABT v
 | .qJ ks ds,v=>U6 F ks ABT v
 | .dik ks ds,v=>U7 F ks ABT v
def aM(K:W.Frag)(F:Hp):BI Ε Ζ
 | [],vs=>vs= []
 | SV,vs=>IsC (Rep K F d) ABT vs
end
theorem sV{K:W.Frag}{H H' :Hp}{a:Addr}{xs:Ζ}(e:AGA)(h:x0):vO K H' a xs:=by
 show ATI h h h h
 ·show B3 (D1 (e _ _ h))
 ·show B3 (CY (N3 (e _ _ h)))
 ·show DJ h
theorem JD{F H:Hp}{a:Addr}{u:HO}(s:g_)(r:Rd F a u):Rd H a u:=by
 rcases r with r | ⟨o,r⟩
 ·show B3 (s _ _ r)
 ·show DJ (N3 (s _ _ r))
mutual
theorem ztr(BGj):∀(d:D) (v:V),LO ->Y'
 | AF,_,h=>IG
 | XE,_,h=>IG
 | UE,_,h=>IG
 | U2,_,h=>IG
 | Ť,_,h=>by
  show AaO;exact⟨a,vs,h0,sV e h1,ARF h2⟩
 | ATy,_,h=>by
  show AaO;exact⟨a,vs,h0,e.seq h1,ARF h2⟩
 | Ţ,_,h=>IG
 | .exc C,_,h=>by
  show QP a o h0 h1;exact⟨a,o,h0,AU'⟩
 | AVN,_,h=>by
  show Ash;exact⟨a,dx,vs,h0,AU',h3,AXM⟩
 | .dic ks ds,_,h=>by
  obtain⟨a,vs,h0,h1,h3,h4⟩:=h;exact⟨a,vs,h0,AU',h3,AXM⟩
 | .qJ ks ds,_,h=>by
  obtain⟨a,vs,h0,h1,h3,h4⟩:=h;exact⟨a,vs,h0,JD e h1,h3,AXM⟩
 | .dik ks ds,_,h=>by
  obtain⟨a,o,vs,h0,h1,h3,h4⟩:=h;exact⟨a,o,vs,h0,AU',h3,AXM⟩
theorem Li(BGj):∀(ds:Ε) (vs:Ζ),F_ ->ĥ
 | [],_,h=>IG
 | SV,_,h=>by
  obtain⟨v,r,h0,h1,h2⟩:=h;exact⟨v,r,h0,ztr e d v h1,Li e ds r h2⟩
end
theorem Rep.up(BAp)(h:LO)(e:Ct):Y':=ztr e d v h
theorem aM.up{K:W.Frag}{F F' :Hp}{ds:Ε}{vs:Ζ}(h:F_)(e:Ct):ĥ:=ARF h
theorem jO(Kb):ArP (Ì vs.length)
 | [],_,h=>by show Bi aM;subst h;rfl
 | BY,_,h=>by
  show Bi aM;obtain⟨v,r,rfl,_,h2⟩:=h;simp only [List.length_cons,jO h2]
theorem wA(Kb):∀{ds:Ε} {vs:Ζ} {i:Nat} {d:D},F_ ->Am' ->AMt AGB
 | [],_,_,_,_,e=>AMe
 | BY,_,0,_,h,e=>by
  show AKF v r h1 h;simp at e;subst e;exact xl h1
 | BY,_,BQ,d,h,e=>by
  obtain⟨v,r,rfl,_,h2⟩:=h;show A4 u e1 e2 (n_ wA) h2 ŝ
  exact A2Q
theorem zv2(Kb):∀{ds:Ε} {vs:Ζ} {i:Nat} {v:V},F_ ->AGB ->∃d,Am'/\LO
 | [],_,_,_,h,e=>by subst h;simp at e
 | d::_,_,0,_,h,e=>by
  show AKF v r h1 h;simp at e;subst e;exact NL d h1
 | BY,_,BQ,v,h,e=>by
  obtain⟨v',r,rfl,_,h2⟩:=h;show A4 u e1 e2 (n_ zv2) h2 ŝ
  exact A2Q
theorem Lj(Kb):∀{ds es:Ε} {vs us:Ζ},F_ ->Alf ->JS (ds++es) (vs++us)
 | [],_,_,_,h,k=>by subst h;exact k
 | BY,_,_,_,h,k=>by
  show AYs v;exact aE v h1 (Lj h2 k)
theorem J8(BBS):JS [d] [v]:=CC (IB v [] h LJ)
theorem qK(Kb){d:D}{v:V}{ds:Ε}{vs:Ζ}(h:LO)(k:F_):JS AU_ (v::vs):=CC (No v h k)
theorem zn1(Kb):BIW ds.take vs.take
 | _,_,0,_=>BH aM
 | [],_,_+1,h=>AoD
 | BY,_,n+1,h=>by
  show AYs u;exact qK h1 (zn1 n h2)
theorem zn4(Kb):BIW ds.drop vs.drop
 | _,_,0,h=>h
 | [],_,_+1,h=>AoD
 | BY,_,n+1,h=>by
  show AYs u;exact zn4 n h2
def vU(H:Hp)(b:Addr)(o:HO):Prop:=FX\/ (∃xs,o= SA)/\FH H
theorem vU.back(s:Akz)(h:vU H1 b o):vU H b o:=by
 show ŏ h h e h
 ·show B3 (s.free h)
 ·cases q:H b with
  | none=>show B3 q
  | some u=>
   have:=s _ _ q;show AJ h;show DC;exact .inr (Ĭ ⟨xs,e⟩)
structure Gr (F H F' H' :Hp):Prop where
 f:Ct
 g:á F'
 h:AGA
 n:Oy (FH F') kF (vU H b o)
theorem Gr.refl(h:g_):Gr F H F H:=qi h c0
theorem Gr.trans(a:Gr F H F1 H1)(b:Gr F1 H1 F2 H2):Gr F H F2 H2:=by
 show CU (a.f.trans b.f) b.g (a.h.trans b.h) (EX c o e n);cases q:F1 c with
 | none=>exact vU.back a.h (b.n c o e q)
 | some u=>show AxO b.f (a.n c _ q n)
theorem Gr.laid(h:g_)(hp:HU p):Gr F H (L2.upd F p o) (L2.upd H p o):=by
 show CU ER ER ER (Ź e n)
 show JE (ADr h hp) e
 ·show cf p
  ·subst hb;rw[gb] at e⊢;exact e
  ·rw[X9] at e⊢;exact Pe h
 ·show xC hp e
 ·show cf p
  ·subst hb;exact .inl hp
  ·show AqO
inductive T where
 | leaf (d:D) | lst (ts:E9) | dic (ks:AgH) (ts:E9) | qJ (ks:WB L2.Key) (ts:E9) | ob (A6O) | kt (k:AgH)
def nJ:Key ->D | AEz=> Co | lI=> hG
def DX(fs:Β):Bool:= !(Μ (fs= [("points" :Str)]))
inductive TrL (H:Hp) (R:AN') (v:V) (as:AR):Prop
 | mk:∀a vs bs,Φ eI (as=ø) AFg (R vs bs) (TrL H R v as)
inductive TrK (H:Hp) (ks:AgH) (R:AN') (v:V) (as:AR):Prop
 | mk:BGe (IM kR) (TrK H ks R v as)
inductive TrT (H:Hp) (ks:WB L2.Key) (R:AN') (v:V) (as:AR):Prop
 | mk:BGe (IM (.dT r_)) (TrT H ks R v as)
inductive TrO (H:Hp) (C:Addr) (fs:Β) (R:AN') (v:V) (as:AR):Prop
 | mk:∀a dx vs bs,eI ->as=ALt ->IM Ah7 ->Φ Al6 AMS (DX fs=true) (R vs bs) (TrO H C fs R v as)
inductive TrC (P:BI V AR) (R:AN') (vs:Ζ) (as:AR):Prop
 | mk:∀v us bs cs,Φ (vs=v::us) (as=AY6) (P v bs) (R us cs) (TrC P R vs as)
mutual
def TR(AsJ):T ->BI V AR
 | PY,v,as=>as= []/\LO
 | ZU,v,as=>TrL H AO_ v as
 | pj,v,as=>TrK H ks AO_ v as
 | yT,v,as=>TrT H ks AO_ v as
 | zw,v,as=>TrO H C fs AO_ v as
 | .kt k,v,as=>as= []/\∃a,v= AI/\ĕ BKn
def eZ(AsJ):E9 ->BI Ζ AR
 | [],vs,as=>vs= []/\as= []
 | M_,vs,as=>TrC (TR K F H t) AO_ vs as
end
section
variable{K:W.Frag}{F H F' H' :Hp}
mutual
theorem TR.move(f:Ct):Asi ASc Al_
 | PY,v,as,k,h=>CC ⟨h.1,(h.2).up f⟩
 | ZU,v,as,k,h=>by
  show Ama;exact⟨a,vs,bs,e1,rfl,AGj,AjM⟩
 | pj,v,as,k,h=>by
  show AG5;exact⟨a,vs,bs,e1,rfl,AGj,e4,AjM⟩
 | yT,v,as,k,h=>by
  show AG5;exact⟨a,vs,bs,e1,rfl,AGj,e4,AjM⟩
 | zw,v,as,k,h=>by
  show AmN;exact⟨a,dx,vs,bs,e1,rfl,AGj,k dx (zX _ zY) _ e4,e5,e6,AqV eZ.move⟩
 | Š,v,as,k,h=>by show QP e a e1 e2;exact⟨e,a,e1,f _ _ e2⟩
theorem eZ.move(f:Ct):Asj ASc (AZt ts as)
 | [],vs,as,k,h=>IG
 | M_,vs,as,k,h=>by
  show AYv;exact⟨v,us,bs,cs,e1,rfl,TR.move f t v bs Akh h1,AsK eZ.move⟩
end
def LD(u:HO):Prop:=(∃vs,u= .lst vs)\/ (∃kvs,u= .dK kvs)\/ (∃kvs,u= .dT kvs)\/ (∃C dx kvs,u= .ins C dx kvs/\DX (kvs.map (·.1))=true)\/∃a,u= .own a
theorem Zz:∀{fs:Β} {vs:Ζ},fs.length=vs.length ->AO fs.zip vs (·.1)=fs
 | [],_,_=>rfl
 | BY,[],h=>Bn
 | VU,AGC,h=>A9g Zz
theorem LD.tup(h:LD RF):False:=Ayc
theorem LD.frz(h:LD (.frz o u)):False:=Ayc
theorem LD.ins(h:LD (Ü kvs)):DX (kvs.map (·.1))=true:=by
 rcases h with ⟨_,z⟩ | ⟨_,z⟩ | ⟨_,z⟩ | ⟨_,_,_,z,q⟩ | ⟨_,z⟩<;>cases z
 exact q
mutual
theorem TR.there:∀(t:T) (v:V) (as:AR),Ě ->∀a∈as,∃u,ó/\VM
 | PY,v,as,h,a,ha=>ASz h.1
 | ZU,v,as,h,a,ha=>by
  obtain⟨b,vs,bs,e1,rfl,e3,h⟩:=h;show AOE
  ·exact B5 e3 (.inl D5)
  ·exact Abs
 | pj,v,as,h,a,ha=>by
  obtain⟨b,vs,bs,e1,rfl,e3,_,h⟩:=h;show AOE
  ·exact B5 e3 (AIn D5)
  ·exact Abs
 | yT,v,as,h,a,ha=>by
  obtain⟨b,vs,bs,e1,rfl,e3,_,h⟩:=h;show AOE
  ·exact B5 e3 (sq (D1 D5))
  ·exact Abs
 | zw,v,as,h,a,ha=>by
  obtain⟨b,dx,vs,bs,e1,rfl,e3,e4,e5,e6,h⟩:=h;show AOE
  ·exact B5 e3 (sq (CY (D1 (GE _ _ (S4 Zz e5 e6)))))
  ·show AOE
   ·exact B5 e4 (sq (CY (CY D5)))
   ·exact Abs
 | Š,v,as,h,a,ha=>ASz h.1
theorem eZ.there:∀(ts:E9) (vs:Ζ) (as:AR),ħ ->∀a∈as,∃u,ó/\VM
 | [],vs,as,h,a,ha=>ASz h.2
 | M_,vs,as,h,a,ha=>by
  show AYv;show WU ha ha ha
  ·exact TR.there t v bs h1 a ha
  ·exact eZ.there ts us cs h2 a ha
end
#where
mutual
def toD:T ->D
 | PY=>d
 | ZU=> .lst (lB ts)
 | pj=> .dic ks (lB ts)
 | yT=> .qJ ks (lB ts)
 | zw=> .obj C fs (lB ts)
 | .kt k=> AzD
def lB:E9 ->Ε
 | []=> []
 | M_=>toD t::lB ts
end
theorem U8(Kb):∀ks:De,JS (ks.map nJ) Aiq
 | []=>LJ
 | AEz::ks=>Ň U8 ks
 | lI::ks=>Ň U8 ks
section
variable{K:W.Frag}{F H F' :Hp}
mutual
theorem TR.rep(f:Ct):Asi (AQv AVq) (ABt (toD t) v)
 | PY,v,as,k,h=>CC ((h.2).up f)
 | ZU,v,as,k,h=>by
  show Ama;exact⟨a,vs,e1,sK BFa,AjN⟩
 | pj,v,as,k,h=>by
  show AG5;exact⟨a,vs,e1,AGj,e4,AjN⟩
 | yT,v,as,k,h=>by
  show AG5;exact⟨a,vs,e1,.inl BFa,e4,AjN⟩
 | zw,v,as,k,h=>by
  show AmN;exact⟨a,dx,vs,e1,AGj,e5,AqV eZ.rep⟩
 | .kt k,v,as,_,h=>by
  obtain⟨_,a,e1,e2⟩:=h;exact⟨a,_,e1,AVP f,U8 k⟩
theorem eZ.rep(f:Ct):Asj (AQv AVq) (AIg (lB ts))
 | [],vs,as,k,h=>CC h.1
 | M_,vs,as,k,h=>by
  show AYv;exact⟨v,us,e1,TR.rep f t v bs Akh h1,AsK eZ.rep⟩
end
#where
inductive Slot where
 | no | pu (d:D) | ow (ds:Ε) | tr (as:AR) (t:T) | nt (as:AR) (c:Str) (t:T) | xe (as:AR) (C:Addr) (fs:Β) (ts:E9)
inductive SlO (K:W.Frag) (F H H0:Hp) (ds:Ε) (o:Mm):Prop
 | mk:∀a vs,AjX ->Φ AFg xD Zp F_ A1w
inductive SlT (A9p) (t:T) (o:Mm):Prop
 | mk:∀v,A7s (o=some v) BDs
inductive SlN (K:W.Frag) (F H H0:Hp) (as:AR) (c:Str) (t:T) (o:Mm):Prop
 | mk:∀p v,o=some (AG p) ->A7s (F p=some (TZ (.str c) v)) BJJ
inductive SlX (A9p) (C:Addr) (fs:Β) (ts:E9) (o:Mm):Prop
 | mk:∀a oe dx vs,Φ AjX (ĕ Ø) Ajk (F dx=some (.xd Adg)) (Φ AMS as.Nodup Aez ħ BFQ)
def oZ(K:W.Frag)(F H H0:Hp):BI Slot Mm
 | B1,_=>True
 | .pu d,o=>AMt (o=some v)
 | .ow ds,o=>A1w
 | tI t,o=>BDs
 | .nt as c t,o=>BJJ
 | .xe as C fs ts,o=>BFQ
def gq:Slot ->BI Mm Addr
 | .ow _,o,a=>AjX
 | tI _,_,a=>AWc
 | .nt as _ _,_,a=>AWc
 | .xe as _ _ _,_,a=>AWc
 | _,_,_=>False
inductive nM (Γ:wn) (σ:St) (i:Nat) (a:Addr):Prop
 | mk:∀s o,AMs ->yb ->ai ->AOM i
structure SR (K:W.Frag) (F0 H0 F H:Hp) (σ:St) (Γ:wn):Prop where
 gr:AXP
 len:σ.length=Γ.length
 sl:∀(i:Nat) s,AMs ->∃o,yb/\AO6
 ap:∀(i j:Nat) a,AOM i ->AOM j ->i=j
section
variable{K:W.Frag}{F0 H0 F H F' H' :Hp}{σ:St}{Γ:wn}
theorem SR.g(R:ED):g_:=R.gr.g
theorem FZ(r:AO6)(h:ai):xD/\Zp/\∃u,ó/\VM:=by
 cases s with
 | no=>show EO
 | pu d=>show EO
 | ow ds=>obtain⟨b,vs,rfl,h1,h2,h3,_⟩:=r;cases h;exact⟨h2,h3,_,h1,.inl D5⟩
 | tr as t=>obtain⟨v,_,_,h2,h3⟩:=r;exact⟨(h2 a h).1,AkM,AxR h⟩
 | nt as c t=>obtain⟨p,v,_,_,_,h2,h3⟩:=r;exact⟨(h2 a h).1,AkM,AxR h⟩
 | xe as C fs ts=>obtain⟨_,_,_,vs,_,_,_,_,_,_,h2,h3⟩:=r;exact⟨(h2 a h).1,AkM,eZ.there ts vs as h3 a h⟩
theorem Rb(r:AO6)(f:Ct)(k:∀a,ai ->UA/\ASc):BDP:=by
 cases s with
 | no=>trivial
 | pu d=>
  obtain⟨v,e,r⟩:=r;exact⟨v,e,r.up f⟩
 | ow ds=>
  obtain⟨a,vs,e,e1,e2,e3,r⟩:=r;obtain⟨k1,k2⟩:=k a e;exact⟨a,vs,e,k2 _ e1,k1,e3,r.up f⟩
 | tr as t=>
  obtain⟨v,e,nd,h,r⟩:=r;exact⟨v,e,nd,An4,BAv⟩
 | nt as c t=>
  obtain⟨p,v,e,e1,nd,h,r⟩:=r;exact⟨p,v,e,f _ _ e1,nd,An4,BAv⟩
 | xe as C fs ts=>
  obtain⟨a,oe,dx,vs,e,e1,e2,e3,e4,nd,h,r⟩:=r;exact⟨a,oe,dx,vs,e,f _ _ e1,e2,f _ _ e3,e4,nd,An4,eZ.move f ts vs as BLc r⟩
theorem z18(r:AO6)(g:eP):BDP:=
 Rb r g.f fun a ha=>by
  obtain⟨h1,_,u,h3,ld⟩:=FZ r ha;show oP (fun u e=>g.h _ _ e);cases q:F' a with
  | none=>rfl
  | some w=>
   show ŏ (g.n a w q h1) z e z
   ·rw[h3] at z;cases z
   ·rw[h3] at z;cases z;subst e;exact ld.tup.elim
theorem SR.grow(R:ED)(g:eP):ANu:=by
 show CU (R.gr.trans g) R.len (Q3 i s) R.ap;show Ts e1 r (R.sl i s e);exact Sn e1 (z18 r g)
theorem U9(h:nM (sQ s) (sC o) j a):(j=i/\ai)\/ (j≠i/\AOM j):=by
 obtain⟨t,p,e1,e2,h⟩:=h;by_cases hj:i=j
 ·subst hj;show AiQ (by
   show OE (ALN Γ.length)
   ·exact h
   ·rw[List.getElem?_eq_none AT0] at e1;cases e1)
  have hi' :i<σ.length:=by
   show OE (ALN σ.length)
   ·exact h
   ·rw[List.getElem?_eq_none AT0] at e2;cases e2
  rw[List.getElem?_set_self hi] at e1;show AGh hi';cases e1;cases e2;exact .inl (E7 h)
 ·rw[Atj] at e1 e2;exact .inr ⟨Ne.symm hj,t,p,e1,e2,h⟩
def Apart(σ:St)(Γ:wn)(a:Addr):Prop:=∀j,¬(AOM j)
theorem SR.apart(R:ED)(h:eh):yv:=fun j hq1=>by
 obtain⟨s,o,e1,e2,q⟩:=hq1;obtain⟨o',e3,r⟩:=R.sl j s e1;rw[e2] at e3;cases e3;obtain⟨_,_,u,e,_⟩:=FZ r q;rw[h] at e;cases e
theorem SR.put(R:ED)(i:Nat)(r:AO6)(ha:∀a,ai ->yv):Ali (sC o) s:=by
 show CU R.gr (BH R.len) (Q3 j t) (DL j k a e1 e2)
 ·by_cases hj:i=j
  ·subst hj;show AiQ (by
    show OE (ALN Γ.length)
    ·exact h
    ·rw[List.getElem?_eq_none (Bz h)] at e;cases e)
   rw[List.getElem?_set_self hi] at e;cases e;exact Sn (AtX R.len hi) r
  ·rw[Atj] at e;rw[List.getElem?_set_ne hj];exact R.sl j t e
 ·rcases U9 e1 with ⟨rfl,q1⟩ | ⟨n1,q1⟩
  ·rcases U9 e2 with ⟨rfl,_⟩ | ⟨_,q2⟩
   ·rfl
   ·exact(ha a q1 _ q2).elim
  ·rcases U9 e2 with ⟨rfl,q2⟩ | ⟨_,q2⟩
   ·exact(ha a q2 _ q1).elim
   ·exact R.ap j k a q1 q2
theorem SR.set(R:ED)(i:Nat)(r:LO):Ali AKY AMU:=A5R (xl r)
theorem SR.drop(R:ED)(i:Nat)(o:Mm):Lv SR F H (sC o) yB:=A5R trivial
theorem SR.setOw(R:ED)(i:Nat)(h1:AFg)(h2:xD)(h3:Zp)(r:F_)(ha:yv):
  Ali (sC kM) iP:=R.put i ⟨a,vs,rfl,h1,h2,h3,r⟩ fun b h=>by cases h;exact ha
theorem ZC(g:g_)(h1:AFg)(h2:xD):WA AZf/\gu AZf:=by
 show BO ER ER
 ·show xC h2 e
 ·show N_
  ·show AmA h1
  ·rw[X9] at e;exact Pe g
theorem SR.frzM(R:ED)(s1:Ct)(s2:gu F')(n:Th (FI F') kF (Ki H0/\ACH b)):Adc:=by
 show CU ⟨R.gr.f.trans s1,s2,R.gr.h,tT e q⟩ R.len (Q3 j s) R.ap
 ·cases z:F b with
  | none=>show B3 (n b o e z).1
  | some u=>have:=s1 _ _ z;show my;show DC;exact R.gr.n b _ z q
 ·show Ts e1 r (R.sl j s e);show CF o e1 (Rb r s1 (ċ ?_ (GT q q)));obtain⟨h1,_,_⟩:=FZ r hb;cases q:mr with
  | none=>rfl
  | some u=>exact((n b u q h1).2 j ⟨s,o,e,e1,hb⟩).elim
theorem SR.frzA(R:ED)(h1:AFg)(h2:xD)(h3:Zp)(ha:yv):br AZf H:=by
 obtain⟨s1,s2⟩:=ZC R.g h1 h2;refine R.frzM s1 s2 (Ź e n);show N_
 ·subst hb;exact⟨h3,ha⟩
 ·show AqO
theorem Rf(e1:yb):σ.set i o=σ:=by
 show B' hl e2 zW.mp e1;rw[<- e2];simp
theorem SR.less(R:ED)(e:AMs)(e1:yb)(h:ai):ABq yB a:=fun j q=>by
 have q' :nM yB (sC o) j a:=A8o
 rcases U9 q' with ⟨_,z⟩ | ⟨n,z⟩
 ·exact z
 ·exact n (R.ap j i a z ⟨s,o,e,e1,h⟩)
theorem SR.dropAt(R:ED)(e1:yb):bS F H yB:=by
 have q:=R.drop i o;rw[Rf e1] at q;exact q
theorem SR.frz(R:ED)(e:tP iP):∃a F',AVf/\Ct /\bS F' H (sQ AVF)/\ABt ACn B9:=by
 obtain⟨o,e1,a,vs,rfl,h1,h2,h3,r⟩:=ANJ;obtain⟨s1,_⟩:=ZC R.g h1 h2;have rp:Rep K AZf ACn B9:=CC (No a x_ (r.up s1))
 have R2:=((R.dropAt e1).frzA h1 h2 h3 (R.less e e1 Ase)).set i rp;show ArZ;exact⟨a,_,e1,s1,R2,rp⟩
theorem SR.wrO(R:ED)(e:AMs)(e1:yb)(h:ai)(r:oZ K F AGb H0 t o)(ht:E5 (gq t o b) (gq s o b)):
  bS F AGb (sQ t):=by
 obtain⟨o',e2,r0⟩:=ANJ;rw[e1] at e2;cases e2;obtain⟨h2,h3,w,h1,_⟩:=FZ r0 h;show AiQ (KI e);have R1:bS F AGb yB:=by
  have R0:=R.dropAt e1;show CU ⟨R0.gr.f,aS,aS,pM (R0.gr.n b o q n)⟩ R0.len A0P R0.ap
  show JE (AIb h2) (R0.g b u q)
  ·rw[AIb h3];exact R0.gr.h b u q
  ·show Abu (R0.sl j s' q) A9c He (R.less e e1 h j BFY) q'
 have R2:=R1.put i r (FM (R.less e e1 (ht b hb)));show ArZ;exact R2
theorem SR.wr(R:ED)(e:tP iP)(e1:AVf)(r:Alf):
  bS F (ACX AeA) (sQ (.ow es)):=by
 show Ts e2 r0 ANJ;rw[e1] at e2;cases e2;obtain⟨h2,h3,_⟩:=FZ r0 Ase;exact R.wrO e e1 Ase ⟨a,us,rfl,gb,h2,h3,r⟩ (FM hb)
theorem SR.base(R:ED):SR K F H0 F H σ Γ:=A6w (qi R.g R.gr.h)
theorem Gr.unbase(g:AXP)(g' :AZh H0):Gr F0 H0 F' H' :=by
 show CU (g.f.trans g'.f) g'.g g'.h (XA ?_);cases q:F b with
 | none=>exact g'.n b o e q
 | some u=>show AxO g'.f (g.n b _ q n)
theorem SR.unbase(g:AXP)(R:SR K F H0 F' H' σ' Γ'):Lv SR F' H' σ' Γ' :=A6w (g.unbase R.gr)
#where
inductive TrY (h B:Heap) (e:Addr) (cls:Value) (dd:IE) (fl:Value):Prop
 | mk:∀oe vs T oT ts,ko e oe ->Φ (oe.cls=cls/\oe.dict=dd/\ (Ana dd)) (AJY vs) (EH vs 1 (AG T)) (B.get? T=none) (Φ (T≠e) (ko T oT) Az5 (EH ts 3 fl) BIe)
def Va(B:Heap)(l:GB)(a:Addr)(cls:Value)(dx:IE)(h:Heap):Prop:=
 B.StaysIn h/\AUN/\AjE B/\
  (TrY h B a cls dx Ω\/∃oe vs,TC oe/\oe.cls=cls/\oe.dict=dx/\AJY vs/\BJ3 1/\ (Ana dx))
def wB(B:Heap)(l:GB)(e:Addr)(cls:Value)(dd:IE)(fl:Value)(h:Heap):Prop:=B.StaysIn h/\B.get? e=none/\AjE B/\BIe
theorem wB.there(x:wB B l e cls dd fl h):∃ob,ko e ob/\ob.cls=cls:=by
 obtain⟨_,_,_,oe,_,_,_,_,he,hc,_⟩:=x;exact⟨oe,he,hc.1⟩
section
variable{M:Model}{A:Around}{E:dh}{s:Shared}{B:Heap}{env:Env}{outer:GB}{L a:Addr}{cls fl:Value}{dd:IE}{Q:AL9}
theorem z39(f:EL ->EL)(o:Obj):(Obj.mapFields f o).dict=o.dict:=by
 unfold Obj.mapFields;split<;>rfl
theorem Rg{h:Heap}{T b:Addr}{oT o:Obj}{ts:EL}(hT:ko T oT)(hd:Az5)(hb:XX)(hn:∀vs,o.data≠ b_ vs):b≠T:=fun q=>by
 rw[q,hT] at hb;injection hb with hb;subst hb;exact hn ts hd
theorem yJ{l:GB}(x:wB B l a cls dd fl s.heap)(hQ:AfT (wB B l a cls dd Ω h')):YY (setFlight B9 none):=by
 obtain⟨f1,f2,f3,oe,vs,T,oT,ts,he,hk,hd,h1,hB,hne,hT,hdT,h3⟩:=x;show KS far (OX (b≠T) (s.heap.update T (Obj.mapFields (·.setIfInBounds 3 ((none:Option Addr).elim Value.none fun f=>rawInt f)))).get? s.heap.get?) AZN;have hz:3<ts.size:=Ay1;show AXv he h1;show DF Ψ
 refine wpAny_setField hT hdT hz (hQ _ ⟨IA o q,f2,f3.of_keeps (pM (AUi ?_)),oe,vs,T,_,_,A4n he,hk,hd,h1,hB,hne,BKV hT hdT,Obj.data_mapFields hdT _,BH hz⟩ (pM (Ev o.slots)))
 ·exact A2O (f1 b o q)
 ·exact AbO q
 ·exact AbO q
theorem Gy{oe:Obj}{vs:EL}{head:Value}{more:Bool}(hfr:ATP ņ)(hl:s.heap.FunFrames B ņ)(hf:Am3)(he:EE s.heap.get? oe)(hkb:B.StaysIn s.heap)(hen:AUN)
  (hd:AJY vs) (hz:1<vs.size) (h2:AJ_\/oe.dict≠none) (hQ:A6c oe.cls oe.dict):
  YY (do let x<- frameOf env;let pl<- entryPlaceOf L more;let b<- EntryCells.newEntry head x Ω (rawInt L) Ω pl;setField B9 1 b):=by
 have nf:a∉ (env::outer).filterMap (·.frame):=fun hm=>by
  obtain⟨_,o,ho,hn⟩:=hl.mem hm;rw[he] at ho;injection ho with ho;subst ho;exact hn vs hd
 refine z6 (wpAny_frameOf_fun hfr hl hf (AD h1 k1));show D3 wpAny_entryPlaceOf (AD pl hp);show AXB (H_ hp.sizeOk5 _);have e1:EE h1.get? oe:=FL k1.2.1 a nf he;have b1:B.StaysIn h1:=LL o (FL k1.2.1 b (fun hm=>(AWO (hl.mem hm).1)) (hkb b o q))
 refine wpAny_setField Ahq hd hz (hQ _ ?_ ?_)
 all_goals
  have ne:h1.objs.size≠a:=Nat.ne_of_gt (zJ e1);have d3:=Obj.data_mapFields hd (·.setIfInBounds 1 (Value.ref h1.objs.size));have far:Oy He (FH h1.get?) (FH ((h1.push {cls:= .type "traceback",dict:=none,data:= .fields ([head,.ref L,.none,rawInt L,.none]++ (if pl.isEmpty then List.replicate 6 Value.none else pl)).toArray}).update a (Obj.mapFields (·.setIfInBounds 1 (Value.ref h1.objs.size)))).get?):=
   P7 hb q (Ο AZN ACJ)
 ·show FU (LL o (far b o (Hb (ASV hen)) (b1 b o q))) hen (hl.of_keeps (pM ?_))
  ·show ă k Azy;exact G1 BCy
  ·exact⟨_,_,h1.objs.size,_,_,BKH Ahq d3,⟨Obj.cls_mapFields _ _,z39 _ _,h2.imp (Hb (S4 Array.getElem?_setIfInBounds_ne Δ z)) id⟩,d3,BH hz,b1.fresh,ne,
    ANx ne (z9 h1 rfl),rfl,by first | (simp;done) | (rcases hp with rfl | ⟨_,_,_,_,_,_,_,rfl⟩<;>simp)⟩
 ·intro b o q n;show ă k Azy;exact⟨sl,BCy⟩
theorem zrq(hfr:ATP ņ)(hf:Am3)(x:Va B ņ a cls dx s.heap)
  (hQ:A6c cls dx):YY (noteFrame B9 env):=by
 obtain⟨f1,f2,f3,⟨oe,vs,T,oT,ts,he,⟨rfl,rfl,h2⟩,hd,h1,hB,hne,hT,hdT,h3⟩ | ⟨oe,vs,he,rfl,rfl,hd,h1,h2⟩⟩:=x
 ·unfold noteFrame;simp only [hf];show AXv he h1;show DF Ψ
  refine z6 (wpAny_field hT hdT h3 ?_);show BF (Fs rawInt)
  refine z6 (wpAny_setField hT hdT Ay1 ?_);show KS far (OX (b≠T) (s.heap.update T (Obj.mapFields (·.setIfInBounds 3 Value.none))).get? s.heap.get?) AZN;refine Gy (s:=OR (s.heap.update T (Obj.mapFields (·.setIfInBounds 3 Value.none)))) hfr (f3.of_keeps (pM (AUi (AbO q)))) hf (A4n he) (LL o (A2O (f1 b o q))) f2 hd AvL h2 (SK w up)
  exact hQ h' w (pM (up b o (AbO q) n))
 ·unfold noteFrame;simp only [hf];show AXv he h1;show ZY
  exact Gy hfr f3 hf he f1 f2 hd AvL h2 fun h' w up=>hQ h' w up
theorem z8d(hfr:ATP ņ)(hf:Am3)(x:Va B ņ a cls dx s.heap)
  (hQ:AfT (Va B outer a cls dx h')):YY (leaving env B9):=by
 refine z6 (zrq hfr hf x fun h1 w up=>yJ (s:=OR h1) w (Κ h2 w2 up2));obtain⟨k1,k2,⟨_,_,k3⟩,k4⟩:=w2;exact hQ h2 ⟨k1,k2,k3,.inl k4⟩ (up.trans up2)
#where
inductive Vb (P:Program) (w:World) (outer:GB) (H:Hp) (s:Shared) (E:XK) (e:Value) (s' :Shared):Prop
 | mk:∀a C H' B dx,e= AI ->Φ AW2 ADV (AYb AiJ) A9k (Φ (Va B outer a C dx s'.heap) (Oy Tm (b∉frs outer) AJe) (AlA) APS (AOP Vb))
def eO(P:Program)(w:World):JB:=fun outer H s E e s' =>(AOP Vb)
theorem eO.imp(h:AOP eO)(k:∀C dx H',APS ->E' C dx H'):eO P w outer H s E' e s' :=by
 obtain⟨a,C,H',B,dx,h1,h2,h3,h4,h5,h6,h7,h8,h9⟩:=h;exact⟨a,C,H',B,dx,h1,h2,h3,h4,h5,h6,h7,h8,k _ _ _ h9⟩
section
variable{X:Cx}{pins:dD}{σ:St}{H H' :Hp}{s s' :Shared}{B:Heap}{h' :Heap}
theorem z63(hok:AWx)(b1:Amf)(b2:AiW)(tZ:AlA):AWw :=fun b u e=>
 Ħ hok e (fun c v hc q=>by
  have:∃o',B.get? c=some o' :=by
   show gT hc hc
   ·exact tZ _ _ e
   ·exact tZ _ _ hc
  show č this;have z:=b1 c o' e';rw[q] at z;cases z;exact b2 c _ e') AHK X_
theorem ydh(I:Ι)(hex:AMy)(os:AW2)(bare:ADV)(un:AYb ic)(hok:AWx)(b1:Amf)(b2:AiW)
  (inB:Oy Tm (b∉SC) AJe) (up:Atu):
  Un X.fs [] X.H₀ H' X.s₀.heap h' /\A2l :=by
 have I' :AAT :=I.call' os un hok bare ANt
 have hb:=I'.base;rw[hex] at hb;have hb0:=I.base;rw[hex] at hb0;have Rh:A2l :=XA (by
  obtain⟨o1,e1⟩:=hb0.there b o e Ψ
  refine inB b o1 e1 RC;show JA (Aol z)
  ·show F6 (zN (zJ e) I.ok.above) AoP
  ·exact n z)
 show BO ⟨AcS hf,AcS hf,fun b o e n hx=>hb.free b o e n hx,ASj,hb.tups,hb.j6,hb.m9⟩ Rh
 ·have e1:=hb.keep b o e n hf Ψ
  show č (Rh b o e hf);have z:=b1 b o' e';rw[e1] at z;cases z;exact b2 b _ e'
 ·show BHv (hb.slot b o e n hf Ψ) ⟨sl',e3⟩
 ·by_cases hf:AhP
  ·show BHv (hb.slot b o e (I.ok.frf b hf) hf Ψ) (CI e3)
  ·show č (Rh b o e hf);exact⟨o',b2 b o' e'⟩
theorem Ri(I:Ι)(hex:AMy)(hst:Amh)(hfr:AZD)
  (h:Ao5 E):ABu (leaving X.env e) (Ff s'' (eO X.prog X.w X.outer X.H₀ X.s₀ E e s'')) Eb s' :=by
 obtain⟨a,C,H',B,dx,rfl,os,bare,un,hok,DY,inB,tZ,hE⟩:=h;refine z8d (md I.ok.frames hst) hfr (BE hst DY) (SK NP up)
 obtain⟨un',Rh⟩:=ydh I hex os bare un hok DY.1 NP.1 inB up;exact⟨a,C,H',B,dx,rfl,os.trans I.os,bare,un',z63 hok DY.1 NP.1 tZ,NP,Rh,tZ,hE⟩
theorem Inv.landed(I:Ι)(hex:AMy)(os:AW2)(bare:ADV)(un:AYb ic)(hok:AWx)(b1:Amf)(b2:AiW)
  (inB:Oy Tm (b∉SC) AJe) (tZ:AlA) (up:Atu):à (Ð s' h' t'):=by
 have I' :AAT :=I.call' os un hok bare ANt
 obtain⟨un',Rh⟩:=ydh I hex os bare un hok b1 b2 inB up;have cl:∀{c v},s'.heap.IsCell c v ->AjK:=fun{c v} (Ů hd)=>by
  show PF sl (up c o ho (ē z (BJ8 hd)))
  exact B5 e hd
 refine⟨I.ok,I'.os,bare,Ο hex un',?_,AGy,I'.free,I'.freeC,ZA,z63 hok b1 b2 tZ,I.len⟩
 ·show AoY I'.loc;show CF m (up.ns hn) (fun i x v e1 e2 e3=> ?_);show MI r l (hl i x v e1 e2 e3);show BA u r;rcases l with l | ⟨k,c,e,z⟩
  ·show B3 l
  ·show Aa3 (cl z)
 ·show AEj z (I'.cell x c e);exact⟨v,cl z⟩
 ·show AHx;obtain⟨e',n',_,_,_⟩:=I'.pin p hp;refine⟨?_,n',ne,nf,d⟩;show ABs q (inB A2 p.2 e (Ξ (by
   show JA (zV.mp (I.stkSub A2 z))
   ·exact ne z
   ·exact nf z)))
  have z:=b1 A2 o' q;rw[e'] at z;cases z;exact b2 A2 _ q
#where
def lC(y9):Prop:=Aax C
inductive ExN (h:Heap) (C:Addr):Prop
 | mk:∀bm N nm qn bs hdct sn sub ab col dd k0 k1 k2 k3 k5 mN,Φ AxU (h.Ns N mN) (mN "__init__" =none) (OwnTail h AdO bm) (ExN h C)
theorem zss{K:W.Frag}{h:Heap}{C:Addr}(X:Ll)(q:lC K C):ExN h C:=by
 unfold lC W.excIn at q;show ZI
 ·show Arb;split at q
  ·show AtB;simp only [Bool.and_eq_true,beq_iff_eq,Bool.not_eq_true'] at q;obtain⟨⟨⟨⟨⟨rfl,rfl⟩,hdel⟩,ht⟩,hok⟩,hni⟩:=q;obtain⟨nm,bs,mro,ns,qn,hd,sn,sub,ab,col,del⟩:=cd;subst hm hdel;show Db (sl= #[k0,k1,k2,k3,Awp,k5]) (by
    cases sl;simp only at hs;rw[hs])
   exact⟨bm,ns,nm,qn,bs,hd,sn,sub,ab,col,dd,k0,k1,k2,k3,k5,_,AnA,.of_isNs (W.isNs_of_in X hok),W.nsMap_none_of_in X hok hni,AzO⟩
  ·cases q
 ·cases q
inductive ExO (K:W.Frag) (h:Heap) (C:Addr):Prop
 | mk:∀bm N nm qn bs hdct sn sub ab col dd k0 k1 k2 k3 k5,AxU ->OwnTail h J3 bm ->Aza bm ->∀cd,W.clsIn K C=some cd ->cd.mro= ET::bm ->ExO K h C
theorem Ea{K:W.Frag}{h:Heap}{C:Addr}(X:Ll)(q:iS):ExO K h C:=by
 unfold lW at q;show ZI
 ·show Arb;split at q
  ·show AtB;simp only [Bool.and_eq_true,beq_iff_eq,Bool.not_eq_true'] at q;obtain⟨⟨⟨rfl,rfl⟩,hdel⟩,ht⟩:=q;have hcl:W.clsIn K C' =some cd:=Ŧ W.clsIn ho
   have hm0:=hm;obtain⟨nm,bs,mro,ns,qn,hd,sn,sub,ab,col,del⟩:=cd;subst hm hdel;show Db (sl= #[k0,k1,k2,k3,Awp,k5]) (by
    cases sl;simp only at hs;rw[hs])
   exact⟨bm,ns,nm,qn,bs,hd,sn,sub,ab,col,dd,k0,k1,k2,k3,k5,AnA,AzO,ht,_,hcl,hm0⟩
  ·cases q
 ·cases q
def lY(y9):Prop:=iS
theorem lC.k{K:W.Frag}{C:Addr}(q:lC K C):AKU:=by
 unfold lC W.excIn at q;unfold lY lW;show ZI
 ·show Arb;rw[ho];show ZI
  ·show AtB;show BML q;obtain⟨⟨⟨⟨⟨q1,q2⟩,q3⟩,q4⟩,_⟩,_⟩:=q;simp only [hm,hs,q1,q2,q3,q4,Bool.and_self]
  ·cases q
 ·cases q
section
variable{X:Cx}{pins:dD}{σ:St}{H:Hp}{s:Shared}
theorem yeh(hl:AjE base)(hm:Heap.MadeExcOf h h1 a EU vs):Va (W.hideAll h (frs l)) l a EU none h1:=by
 obtain⟨t,he,_,_⟩:=hm.there;show CU (fun b o q=>hm.keeps b o Ay6) ?_ ?_ (Ap4 he AE_)
 ·cases q:AvX (frs l) a with
  | none=>rfl
  | some o=>
   have z:=AuE;rw[hm.new] at z;cases z
 ·have k:=W.funFrames_hide (as:=frs l) hl fun env he a ha=>(AtY env he ha);exact k.of_keeps (P7 e _ (AUi (hm.keeps b o e)))
theorem yau{x:Str}{C:Addr}{np cpos pos:Pos}{e:Expr}{es:A5}{t:TA}{Q:AhT}{E:XK}(hg:Hk)(hm:ASX)(hC:lC X.K C)(ha:AWU)(hh:C3)
  (I:Ι) (h:t σ H (bq vs (BM vs.length/\A_C)))
  (px:∀H1 s1 e s',ŗ s1 ->eO X.prog X.w X.stack H1 s1 (fun C' dx H' =>C' = ET/\dx=none/\H' =H1/\A_C) e s' ->Aly)
  (hd:As x "__debug__":=by decide) (AVV):
  Ô (exec AfP X.env) Q:=by
 obtain⟨bm,N,nm,qn,bs,hdct,sn,sub,ab,col,dd,k0,k1,k2,k3,k5,mN,e1,e2,e3,e4⟩:=zss I.mod.Jy hC;refine DZ (P9 (P9 (P9 wpAny_Raise_call_subT C C nm nm q qn N N) bs bs bm bm hdct hdct sn sn) sub sub ab ab col col dd dd (k0:=k0) (k1:=k1)) k2 k2 k3 k3 k5 k5
  PySem.F.excBase_ValueError (mN:=mN) (e4.hasType PySem.F.excBase_ValueError.hasBase) AyZ ?_ e3 (DR I hg hm AL3 hd)
 ·rw[he];show(false || (backTo cpos (starEach es X.env)).any (·.1))=false
  rw[hpl];rfl
 ·have key:=ha cpos pins s σ H _ I h;rw[he] at key⊢;show ALp Calls.evalArgs_plain key (fun us s2 (BL4 vs)=>⟨rfl,BLQ,I1.bk _ _ e1,e2.keeps I1.bk,e4.keeps I1.bk,SK a hm⟩) AOi
  refine px H1 s2 _ _ I1 ⟨a,ET,H1,W.hideAll s2.heap (frs X.stack),none,rfl,rfl,I1.bare,Un.kept hm.keeps,I1.hok.kept hm.keeps,yeh I1.stack hm,XA (N3 (Ū e n)),ER,rfl,rfl,rfl,q⟩;obtain⟨o,eo⟩:∃o,FH s2.heap.get?:=by
   have k:=I1.hok b u e;cases u with
   | lst xs=>show Af8 k;exact CI e
   | tup xs=>obtain⟨_,_,_,o,e,_⟩:=k;exact CI e
   | dK kvs=>show AZq
   | dT kvs=>show AZq
   | set S n=>show AQj o k;exact CI e
   | ins C dx fs=>show Af_ k;exact CI e
   | own y=>exact k
   | xd fs=>show Af' k;exact CI e
   | rng lo hi=>show Af9 k;exact CI e
   | frz ob u=>obtain⟨e,_⟩:=k;exact CI e
   | J4 ps=>show AwN
   | met f y=>show AwN
   | ext φ=>obtain⟨_,e,_⟩:=k;exact e
  show BO o (Ū eo RC);have:=I1.stkFree b z;show my;show DC
#where
abbrev G2:=wn
inductive XV where
 | ref (C:Addr) | any (C:Addr) | pay (A6O)
def XV.cls:XV ->Addr
 | ET=>C
 | ANm=>C
 | .pay C _ _=>C
inductive Vc (YN) (F H H' :Hp) (dx:IE) (fs:Β) (ts:E9):Prop
 | mk:∀p vs as,Φ (dx=some p) (H' p=some (.xd Adg)) AMS (F p=none) (Φ (HU p) as.Nodup (P8 as (kF/\FX)) (eZ K F H' ts vs as) BFZ)
def Bv(YN)(F H H' :Hp)(C:Value)(dx:IE)(x:XV):Prop:=C= .ref x.cls/\match x with
 | .ref _=>dx=none
 | .any _=>True
 | .pay _ fs ts=>BFZ
theorem Gr.low(s:Akz)(g:AZh H1):eP :=⟨g.f,g.g,s.trans g.h,XA (vU.back s (g.n b o e n))⟩
def XV.bare:XV ->XV
 | ET=> ANm
 | ANm=> ANm
 | .pay C _ _=> ANm
def J9(K:W.Frag)(F H:Hp)(Ex:C7 XV)(E:XK):Prop:=∀x C dx F' H',Ex x ->eP ->A0g H ->APS
theorem Bv.back(NW)(s:gu H1)(h:Bv K F H H' C dx x):Bv K F H1 H' C dx x:=by
 show CS h.1;have h:=h.2;cases x with
 | ref _=>exact h
 | any _=>trivial
 | pay c fs ds=>
  obtain⟨p,vs,as,e1,e2,e3,e4,e5,nd,e6,e7⟩:=h;exact⟨p,vs,as,e1,e2,e3,e4,s.free e5,nd,FM ⟨K_ e6,s.free (We e6)⟩,e7⟩
abbrev XW:=BI G2 XV
abbrev cg:=AHl D
abbrev cN:=AHl Ε
abbrev TT2:=AHl Bool
inductive TW where
 | one (t:T) | tp (c:Str) (t:T)
def TRR(AsJ):TW ->BI V AR
 | .one t,v,as=>Ě
 | .tp c t,v,as=>∃p u,v= PM/\F p=some (TZ (.str c) u)/\TR K F H t u as
def Ka(Q:ALR):C7 TW
 | .one t=>Q t
 | .tp _ _=>False
structure pW where
 nx:AR4
 rt:AEw
 bk:AR4:=XT
 ct:AR4:=XT
 rf:AEw:=XT
 rT:C7 TW:=XT
 rm:BI D G2:=ce
abbrev aH:=pW ->BI G2 XW
open Classical in
noncomputable def jq (F0 F:Hp):Hp:=UR (ARy A7x (F b))
theorem zv6:Same (jq F0 F) F:=FA (by
 show N4 jq;split at e
 ·cases e
 ·exact e)
theorem zow(h:∀u,VM ->F0 b≠ALZ):AqH=F b:=by
 unfold jq;show BF (fun hz=>by show PU w hw hz;exact h w hw q)
theorem zzv(e:AqH=some u):∀w,LD w ->F0 b≠ALY:=Apl (by
 show N4 jq;rw[A_ ⟨w,hw,q⟩] at e;cases e)
theorem z07(s:Same F0 F1):Same (jq F1 F) (jq F0 F):=FA (S4 zow (Apl (zzv e w hw (s _ _ q))) (zv6 _ _ e))
theorem z5h(s:Same F0 F):Q4 F (VM\/AqH=some u):=FA (by
 by_cases h:A7x
 ·show FV w hw q;have:=s _ _ q;show my;show DC;exact .inl hw
 ·show DJ (by rw[zow (Apl (h ⟨w,hw,q⟩))];exact e))
section
variable(K:W.Frag)(F0 H0:Hp)
inductive UpE (t:cg) (E:XW) (σ:St) (H:Hp) (Q:VK):Prop
 | mk:BFI Y' UpE
def Gz(t:cg)(E:XW):TE:=yo UpE
inductive UpT (t:TT2) (E:XW) (σ:St) (H:Hp) (Q:Ũ):Prop
 | mk:AKC (∀b Γ' F' H',ā ->Ct ->P b Γ' ->Q b H') UpT
def Vd(t:TT2)(E:XW):TT:=yo UpT
inductive UpA (t:cN) (E:XW) (σ:St) (H:Hp) (Q:AFc):Prop
 | mk:BFJ ĥ UpA
def Rj(t:cN)(E:XW):TA:=yo UpA
inductive UpF (t:cN) (E:XW) (σ:St) (H:Hp) (Q:VK):Prop
 | mk:AKC (∀ds Γ' F' H' a vs,Φ ā Ct (EE H' OU) UA (AIy Zp ĥ Ak' ds (Q B9 H'))) UpF
def upF(t:cN)(E:XW):TE:=yo UpF
structure vV (F:Hp) (D2:pW) (D:Ends):Prop where
 nx:Aso D2.nx AQU
 bk:Aso D2.bk (D.bk σ H)
 ct:Aso D2.ct (D.ct σ H)
 rt:BFL Y' D2.rt
 rf:BFL A5s D2.rf
 rT:∀t v as F' H,Gr F0 H0 F' H ->Φ as.Nodup (ù (UA/\Zp)) (TRR K F' H t v as) (D2.rT t) Ae9
 rm:∀d v Γ F' H σ,Adc ->Y' ->D2.rm d Γ ->Ae9
inductive UpS (t:aH) (E:XW) (D:Ends) (σ:St) (H:Hp):Prop
 | mk:∀F Γ D2,AQB ->(t D2 Γ E) ->(Lv vV F D2 D) ->UpS t E D σ H
def ZD(t:aH)(E:XW):TS:=AoK (UpS K F0 H0 t E D σ H)
#where
theorem vV.mono{K:W.Frag}{F0 H0 F F' :Hp}{D2:pW}{D:Ends}(k:AYx F)(s:Ct):AYx F':=
 ABY (As0 k.nx) (As0 k.bk) (As0 k.ct)
structure NQ where
 xe:dh
 pn:dD
abbrev _root_.L2.Cx.wsh(X:Cx)(z:NQ):Cx:={X with xe:=z.xe,pn:=z.pn}
structure Ctx (X:Cx) (F0 H0:Hp) (E:XW):Prop where
 pX:∀pins σ Γ F H s e s',Ι ->AHU ->Ao5 (ARD (∃Γ' F' x,AqA /\Ct /\AQ_ H/\ (x.bare=x\/E5 FX (ABq Γ' b))/\E Γ' x)) ->Aly
 pq:∀A' A'',SameStack A' X.A ->PassesOwnAt Si A' A'' X.env X.xe
theorem Ctx.po(cx:ArG):Arz:=cx.pq _ _ (SameStack.refl _)
theorem Ctx.px(cx:ArG)(pins:dD)(σ:St)(Γ:G2)(F H:Hp)(s:Shared)(e:Value)(s' :Shared)(I:Ι)(R:AHU)(hx:Ao5 A_M):Aly :=
 BEM cx.pX I R (hx.imp fun _ _ H' hz=>by obtain⟨x,F',h1,h2,h3⟩:=hz;exact⟨Γ,F',x,R.grow h2,h2.f,h3,Am_ R.apart,h1⟩)
def QE(X:Cx)(F0 H0:Hp)(e:Expr)(t:cg):Prop:=ANf Gz
def QF(X:Cx)(F0 H0:Hp)(e:Expr)(t:cN):Prop:=ANf upF
def QT(X:Cx)(F0 H0:Hp)(e:Expr)(t:TT2):Prop:=k9 PT e Vd
def QW(X:Cx)(F0 H0:Hp)(e:Expr)(t:TT2):Prop:=k9 PW e Vd
def QA(A5N):Prop:=k9 PA es Rj
def QS(X:Cx)(F0 H0:Hp)(st:Stmt)(t:aH):Prop:=k9 PS st ZD
def qP(X:Cx)(F0 H0:Hp)(st:Mc)(t:aH):Prop:=k9 FW st ZD
section
variable{X:Cx}{e:Expr}{es:A5}{st:Stmt}{sts:Mc}
theorem nO(h:PE X e t)(hi:∀σ H Q,t' σ H Q ->fE):PE X e t' :=Aoj
theorem Rk(h:PT X e t)(hi:∀σ H Q,t' σ H Q ->fE):PT X e t' :=Aoj
theorem pwC(h:PW X e t)(hi:∀σ H Q,t' σ H Q ->fE):PW X e t' :=BIu w w
theorem paC(h:AWT)(hi:∀σ H Q,t' σ H Q ->fE):PA X es t' :=BIu p p
theorem ud(h:AnS)(hi:∀D σ H,t' D σ H ->t D σ H):PS X st t' :=ARs D D
theorem Ve(h:FW X sts t)(hi:∀D σ H,t' D σ H ->t D σ H):FW X sts t' :=ARs D D
#where
section
variable{X:Cx}{F0 H0:Hp}{a b c e:Expr}{es:A5}{pos:Pos}{ta tb tc te:cg}
def cC(d:D):cg:=ANS d
theorem Vf(h:∀z,PE E4 e (tC v))(r:∀F,Rep X.K F d v):CA e (cC d):=fun z E cx=>
 nO (h z) (Do σ H Q hq1 P hq1 (Os _ R GA (r F) h))
theorem aP{i j pos}:AZx ŕ (NB i):=AbL yi8
theorem yfi{i j pos}:AZx (dS i) (cC (.bl i)):=AbL yly
theorem NT{j pos}:AZx Ω ı:=AbL yip
theorem Bw{x j pos}:AZx ALz (cC (.str x)):=AbL yjc
def cV(AGO):cg:=AJJ (fF Γ[i]? (some AMU) (P d Γ) (some iP) (P ACn (Γ.set i AVF)))
theorem yj4(AsS):CA hV (cV i):=fun z E cx=>
 nO VW (yz hq2 (by
  show Lm hq2;show Bi cV;show C5
  ·rename_i d e;obtain⟨o,e1,v,rfl,r⟩:=ANJ;exact⟨v,e1,BBZ r⟩
  ·rename_i ds e;obtain⟨a,F',e1,s1,R',r⟩:=R.frz e;exact⟨AI,e1,k _ _ F' H _ R' s1 r h⟩
  ·show EO))
inductive Vg (K:W.Frag) (g:EG) (x:V) (y:V) (H:Hp) (Q:VK):Prop
 | mk:∀F d1 d2 P,ADc ->EC (Rep K F d1 x) (Rep K F d2 y) (g d1 d2 P) BIL BHu
def rW(K:W.Frag)(g:EG):R2:=Ń BHu
def cB(g:EG)(ta tb:cg):cg:=L8 ta d1 (mS tb d2 (g d1 d2 fun d=>P d Γ2))
theorem ZF(NW){g:EG}{E:XW}{σ:St}{H:Hp}{Q:VK}(h:Gz K F0 H0 AXN E σ H Q):Uo (rW K g) AvZ AvY σ H Q:=by
 show Lm h;refine APA ⟨F2,d1,d2,_,R2.g,AjA,r2,h2,fun d z F' H' gr rz hp=> ?_⟩;exact k d Γ2 F' H' z At0 (AQy gr.f) rz hp
theorem bN(ho:∀z,jR E4 (binaryOp op) AKV)(ha:SD)(hb:ng):CA Axg AXN:=fun z E cx=>
 nO (yjk (ho z) DS LT) (i3 ZF)
theorem Lk(A'v):CA AN6 AXN:=fun z E cx=>
 nO (ygy (ho z) DS LT hm) (i3 ZF)
def cT(t:cg):TT2:=Í Γ P t d Γ' (kG (.bl c) (P c Γ'))
theorem ykp{K:W.Frag}{E:XW}{σ:St}{H:Hp}{Q:Ũ}(h:Vd K F0 H0 (cT te) E σ H Q):Gz K F0 H0 te E σ H fun x H' =>(AZ6 (Q c H')) :=by
 show Lm h;refine JP (fun d Γ' F' H' v R' s' r q=> ?_);cases d with
 | bl c=>
  show Md c r (k c Γ' F' H' R' s' q)
 | _=>show JY q
theorem qL(A'v):Tu AN6 (cT AXN):=fun z E cx=>
 Rk (yeo (ho z) DS LT hm) fun σ H Q h=>ZF (ykp h)
theorem Ga(h:Pi)(he:∀whole,isTrue e X.env whole=(do let v<- whole;standAt e.pos;holding [v] (truthy v)):=by show Mo):Tu e (cT te):=fun z E cx=>
 Rk (Be ykg SO he) (i3 ykp)
def pY(t u:TT2):TT2:=AYY (EJ c (u Γ' P E) (P false Γ'))
def Ec(t u:TT2):TT2:=AYY (EJ c (P true Γ') (u Γ' P E))
def lZ(t:TT2):TT2:=AYY (P (! c) Γ')
variable{rest:A5}{tA J5 :TT2}
theorem z73(AjF):DU QW (AQS [a]) tA:=ALf yhg DS
theorem yj3(AjF):Ajm [a] tA:=ALf yju DS
theorem ydr(ha:Tu a tA)(hb:DU QW AWL J5):DU QW AWM (pY tA J5):=fun z E cx=>
 pwC (yi7 DS LT) (Do σ H Q Bx P Bx (APm (by
  cases c with
  | true=>
   exact Ado (fun b Γ2 F2 H2 R2 s2 p=>(ARk (k b Γ2 F2 H2) p))
  | false=>
   exact Aa2)))
theorem yls(ha:Tu a tA)(hb:Ajm Ac7 J5):Ajm AdG (Ec tA J5):=fun z E cx=>
 pwC (yl2 DS LT) (Do σ H Q xO P xO (APm (by
  cases c with
  | true=>
   exact Aa2
  | false=>
   exact Ado (fun b Γ2 F2 H2 R2 s2 p=>(ARk (k b Γ2 F2 H2) p)))))
theorem NZ(h:DU QW e tA):Tu e tA:=fun z E cx=>(SO).pt
theorem N5(AjF):Tu AYr (lZ tA):=fun z E cx=>
 Rk (ykm DS) (Do σ H Q JF P JF (APm Aa2))
def jr(ta tb:cg):cg:=AoJ (fF d ADG AoR ALu (P ū Γ'))
def uf(ta tb:cg):cg:=AoJ (fF d ALu AoR ADG (P AhR Γ'))
def lD(ta:cg):cg:=AoJ (kG (.bl c) (P (.bl (! c)) Γ'))
theorem z46{op}(h:SD):CA (.BoolOp op [a] pos) ta:=ALf yiv SO
theorem z49(ha:SD)(hb:CA AWL tb):CA AWM (jr ta tb):=fun z E cx=>
 nO (yk0 DS LT) (Do σ H Q N6 P N6 (AaF (by
  cases d with
  | bl c=>
   show BA c r;cases c with
   | true=>show eC;exact Asn
   | false=>show Auy Asg
  | _=>show JY q)))
theorem ykq(ha:SD):CA AYr (lD ta):=fun z E cx=>
 nO (yi0 DS) (Do σ H Q hq8 P hq8 (AaF (by
  cases d with
  | bl c=>
   show Md c r Asg
  | _=>show JY q)))
def yu(t:TT2)(ta tb:cg):cg:=AYY (EJ c (ta Γ' P E) AoR)
theorem Vh(hc:Tu c tA)(ha:SD)(hb:ng):CA Axh (yu tA ta tb):=fun z E cx=>
 nO (z9c ATx DS LT) (Do σ H Q Ud P Ud (APm (by
  cases c with
  | true=>show kU B4 q Asn
  | false=>show kU UF q Asn)))
def ao:cN:=ANS []
def aj(t:cg)(u:cN):cN:=L8 t d (mS u ds (P AU_ Γ2))
theorem aN:DU QA [] ao:=fun z E cx=>paC Zr (Do σ H Q N7 P N7 (Os _ R GA IP h))
theorem au(ha:Pi)(hr:DU QA es tr)(hs:starEach Da X.env=EW (CH e) (EV es):=by rfl):DU QA Da (aj te tr):=fun z E cx=>
 paC (Be Uu DS (JO hr) hs) (yz ⟨F,Γ,P,R,h,k⟩ (ABg d v1 (AJH (AJL ds vs (Os _ R2 d_ (qK (r1.up s2) r2) h2)))))
def dN(t:cN):cg:=P4 (AM' (DM (.tup ds)))
theorem qQ{x1}(h:AH8 es):AIl Tuple es x1 (dN t):=fun z E cx=>
 nO (yj0 SO) (Do σ H Q Gs P Gs (Az2 (by
  have gr:=Gr.laid (o:=HO.tup vs) R1.g hp;refine Os _ AKm (ABp gr.f) ?_ h1.2;exact No p x_ (r1.up gr.f))))
def gA(t:cN):cN:=P4 (AM' (DM ds))
theorem GC(zD){σ:St}{Γ:G2}{p:Addr}{vs:Ζ}{ds:Ε}(R:ED)(hp:HU p)(r:F_):
  br F A2L/\ A2L p=some OU/\F p=none/\H0 p=none/\ACH p:=by
 refine⟨?_,gb,R.g.free hp,R.gr.h.free hp,R.apart hp⟩;refine R.grow (qi ER ER)
 ·rw[ADr R.g hp];exact Pe R.g
 ·show xC hp e
theorem yK{t:cN}(h:AH8 es):kK A1R (gA t):=fun z E cx=>
 nO (yjn SO) (Do σ H Q Gu P Gu (Az2 (by
  obtain⟨R2,e1,e2,e3,ap⟩:=GC R1 hp r1;exact k ds Γ1 F1 _ p vs R2 s1 e1 e2 e3 r1 ap h1.2)))
def dW(t:cN):cg:=P4 (DM ACn)
theorem iw(h:rV QF e):CA e (dW t):=fun z E cx=>
 nO SO (Do σ H Q Gv P Gv (JP (fun ds Γ1 F1 H1 a vs R1 s1 e1 e2 e3 r1 ap h1=>by
  obtain⟨s2,_⟩:=ZC R1.g e1 e2;refine Os _ (R1.frzA e1 e2 e3 ap) d_ ?_ h1;exact No a x_ AjA)))
variable{st:Stmt}{sts:Mc}{t u:aH}
def cj:aH:=fun D Γ _=>D.nx Γ
def aJ(t u:aH):aH:=fun D Γ E=>t {D with nx:=fun Γ' =>u D Γ' E} Γ E
theorem tL:DU qP [] cj:=OI Ve yhk D aa1 aa1 (G_ R GA h)
theorem bO(h1:rV QS st)(h2:DU qP sts u):DU qP (st::sts) (aJ t u):=OI Ve (Zi Ago (JO h2)) D aa2 aa2 (JP (ABY (fun Γ' F' H' σ' R' s' q=>⟨F',Γ',D2,R',q,k.mono s'⟩) k.bk k.ct))
theorem bV(h1:rV QS st):rV qP [st]:=ALf Zj Ago
def lE(ii):aH:=fun D Γ E=>te Γ (Ff Γ1 (D.nx Γ1)) E
theorem yg9(he:Pi)(hs:ABV none:=by rfl):NI (.Expr e pos) (lE te):=OI ud (Be zxw Lc hs) D aa3 aa3 (VX (AYW R1))
def aW(ii):aH:=Í D Γ te d _ (D.rt d)
theorem fH(he:Pi):A3c (aW te):=fun z E cx=>
 ud (yc8 Lc) (Do D σ H aa4 D2 aa4 (VX (H_ k.rt R1.gr r1 h1)))
def nP:aH:=fun D _ _=>D.rt AF
def eG(c:TT2)(t u:aH):aH:=XZ c b (EJ b (t D Γ1 E) (u D Γ1 E))
theorem tM(hc:Tu c tA)(ha:rV qP x)(hb:DU qP y u):NI (.If c x y pos) (eG tA t u):=OI ud (ymd ATx DS LT) D aa5 aa5 (APm (by
  cases c with
  | true=>show kU B4 q A1x
  | false=>show kU UF q A1x))
def aU(i:Nat)(te:cg):aH:=AXH (ANa AMU)
theorem fO(hN:X.N.Nodup)(hi:E_)(hx:pS)(he:Pi)(hs:ABV (A9 AFW):=by rfl)
  (hf:qV:=by first | show hZ | show o4):Aai aU te:=OI ud (J_ Zk i i hN hi hx Lc hs hf) D aa6 aa6 (VX (AYW (R1.set i r1)))
def fC(i:Nat)(t:cN):aH:=XZ t ds (ANa iP)
theorem Ln(hN:X.N.Nodup)(hi:E_)(hx:pS)(he:Alv)(hs:ABV (A9 AFW):=by rfl)
  (hf:qV:=by first | show hZ | show o4):Aai fC tf:=OI ud (J_ Zk i i hN hi hx Lc hs hf) D aa7 aa7 (JP (fun ds Γ1 F1 H1 a vs R1 s1 e1 e2 e3 r1 ap h1=>(AYW (R1.setOw i e1 e2 e3 r1 ap))))
#where
#print L3
namespace L3
open PySem PySem.Spec PyProof.Rows L2
abbrev tO:=A7Z D
abbrev xP:=A7Z Ε
section
variable(K:W.Frag)(F0 H0:Hp)
inductive UpG (g:tO) (E:XW) (v:V) (σ:St) (H:Hp) (Q:LM):Prop
 | mk:∀F Γ P d,EC AQB (Rep K F d v) (g d Γ P E) BIR (UpG g E v σ H Q)
def ZG(g:tO)(E:XW):TG:=ANe (Lv UpG g E v σ H Q)
inductive Vi (g:xP) (E:XW) (vs:Ζ) (σ:St) (H:Hp) (Q:LM):Prop
 | mk:∀F Γ P ds,EC AQB Adm (g ds Γ P E) BIR (Vi g E vs σ H Q)
def aa8(g:xP)(E:XW):Le:=Ajb (Lv Vi g E vs σ H Q)
#where
def QG(X:Cx)(F0 H0:Hp)(e:Expr)(g:tO):Prop:=AIJ (PG E4 e (q_ ZG g E))
def Vj(X:Cx)(F0 H0:Hp)(es:A5)(g:xP):Prop:=AIJ (Np E4 es (q_ aa8 g E))
section
variable{X:Cx}{F0 H0:Hp}{e tg:Expr}{es:A5}{pos:Pos}{te:cg}{g:tO}{gs:xP}
theorem pgC(h:PG X e t)(hi:∀v σ H Q,t' v σ H Q ->t v σ H Q):PG X e t' :=BJg
theorem Vk(h:Np X es t)(hi:∀v σ H Q,t' v σ H Q ->t v σ H Q):Np X es t' :=BJg
def hName(AGO):tO:=fun d Γ Q _=>Q (Γ.set i AMU)
theorem d9(hN:X.N.Nodup)(hi:E_)(hx:pS)(hf:qV:=by first | show hZ | show o4):DU QG hV (EI i):=fun z E cx=>
 pgC (J_ ygn i i hN hi hx hf) fun v σ H Q hq1=>by obtain⟨F,Γ,P,d,R,r,h,k⟩:=hq1;exact Os (R.set i r) GA h
def gY:xP:=fun ds Γ Q _=>ds= []/\Q Γ
def bw(g:tO)(gs:xP):xP:=fun ds Γ Q E=>match ds with | d::r=>AfQ d (gs r Γ' Q E) | []=>False
theorem BJ:DU Vj [] gY:=fun z E cx=>Vk yg1 fun vs σ H Q hq2=>by
 obtain⟨F,Γ,P,ds,R,r,h,k⟩:=hq2;show To h h;exact⟨r,Os R GA h⟩
theorem nQ(h1:DU QG e g)(h2:A3Q)(hs:AHR Da (·.2)=ATs e::AHR es (·.2):=by rfl):DU Vj Da (bw g gs):=fun z E cx=>
 Vk (Be ya2 Ago (JO h2) hs) fun vs σ H Q Bx=>by
  obtain⟨F,Γ,P,ds,R,r,h,k⟩:=Bx;cases ds with
  | nil=>show ANn
  | cons d ds=>
   show AON;exact⟨v,us,rfl,F,Γ,_,d,R,r1,h,fun Γ1 F1 H1 σ1 R1 s1 q=>⟨F1,Γ1,P,ds,R1,r2.up s1,q,fun Γ2 F2 H2 σ2 R2 s2 p=>(ARk Os p)⟩⟩
def gZ(n:Nat)(gs:xP):tO:=fun d Γ Q E=>(kG Ť (ds.length=n/\gs ds Γ Q E))
theorem BK(hc:C3)(h:A3Q)(hn:IF assignEach es X.env=n:=by rfl)(hst:(assignEach es X.env).findIdx? (·.1)=none:=by rfl):DU QG A2U (gZ n gs):=fun z E cx=>
 pgC (J_ yjy n n hc SO hn hst) fun v σ H Q xO=>by
  obtain⟨F,Γ,P,d,R,r,h,k⟩:=xO;cases d with
  | tup ds=>
   show Cb a vs hq rs r;exact⟨a,vs,rfl,sV R.g hq,BE UB h.1,F,Γ,P,ds,R,rs,h.2,k⟩
  | _=>show ANn
def ug(te:cg)(g:tO):aH:=AXH (g d Γ1 D.nx E)
def qR(i j:Nat)(t:cN):aH:=XZ t ds (r8 AAy (D.nx ((Γ1.set i (.pu x)).set j (.pu y))))
theorem yln{kt k2 Nr}(hc:C3)(hN:X.N.Nodup)(hi:E_)(hj:AOo)(hij:qA)
  (hx:AcM) (hy:AZz) (ha:Ahk)
  (hw:AZV AHv AHr (A9 AAy)) (hs:AVh AHv AHr:=by rfl):
  AQD AHv AHr (qR i j t):=OI ud (DZ yin X (X.wsh z) i i j j hc hN hi hj hij hx hy DS hw hs) D N6 N6 (RE (by
  match ds,r1,h1 with
  | [d1,d2],r1,h1=>
   obtain⟨v1,_,rfl,q1,v2,_,rfl,q2,rfl⟩:=r1;exact MQ v1 v2 (AYW ((R1.set i q1).set j q2))
  | [],_,h1=>show xL
  | [_],_,h1=>show xL
  | _::_::BY,_,h1=>show xL))
def BL(c:TT2)(tb:aH):aH:=fun D Γ E=>∃W:AVw,(∃m,W m Γ)/\∀m Γ,W m Γ ->
 c Γ (fun b Γ1=>(EJ b (tb (AI8 A0N A0N) Γ1 E) (D.nx Γ1))) E
theorem z0q(hc:Tu c tc)(hb:AO0):NI BCe (BL tc tb):=fun z E cx=>
 ud (ycb cx.po ATx LT) fun D σ H DW=>by
  obtain⟨F,Γ,D2,R,⟨W,⟨m,w0⟩,turn⟩,k⟩:=DW;show CF (fun m σ H=>∃F1 Γ1,WH F1 H Γ1/\ky/\W m Γ1) ⟨m,F,Γ,R,c0,w0⟩ (EX m σ H hz1);obtain⟨F1,Γ1,R1,s1,w1⟩:=hz1;refine AcO (turn m Γ1 w1) (fun b Γ2 F2 H2 R2 s2 q=> ?_);cases b with
  | true=>
   rw[B4] at q⊢;refine⟨fun σ' H' =>(AIr (∃F3 Γ3,q_ SR F3 H' σ' Γ3/\WA F3/\W m' Γ3)),fun σ' H' z=>z,F2,Γ2,_,R2,q,ABY BJk (AS5 p (G_ R3 AWu p)) BJk⟩
  | false=>
   show kU UF q (G_ R2 d_ q)
def aa9(K:W.Frag)(tl:TE):TI:=BDx ((∃xs,Aer)/\R Ai5 H1) ((∃xs,vO K H1 a xs)/\R AWI H1)
theorem yj8(hl:PE X l tl):nX l (aa9 X.K tl):=by
 show oy;show Ű (jS hl) v Ud;show OA Ud;show PU a e q1;subst e;cases r1;rcases q with ⟨⟨xs,hq⟩,q⟩ | ⟨⟨xs,hq⟩,q⟩
 ·obtain⟨its,rv,p,hz⟩:=I1.list hq;refine wpAny_pyIter_list p.isList ?_;refine⟨s1.heap.objs.size,AEg,_,_,H1,rfl,AAp,zur a _,UO,HG,q⟩;show AGT
  exact AHj
 ·obtain⟨its,rv,p,hz⟩:=I1.tuple hq;refine wpAny_pyIter_tuple AwU ?_;refine⟨s1.heap.objs.size,AEg,_,_,H1,rfl,AAp,zqk a _,UO,HG,q⟩;show AGT
  exact AHj
def yL(ds:Ε)(g:tO)(tb:aH)(D0:pW)(E:XW)(Γ:G2):Prop:=∃I:AVw,I 0 Γ/\
 (BEG D0 D0.nx)/\∀Γ,I ds.length Γ ->D0.nx Γ
def xQ(te:cg)(g:tO)(tb:aH):aH:=ABr D0 te d (fF d ATy As3 Ť As3)
theorem Lq(hc:C3)(hi:AIA iter)(hg:AYZ)(hb:AO0)(hs:ax iter:=by show Mo):
  Abg iter xQ te:=OI ud (Abq (yj8 AFH)) Dn N7 N7 (VX (by
  have body:∀(ds:List L3.D) (vs:Ζ),Ac9 ->∀I:AVw,(BEG D2 D2.nx) ->
    ∀(i:Nat) x σ H,bc vs ->(Aem) ->ZG X.K F0 H0 g E x σ H (AI2 (ZD X.K F0 H0 tb E (AcA Dn Aqh Aqh Dn.nx) σ2 H2)):=by
   rintro ds vs rs I turn i x σ H hx ⟨F2,Γ2,R2,s2,hI⟩;show A4 d hd rd zv2 rs hx;exact⟨F2,Γ2,_,d,R2,rd.up s2,turn i d Γ2 hd hI,AS5 p ⟨F3,Γ3,ASv D2 D2.nx,R3,p,ABY Abi (AdP (G_ R4 (ABp (AZI s4)) q)) Abi⟩⟩
  cases d with
  | lst ds=>
   show AWo;show Ar2;show oC a (Ĝ ⟨vs,ĵ⟩ (ybn (xs:=vs) Axf AsN (fun i σ H _ hz=>by obtain⟨F2,Γ2,R2,s2,_⟩:=hz;exact R2.g.seq (s2.seq hq)) BHN ?_))
   rintro σ H ⟨F2,Γ2,R2,s2,hI⟩;exact BBR
  | tup ds=>
   show AWo;show Ar2;show oC a (.inr ⟨⟨vs,Ajx⟩,yg7 (xs:=vs) Axf AsN (fun i σ H _ hz=>by obtain⟨F2,Γ2,R2,s2,_⟩:=hz;exact sV R2.g (sV s2 hq)) BHN ?_⟩)
   rintro σ H ⟨F2,Γ2,R2,s2,hI⟩;exact BBR
  | _=>show xL))
def GD(lo:Int)(n:Nat)(g:tO)(tb:aH)(D0:pW)(E:XW)(Γ:G2):Prop:=∃I:AVw,I 0 Γ/\
 (∀(i:Nat) Γ,i<n ->I i Γ ->AfQ BMe (tb (ASv D0 D0.nx) Γ' E))/\∀Γ,I n Γ ->D0.nx Γ
theorem ydt(NW){F1 H1:Hp}{Γ1:G2}{σ:St}{lo:Int}{n:Nat}{tb:aH}{D2:pW}{D:Ends}{E:XW}(R1:bS F1 H1 Γ1)(h:GD lo n g tb D2 E Γ1)(k:AYx F1):
  AG2 LM (W 0 m σ H1) (∀i m σ H,ANk ->APY (AbI stop) (AbI go) (Jz lo n).yld (Lv ZG g E x σ H' (AI2 (ZD K F0 H0 tb E (AI8 N N) σ2 H2)))):=by
 show QP I i0 turn done;refine z4p (lo:=lo) (n:=n) (fun i σ H=>∃F2 Γ2,bS F2 H Γ2/\AQQ/\I i Γ2) AsN ?_ ?_
 ·rintro i σ H hi ⟨F2,Γ2,R2,s2,hI⟩;exact⟨F2,Γ2,_,AgU,R2,LJ,turn i Γ2 hi hI,AS5 p ⟨F3,Γ3,_,R3,p,ABY Abi (AdP (G_ R4 (AZI s4) q)) Abi⟩⟩
 ·rintro σ H ⟨F2,Γ2,R2,s2,hI⟩;exact G_ R2 s2 (done _ hI)
def uh(t:cN)(g:tO)(tb:aH):aH:=ABr D0 t ds (r8 [Ć] ((-(2^62)<=j/\j<2^62)/\GD 0 j.toNat g tb D0 E Γ1))
theorem Rm(hc:C3)(hgl:AUz)(hm:AUs)(ha:ADs)(hg:AYZ)(hb:AO0)
  (hst:starEach [a] X.env= AOn a:=by rfl) (hs:ax A1U:=by show Mo):Abg A1U uh t:=OI ud (Abq (z4q hgl hm DS hst)) D Gu Gu (RE (by
  show SH
  ·rename_i j;show AJj rfl r1;exact⟨j,rfl,lj.1,lj.2,BGO⟩
  ·show xL))
def GF(t:cN)(g:tO)(tb:aH):aH:=ABr D0 t ds (r8 ADa ((BGT)/\GD i A1q g tb D0 E Γ1))
theorem z45(hc:C3)(hgl:AUz)(hm:AUs)(ha:Ahk)(hg:AYZ)(hb:AO0)
  (hst:starEach cq X.env= Ar4 a b:=by rfl) (hst2:starEach [b] X.env= AOn b:=by rfl) (hs:ax A8O:=by show Mo):Abg A8O GF t:=OI ud (Abq (z28 hgl hm DS hst hst2)) D Gv Gv (RE (by
  show SH
  ·rename_i i j;obtain⟨v,_,rfl,rfl,v2,_,rfl,rfl,rfl⟩:=r1;exact IB i j lj BGO
  ·show xL))
#where
abbrev dw:=Anw AEw
inductive Lr (Ao6 dw):Prop
 | mk:BFv (BFM Y') Lr
def nq(K:W.Frag)(sp:dw):Sp:=AOu (AEZ Lr)
def aC(sp:dw)(t:cN):cg:=P4 AlL
section
variable{X:Cx}{F0 H0:Hp}{e:Expr}{es:A5}{pos p:Pos}{x:Str}{f:Addr}{fd:FuncData}{ps:Β}{k:Nat}{sp:dw}{t:cN}
theorem Vl(BI8)
  (I:AYV) (R:AHU) (r:AM1) (rs:dl F ds) (h:sp ds P fun C=>E Γ C) (hQ:BFM (ASu F')):
  BC':=by
 have hs:nq X.K sp vs H Q A_M:=⟨F,ds,P,_,R.g,rs,h,hQ,fun x C dx F' H' hE gr xr=>⟨x,F',hE,gr,xr⟩⟩;show Aqn
 show A5w;show z0;show AG9 (Fn.run X.A X.stack s H AKO us vs Q _ hr I.env0 hbs r hs) ANR;cases r with
 | error e=>exact BEM cx.px I R hq
 | ok fl=>
  cases fl with
  | ret u=>exact I.after hq
  | next=>show VA
  | brk=>show VA
  | cont=>show VA
theorem z7y(Fn:Adp Adw)(hr:t9)(hg:Hk)(hm:AI' Fk)(hk:W.keepIn X.K Fk=true)(hb:AEX)
  (ha:LX) (hdb:As x "__debug__":=by decide) (YI):
  CA YE (aC sp t):=by
 rintro z E cx pins s σ H Q I ⟨F,Γ,P,R,h,kk⟩;show Aaz;refine W.callWith_K (h₀:=X.base) I.ok.mod.Jy hk (NJ (Abr AlL) us Ed) he hpl;obtain⟨vs,H1,I1,r,F1,Γ1,ds,R1,sF,rs,q⟩:=Ed;show AUh;exact Vl Fn hr hb cx I1 R1 r rs q (Apf (kk d Γ1 F' H' v AKm Aeo rv hp))
#where
def aG(n:Nat)(ds:Ε):G2:=ds.map .pu++ALD (n - ds.length) B1
abbrev gB(N:Β)(ds:Ε):G2:=aG N.length ds
theorem Vm(A'l){ds:Ε}{vs:Ζ}(h:gu F0)(r:A8G):SR K F0 H F0 H (L2.start N vs) (gB N ds):=by
 have hl:=jO r;show CU (Gr.refl h) (by simp [L2.start,gB,aG,hl]) (Q3 i s) (DL i j a e _)
 ·unfold gB aG at e;unfold L2.start;show Ajc
  ·show AJZ List.getElem?_append_left List.getElem?_map
   cases q:ds[i]? with
   | none=>show ia
   | some d=>
    show QU;cases e;show A4 v e1 r1 wA r q;refine IL Ğ ?_ v r1;rw[List.getElem?_append_left (by show ASS;exact hi),List.getElem?_map,e1];rfl
  ·show AWn List.getElem?_append_right
   split at e
   ·cases e;rename_i hlt;show AgB hlt;show w9 none trivial;show A4V (AEo (by show ASS;exact hlt))
   ·cases e
 ·exfalso
  obtain⟨s,o,e,_,hs⟩:=e;unfold gB aG at e;show Ajc
  ·show AJZ List.getElem?_append_left List.getElem?_map
   cases q:ds[i]? with
   | none=>show ia
   | some d=>show QU;cases e;exact hs
  ·show AWn List.getElem?_append_right
   split at e
   ·cases e;exact hs
   ·cases e
section
variable{P:Program}{w:World}{K:W.Frag}{mg:B7}{base:Heap}
theorem gV(AaE){st:Stmt}{f:Addr}{fd:FuncData}{N ps:Β}{k:Nat}{sp:dw}(Fn:Â)(S:AG_ ps)(len:APh)
  (hbody:AHz (∀F0:Hp,
   ∃t,AmC ú/\ApN Ao0)):
  AjR nq:=by
 show AAr;show APq
 ·obtain⟨F,ds,P',Ex,_,rs,hs,_⟩:=hq1;rw[<- UB];exact AOh
 show AtA;show AmK;show APi (by
  show AH0;show AH1;obtain⟨Γ',F',x,R',_,xr,_,z1⟩:=z;exact APo)
 exact Asl (ACw (C8 (Pd AF)) Pd) (AYt (fun Γ F' H' σ R' _ q=>BAc) x6 x6 BIo)
#where
def cP(i:Int):Nat:=Builtin.Int.intBits i
theorem yia(h:AyK):BNJ:=by
 show Bi cP;unfold IntMulOk;intro z;show AlU z;have z2:=z.2;unfold Builtin.Int.intTooBig at z2;have hb:bitsLine=134217728:=by rfl
 rw[hb] at z2;have:=of_decide_eq_true z2;omega
theorem kZ(h:Alh):TU<=k:=by
 show AyU;split
 ·exact FC
 ·show HQ;show My n0 i.natAbs (by
   have:i=0:=BMl;show UT;exact q rfl)
  have:=(Nat.log2_lt n0).mpr h;omega
theorem N8(h:TU<=k):Alh:=by
 unfold cP Builtin.Int.intBits at h;show C5
 ·show HQ;have:i=0:=A0 q
  show UT;exact Nat.two_pow_pos k
 ·show HQ;show My n0 i.natAbs (by
   have:i=0:=BMl;show UT;exact q rfl)
  exact(Nat.log2_lt n0).mp ψ
theorem yw(AHB):cP (i*j)<=TU+cP j:=by
 refine kZ ?_;rw[Int.natAbs_mul,Nat.pow_add];exact Nat.mul_lt_mul'' (N8 (zO _)) (N8 D4)
theorem Vn(AHB):BEO (cP (i+j)):=by
 refine kZ ?_;have h1:i.natAbs<BCd:=N8 (Nat.le_max_left _ _);have h2:j.natAbs<BCd:=N8 (Nat.le_max_right _ _);have h3:=Int.natAbs_add_le i j;rw[Nat.pow_succ];omega
theorem yib(i:Int):cP (-i)=cP i:=by show AyU;simp
theorem zlh(AHB):BEO (cP (i - j)):=by
 have h:=Vn i (-j);rw[yib,<- Int.sub_eq_add_neg] at h;exact h
theorem Kc(h:i.natAbs<=j.natAbs):TU<=cP j:=kZ (zM h (N8 (zO _)))
section
variable{X:Cx}
theorem ZJ{f:ABS}{C:AZH}{v:AWD}{d:AWB}{g:EG}(ho:jR X f (rI C v))(hg:∀x y P,g x y P ->ArR AHW)(hd:BBo):jR X f AKV:=by
 rintro pins s σ H x y u w Q I rx ry ⟨F,d1,d2,P,sF,r1,r2,h,k⟩;show js i j rfl hc hp (hg _ _ _ h);show AA_;exact AbF ho (gI i j rfl hc A3g)
theorem ZK{f:ABS}{v:AWD}{d:AWB}{g:EG}(ho:jR X f (Lg v))(hg:∀x y P,g x y P ->Asc AHW)(hd:BBo):jR X f AKV:=by
 rintro pins s σ H x y u w Q I rx ry ⟨F,d1,d2,P,sF,r1,r2,h,k⟩;show Cb i j rfl hp (hg _ _ _ h);show AA_;exact AbF ho (IL i j rfl A3g)
def wI(C:AZH)(d:AWB):EG:=f_ (AM6 x y Co Ć (C i j/\AHW))
theorem ZL(h:wI C d x y P):ArR AHW:=by
 show Bi wI;show C5
 ·exact GE _ rfl h
 ·show EO
def yx(d:AWB):EG:=f_ (AM6 x y Co Ć AHW)
theorem ZM(h:yx d x y P):Asc AHW:=by
 show Bi yx;show C5
 ·exact GE _ rfl h
 ·show EO
def fj:EG:=f_ (match x,y with
 | Co,Ć=>NY (i+j)
 | .str i,.str j=>BM Ax'/\P (.str (i++j))
 | _,_=>False)
theorem vW:AGc Add fj:=by
 rintro pins s σ H x y u w Q I rx ry ⟨F,d1,d2,P,sF,r1,r2,h,k⟩;show Bi fj;show C5
 ·show AA_;exact AbF yi1 (GE _ rfl mI)
 ·show AA_;exact AbF z1m (gI _ _ rfl h.1 AVc)
 ·show EO
def iR:EG:=yx fun i j=> .int (i - j)
theorem GJ:AGc Sub iR:=AaY ykv
def xR(AHB):Prop:=TU<=64\/cP j<=64\/AyK
theorem xR.ok(h:xR i j):BNJ:=by
 rcases h with h | h | h
 ·exact .of_left h
 ·exact .of_right h
 ·exact yia h
def cM:EG:=wI xR (lf (i*j))
theorem nu:AGc Mult cM:=ZJ (C:=xR) (v:=lf (i*j)) (Zq fun i j _ _ _ _ _ hc q=>mul_int q hc.ok) (qq ZL) AJV
def fJ:EG:=wI (Ff j (ś/\AMZ)) Av7
theorem wC:AGc FloorDiv fJ:=ZJ (C:=GT j (ś/\AMZ)) (v:=Av7) (Zq fun i j _ _ _ _ _ hc q=>floordiv_int hc.1 q (D1 (PyProof.noPylong_of_log2 (by
 have:=N8 hc.2;exact(Nat.log2_lt (Hb (hc.1 (Int.natAbs_eq_zero.mp z)))).mpr this)))) (qq ZL) AJV
def dO:EG:=wI (Ff j ś) Av6
theorem qT:AGc Mod dO:=ZJ (C:=GT j ś) yec (qq ZL) AJV
def oO:EG:=wI Gw A9Z
theorem ZP:AGc Pow oO:=ZJ yi4 (qq ZL) AJV
def yM:EG:=AYi (i<j)
theorem GK:pr Lt yM:=AaY yma
def Df:EG:=AYi (i<=j)
theorem Vo:pr LtE Df:=AaY ymh
def yC:EG:=AYi (j<i)
theorem GP:pr Gt yC:=AaY yl1
def GQ:EG:=AYi (j<=i)
def jT:D ->Bool | AF=>true | _=>false
theorem z5b{K:W.Frag}{F:Hp}{d:D}{v:V}(r:LO):Μ (v= AF)=jT d:=by
 cases d with
 | non=>subst r;rfl
 | bl _=>subst r;rfl
 | int _=>subst r;rfl
 | str _=>subst r;rfl
 | tup _=>show APE
 | lst _=>show APE
 | exc _=>show APE
 | ptr _=>subst r;rfl
 | obj _ _ _=>obtain⟨a,_,_,rfl,_⟩:=r;rfl
 | dic _ _=>show APE
 | qJ _ _=>show APE
 | dik _ _=>obtain⟨a,_,_,rfl,_⟩:=r;rfl
def BP:EG:=BAq (PP (jT x)) (c==d)
def pZ:EG:=BAq (PP (! jT x)) (c !=d)
theorem Vp:pr Is BP:=by
 rintro pins s σ H x y u w Q I rx ry ⟨F,d1,d2,P,sF,r1,r2,h,k⟩;show Bi BP;show C5
 ·have e:=z5b r1;subst r2;exact A_j yi3
 ·show C5
  ·show AA_;cases rx;cases ry;exact is_bool (Ļ mI)
  ·exact h.elim
 ·show EO
theorem yl9:pr IsNot pZ:=by
 rintro pins s σ H x y u w Q I rx ry ⟨F,d1,d2,P,sF,r1,r2,h,k⟩;show Bi pZ;show C5
 ·have e:=z5b r1;subst r2;exact A_j yee
 ·show C5
  ·show AA_;cases rx;cases ry;exact isnot_bool (Ļ mI)
  ·exact h.elim
 ·show EO
mutual
def nD:A2'
 | AF,b=>(ACS AF true)
 | .bl a,b=>(AMw Z3)
 | ALK,b=>(AMw Ŗ)
 | .str a,b=>(AMw (.str b))
 | SA,b=>(ACS AUO mT)
 | ZT,b=>(ACS ALa mT)
 | .exc a,b=>(AMw (.exc b))
 | .ptr a,b=>(AMw (.ptr b))
 | .obj C fs xs,b=>(ACS (.obj C' fs' ys) (Μ (C=C')&&Μ (fs=fs')&&mT))
 | .dic ks xs,b=>(AqW dic)
 | .qJ ks xs,b=>(AqW qJ)
 | AkH,b=>(AqW dik)
def ig:Ε ->Ε ->Bool
 | [],[]=>true
 | Lu,y::ys=>nD x y&&mT
 | _,_=>false
end
@[simp] def kd:D ->Nat
 | AF=>0
 | XE=>1
 | UE=>2
 | U2=>3
 | ALg=>4
 | g6=>5
 | _=>6
@[simp] def yN (d d' :D):Bool:=kd d<6&&kd d' <6&&(kd d !=kd d' || kd d<4)&&(kd d !=1 || kd d' !=2)&&(kd d !=2 || kd d' !=1)
def lu:HI (BI D D)
 | n+1,SA,AUO=>AoX
 | n+1,ZT,ALa=>AoX
 | _,d,d' =>AX1
#where
mutual
theorem Rn:∀d:D,nD d d=true
 | AF=>xA
 | XE=>xA
 | UE=>xA
 | U2=>xA
 | SA=>CC (Oa xs)
 | ZT=>CC (Oa xs)
 | š=>xA
 | Ţ=>xA
 | .obj _ _ xs=>AXq
 | .dic _ xs=>AXq
 | .qJ _ xs=>AXq
 | .dik _ xs=>AXq
theorem Oa:∀ds:Ε,ig ds ds=true
 | []=>ALo
 | SV=>AVs ig (Rn d) (Oa ds)
end
theorem zsd:Apu (xs.length=ys.length ->(∀e:HI Bool,(ARK (e i=nD x y)) ->ANW xs.length e=mT))
 | [],[],_,_,_=>ALo
 | Lu,y::ys,hl,e,he=>by
  have ih:=zsd (xs:=xs) (ys:=ys) (Bz hl) (ï (e (BQ))) fun i a b h1 h2=>he BS a b w_ AFI
  rw[List.length_cons,List.range_succ_eq_map,List.all_cons,List.all_map];rw[he 0 x y rfl rfl]
  congr 1
theorem zsh:Apu (xs.length≠ys.length ->ig xs ys=false)
 | [],[],h=>AnL
 | [],BY,_=>ALo
 | BY,[],_=>ALo
 | Lu,y::ys,h=>UI ig (zsh (Ξ (h (Fs z)))) Bool.and_false
theorem z34:Apu (AKE ys.length ->(ARK (nD x y=true)) ->Aab)
 | [],[],_,_=>ALo
 | Lu,y::ys,hl,h=>AVs ig (h 0 x y rfl rfl) (z34 (Bz hl) fun i a b h1 h2=>h BS a b w_ AFI)
section
variable{X:Cx}{pins:dD}{σ:St}{F H:Hp}{s:Shared}
theorem zvr(I:Ι){a:Addr}{xs ys:Ζ}(h:AOH lU)(h' :ul vO a):False:=by
 obtain⟨its,_,⟨o,n,e,c,_,_⟩,_⟩:=AgM;obtain⟨its',_,⟨o',e',c',_⟩,_⟩:=I.tuple h';rw[e] at e';cases e';rw[c] at c';injection c' with c';exact AUn c'
theorem ZQ{n:Nat}{d d' :D}(hc:AoT):AX1\/ (BEh SA AUO)\/
  BEh ZT ALa:=by
 unfold lu at hc;split at hc
 ·show DJ (D1 BFn)
 ·show DJ (CY BFn)
 ·show B3 hc
theorem yc3(I:Ι)(sF:g_):∀(n:Nat) (d d' :D) (v:V),A8L AoT:=by
 have flat:∀(d d' :D) (v:V),A8L AX1:=by
  intro d d' v hf r r';cases d with
  | non=>simp only [Rep] at r;subst r;cases d' <;>simp only [Rep] at r' <;>first | rfl | (cases hf;done) | (cases r';done) | show BK4
  | bl=>show ArS
  | int=>show ArS
  | str=>show ArS
  | tup=>show BIM (sF.seq h2) (sV sF h1)
  | lst=>show BIM (sF.seq h1) (sV sF h2)
  | _=>cases hf
 intro n;induction n with
 | zero=>
  intro d d' v hc r r';show BMO h h h
  ·exact BH4
  ·cases h
  ·cases h
 | succ n ih=>
  intro d d' v hc r r';have go:∀{xs ys:Ε} {vs us:Ζ},EC (vs=us) (dl F xs) (aM X.K F ys us) AoX Aab:=by
   intro xs ys vs us e r1 r2 hc;subst e;refine z34 (md (jO r1) (jO r2)) (DL i x y h1 h2)
   show A4 v1 e1 q1 wA r1 h1;show A4 v2 e2 q2 wA r2 h2;rw[e1] at e2;cases e2;exact ih x y v1 (hc i x y h1 h2) q1 q2
  rcases ZQ hc with h | ⟨_,xs,ys,h,rfl,rfl,hc⟩ | ⟨_,xs,ys,h,rfl,rfl,hc⟩
  ·exact BH4
  ·cases h;show Cb a vs h1 q1 r;obtain⟨b,us,z,h2,q2⟩:=r';cases z;exact go (I.tuple_inj (sV sF h1) (sV sF h2)) q1 q2 hc
  ·cases h;show Cb a vs h1 q1 r;obtain⟨b,us,z,h2,q2⟩:=r';cases z;exact go (I.list_inj (sF.seq h1) (sF.seq h2)) q1 q2 hc
structure ZR (A:Around) (s:Shared) (v u:Value) (b:Bool):Prop where
 eq:SeqAt.EqAt A s v u b
 rc:SeqAt.RcAt A s v u b
 ne:SeqAt.RcNeAt A s v u (! b)
theorem z7p{n m:Nat}(e:HI Bool)(h:n=m):((List.range (min n m)).all e&&n==m)=ANW n e:=by
 subst h;simp
def Kn(s:Shared):BI D Value
 | AF,v=>v= Ω
 | Z3,v=>v= .bool b
 | Co,v=>∃t,v= .int i t
 | hG,v=>∃t,v= .str x t
 | ALg,v=>BAl (IsTup s.heap l is)
 | g6,v=>BAl (AU9 is)
 | _,_=>True
theorem kn(I:Ι)(sF:g_){d:D}{x:V}{v:Value}(r:A0f)(rv:VI):Kn s d v:=by
 cases d<;>simp only [Rep] at r<;>try trivial
 case non=>subst r;cases rv;rfl
 case bl=>subst r;cases rv;rfl
 show A7Q int
 show A7Q str
 case tup=>
  show AKF l vs h r;cases rv;obtain⟨is,_,k,_⟩:=Ap0 h;exact⟨l,rfl,_,k⟩
 case lst=>
  show AKF l vs h r;cases rv;obtain⟨is,_,k,_⟩:=I.list (sF.seq h);exact⟨l,rfl,_,k.isList⟩
theorem z5f{A:Around}{d d' :D}{v u:Value}(hu0:Amo)(hf:AX1)(a:Kn s d v)(b:Kn s d' u):A'B:=by
 cases d with
 | non=>
  show L' a;cases d' with
  | non=>show av (.same _) .none_none .none_none
  | bl _=>show av Agy Agy Agy
  | int _=>show AIu AhV AhV AhV
  | str _=>show AIu AhW AhW AhW
  | tup _=>show ě AkQ AkQ AkQ
  | lst _=>show ě AkR AkR AkR
  | _=>cases hf
 | bl _=>
  show L' a;cases d' with
  | non=>show av Agz Agz Agz
  | bl _=>show av AhX AhX AhX
  | str _=>show AIu Aiw Aiw Aiw
  | tup _=>show ě AkW AkW AkW
  | lst _=>show ě AkX AkX AkX
  | _=>cases hf
 | int _=>
  show APu a;cases d' with
  | non=>show av AhY AhY AhY
  | int _=>show AbB int_int int_int int_int
  | str _=>show AbB int_str int_str int_str
  | tup _=>show AbE int_tuple int_tuple int_tuple
  | lst _=>show AbE int_list int_list int_list
  | _=>cases hf
 | str _=>
  show APu a;cases d' with
  | non=>show av AhZ AhZ AhZ
  | bl _=>show av Aix Aix Aix
  | int _=>show AbB str_int str_int str_int
  | str _=>show AbB str_str str_str str_str
  | tup _=>show AbE str_tuple str_tuple str_tuple
  | lst _=>show AbE str_list str_list str_list
  | _=>cases hf
 | tup _=>
  show AcG k1 a;cases d' with
  | non=>show av AkS AkS AkS
  | bl _=>show av AkY AkY AkY
  | int _=>show AbC tuple_int tuple_int tuple_int
  | str _=>show AbC tuple_str tuple_str tuple_str
  | lst _=>show ě Aki Aki Aki
  | _=>cases hf
 | lst _=>
  show AcG k1 a;cases d' with
  | non=>show av AkT AkT AkT
  | bl _=>show av AkZ AkZ AkZ
  | int _=>show AbC list_int list_int list_int
  | str _=>show AbC list_str list_str list_str
  | tup _=>show ě Akj Akj Akj
  | _=>cases hf
 | _=>cases hf
theorem Vq(I:Ι)(sF:g_):∀(n:Nat) (A:Around) (d d' :D) (x y:V) (v u:Value),ABm (A.units+n) ->AoT ->Φ A0f (Rep X.K F d' y) VI KL A'B:=by
 intro n;induction n with
 | zero=>
  intro A d d' x y v u hu hc r r' rv ru;show BMO h h h
  ·exact BLZ ψ
  ·cases h
  ·cases h
 | succ n ih=>
  intro A d d' x y v u hu hc0 r r' rv ru;have hu0:A.units<cLine:=Α
  rcases ZQ hc0 with h | ⟨_,xs,ys,h,rfl,rfl,hc⟩ | ⟨_,xs,ys,h,rfl,rfl,hc⟩
  ·exact BLZ hu0
  ·show AyY;show Cb l2 us h2 q2 r';cases rv;cases ru;obtain⟨is1,p1,k1,_⟩:=Ap0 h1;obtain⟨is2,p2,k2,_⟩:=Ap0 h2;have el1:is1.length=xs.length:=by rw[<- p1.length,jO q1]
   have el2:is2.length=ys.length:=by rw[<- p2.length,jO q2]
   have at_:BJE:=by
    intro j g1 g2;have g1' :j<xs.length:=AEm el1 g1
    have g2' :j<ys.length:=AEm el2 g2
    have e1:ML xs xs[j]:=BH g1'
    have e2:ML ys ys[j]:=BH g2'
    show A4 w1 f1 m1 wA q1 e1;show A4 w2 f2 m2 wA q2 e2;show BD z1 c1 b1 p1.get f1;show BD z2 c2 b2 p2.get f2;show AZe y1 is1.toArray z1 c1
    show AZe y2 is2.toArray z2 c2
    simp only [e1,e2];rw[y1,y2];exact(ih A.in1 _ _ w1 w2 z1 z2 A3Z (hc j _ _ e1 e2) m1 m2 b1 b2).eq
   show kT ZR Akd;have same:l1=l2 ->Aab:=fun e=>by
    have z:=yc3 I sF NO RF AFa ATU (ARN lu hc) A'f BFK
    exact z
   have ev:(ANW (min is1.toArray.size is2.toArray.size) (DA Afr)&&is1.toArray.size==is2.toArray.size)=mT:=by
    have s1:is1.toArray.size=xs.length:=BH el1
    have s2:is2.toArray.size=ys.length:=BH el2
    rw[s1,s2];show A7u
    ·rw[z7p _ hl];exact BCN
    ·rw[zsh hl,beq_false_of_ne hl,Bool.and_false]
   have rc:=SeqAt.RcAt.tuples k1 k2 hu0 at_;have rn:=SeqAt.RcNeAt.tuples k1 k2 hu0 at_;rw[ev] at rc rn;show CF ?_ rc rn;show HA l1 l2
   ·rw[same e];subst e;exact AgY
   ·exact SeqAt.EqAt.of_refs e rc
  ·show AyY;show Cb l2 us h2 q2 r';cases rv;cases ru;obtain⟨is1,p1,k1',_⟩:=I.list (sF.seq h1);obtain⟨is2,p2,k2',_⟩:=I.list (sF.seq h2);have k1:=k1'.isList;have k2:=k2'.isList;have el1:is1.length=xs.length:=by rw[<- p1.length,jO q1]
   have el2:is2.length=ys.length:=by rw[<- p2.length,jO q2]
   have at_:BJE:=by
    intro j g1 g2;have g1' :j<xs.length:=AEm el1 g1
    have g2' :j<ys.length:=AEm el2 g2
    have e1:ML xs xs[j]:=BH g1'
    have e2:ML ys ys[j]:=BH g2'
    show A4 w1 f1 m1 wA q1 e1;show A4 w2 f2 m2 wA q2 e2;show BD z1 c1 b1 p1.get f1;show BD z2 c2 b2 p2.get f2;show AZe y1 is1.toArray z1 c1
    show AZe y2 is2.toArray z2 c2
    simp only [e1,e2];rw[y1,y2];exact(ih A.in1 _ _ w1 w2 z1 z2 A3Z (hc j _ _ e1 e2) m1 m2 b1 b2).eq
   show kT ZR Akd;have same:l1=l2 ->Aab:=fun e=>by
    have z:=yc3 I sF NO ć ř ATU (ARN lu hc) A'f BFK
    exact z
   have rcn:SeqAt.RcAt A s ATU (AG l2) Akd/\SeqAt.RcNeAt A s ATU (AG l2) (! mT):=by
    show A7u
    ·have ev:ANW is1.toArray.size (DA Afr)=mT:=by
      have s1:is1.toArray.size=xs.length:=BH el1
      rw[s1];exact BCN
     have hz:is1.toArray.size=is2.toArray.size:=by simp [el1,el2,hl]
     have rc:=SeqAt.RcAt.lists k1 k2 hz hu0 at_;have rn:=SeqAt.RcNeAt.lists k1 k2 hz hu0 at_;rw[ev] at rc rn;exact⟨rc,rn⟩
    ·have hz:(is1.toArray.size !=is2.toArray.size)=true:=by simp [el1,el2,hl]
     rw[zsh hl];exact⟨SeqAt.RcAt.lists_lengths k1 k2 hz hu0,SeqAt.RcNeAt.lists_lengths k1 k2 hz hu0⟩
   obtain⟨rc,rn⟩:=rcn;show CF ?_ rc rn;show HA l1 l2
   ·rw[same e];subst e;exact AgY
   ·exact SeqAt.EqAt.of_refs e rc
def rY:EG:=f_ (lu 20 x y/\PP (nD x y))
def yO:EG:=f_ (lu 20 x y/\PP (! nD x y))
theorem qb(hu:X.A.units+21<cLine):pr Eq rY:=by
 rintro pins s σ H x y u w Q I rx ry ⟨F,d1,d2,P,sF,r1,r2,h,k⟩;exact kT (Vq I sF 20 X.A d1 d2 x y u w hu h.1 r1 r2 rx ry).rc (Ļ AVc)
theorem GR(hu:X.A.units+21<cLine):pr NotEq yO:=by
 rintro pins s σ H x y u w Q I rx ry ⟨F,d1,d2,P,sF,r1,r2,h,k⟩;exact kT (Vq I sF 20 X.A d1 d2 x y u w hu h.1 r1 r2 rx ry).ne (Ļ AVc)
#where
theorem ZS{K:W.Frag}{h:Heap}{C:Addr}(X:Ll)(q:AKU)(D:Addr){nm qn:Str}{N:Addr}{bs bm:Τ}{hdct:Bool}{sn:Β}{sub:Τ}{ab:Bool}{col:ATi}{dd:IE}{k0 k1 k2 k3 k5:L5}{newId:String}
  (e:BLT newId):AHm (AG D)=bC K C D:=by
 unfold lY lW at q;show ZI
 ·rename_i ho;have z:=AnA;rw[e] at z;unfold bC;rw[ho];cases z
  rfl
 ·cases q
section
variable{M:Model}{A:Around}{E:dh}{h:Heap}{g:hW}{d:Drawn}{t:Nat}{os:OsState}
 {nm q nm' q' :Str} {C N C' N' :Addr} {bs bm bs' bm' :Τ} {hdct GX :Bool} {sn sn' :Β} {sub sub' :Τ} {ab ab' :Bool} {col col' :ATi} {dd Lh :IE} {k0 k1 k2 k3 k5 j0 j1 j2 j3 j5:L5} {newId newId' :String}
theorem ZV(hC:ko C (excClassObj nm q C N bs bm hdct sn sub ab col dd k0 k1 k2 k3 k5 newId))(hD:ko C' (excClassObj nm' q' C' N' bs' bm' GX sn' sub' ab' col' Lh j0 j1 j2 j3 j5 newId'))
  (he:TC oe) (hcls:AOX) (hbase:bm'.contains AJq=true) (hq:Q (AHm (AG C')) ACN):BGM (excMatches B9 (AG C')):=by
 show Anb cb (Value.ref C' ::bm').contains hbase
 have nt:=tc_notTuple;generalize hk:AHm (AG C')=k at hq
 repeat (first | show Auk he hcls | show uu hD | show ASi hD cb | show ASi hC hk | wp_step)
 cases (k)<;>(wp_walk;exact hq)
#where
abbrev _root_.L2.Cx.hand(X:Cx)(a:Addr):Cx:={X with A:=X.A.mark (some B9),calm:=false}
section
variable{X:Cx}{pins:dD}{σ:St}{H:Hp}{s:Shared}{a:Addr}
theorem yf2(ok:X.Ok)(a:Addr):(X.hand a).Ok:=
 ⟨ok.mod,ok.kind,ok.glob,ok.blt,ok.above,ok.inj,ok.has,ok.cab,Ξ (ACG z),ok.frames,ok.stk,ok.Zf,ok.bs,ok.bsz,ok.Gn,ok.Gp,ok.funs,ok.frf⟩
theorem Ob(I:Ι)(a:Addr):cc ADx σ H s:=Akm (yf2 I.ok a)
theorem ZW(ok:X.Ok)(z:NQ):AjP:=⟨ok.mod,ok.kind,ok.glob,ok.blt,ok.above,ok.inj,ok.has,ok.cab,ok.hd,ok.frames,ok.stk,ok.Zf,ok.bs,ok.bsz,ok.Gn,ok.Gp,ok.funs,ok.frf⟩
theorem z3x(I:AYV):Inv Aou [] σ H s:=
 ARx (ZW I.ok _) (XI (I.pin p (Bz hp)))
theorem Ro(I:Inv Aou pR σ H s):AYV:=
 ARx (ZW I.ok _) (XI (I.pin p (zQ _ hp)))
theorem yil(BJH){pR :dD}(h:SP Aou pR D f s):AYm s:=by
 cases f with
 | next=>show Akk
 | brk=>show Akk
 | cont=>show Akk
 | ret u=>obtain⟨v,σ',H',I,r,q⟩:=h;exact⟨v,σ',H',Ro I,r,q⟩
theorem Vr(ok:AjP)(I:cc A2g σ H s):AYV:=
 Akm ok
theorem zuo(BJH)(ok:AjP)(h:SP A2g pins D f s):AYm s:=by
 cases f with
 | next=>show Akl
 | brk=>show Akl
 | cont=>show Akl
 | ret u=>obtain⟨v,σ',H',I,r,q⟩:=h;exact⟨v,σ',H',Vr ok I,r,q⟩
#where
def jN:XW:=ce
theorem vV.base{K:W.Frag}{F0 H0 F H:Hp}{D2:pW}{D:Ends}(k:AYx F)(g:AXP):vV K F H0 F D2 D:=
 ⟨Asz k.nx,Asz k.bk,Asz k.ct,BHp k.rt r,BHp k.rf (ztr (z07 g.f) d v r),fun t v as F' H' gr nd hn r h=>k.rT t v as F' H' BLI nd hn r h,fun d v Γ F' H' σ R r h=>k.rm d v Γ F' H' σ BKo r h⟩
section
variable{X:Cx}{pins:dD}{σ:St}{H:Hp}{s:Shared}
theorem Ef:Ctx (X.wsh ⟨ce,pn⟩) F0 H0 jN:=
 BJq (Fm _ PassesOwnAt.never)
theorem z47(I:Ι)(hN:X.N.Nodup)(hi:B8 X.N n)(hk:AZF đ)(hσ:AiK)
  (h:ANq (ABa AQ4 H s')):YY (unbindName X.env n):=by
 show BFd;show MI r l (hl i n v hi hσ Ag0);have hm:m n=some u:=by
  rcases l with ⟨_,e⟩ | ⟨k,_⟩
  ·exact e
  ·have k' :AZF ci\/AZF LH:=k;rw[hk] at k';rcases k' with k' | k' <;>cases k'
 have hcls:(X.env.scope.kind== .class || A8c)=false:=BNG
 have Zh:i<σ.length:=KI hσ;have cne:=I.cne;refine wpAny_unbindName_local hk hn hm hcls (EX h' u' hn' hs);have old:cn X.s₀.heap.get? ACp:=GW A5k;refine h _ (BBg (IA ob e))
 ·exact Aiy (AXD hb hx)
 ·show AbJ;exact⟨sl,Aiy e1⟩
 ·show AO4;exact⟨o',Aiy e1⟩
 ·have hj:qA:=Ξ (by
   subst z;show AGh Zh;cases e2)
  show Ai9 hj;show PU w r' (hl j y v' e1 e2 e3);show BA w r';show AgA q k e k e z
  ·show BAS (y≠n) hi e1
  ·show Aa3 Abw
 ·obtain⟨w',z⟩:=A0d;exact⟨w',Abw⟩
 ·show AHx;exact⟨FL hs.2 A2 ne e,n,ne,nf,d⟩
 ·refine(I.hok b ob e).stay (fun c w' hc q=>A8T) AHK X_;rintro rfl;rcases hc with z | hc
  ·rw[<- z,I.free] at e;cases e
  ·show GG I.free hc hc
#where
def um(YN)(Cd:Addr)(tb th:aH):aH:=BGA D Γ1
def nR(K:W.Frag)(Cd:Addr)(i:Nat)(tb th:aH):aH:=BGA A'o (Γ1.set i (.pu (.exc C)))
def cU(g:Ab7)(ta:cg):cg:=L8 ta d (g d fun d' =>(DM d'))
def jh:Ab7:=fun x P=>(i' x Co (NY (-i)))
inductive Ls (K:W.Frag) (g:M3) (vs:Ζ) (H:Hp) (Q:VK):Prop
 | mk:BDo BIL Ls
def uo(K:W.Frag)(g:M3):ie:=fun vs H Q=>Ls K g vs H Q
def jm(g:M3)(t:cN):cg:=P4 (g ds fun d=>(DM d))
def cI:EG:=f_ (match x,y with
 | ZT,Co=>A_U
 | SA,Co=>A_U
 | AUG,Co=>∃c,Agh/\A0v/\P (.str Akv)
 | _,_=>False)
theorem zr8(Kb){ds:Ε}{vs:Ζ}{i:Int}{d:D}(r:F_)(h:Ę ds d):AMt (Ę vs v):=by
 unfold mQ at h⊢;rw[<- jO r];cases q:vR ds.length i with
 | none=>rw[q] at h;cases h
 | some j=>
  rw[q] at h;exact wA r h
section
variable{X:Cx}{F0 H0:Hp}{a b e:Expr}{es:A5}{pos p:Pos}{ta tb te:cg}{t:cN}{x:Str}
theorem G3(ha:SD):CA (.UnaryOp .USub a pos) (cU jh ta):=fun z E cx=>
 nO (yl4 yku DS) (Do σ H Q hq1 P hq1 (AaF (by
  cases d with
  | int i=>
   show Md i r Asg
  | _=>show JY q)))
theorem ycz(NW){g:M3}{E:XW}{σ:St}{H:Hp}{Q:VK}(h:Gz K F0 H0 Anc E σ H Q):A9a uo:=by
 show Lm h;exact BH5 (fun d z F' H' gr rz hp=>k d Γ1 F' H' z AKm (ABp gr.f) rz hp)
theorem pP{id:String}{g:M3}(hc:∀z,dF E4 tS (uo X.K g))(hg:Hk)(hm:ű)(hv:Ś tS)(ha:LX)(hn:vk :=by decide)(hdb:As x "__debug__":=by decide)
  (YI):CA YE Anc:=fun z E cx=>
 nO (AYk Uw hv hn hdb hpl) (i3 ycz)
theorem dB(ha:SD)(hb:ng)(hs:zyb b):AVy a b (HP ta tb):=fun z E cx=>
 nO (J_ yjd r (rW X.K cI) (by
  rintro value slice pins s σ H x y v u Q I rx ry ⟨F,d1,d2,P,sF,r1,r2,h,k⟩ hs;show Bi cI;show C5
  ·show Cb p vs hq rs r1;subst r2;show FV d e hp;show A4 w ew tK zr8 rs e;exact z6s value slice pins s σ H _ _ v u Q I rx ry ⟨p,vs,_,w,rfl,rfl,sF.seq hq,ew,r6 tK hp⟩ hs
  ·show Cb p vs hq rs r1;subst r2;show FV d e hp;show A4 w ew tK zr8 rs e;exact ykf value slice pins s σ H _ _ v u Q I rx ry ⟨p,vs,_,w,rfl,rfl,sV sF hq,ew,r6 tK hp⟩ hs
  ·show AA_;show QP c hz e hp;exact yk1 value slice pins s σ H _ _ v u Q I rx ry ⟨_,_,c,rfl,rfl,hz,e,r6 IP hp⟩ hs
  ·show EO) DS LT hs) (i3 ZF)
#where
def Bj:M3:=ACI [Co] (NY APO)
def oN:M3:=APz (match ds with | AIf=>AtO | [SA]=>AtO | [AUG]=>BM z.length/\NY z.length | _=>False)
def G4:M3:=A5L (j>i)
def G5:M3:=A5L (j<i)
section
variable{X:Cx}
theorem yhz:AGK "abs" Bj:=by
 rintro pins s σ H xs us Q I r ⟨F,ds,P,sF,rs,h,k⟩;show Bi Bj;show C5
 ·show AYX;exact ON z9y _ us Q I r (Of mI)
 ·show EO
theorem vX:AGK "len" oN:=by
 rintro pins s σ H xs us Q I r ⟨F,ds,P,sF,rs,h,k⟩;show Bi oN;show C5
 ·show i4;rw[UB] at h;exact ON zly _ us Q I r (No p AZL mI)
 ·show i4;rw[UB] at h;exact ON zly _ us Q I r (No p AZM mI)
 ·show AYX;exact ON zv0 _ us Q I r (IN rfl h.1 AVc)
 ·show EO
#where
def tyD:D ->GL String
 | AF=>some "NoneType" | XE=>some "bool" | UE=>some "int" | U2=>some "str" | ALg=>some "tuple" | g6=>some "list" | š=>none | Ţ=>none | Aiv=>none | xh=>none | xi=>none | AFo=>some "dict"
def abb(d:D)(T:String):ATi:=(tyD d).bind fun S=>W.kitOne [] (Kk S) vb
def ur(T:String)(ta:cg):cg:=L8 ta d (match abb d T with | AQ1=>DM AUd | none=>False)
def gC(C:Addr)(t:cN):aH:=AlH (AM' (E Γ1 EU))
section
variable{X:Cx}{F0 H0:Hp}{e:Expr}{es:A5}{pos np cpos:Pos}{t:cN}{x:Str}{C:Addr}
theorem zys(hh:C3)(hg:Hk)(hm:ASX)(hC:lC X.K C)(ha:LX)
  (hd:As x "__debug__":=by decide) (AVV):
  NI AfP (gC C t):=by
 rintro z E cx pins s σ H D I ⟨F,Γ,D2,R,h,k⟩;refine J_ yau E (fun C' dx H1=>∃F1 Γ1,AJI/\E Γ1 EU) hg hm hC DS hh I (RE ⟨BLV,F1,Γ1,R1,h1.2⟩) (fun H1 s1 e s' I1 hx=> ?_) hd he hpl
 obtain⟨a,C',H',B,dx,h1,h2,h3,h4,h5,h6,h7,h8,rfl,h9,rfl,F1,Γ1,R1,hE⟩:=hx;exact AYu _ I1 R1 ⟨a,_,_,B,dx,h1,h2,h3,h4,h5,h6,h7,h8,_,_,hE,Gr.refl R1.g,rfl,h9⟩
#where
structure cD (Axv):Prop where
 ex:A4I (AGs nq)
section
variable{X:Cx}{F0 H0:Hp}{e:Expr}{es:A5}{pos p:Pos}{x:Str}{ps:Β}{k:Nat}{sp:dw}{t:cN}
theorem cA(Asp cD):
  CA YE (aC sp t):=by
 obtain⟨f,fd,h1,h2,h3,h4⟩:=G.ex;exact z7y h1 hr hg h2 h3 h4 ha hdb he hpl
#where
section
variable{X:Cx}{pins:dD}{σ:St}{H:Hp}{s:Shared}{a:Addr}{o:HO}
theorem Inv.track(I:Ι)(hn:eh)(ok:ABk (ACX o) s.heap a o)(n0:Fr X.s₀.heap.get?)(nl:a≠X.env.locals)(nc:mP a)(np:ARh a):OL (ACX o) s:=by
 refine⟨I.ok,I.os,I.bare,⟨I.base.keep,I.base.slot,DL b u e n hx,I.base.there,IA xs e,Ź xs e,IA ps e⟩,I.loc,I.cell,?_,AGy,ZA,ER,I.len⟩
 show JE (Ķ (AV5 n0)) (I.base.free b u e n hx)
 ·have q:=I.base.tups b xs e;rw[AQT];exact q
 ·have q:=I.base.j6 b u xs e;rw[AQT];exact q
 ·obtain⟨m,q⟩:=Azu;exact⟨m,ż⟩
 show JE (ADX nl) I.free
 ·rw[bG (nc x c e)];exact I.freeC x c e
 ·show AHx;exact⟨e,Ο (bG (np p hp)) n,ne,nf,d⟩
 ·show N_
  ·show AmA ok
  ·rw[X9] at e;exact AlE (fun c v _ q=>q) (MV q ż) (pk q ż)
#where
def ZX:dw:=BFi (PP true)
theorem Z0(Kb):∀ns:An,JS ACv AdD
 | []=>LJ
 | n::ns=>Ň Z0 ns
theorem z3y{K:W.Frag}{H:Hp}{a:Addr}{ns:An}(hl:ASm)(hS:Aaf):nq K ZX LP H AnY mB:=
 ⟨H,Su ACv,fun d=>d= ADG,XT,c0,J8 (A7 (aE a hS (Z0 ns))),wP ns rfl hl,BMB (by subst h;exact r),AlP h h.elim⟩
theorem yb4(h:eO P w [] H s (mB) e s'):False:=by
 obtain⟨_,_,_,_,_,_,_,_,_,_,_,_,_,h⟩:=h;exact h
structure Cls where
 dX:Addr:=0
 Oc:Addr:=0
 abd:Addr:=0
 abe:Addr:=0
 abJ:Addr:=0
 Missing:Addr:=0
 Vs:Addr:=0
 vP:Addr:=0
 Apart:Addr:=0
 Z1:Addr:=0
 bK:Addr:=0
 Open:Addr:=0
 abf:Addr:=0
 Rp:Addr:=0
 abK:Addr:=0
 Scale:Addr:=0
 abN:Addr:=0
 ak:Addr:=0
 abO:Addr:=0
structure G6 (y9):Prop where
 ga:Adj "__getattribute__" "BaseException.__getattribute__"
 gn:AVU "__getattr__"
 cl:Adj "__class__" "object.__class__"
 ob:A3W ALv
 be:A3W AJq
def uw(K:W.Frag)(C:Addr)(ta:cg):cg:=BBb (bC K C0 C)
section
open PySem.W PySem.Builtin PySem.Builtin.ObjectAttr PySem.Builtin.Getset_descriptor
variable{prog:Program}{w:World}{A:Around}{E:dh}{K:W.Frag}{h:Heap}{g:hW}{d:Drawn}{t:Nat}{os:OsState}{a C:Addr}{o:Obj}
theorem zro(X:Ll)(G:G6 K C)(hx:pV)(hc:AWG)(hq:Q () ACN):BGM (checkBuiltinCall "BaseException.__getattribute__" (E6 [AI,nameV])):=by
 have hk:builtinKind "BaseException.__getattribute__" =some .slot:=Mb
 have hsp:splitId "BaseException.__getattribute__" =some ("BaseException","__getattribute__"):=Mb
 have ha:=F.args_bexc_ga B9 nameV;have L1:=looks_mroIn (M:=M) X G.be;simp only [checkBuiltinCall,hk,hsp];show KO;unfold isInstance
 repeat (first | show Auk hx hc | with_reducible refine L1.at ?_ | wp_step)
 exact hq
#where
theorem z8p:∀(names:UN) (n:Nat) (acc:m_),(∀p∈names,A0Z) ->AXe n names acc x=acc.lookup x
 | [],_,_,_=>rfl
 | Anf,n,acc,h=>by
  unfold cellsFrom;show D7 hr p r A0Z p hp BKy;split
  ·rename_i hk;have hy:y≠x:=h (y,k) zY AT2
   rw[A5K,List.lookup_cons];have:GN (x==y):=Ο beq_eq_false_iff_ne (Ne.symm hy)
   rw[this]
  ·exact A5K
theorem z4g:∀(names:UN) (h:Heap) (acc:m_),AMz (cellsFrom h.objs.size names acc) ->AMz acc\/ (h.objs.size<=c/\ (pushCells h names).IsCell c none/\ At5 names)
 | [],_,_,m=> .inl m
 | Anf,h,acc,m=>by
  unfold cellsFrom at m;unfold pushCells;split at m
  ·rename_i hk;show AFZ;show ANp sz (Ò h.push (AH2 "cell" cell none)) (h.objs.size+1);rw[<- sz] at m;show ArD (z4g r _ _ m)
   ·rcases AKH with e | z
    ·cases (e);have e2:k= ci:=A0 hk
     subst e2;show MY ⟨HC,?_,zY⟩;exact G1 (pushCells_keeps r _ _ _ AZR)
    ·show B3 z
   ·show DJ ⟨by rw[sz] at z1;omega,z2,zX _ z3⟩
  ·rename_i hk;show AFQ;show ArD (z4g r h acc m)
   ·show B3 z
   ·show DJ ⟨z1,z2,zX _ z3⟩
theorem zth:∀(names:UN) (n:Nat) (acc:m_),(acc.Pairwise fun x y=>AY7) ->(∀p∈acc,p.2<n) ->(cellsFrom n names acc).Pairwise fun x y=>AY7
 | [],_,_,h,_=>h
 | Anf,n,acc,h,hl=>by
  unfold cellsFrom;split
  ·refine zth r _ _ (List.pairwise_cons.mpr ⟨Q3 p hp,h⟩) ZA
   ·have e' :n=p.2:=e;exact yV _ (Nat.lt_of_lt_of_eq (hl p hp) e')
   ·show K2 hp hp
    ·exact ALS
    ·exact Nat.lt_succ_of_lt (hl p hp)
  ·exact zth r n acc h hl
def qU(env:Env):UN ->m_ ->m_
 | [],cs=>cs
 | AXF,cs=>qU env r (AY (k== LH) ((n,(env.cells.lookup n).getD 0)::cs) cs)
theorem ygj(h:∀p∈scope.names,Acv):closureFor scope env=pure A3m:=by
 have key:∀(names:UN) (cs:m_),Al0 ->
   (forIn names cs fun(x:Str×NameKind) (r:m_)=>(if x.2== LH then do let a<- cellOf env x.1;AXb ((x.1,a)::r) else AXb r:Sem _))=pure (qU env names cs):=by
  intro names;induction names with
  | nil=>intro cs _;rfl
  | cons p r ih=>
   intro cs hh;obtain⟨n,k⟩:=p;show ArQ;rw[List.forIn_cons];unfold qU;show Apk
   ·obtain⟨c,e⟩:=hh uk zY AT2
    have e' :cellOf env n=pure c:=by unfold cellOf;rw[e]
    simp only [hk,if_true,e',pure_bind,e,Option.getD_some];exact ih _ hr
   ·have hk' :(k==NameKind.free)=false:=A0 hk
    simp only [hk',Bool.false_eq_true,if_false,pure_bind];exact ih _ hr
 unfold closureFor;have:=key scope.names [] h
 simpa using this
theorem zsk:∀(names:UN) (cs:m_),Al0 ->AMz (qU env names cs) ->AMz cs\/ (AV4 names/\AMF)
 | [],_,_,m=> .inl m
 | AXF,cs,hh,m=>by
  show ArQ;rcases zsk r _ hr m with z | ⟨z1,z2⟩
  ·split at z
   ·rename_i hk;rcases AKH with e | z
    ·cases (e);have e2:k= LH:=A0 hk
     subst e2;obtain⟨c,e⟩:=hh (_,LH) zY rfl;show MY (Ev zY);show Sc AMF;rw[e'];rfl
    ·show B3 z
   ·show B3 z
  ·show DJ ⟨zX _ z1,z2⟩
theorem Z2(e:AMF):A'9 ((AV4 names\/Ñ cs.lookup) ->(∀c',C9 cs.lookup c' ->c' =c) ->Ñ (qU env names cs).lookup)
 | [],cs,h,_=>by
  show OE h
  ·cases h
  ·exact h
 | AXF,cs,h,hu=>by
  unfold qU;show Apk
  ·show AFZ;by_cases hn:x=n
   ·subst hn;refine Z2 e r _ (CY ?_) (AD c' q)
    ·rw[List.lookup_cons];simp [e]
    ·rw[List.lookup_cons] at q;simp [e] at q;exact q.symm
   ·have hb:(x==n)=false:=Ο beq_eq_false_iff_ne hn
    refine Z2 e r _ ?_ (AD c' q)
    ·show OE h
     ·show A3T hn
     ·show MY ?_;rw[List.lookup_cons,hb];exact h
    ·rw[List.lookup_cons,hb] at q;exact hu c' q
  ·show AFQ;refine Z2 e r cs ?_ hu;show OE h
   ·show A3T hk
   ·show DJ h
theorem zln(inj:Aq5 AMF (env.cells.lookup y=some c)):A'9 (Φ (names.map (·.1)).Nodup Al0 (cs.Pairwise fun x y=>AY7) (∀p∈cs,env.cells.lookup p.1=some p.2/\p.1∉names.map (·.1)) ((qU env names cs).Pairwise fun x y=>AY7))
 | [],_,_,_,h,_=>h
 | AXF,cs,nd,hh,h,hc=>by
  unfold qU;rw[List.map_cons,List.nodup_cons] at nd;show ArQ;show D7 hc' p cs (ACs env.cells.lookup/\A2∉r.map (·.1)) p hp ⟨ľ hc,Ξ (PH (hc p hp).2 List.map_cons (zX _ z))⟩
  show Apk
  ·show AFZ;obtain⟨c,e⟩:=hh uk zY AT2
   have e' :env.cells.lookup n=some c:=e;rw[e'];refine zln inj r _ nd.2 hr (List.pairwise_cons.mpr ⟨A7i,h⟩) ZA
   ·have z' :c=p.2:=z;have q:=ľ hc;rw[<- z'] at q;have:=inj _ _ _ e' q;exact(hc p hp).2 (AJm List.map_cons this zY)
   ·show K2 hp hp
    ·exact⟨e',nd.1⟩
    ·exact hc' p hp
  ·show AFQ;exact zln inj r cs nd.2 hr h hc'
theorem zgr{scope:Scope}{env:Env}{x:Str}:∀(names:UN) {k:NameKind},C9 names.lookup k ->C9 BBL k\/
   (k= LH/\ AI1 BBL)
 | [],_,h=>AGD
 | (n,k0)::r,k,h=>by
  have ih:= @zgr scope env x r k;show BAt\/ (_/\BAt);cases hx:x==n with
  | true=>
   show AgE hx h;cases h;by_cases hc:Afa
   ·show DF hc;show BML hc;exact .inr ⟨A0 hc.1.1,by show AXW⟩
   ·show BF hc;exact .inl (by show AXW)
  | false=>
   show AgE hx h;by_cases hc:Afa
   ·show DF hc;show AXW;exact ih h
   ·show BF hc;show AXW;exact ih h
def j7(scope:Scope)(C:Addr)(env:Env):Env:=
 {scope:=relabel scope env,locals:=C,globals:=env.globals,cells:=cellsFrom (C+1) scope.names A3m,qual:=env.qual,func:=none,code:=env.code,frame:=env.frame,builtins:=env.builtins}
def blk(X:Cx)(scope:Scope)(N:Β)(C:Addr)(s₀:Shared)(H₀:Hp)(fp:AR):Cx:=
 {X with env:=j7 scope C X.env,N:=N,s₀:=s₀,H₀:=H₀,outer:=X.stack,stack:=X.stack,ex:=fp,fn:=US (scope.names.lookup x==AIo),pn:= [],xe:=ce}
def xU(own:Nat)(caps:Ap)(σ:St):St:=ALD own none++caps.map fun j=>Amk
structure jU (N:Β) (sc:Scope) (own:Β) (caps:Ap) (env:Env) (N' :Β):Prop where
 kind:AlR
 nd:N'.Nodup
 snd:AtV
 free:BAm env.kindOf env.kindOf
 names:A6r
 caps:BGC
theorem z4s
  (hQ:Q (newEnv scope s.heap.objs.size g (cellsFrom Uf scope.names cl) q none Ω (A9 env) builtinsNs) (AzH scope.names)):
  YY (newFunctionEnv scope g cl [] q none Ω (A9 env)):=by
 simp only [newFunctionEnv,Option.isSome_some,if_true];show KB wpAny_alloc;refine z6 (wpAny_layCells _ (fun name kind cells=>by cases hkc:kind==NameKind.cell<;>simp [hkc]) _ _ _ _ ?_)
 show KM ((AJA T1:Shared).heap.objs.size=mh) (Heap.size_push ..);exact z6 (z7 (z7 hQ))
section
variable{X:Cx}{pins:dD}{σ:St}{H:Hp}{s:Shared}{sc:Scope}{own:Β}{caps:Ap}{N' :Β}{fp:AR}
theorem Z4(I:Ι)(S:È):∀p∈sc.names,BJ2 X.env.cells.lookup:=fun p hp hk=>I.ok.has _ (S.free p hp hk)
theorem Z5(I:Ι)(S:È)(e:Ahe):
  (Ú/\AjD/\sc.names.lookup x≠AIo)\/ (mh<=c/\ (pushCells Avo sc.names).IsCell c none):=by
 have m:=mem_of_lookup e;show ANp sz (ADL T1) mh;have m' :AMz (cellsFrom (ADL T1) sc.names A3n):=Ο sz m
 show ArD (z4g sc.names _ _ m')
 ·rcases zsk sc.names [] (Z4 I S) z with z | ⟨z1,z2⟩
  ·cases z
  ·obtain⟨v,hc⟩:=I.cell x c z2;refine .inl ⟨z2,hc.lt,EM q⟩;have q' :=mem_of_lookup q;have:=S.snd;show A0U;have d:∀(l:UN),Apx ->AV4 l ->At5 l ->False:=by
    intro l;induction l with
    | nil=>show AOq
    | cons a r ih=>
     intro hp h1 h2;show AaQ hp;rcases zV.mp h1 with e1 | h1<;>rcases zV.mp h2 with e2 | h2
     ·rw[<- e1] at e2;cases (e2)
     ·exact p1 _ h2 (by rw[<- e1])
     ·exact p1 _ h1 (by rw[<- e2])
     ·exact ih p2 h1 h2
   exact d _ this z1 q'
 ·show DJ ⟨by rw[sz] at z1;exact z1,z2⟩
theorem zwn(I:Ι)(S:È)(hk:AFq sc.names.lookup)(e:Ú):Ahe:=by
 show Ñ (cellsFrom _ sc.names A3n).lookup;rw[z8p]
 ·exact Z2 e _ _ (D1 Akw) fun c' q=>by cases q
 ·intro p hp hc z;have q:=mem_of_lookup hk;have:=S.snd;show A0U;have d:∀(l:UN),Apx ->AV4 l ->p∈l ->False:=by
   intro l;induction l with
   | nil=>show AOq
   | cons a r ih=>
    intro hpw h1 h2;show AaQ hpw;rcases zV.mp h1 with e1 | h1<;>rcases zV.mp h2 with e2 | h2
    ·rw[<- e1] at e2;subst e2;cases hc
    ·exact p1 _ h2 (BE e1 z.symm)
    ·exact p1 _ h1 (BE e2 z)
    ·exact ih p2 h1 h2
  exact d _ this q hp
theorem z0b(I:Ι)(S:È)(Vt:BEn AjK)(i:Nat)(x:Str)(v:V)(h1:bc N')(h2:B8 AEP kL):
  ∃u,LW/\Look (Apz s.heap.objs.size) h' m' x u:=by
 have h2' :B8 AEP kL:=h2;have h1' :bc N':=h1;unfold xU at h2';rw[S.names] at h1';show ADS own.length
 ·rw[AVg,List.getElem?_replicate] at h2'
  split at h2' <;>cases h2'
 ·rw[AiM,List.getElem?_map,List.length_replicate] at h2'
  show ALB (List.getElem?_append_right ψ) h1'
  cases hj:caps[i - own.length]? with
  | none=>show GG hj h1' h1'
  | some j=>
   rw[hj] at h1' h2';obtain⟨j1,j2⟩:=S.caps j (yZ hj);have hx:X.N.getD j "" =x:=A0 h1'
   have hσ:ML σ kL:=by
    have:Amk=some v:=A0 h2'
    cases q:σ[j]? with
    | none=>show AJ q;cases this
    | some o=>show AJ q;have:o=some v:=this;rw[this]
   rw[hx] at j2;have hN:ML X.N x:=by
    rw[List.getD_eq_getElem?_getD,b9 j1] at hx;rw[List.getElem?_eq_getElem j1]
    simpa using hx
   obtain⟨m,hn,hloc⟩:=I.loc;have kx:=S.free (x,LH) (AdT j2) rfl;have vis:Nc:=by
    rcases kx with k | k
    ·show DJ (D1 k)
    ·show DJ (CY k)
   show MI ru l (hloc j x v hN hσ vis);show CF u ru (.inr (Ev ?_))
   ·rcases BIr j2 with h | ⟨_,h⟩
    ·show DJ h
    ·show B3 h
   ·rcases l with ⟨k,_⟩ | ⟨_,c,ec,hc⟩
    ·have k' :AIO X.env.kindOf:=k;have kx' :AuA\/AFq X.env.kindOf:=kx;rw[k'] at kx';rcases kx' with z | z<;>cases z
    ·exact⟨c,zwn I S j2 ec,Vt x c _ ec hc⟩
theorem z7i(I:Ι)(S:È)(hf:AMb)(hl:Av2):
  Inv AqC [] AEP H (AzH sc.names):=by
 have keep:xw s.heap.get? (pushCells Avo sc.names).get?:=GW BCx;have ok:=I.ok;have inj:Aq5 Ahe (BKq y=some c):=fun x y c e1 e2=>by
  refine name_of_addr (cs:=AdL cells) ?_ (AdT e1) (mem_of_lookup e2);refine zth _ _ _ (zln ok.inj _ _ S.snd (Z4 I S) List.Pairwise.nil (fun p hp=>(dQ hp))) ZA
  rcases zsk (x:=A2) (c:=p.2) sc.names [] (Z4 I S) hp with z | ⟨_,z⟩
  ·cases z
  ·show AEj hc (I.cell _ _ z);exact Nat.lt_succ_of_lt hc.lt
 show KS frC (E5 (ZH b) FX) (I.hok.fresh hb);have abg:AdL scope.kind= ABz:=S.kind;refine⟨⟨ok.mod,abg,ok.glob,ok.blt,HC,inj,AlZ,EX x c hfn e,ok.hd,ok.frames,AE_,ċ (zL (hl b hb)) A9x,I.bs,zP ok.bsz I.sz,tT e hb,IA hb z,I.stack,I.stkFree⟩,
  rfl,I.bare,Un.kept keep,B5 ((Heap.Ns.new s.heap (Kk "dict")).keeps (pushCells_keeps _ _)) (fun i x v h1 h2 h3=> ?_),AGy,frC _ D4,AGy,AqN,I.hok.kept keep,?_⟩
 ·
  have hx' :AI1 Aq0\/ AFq Aq0:=hx;have:∃k,C9 sc.names.lookup k:=by
   have key:∀(l:UN) (k' :NameKind),C9 (l.map fun uk=>if (AuX k&&AuN) then ARR else uk).lookup k' ->∃k,C9 l.lookup k:=by
    intro l;induction l with
    | nil=>intro k' h;simp at h
    | cons a r ih=>
     intro k' h;obtain⟨n,k0⟩:=a;cases hb:x==n with
     | true=>exact⟨k0,O_ List.lookup_cons hb⟩
     | false=>
      have h2:List.lookup x ((AY (Op (AuX k0) AuN) ARR (n,k0))::(r.map _))=some k' :=h;obtain⟨k,hk⟩:=ih k' (by
       split at h2<;>(show AgE hb h2;exact h2))
      exact⟨k,by simp only [List.lookup_cons,hb];exact hk⟩
   show OE hx'
   ·exact key _ _ h
   ·exact key _ _ h
  obtain⟨k,hk⟩:=this;rcases BIr hk with h | ⟨h1,h2⟩
  ·have hkk:k= ci\/k= LH:=by
    have h' :C9 Aq0 k:=h;rcases hx' with z | z<;>rw[z] at h' <;>cases h' <;>simp
   show gT hkk rfl
   ·exact Option.isSome_iff_exists.mp (W.cellsFrom_some sc.names _ _ Ag0)
   ·show PF c (ok.has x (S.free (x,LH) Akw rfl));exact⟨c,BDK⟩
  ·subst h1;show PF c (ok.has x (S.free (x,LH) Akw rfl));exact⟨c,BDK⟩
 ·
  have abh :ANI:=by
   have:(sc.names.lookup x==some NameKind.cell)=true:=hfn
   simpa using this
  rcases Aad with ⟨_,_,z⟩ | ⟨z,_⟩
  ·show F6 abh z
  ·show ZH c;exact Nat.le_of_succ_le z
 ·rcases Aad with ⟨z1,_,_⟩ | ⟨z1,_⟩
  ·exact Ahu.2.2.2.2.1 x c z1 z
  ·have:=hl b hb;rw[<- z] at this;exact yV _ (zN this (Nat.le_of_succ_le z1))
 ·have q:=(AE' hf).2.1;show SG q q
  ·exact ok.Gn b o e q
  ·have q2:b<X.base.objs.size:=Iy;exact yV _ (zN q2 (zP ok.bsz q))
 ·show JA (Aol z)
  ·exact ADj hf z
  ·exact(We hf).2.1 z
 ·exact BI5 (fun x c v _ hc=>hc.keeps keep)
 ·rcases Aad with ⟨z1,_,_⟩ | ⟨_,z⟩
  ·obtain⟨v,hc⟩:=I.cell x c z1;exact⟨v,hc.keeps keep⟩
  ·exact CI z
 ·rcases Aad with ⟨z1,_,_⟩ | ⟨z,_⟩
  ·exact I.freeC x c z1
  ·exact frC c (Nat.le_of_succ_le z)
 ·show A7_;rw[S.names];unfold xU;simp
theorem z5q(I:Ι)(S:È)(hf:AMb)(B:Inv AqC pR σ5 H5 s5):
  Inv AqC pR AEP H5 s5:=by
 obtain⟨m,hn,_⟩:=B.loc;have kc:BEn (s5.heap.IsCell c v):=fun x c v e (Ů hd)=>by
  have nx:c∉fp:=Ξ ((hf c z).2.2.2.2.1 x c e rfl);by_cases hc:c∈SC
  ·show ă q (B.base.slot c o ho ANj hc nx);exact B5 q hd
  ·exact Sn (B.base.keep c o ho ANj hc nx) hd
 exact⟨B.ok,B.os,B.bare,B.base,⟨m,hn,fun i x v h1 h2 h3=>(BI5 kc)⟩,B.cell,B.free,B.freeC,B.pin,B.hok,by show A7_;rw[S.names];unfold xU;simp⟩
#where
abbrev z5z(ifs:A5)(env:Env):AMY:=forIn ifs true fun c r=>if r=true then do let ok<- isTrue c env (tw c);AXb ok else AXb r
section
variable{prog:Program}{w:World}{A:Around}{R:AhU}{s:Shared}
theorem z4o(I:Dx Nat)
  (turn:∀n s,I n s ->wpAny DV A (pyNext it) (WS s₁ (match r with
   | none=>R (.ok u7) s₁
   | Ğ=>AMK (letOwnedTupleGo target it v) (Ff s₁' (AMK (assign target env v) (Ff s₂ (AMK (z5z ifs env) (fun ok s₃=>
      (EJ ok (AMK (tw elt) (fun x s₄=>
       (AMK (AKX "list.append" [acc,x]) (Ff s₅ (∃m,m<n/\I m s₅)) s₄)) s₃) (∃m,m<n/\I m s₃))) s₂)) s₁')) s₁)) AI0 s)
  (n:Nat) (h:I n s):
  codeAny DV A (.compLoop A0J 0 it acc env) R s:=by
 refine codeAny_loop rfl I (Κ n s hI) n h;show wpAny _ A ((compTurn A0J 0 it acc env).onRaise (fun x=>do noteFrame x env;theTreesLotGoes x)) _ _ s;refine wpAny_noted ?_;rw[compTurn_list];show D3 wpAny_standAt (z6 (ĭ (turn n s hI) (AOk r) AHL));cases r with
 | none=>exact z7 h₁
 | some v=>
  show iE h₁ (Κ _ s₁' h₁') AHL;show iE h₁' (fun _ s₂ h₂=>z6 (wpAny_mono h₂ (Κ ok s₃ h₃) AHL)) AHL;cases ok with
  | false=>exact z7 (E7 h₃)
  | true=>
   exact z6 (z6 (ĭ h₃ (fun x s₄ h₄=>z6 (wpAny_mono h₄ (fun _ s₅ h₅=>z7 (z7 (E7 h₅))) AHL)) AHL))
#where
def Z6(X:Cx)(ifs:A5)(t:TT):Prop:=
 AoC Ũ (AQA (z5z ifs X.env) TP)
theorem yg4:Z6 X [] (fun _ H Q=>Q true H):=BHf (wpAny_tests_nil ⟨H,I,h⟩)
theorem yg0(h:PT X c t):Z6 X [c] t:=fun pins s σ H Q I q=>wpAny_tests_one (AQN Q I q)
structure Vu (AK_) (tg:Expr) (J:It) (fp:AR) (it:Addr) (tn:AMr) (cm:C7 Cx):Prop where
 mem:it∈fp
 obj:A9V
 keep:BHC
 item:Ab2 (cm X) (Φ Ι AVo AKc AVZ (AbD (∃u,r=some u/\
   wpAny sw X.A AqM (Ff s2 (∃x H',AVT/\uj/\J.yld i H x H' /\A1N/\Tb ACU)) E s1)))
 done:Ab2 (cm X) (Φ Ι AVo AKc AVa (AbD A1G))
 self:BHo
def abj(BJm):Prop:=
 ∃(it:Addr) (fp:AR) (tn:AMr) (J:It) (H' :Hp) (cm:C7 Cx),itv= .ref it/\AVT/\Vu X.prog X.w X.K tg J fp it tn cm/\A0i/\ (P8 fp AX3)/\AZg /\
  ∀Y:Cx,Y.A=X.A ->Y.calm=X.calm ->(∀b o u,AJN ADK ->HH Y.H₀ ADK) ->cm Y
def PIg(BEd):Prop:=
 AKu R ADH (wi σ H R) AME (A8s (abj X pins σ tg R))
theorem Z7(hc:C3)(hi:A0w):BCi:=fun pins s σ H R I h=>
 bW (AOx hi R) (Ģ h1 (bW h1 fun itv s2 hq1=>by obtain⟨it,fp,tn,J,H',e,I',T,st,f,r⟩:=hq1;exact⟨it,fp,tn,J,H',fun Y=>Y.calm=true,e,I',⟨T.mem,T.obj,T.keep,T.item,T.done,T.self⟩,st,f,r,fun Y _ q _=>q.trans hc⟩))
def G7(acc:Addr)(J:It)(σ' :St)(g:TG)(tc:TT)(te:TE)(Q:AFb)(H1:Hp):Prop:=
 AG2 AFc (W 0 m [] H1) (∀i m vs H,W i m vs H ->K' acc OU/\vs.length<sizeLine+1/\
  ((AVa/\FS acc H)\/ (AVZ/\tJ vs.length/\∀x H',J.yld i H x H' ->g x σ' H' (AI2 (tc σ2 H2 fun b H3=>
   (EJ b (te σ2 H3 fun v H4=>H4 acc=some OU/\AIr (W BS m' AJK (upd H4 acc (CO AJK)))) (AIr (W BS m' vs H3))))))))
def Vv(own:Nat)(caps:Ap)(wi:TI)(g:TG)(tc:TT)(te:TE):TE:=IU wi J (∀acc,lr acc ->G7 acc J (xU own caps σ) g tc te Q (WI acc AP0))
section
variable{X:Cx}{sc:Scope}{own:Β}{caps:Ap}{N' :Β}{elt tg iter:Expr}{ifs:A5}{pos:Pos}{wi:TI}{g:TG}{tc:TT}{te:TE}
theorem Z8(S:È)(hi:BCi)
  (hg:AsQ PG tg g) (ht:AsQ Z6 ifs tc) (he:AsQ PE elt te)
  (ee:e= .ListComp elt [AP1 tg] sc pos) (hs:ax iter)
  (I:Ι) (h:Vv own.length caps wi g tc te σ H Q)
  (fin:∀acc C H' s5,à s5 ->Φ AkF (∃m,s5.heap.Ns C m) (H' C=none) (C≠X.env.locals) (Φ (ACm C) (mP C) (∀p∈X.pn++pins,A2≠C) (C∉X.fs) (compPost Si X.A X.xe use Qv ny C (.ok u7) s5))):
  Ô (comprehension e sc X.env ps Amw false AME use) Qv:=by
 subst ee;refine DZ wpAny_comprehension_free g (AP1 tg) gs [] cl (qU X.env sc.names []) rfl hs (ygj (Z4 I S)) S.kind ?_ BEY
 ·intro p hp hk;have nd:=S.snd;rw[List.Nodup,List.pairwise_map] at nd;have d:∀(l:UN),Apx ->p∈l ->l.lookup A2=some đ:=by
   intro l;induction l with
   | nil=>show AOq
   | cons a r ih=>
    intro hpw h1;show AaQ hpw;show OQ h1 e1 h1
    ·subst e1;rw[List.lookup_cons];simp [hk]
    ·have hb:(A2==a.1)=false:=Ο beq_eq_false_iff_ne (Ne.symm (p1 p h1))
     rw[List.lookup_cons,hb];exact ih p2 h1
  exact d _ nd hp
 obtain⟨it,fp,tn,J,H2,cm,rfl,I2,T,st2,f2,R2,hcm⟩:=h2;have hp0:=I2.fresh;refine wpAny_newObj_type ?_;have I3:=DZ I2.lnew its [] ys [] t' s2.toks B_ (Nat.zero_le _);generalize hacc:s2.heap.objs.size=acc at*;obtain⟨W,⟨m0,w0⟩,turn⟩:=R2 acc hp0;show KS f3 (Tb (AdJ AIv)) (by
  show oP (We f2);show ō eo (Aa5 st2);rw[At' (BE hacc (Heap.lt_size eo))]
  exact K_ f2)
 have hc:∀C s₀,cm (AH_ C s₀ AIv fp):=fun C s₀=>hcm _ rfl rfl (P7 u e (XB (gS ((AH_ C s₀ AIv fp).H₀=upd H2 acc AP0)) (jp hp0) e))
 show KS hlt (Tb (b< AnR)) (by
  show ō eo (Aa5 st2);rw[Heap.size_push];exact Nat.lt_succ_of_lt (zJ eo))
 have st3:tn 0 (s2.heap.push AJi):=Ae_ st2 cE;refine z4s ?_;show codeAny _ _ (.compStart UP 0 ua ny (Apz AnR)) (compPost _ _ _ use Qv ny AnR) _;generalize hs3:(AZa Ax2:Shared)=s3 at*;have hh3:s2.heap.push AJi=s3.heap:=by rw[<- hs3]
 have abP :(bE s2 Ax2:Shared)=s3:=by rw[<- hs3]
 rw[hh3] at hlt st3⊢;have I4:=z7i I3 S f3 hlt;have st4:tn 0 (pushCells (s3.heap.push T1) sc.names):=Ae_ st3 BCx;have key:codeAny Si X.A (.compLoop UP 0 ua ny (Apz s3.heap.objs.size)) (compPost Si X.A X.xe use Qv ny s3.heap.objs.size)
   (bE s3 (pushCells (s3.heap.push T1) sc.names)):=by
  have stat:HL H' Hp AKj (Tb (nF AEf [] H' b)):=fun hn b hb=>
   ⟨AUY,K_ I4.ok.Zf,I4.ok.Gp b hb,.inl hb,We I4.ok.Zf,AqN⟩
  refine z4o (YU n (BI3 (W i n vs H'))) ?_ m0
   ⟨0,[],AOc xU σ,_,I4,st4,FM (K_ f3),w0⟩
  rintro n s5 ⟨i,vs,σ5,H5,I5,Q6,Zo,w5⟩;obtain⟨ha5,hz5,⟨stop,qn⟩ | ⟨go,hz,step⟩⟩:=turn i n vs H5 w5
  ·show sd (T.done AEf rfl rfl rfl (hc _ _) i [] s5 σ5 H5 _ I5 (stat Zo) Q6 stop) r s6 hz1;obtain⟨hr,I6⟩:=hz1;subst hr;have IX:OL H5 s6:=I3.call' (ch:=fp) I6.os I6.base I6.hok I6.bare (FM ⟨(AE' f3).2.1,ADj f3,(f3 b hb).2.2.2.2.1,(AE' f3).2.2.2⟩);obtain⟨m6,hn6,_⟩:=I6.loc;refine fin acc s3.heap.objs.size H5 s6 IX qn ⟨m6,hn6⟩ I6.free (wc I3.lt) I3.sz (fun x c e z=> ?_) (Κ p hp z) (I3.nofs (zO _))
   ·show AEj q (I3.cell x c e);exact NH q.lt AoP
   ·exact oB zJ (ľ I3.pin) AoP
  ·
   have I5' :Inv AEf [] AEP H5 s5:=z5q I3 S f3 I5;show sd (T.item AEf rfl rfl rfl (hc _ _) i [] s5 _ H5 _ I5' (stat Zo) Q6 go) r s6 hz1;show MI hr h6 hz1;subst hr;show sd h6 _ s7 hq2;obtain⟨x,H7,I7,r7,y7,st7,fr7⟩:=hq2;have I7' :=I7.pinned (stat fr7) (T.obj _ _ st7);show sd (hg _ _ _ _ _ s7 _ H7 x u _ I7' r7 (step x H7 y7)) _ s8 hz1;obtain⟨σ8,H8,I8,q8⟩:=hz1;refine bW (ht _ _ _ _ _ s8 σ8 H8 _ I8 q8) (IA s9 hz1);show gN H9 I9 q9;have again:∀{vs' :Ζ} {σ' :St} {H' :Hp} {s' :Shared},Inv AEf ([]++uc fp s7.heap) σ' H' s' ->(∃m',m' <n/\W BS m' vs' H') ->
     ∃m,m<n/\BI3 (W i m vs H') :=fun{vs' σ' H' s'} I' ⟨m',hm,w'⟩=>by
    refine⟨m',hm,BQ,vs',σ',H',I'.unpinned,A'r st7 I'.pin,HG,w'⟩;show Ts e d (Aa5 st7);exact BCH I'.pin
   cases b with
   | false=>
    show kU UF q9 (again I9 q9)
   | true=>
    rw[B4] at q9⊢;show sd (he _ _ _ _ _ s9 σ8 H9 _ I9 q9) y s10 Bx;obtain⟨v,H10,I10,r10,Od,q10⟩:=Bx;refine bW (zt4 (X:=blk X sc N' s3.heap.objs.size s3 AIv fp) _ s10 σ8 H10 ny [v] ny [y] (Ff H' (H' =upd H10 acc (CO AJK))) I10 rfl (AM0 r10) ⟨acc,vs,v,rfl,rfl,Od,hz,rfl⟩) (Κ _ s11 xO);obtain⟨_,H11,I11,_,e11⟩:=xO;subst e11;exact again I11 q10
 exact codeAny_compStart_list key (H_ T.self _ st4 key)
#where
def JG(K:W.Frag)(F Hx:Hp)(J:It)(ds:Ε):Prop:=AM' (∀(i:Nat) (H1 F1:Hp),ky ->Wp H1 ->Same Hx H1 ->
 (i=ds.length ->J.stop i H1)/\∀d,Am' ->J.go i H1/\∀x H',J.yld i H1 x H' ->∃F2,Gr F1 H1 F2 H' /\Rep K F2 d x)
def Lx:Hp:=AeC
theorem zz3:gu Lx:=Fm e ALE
inductive UpI (BBX):Prop
 | mk:AQX (∀ds Γ' F' H' J Hx,ā ->Φ Ct (á Hx) (JG K F' Hx J ds) (P ds Γ') AZg) (AZp UpI)
def upI(K:W.Frag)(F0 H0:Hp)(t:cN)(E:XW):TI:=fun σ H R=>(AZp UpI)
inductive Vw (BBX):Prop
 | mk:AQX (ARl ds J (JG K F' Lx J ds) ds AZg) (AZp Vw)
def abk(K:W.Frag)(F0 H0:Hp)(t:cN)(E:XW):TI:=fun σ H R=>(AZp Vw)
def QI(Ari):Prop:=Axt abk
def Rq(Ari):Prop:=Axt upI
theorem Oe(h:nX e t)(hi:∀σ H R,t' σ H R ->t σ H R):nX e t' :=ARs R R
theorem oR(h:ACd QI e t):ACd Rq e t:=ASA SO (AdM hq1 hq1 ⟨F,Γ,P,S,q,fun ds Γ' F' H' J S' s' hJ hp=>k ds Γ' F' H' J Lx S' s' zz3 hJ hp⟩)
def Vx(K:W.Frag)(tl:TE):TI:=BDx (∃xs,Aer/\ (Tl ->R Ai5 H1)) (∃xs,vO K H1 a xs/\ (Tl ->R AWI H1))
theorem yhn(hl:PE X l tl):nX l (Vx X.K tl):=by
 show oy;show Ű (jS hl) v hq2;show OA hq2;show PU a e q1;subst e;cases r1;rcases q with ⟨xs,hq,q⟩ | ⟨xs,hq,q⟩
 ·obtain⟨its,rv,p,hz⟩:=I1.list hq;refine wpAny_pyIter_list p.isList ?_;refine⟨s1.heap.objs.size,AEg,_,_,H1,rfl,AAp,zur a _,UO,HG,q hz⟩;show AGT
  exact AHj
 ·obtain⟨its,rv,p,hz⟩:=I1.tuple hq;refine wpAny_pyIter_tuple AwU ?_;refine⟨s1.heap.objs.size,AEg,_,_,H1,rfl,AAp,zqk a _,UO,HG,q hz⟩;show AGT
  exact AHj
theorem yf1{K:W.Frag}{F Hx:Hp}{a:Addr}{vs:Ζ}{ds:Ε}(hq:Am6 (vO K H1 a vs))(rs:F_)(hz:BLB):AoI AWI:=by
 have hl:=jO rs;show BO Α (fun i H1 F1 s1 s2 s3=>(AN5 ⟨vs,BAQ,Α⟩))
 show AOK hd;show BO (Api BAQ) (Κ x H' y);show To y y;have:=y vs (hq _ d_);show AJ hv;show DC;exact⟨F1,Gr.refl s2,Aip⟩
def iL(ii):cN:=fh (fF d ATy (DM ds) Ť (DM ds))
section
variable{X:Cx}{F0 H0:Hp}{e tg:Expr}{es:A5}{pos:Pos}{te:cg}{g:tO}{gs:xP}{ti:cN}{tb:aH}
theorem rZ(h:Pi):ACd QI e (iL te):=fun z E cx=>Oe (yhn SO) (AdM Bx Bx (AdF (fun d Γ1 F1 H1 v R1 s1 r1 h1=>by
 cases d with
 | lst ds=>
  show AWo;show oC a (.inl (AvE ĵ ?_));show BO (S4 jO rs hz) (fun i H2 F2 s2 s3 s4=>(AN5 ⟨vs,AOG,XB e UB HC⟩))
  show AOK hd;show BO (Api AOG) (Κ x H' y);show To y y;have:=y vs (s3.seq (s2.seq hq));show AJ hv;show DC;exact ArL
 | tup ds=>
  show AWo;exact⟨a,rfl,.inr (AvE Ajx (yf1 (fun H2 s=>sV s hq) rs hz))⟩
 | _=>show xL)))
def iJ(ti:cN)(g:tO)(tb:aH):aH:=ABr D0 ti ds As3
theorem Vy(hc:C3)(hi:AHY QI)(hg:AYZ)(hb:AO0)(hs:ax iter:=by show Mo):
  Abg iter iJ ti:=OI ud (Abq AFH) Dn xO xO (JP (fun ds Γ1 F1 H1 J R1 s1 hJ h1=>by
  show Ar2;show BA (fun i m σ H=>m=ds.length - i/\Ahy/\Aem) ⟨ds.length,A1,FC,F1,Γ1,R1,c0,i0⟩
  rintro i m σ H ⟨rfl,hi,F2,Γ2,R2,s2,hI⟩;obtain⟨hstop,hgo⟩:=hJ.2 i H F2 s2 R2.g zz3;show AlC
  ·show As2;show MY ⟨go,Aqh,fun σ' H' p' =>(IB ANM Α hlt p'),AZ0⟩
   obtain⟨F3,gr,rx⟩:=yl x H' y;exact⟨F3,Γ2,_,ds[i],R2.grow gr,rx,turn i ds[i] Γ2 (zZ hlt) hI,fun Γ4 F4 H4 σ4 R4 s4 p=>⟨F4,Γ4,ASv D2 D2.nx,R4,p,ABY BF' (BL' (G_ R5 (A1c s5) q)) BF'⟩⟩
  ·show Ajw
   exact AjH (BLl hI)))
def G8(Γ:G2)(j:Nat):Slot:=ALh Γ[j]? AMU (.pu d) B1
def pC(own:Nat)(caps:Ap)(Γ:G2):G2:=ALD own B1++caps.map (G8 Γ)
theorem z0n(A'k){Γ:G2}(own:Nat)(caps:Ap)(R:ED):SR K F H F H (xU own caps σ) (pC own caps Γ):=by
 have len:(xU own caps σ).length=(pC own caps Γ).length:=by simp [xU,pC]
 have G9:∀(i:Nat) s o a,B8 (pC own caps Γ) s ->¬ai:=fun i s o a e=>by
  show N4 pC;show ADS own
  ·show AWn List.getElem?_append_left
   rw[A_ hi] at e;cases e;exact DI h
  ·show AJZ List.getElem?_append_right List.getElem?_map
   cases q:caps[i - IF List.replicate own Slot.no]? with
   | none=>show ia
   | some j=>
    show QU;have e' :G8 Γ j=s:=A0 e
    unfold G8 at e';split at e' <;>(subst e';exact DI h)
 show CU (Gr.refl R.g) len (Q3 i s) (fun i j a JF=>by obtain⟨s,o,e,_,h⟩:=JF;exact BL8)
 show ADS own
 ·show BA none ?_
  ·unfold xU;rw[AVg,List.getElem?_replicate,A_ hi]
  ·show N4 pC;rw[AVg,List.getElem?_replicate,A_ hi] at e
   cases e;trivial
 ·show N4 pC;rw[AiM,List.getElem?_map,List.length_replicate] at e
  cases q:caps[i - own]? with
  | none=>show ia
  | some j=>
   show QU;have e' :G8 Γ j=s:=A0 e
   show BA Amk ?_
   ·unfold xU;rw[AiM,List.getElem?_map,List.length_replicate,q];rfl
   ·unfold G8 at e';split at e'
    ·rename_i d hd;subst e';obtain⟨o,e1,v,rfl,rv⟩:=R.sl j _ hd;exact⟨v,Gc e1,rv⟩
    ·subst e';trivial
def Kd(g:tO)(tc:TT2)(te:cg)(Γ0:G2)(x:D)(P:Q1):Prop:=BG4 (te Γ2 (N0 d (P [d])) jN)
def dG(one:nE):MO
 | [],P=>mv
 | Lu,P=>one x fun ys=>dG one xs fun zs=>AfV
def cu(own:Nat)(caps:Ap)(ti:cN)(g:tO)(tc:TT2)(te:cg):cN:=L8 ti ds (dG (Kd g tc te (pC own caps Γ1)) ds fun ys=>(DM ys))
theorem zm7(f:D ->Ε):Tk xs Ε P Q1 (∀x∈xs,∀P,P (f x) ->one x P) (P (xs.flatMap f)) (dG one xs P)
 | [],_,_,h=>h
 | Lu,P,k,h=>k x zY _ (zm7 f A7f (by simpa [List.flatMap_cons] using h))
def d7:TT2:=ANS true
def Ly(X:Cx)(F0 H0:Hp)(ifs:A5)(t:TT2):Prop:=k9 Z6 ifs Vd
theorem tQ:DU Ly [] d7:=fun z E cx pins s σ H Q I N6=>by show Lm N6;exact ON yg4 Q I (Os R GA h)
theorem Ke(h:rV QT c):rV Ly [c]:=ALf yg0 SO
#where
section
variable{X:Cx}{F0 H0:Hp}{elt tg iter:Expr}{ifs:A5}{sc:Scope}{own:Β}{caps:Ap}{N' :Β}{pos:Pos}{te:cg}{g:tO}{tc:TT2}{ti:cN}
def gX(K:W.Frag)(g:tO):TG:=ANe (∃F0 H0,Lv ZG g jN v σ H Q)
def tX(K:W.Frag)(t:TT2):TT:=AqQ Vd
def eX(K:W.Frag)(t:cg):TE:=AqQ Gz
theorem Z9(gr:eP)(h:xD)(e:AFg):UA:=by
 cases q:F' a with
 | none=>rfl
 | some u=>
  show ŏ (gr.n a u q h) z e' z
  ·rw[e] at z;cases z
  ·rw[e] at z;cases z;cases e'
theorem zov(zD){σ:St}{Γ:G2}{J:It}{Hx:Hp}{ds:Ε}{acc:Addr}{P:Q1}{Q:AFb}(R:ED)(hJ:AoI J)(hx:gu Hx)(ha:HU acc)
  (h:dG (AaZ Kd te) ds P)
  (fin:∀ys F' H' vs,Φ ANu Ct AoZ Aky (Φ (H0 acc=none) (AIg ys) (ACH acc) (P ys) AkF)):
  BHn eX te:=by
 obtain⟨R1,e1,e2,e3,ap⟩:=GC (ds:= []) (vs:= []) R ha IP
 have hx1:Same Hx Ae7:=FA A_'
 have xa:∀u,Hx acc≠ALZ:=fun u e=>A'A
 show BA (fun i m vs H' =>m=ds.length - i/\Ahy/\∃F' ys,ANu/\Ct /\á Hx /\AoZ/\Aky/\AIg ys/\Aha/\dG (AaZ Kd te) (ds.drop i) Ayf) ⟨ds.length,A1,FC,F,[],R1,c0,hx1,e1,e2,LJ,HC,A0 h⟩
 rintro i m vs H' ⟨rfl,hi,F',ys,R',sF,hx',ha',Og,rs,lv,hc⟩;have hz:=hJ.1;show BA ha' Α
 obtain⟨hstop,hgo⟩:=hJ.2 i H' F' sF R'.g hx';show AlC
 ·show As2;show MY ⟨go,Α,A3M⟩
  obtain⟨F2,gr,rx⟩:=yl x H2 y;rw[List.drop_eq_getElem_cons hlt] at hc;have R2:=R'.grow gr;refine⟨F2,H2,F2,AOc pC Γ,_,ds[i],AOc z0n R2,rx,hc,BIy⟩;refine⟨F2,H2,F3,Γ3,_,R3,q3,fun b Γ4 F4 H4 R4 s4 q4=> ?_⟩;show BFS;cases b with
  | false=>
   show BCU ⟨ANM,Α,rfl,hlt,F4,ys,R'.grow qd,Avc,A6V,Avs,BBw,rs.up qd.f,Α,?_⟩
  | true=>
   rw[B4] at q4;refine⟨F2,H2,F4,Γ4,_,R4,q4,fun d Γ5 F5 H5 v R5 s5 rv q5=> ?_⟩;show BFT;have a5:=Avt;have f5:=Z9 Bk Og ha';refine⟨a5,ANM,Α,rfl,hlt,F5,ys++ [d],?_,Avd,ER,gb,f5,Lj (rs.up Bk.f) (J8 rv),ALU,?_⟩
   ·have R6:=R'.grow Bk;show CU ⟨R6.gr.f,ER,ER,R6.gr.n⟩ R6.len (Q3 j sl) R6.ap
    show JE (jp f5) (Pe R6.g)
    ·show xC e3 Atf
    ·show Abu (R6.sl j sl e) (zo ⟨(FZ p2 hc).1,AD u q⟩) (c≠acc) (ap j A_4) q
   ·rw[Ķ A2R];exact Bk.h b u Aea
   ·simpa [List.append_assoc] using q5
 ·show Ajw
  refine AjH (fin ys F' H' vs R' sF ha' Og e3 rs ap ?_);rw[List.drop_length] at hc
  simpa [dG] using hc
structure cX (N:Β) (sc:Scope) (own:Β) (caps:Ap) (Vz:Scope) (N' :Β):Prop where
 kind:AlR
 nd:N'.Nodup
 snd:AtV
 free:BAm Vz.names.lookup Vz.names.lookup
 names:A6r
 caps:BGC
theorem cX.cs(h:AHV):È :=⟨h.kind,h.nd,h.snd,h.free,h.names,h.caps⟩
def QIg(Ari):Prop:=AIJ (PIg E4 tg e (q_ upI t E))
theorem ybu(S:AHV)(hi:AHY QIg)
  (hg:APM) (ht:APN) (he:Aah)
  (hn:AMc:=by rfl) (hs:ax iter:=by show Mo):kK UP Asy:=by
 subst hn;rintro z E cx pins s σ H Q I ⟨F,Γ,P,R,h,k⟩;show KM (eval UP AuL=comprehension UP sc X.env _ Amw false AME) BMM;refine DZ (J_ Z8 g AZX) tc AZY te AnI Q Q AX9 AFH ?_ ?_ ?_ rfl hs I ?_ ?_
 ·rintro C s₀ H₀ fp pins s σ H v u Q I r ⟨uz,uD,q⟩;exact AUQ hg v u Q I r
 show AW0
 show AW1
 ·exact JP (fun ds Γ1 F1 H1 J Hx R1 s1 hx hJ h1 acc ha=>(Ax0 (k ys Γ1 F' H' acc vs R' AVB a1 a2 a3 rs ap hp)))
 ·rintro acc C H' s5 I5 q5 ⟨m,hn⟩ c1 c2 c3 c4 c5 c6;exact⟨m,hn,AVk (IL ATb H' A4P q5)⟩
theorem vY(S:AHV)(hc:C3)(hi:AHY Rq)
  (hg:APM) (ht:APN) (he:Aah)
  (hn:AMc:=by rfl) (hs:ax iter:=by show Mo):kK UP Asy:=ybu S (fun z E cx=>Z7 hc AFH) hg ht he hn hs
theorem JH(hN:X.N.Nodup)(hi' :B8 X.N y)(hy:AZz)(S:AHV)(hc:C3)(hi:AHY Rq)
  (hg:APM) (ht:APN) (he:Aah)
  (hn:AMc:=by rfl) (hsw:swapsWith UP (A9 (FE y py)) spos.line X.env=pure true:=by rfl) (hs:ax iter:=by show Mo):
  BCv (fC i (cu n caps ti g tc te)):=by
 subst hn;rintro z E cx pins s σ H Dn I ⟨F,Γ,D2,R,h,k⟩;rw[kT exec_Assign_Name_used hsw];show tq wpAny_standAt z6;show iE (DZ (J_ Z8 use A9S (Qv:=GT s' (SP E4 pins Dn u7 s')) (g:=AZX)) tc AZY te AnI Q A8_ AX9 (Z7 hc AFH) ?_ ?_ ?_ rfl hs I ?_ ?_) (fun _ s' hq=>z7 (z7 hq)) AKv
 ·rintro C s₀ H₀ fp pins s σ H v u Q I r ⟨uz,uD,q⟩;exact AUQ hg v u Q I r
 show AW0
 show AW1
 ·exact JP (fun ds Γ1 F1 H1 J Hx R1 s1 hx hJ h1 acc ha=>(Ax0 (G_ (R'.setOw i a1 a2 a3 rs ap) (s1.trans sF) hp)))
 ·rintro acc C H' s5 I5 q5 ⟨m,hn⟩ c1 c2 c3 c4 c5 c6;refine wpAny_assign_Name (Be zo3 I5 hN hi' Ag1 (v:= ATb) rfl A8k AhC);show gN a hsb ha;have ha' :Aie\/Air a:=ha;have hac:C≠a:=by
   show gT ha' ha'
   ·exact c2
   ·exact Ξ (c4 y a ha' z.symm)
  show CF m (hn.sameBut hsb hac) (AVk (IN H' (I6.turned (t' :=s6.toks) (it:=C) (sf Aei) c1 c2 AeH c4 c5) q5))
#where
inductive Lz (K:W.Frag) (g:MO) (vs:Ζ) (H:Hp) (Q:VK):Prop
 | mk:BDo (∀es us l,Alf ->HU l ->P es ->FS l (GV l AeA)) Lz
def Eh(K:W.Frag)(g:MO):ie:=fun vs H Q=>Lz K g vs H Q
section
variable{X:Cx}{F0 H0:Hp}{a b e:Expr}{es:A5}{pos p p2:Pos}{ta tb te:cg}{t:cN}{x:Str}
def pF(g:MO)(t:cN):cN:=P4 (g ds fun es=>(DM es))
theorem ydx(NW){g:MO}{E:XW}{σ:St}{H:Hp}{Q:VK}(h:upF K F0 H0 (pF g t) E σ H Q):A9a Eh:=by
 show Lm h;refine BH5 (fun es us l r hl hp=> ?_);obtain⟨R2,e1,e2,e3,ap⟩:=GC R1 hl r;exact k es Γ1 F1 _ l us R2 s1 e1 e2 e3 r ap hp
theorem ybo{id:String}{g:MO}(hc:∀z,dF E4 tS (Eh X.K g))(hg:Hk)(hm:ű)(hv:Ś tS)(ha:LX)(hn:vk :=by decide)(hdb:As x "__debug__":=by decide)
  (YI):AKb YE g:=fun z E cx=>
 nO (AYk Uw hv hn hdb hpl) (i3 ydx)
theorem Rr{T:String}{g:MO}(hc:∀z,dF E4 vb (Eh X.K g))(hg:Hk)(hm:ű)(hv:Ś vb)(ha:LX)(hn:vk :=by decide)(hdb:As x "__debug__":=by decide)
  (YI):AKb YE g:=fun z E cx=>
 nO (AYk Zt hv hn hdb hpl) (i3 ydx)
theorem zmy{T:String}{g:M3}(hc:∀z,dF E4 vb (uo X.K g))(hg:Hk)(hm:ű)(hv:Ś vb)(ha:LX)(hn:vk :=by decide)(hdb:As x "__debug__":=by decide)
  (YI):CA YE Anc:=fun z E cx=>
 nO (AYk Zt hv hn hdb hpl) (i3 ycz)
#where
def yD:MO:=A6K (P xs) (P xs)
theorem VB:Aja (Eh X.K yD):=by
 rintro pins s σ H xs us Q I r ⟨F,ds,P,sF,rs,h,k⟩;show Bi yD;show C5
 ·show i4;exact BFN AZL
 ·show i4;exact BFN AZM
 ·show EO
def Dg:M3:=A6K (P RF) (P RF)
theorem ygs:ADP "tuple" (uo X.K Dg):=by
 rintro pins s σ H xs us Q I r ⟨F,ds,P,sF,rs,h,k⟩;show Bi Dg;show C5
 ·show i4;refine ON zkb _ us Q I r (MQ p vs (Ĝ (sF.seq hq) (AD l hl)));have gr:=Gr.laid (o:=HO.tup vs) sF hl;refine Os gr ?_ h;exact No l x_ (rs.up gr.f)
 ·have rs0:=rs;show i4;refine ON zkb _ us Q I r (MQ p vs (.inr ⟨sV sF hq,r6 ?_ h⟩));exact No p hq rs
 ·show EO
def cutD(xs:Ε)(lo hi:LE):Ε:=AwX
theorem zyo{K:W.Frag}{F:Hp}{ds:Ε}{vs:Ζ}(r:F_)(lo hi:LE):JS (cutD ds lo hi) (xM vs lo hi):=by
 unfold cutD xM;rw[jO r];exact zn1 _ (zn4 _ r)
abbrev Kf:=AHl LE
inductive UpO (YN) (F0 H0:Hp) (t:Kf) (E:XW) (σ:St) (H:Hp) (Q:AhE):Prop
 | mk:AQX (∀o Γ' F' H',ā ->Ct ->P o Γ' ->Q o H') (BJ0 UpO)
def upO(K:W.Frag)(F0 H0:Hp)(t:Kf)(E:XW):TO:=yo UpO
def QO(X:Cx)(F0 H0:Hp)(e:ALP)(t:Kf):Prop:=k9 PO e upO
theorem poC(h:PO X e t)(hi:∀σ H Q,t' σ H Q ->fE):PO X e t' :=Aoj
def wD:Kf:=ANS none
def tR(ii):Kf:=fh (kG Co (P (some i) Γ1))
section
variable{X:Cx}{F0 H0:Hp}{a b e:Expr}{es:A5}{pos p p2:Pos}{ta tb te:cg}{t:cN}{x:Str}{lo hi:ALP}{tl th:Kf}
theorem LC:DU QO none wD:=fun z E cx=>poC yf6 (Do σ H Q hq1 P hq1 (Os R GA h))
theorem Gb(h:Pi):DU QO AR5 (tR te):=fun z E cx=>poC (yhh SO) (Do σ H Q hq2 P hq2 (AaF (by
 cases d with
 | int i=>show Md i r Aa2
 | _=>show JY q)))
def vZ(A6T):cN:=BH' ZT (P A9H Γ3)
theorem Kg(BHx):kK (AT8 e AsV) (vZ te tl th):=fun z E cx=>
 nO (zzl yex Lc (JO hl) (JO hh)) (Do σ H Q Bx P Bx (VX (AJH (fun l Γ2 F2 H2 R2 s2 h2=>(AmU (fun u Γ3 F3 H3 R3 s3 h3=>by
  cases d with
  | lst xs=>
   have r3:=r1.up (s2.trans s3);show Cb a vs hq rs r3;refine No a (R3.g.seq hq) ZA;have rc:=zyo rs l u;obtain⟨R4,e1,e2,e3,ap⟩:=GC R3 hp rc;exact k _ Γ3 F3 _ p _ R4 AWu e1 e2 e3 rc ap h3
  | _=>show JY h3))))))
def uE(ii):cN:=fh (kG ZT BNK)
theorem zmw(Kb):ArP (JS ds.reverse vs.reverse)
 | [],_,h=>by subst h;rfl
 | SV,_,h=>by
  show AYs v;rw[List.reverse_cons,List.reverse_cons];exact Lj (zmw h2) (J8 h1)
#where
section
variable{X:Cx}
theorem toI{A:Around}(h:JI):AUb:=h
theorem zm6(I:Ι)(k:Ak_)(r:LW)(q:Q v H):nk u Ty:=⟨v,H,I.kept k,r,q⟩
def mR:Ε ->AHF Int
 | []=>ATw
 | Co::r=>AO mR r (i:: ·)
 | BY=>none
def sW:Ε ->AHF Bool
 | []=>ATw
 | .bl i::r=>AO sW r (i:: ·)
 | BY=>none
theorem zj6(Kb):A6d An (mR ds=some ns) T_
 | [],vs,ns,r,h=>Ane
 | Co::ds,vs,ns,r,h=>by
  show Cb v us rfl r r;show Bi mR;cases q:mR ds with
  | none=>rw[q] at h;cases h
  | some ms=>
   show Aql zj6
 | AF::_,_,_,_,h=>Bn
 | XE::_,_,_,_,h=>Bn
 | U2::_,_,_,_,h=>Bn
 | ALg::_,_,_,_,h=>Bn
 | g6::_,_,_,_,h=>Bn
 | š::_,_,_,_,h=>Bn
 | Ţ::_,_,_,_,h=>Bn
 | Aiv::_,_,_,_,h=>Bn
 | xh::_,_,_,_,h=>Bn
 | xi::_,_,_,_,h=>Bn
 | AFo::_,_,_,_,h=>Bn
theorem zsj(Kb):A6d Ő (sW ds=some ns) .bl
 | [],vs,ns,r,h=>Ane
 | .bl i::ds,vs,ns,r,h=>by
  show Cb v us rfl r r;show Bi sW;cases q:sW ds with
  | none=>rw[q] at h;cases h
  | some ms=>
   show Aql zsj
 | AF::_,_,_,_,h=>Bn
 | UE::_,_,_,_,h=>Bn
 | U2::_,_,_,_,h=>Bn
 | ALg::_,_,_,_,h=>Bn
 | g6::_,_,_,_,h=>Bn
 | š::_,_,_,_,h=>Bn
 | Ţ::_,_,_,_,h=>Bn
 | Aiv::_,_,_,_,h=>Bn
 | xh::_,_,_,_,h=>Bn
 | xi::_,_,_,_,h=>Bn
 | AFo::_,_,_,_,h=>Bn
theorem z4c(ns:An)(f:g9)(h:∀i,i<ns.length ->f i=ACc):PySem.preSum f ns.length=ns.sum:=by
 have key:∀k,k<=ns.length ->PySem.preSum f k=(ns.take k).sum:=by
  intro k;induction k with
  | zero=>show Mo
  | succ k ih=>
   intro hk;show PySem.preSum f k+f k=_;show Af1 (ih ψ) (h k ψ) List.take_add_one List.sum_append AhF
   simp
 rw[key _ Agk,List.take_length]
theorem zrp(pl:PlainL h p its):A_v IsListIter h.objs.size p 0/\ A_v IsList p its:=by
 show CS UO;obtain⟨o,n,e,hcl,_,hd⟩:=pl;exact⟨o,cE,hcl,n,hd⟩
theorem z3z(bs:Ő):AQk bs.length any (CL (bs.getD i false))=bs.any id:=by
 rw[Bool.eq_iff_iff];simp only [List.any_eq_true,List.mem_range,id];constructor
 ·rintro⟨i,hi,e⟩;show Atl SU;exact B5 (yX hi) e
 ·rintro⟨b,hb,e⟩;show xn i hi hb;exact⟨i,hi,AMa SU e⟩
theorem z7e(bs:Ő):ANW bs.length (CL (bs.getD i false))=bs.all id:=by
 rw[Bool.eq_iff_iff];simp only [List.all_eq_true,List.mem_range,id];constructor
 ·intro h b hb;show xn i hi hb;have:=h i hi;show YR List.getD_eq_getElem?_getD SU;exact this
 ·intro h i hi;rw[List.getD_eq_getElem?_getD,SU];exact h _ (yX hi)
def ych:M3:=A9z bs.any
def yg6:M3:=A9z bs.all
theorem yd6{bs:Ő}{its:Τ}(rv:Vals (bs.map .bl) its){i:Nat}{v:Value}(hv:Ate):v= .bool Awn:=by
 show Ps;show AAf;have hv' :AiG:=A0 hv
 have hi:i<bs.length:=HR (KI hv')
 show A_L (.bl Awn) SU
 rw[hv'] at hu;cases hu;exact ru
theorem z79{ns:An}{its:Τ}(rv:ApJ){i:Nat}{v:Value}(hv:Ate):i<ns.length/\∃t,v= .int Ak1 t:=by
 show Ps;show AAf;have hv' :AiG:=A0 hv
 have hi:i<ns.length:=HR (KI hv')
 show A_L (.int Ak1) SU
 rw[hv'] at hu;cases hu;exact⟨hi,ru⟩
theorem yi5(z_):AGK "any" ych:=by
 rintro pins s σ H xs us Q I r ⟨F,ds,P,sF,rs,h,k⟩;show Bi ych;show C5
 ·show i4;show FV bs hbs h;show L' (zsj rs hbs);show M';cases rx;show APZ;show Ps;show AAf;refine call_any_walk (wpAny_pyIter_list pl.isList ?_);show Aq8
  refine⟨s.heap.objs.size,_,_,_,_,_,Az0,rfl,As',zrp pl,BIx,SK tk kp⟩
  ·rw[yd6 rv hv];exact wpAny_truthy_bool hQ
  ·show BJK z3z bs.any
 ·show EO
theorem yl3(z_):AGK "all" yg6:=by
 rintro pins s σ H xs us Q I r ⟨F,ds,P,sF,rs,h,k⟩;show Bi yg6;show C5
 ·show i4;show FV bs hbs h;show L' (zsj rs hbs);show M';cases rx;show APZ;show Ps;show AAf;refine call_all_walk (wpAny_pyIter_list pl.isList ?_);show Aq8
  refine⟨s.heap.objs.size,_,_,_,_,_,Az0,rfl,As',zrp pl,BIx,SK tk kp⟩
  ·rw[yd6 rv hv];exact wpAny_truthy_bool hQ
  ·show BJK z7e bs.all
 ·show EO
theorem zy0(ns:An):∀k,Ahv ->∃i,i<=k/\PySem.argBest A8p k=i/\∀j,j<=k ->ns.getD j 0<=ACc
 | 0,_=>MQ 0 HC (BDk ATl)
 | k+1,hk=>by
  obtain⟨i,h1,h2,h3⟩:=zy0 ns k ψ
  unfold PySem.argBest;rw[h2];by_cases hg:ns.getD FR 0>ACc
  ·show Z_ hg
   show CU (k+1) HC rfl AHI;by_cases hjk:j=k+1
   ·subst hjk;exact ATl
   ·have:=h3 j ψ;omega
  ·show fT hg
   show CU i Α rfl AHI
   by_cases hjk:j=k+1
   ·subst hjk;omega
   ·exact h3 j ψ
def z4u:M3:=Ĺ (∃ns m,AYS/\m∈ns/\ (∀i∈ns,i<=m)/\NY m)
theorem ycd{ns:An}{i:Nat}(h:i<ns.length):ACc∈ns:=AMa UX (yX h)
theorem yay{ns:An}{m:Int}(h:m∈ns):∃i,i<ns.length/\ns.getD i 0=m:=by
 show uS i hi (List.mem_iff_getElem.mp h);exact⟨i,hi,Ah3 SU⟩
theorem ykt(z_):AGK "max" z4u:=by
 rintro pins s σ H xs us Q I r ⟨F,ds,P,sF,rs,h,k⟩;show Bi z4u;show C5
 ·show i4;obtain⟨ns,m,hns,hm,hmx,h⟩:=h;show AmB;show M';cases rx;show APZ;show Ps;show AAf;have pos:0<ns.length:=List.length_pos_of_mem hm;refine call_max_walk (wpAny_pyIter_list pl.isList ?_);show Aq8
  refine⟨s.heap.objs.size,_,_,_,_,_,_,rfl,As',zrp pl,?_,ALU,CmpOf.ints_gt AMi (fun i v hv=>(z79 rv hv).2),DL v h' tk hv kp⟩
  ·intro b hb;show Af2;show ip
   ·exact ALS
   ·show ip
    ·exact Nat.lt_succ_of_lt Rt
    ·cases hb
  ·show A4 hi t rfl z79 rv hv;obtain⟨i,b1,b2,b3⟩:=zy0 ns BNB ve
   have e:ns.getD (PySem.argBest A8p BNB) 0=m:=by
    rw[b2];show BD j hj ej yay hm;have q1:=b3 j ve
    have q2:=hmx _ (ycd (ns:=ns) (i:=i) (by simp at b1;omega))
    omega
   rw[e];refine zm6 (s:=s) (v:= .int m) I BLz ft BL5
   rcases AKH with rfl | z
   ·exact fw AQJ
   ·cases z
 ·show EO
#where
def sX:Slot ->Slot | .ow ds=> NX ds | .tr _ t=> .pu (toD t) | .nt _ c t=> Ayk toD | .xe _ C _ _=> Ayl | s=>s
def jP(Γ:G2):G2:=Γ.map sX
def gD(Γ:G2)(σ:St)(b:Addr):Prop:=∃j,nM Γ σ j b
open Classical in
theorem zz9(BGi):∃F1,ky/\A'z/\ (A_W)/\ASr (∃u,AKN/\VM):=by
 let F1:Hp:=UR (WP ADb F AfF)
 have s1:ky:=FA (by show(zh _)=_;rw[AEo Aga];exact e)
 have s2:Wp H:=FA (by
  show Sc (RY ADb (F b) AfF);split at e'
  ·exact R.g b u e'
  ·split at e'
   ·exact e'
   ·cases e')
 have at1:∀b u,kF ->LA ->xB ->AKN:=fun b u h1 h2 h3=>by
  show AwG=_;rw[AUr h1,A_ h2]
  exact h3
 have G9:∀(i:Nat) s o a,B8 (jP Γ) s ->¬ai:=fun i s o a e=>by
  show N4 jP;show AT';cases q:Γ[i]? with
  | none=>show ia
  | some t=>
   show Ayb
 show KS own (ASr (∃u,AKN/\VM)) (by
  obtain⟨j,s,o,e1,e2,hs⟩:=id hb;obtain⟨o',e3,r⟩:=R.sl j _ e1;rw[e2] at e3;cases e3;obtain⟨h1,_,u,h2,ld⟩:=FZ r hs;exact⟨h1,u,at1 _ _ h1 hb h2,ld⟩)
 refine⟨F1,s1,BJc jP,IA hb hn,own⟩
 ·show N4 jP;show AT';cases q:Γ[i]? with
  | none=>show ia
  | some sl=>
   show QU;show Ts e1 r (R.sl i sl q);show BA o e1;have mine:Th (gq sl o b) (FI H) AKN:=MM hb hu (at1 b u (FZ r hb).1 BHr hu);cases sl with
   | no=>cases e;trivial
   | pu d=>cases e;show gL v rv r;exact xl Aip
   | ow ds=>
    cases e;obtain⟨a,vs,rfl,h1,h2,h3,rs⟩:=r;show oa AI;exact No a (sK (mine a _ rfl h1)) (rs.up s1)
   | tr as t=>
    cases e;obtain⟨v,rfl,nd,h1,rv⟩:=r;exact xl (TR.rep s1 t v as BAy rv)
   | nt as c t=>
    cases e;obtain⟨p,v,rfl,e2,nd,h1,rv⟩:=r;show oa PM;exact IB p [.str c,v] (AVP s1) (Ň J8 (TR.rep s1 t v as BAy rv))
   | xe as C fs ts=>
    cases e;obtain⟨a,oe,dx,vs,rfl,e2,_⟩:=r;show oa AI;exact A5G
 ·show AwG=none;rw[AUr hb,AK hn]
theorem ye2(BGi):∃F1,ky/\A'z:=by
 obtain⟨F1,s1,R1,_⟩:=zz9 R;exact⟨F1,s1,R1⟩
theorem z3m{K:W.Frag}{F0 H0 F H H' :Hp}{σ:St}{Γ:G2}(R:ED)(s:AGA):br F H':=by
 refine R.grow (qi (fun b u e=>s b u (R.g b u e)) s)
def scD:AEw | AF=>True | XE=>True | UE=>True | U2=>True | _=>False
theorem ykw(BAp)(h:scD d)(r:LO):Y':=by
 cases d with
 | non=>exact r
 | bl=>exact r
 | int=>exact r
 | str=>exact r
 | _=>show EO
def lF(ii):cg:=fun Γ P _=>te (jP Γ) (N0 d (scD d/\P d Γ)) jN
def jt(t:TT2):TT2:=fun Γ P _=>t (jP Γ) (fun b _=>P b Γ) jN
section
variable{X:Cx}{F0 H0:Hp}{e:Expr}{te:cg}{tt:TT2}
theorem Ru{E:XW}{F1 H1:Hp}(cx:ArG):Ctx X F1 H1 jN:=
 BJq cx.pq
theorem ygl(h:Ã Pi):CA e (lF te):=fun z E cx=>by
 show AtF;show BD F1 s1 R1 ye2 R;exact As_ H H Q I ⟨F1,jP Γ,_,R1,q,fun d Γ' F' H' v R' s' r hp=>k d Γ F H' v (z3m R R'.gr.h) GA (ykw hp.1 r) hp.2⟩
def qW(i:Nat)(te:cg):cg:=fun Γ P E=>(∃xs,tP AKW)/\te Γ (fun k Γ1=>(AM6 k Γ1[i]? wy (some iP) (∃d,mQ ds k=some d/\DM d))) E
theorem ykc{i:Nat}{x:Str}{b:Expr}{pos pos' :Pos}(hN:E_)(hv:Nc)(hb:AIA b)(hs:zyb b)(ARp):
  AVy AFW b (qW i te):=fun z E cx=>
 nO (yjd z6s VW LT hs) (yz hq2 (by
  obtain⟨F,Γ,P,R,⟨⟨xs,e0⟩,h⟩,k⟩:=hq2;obtain⟨o,e1,a,vs,rfl,h1,h2,h3,r⟩:=ANK;refine⟨AI,e1,F,Γ,_,R,h,fun d Γ1 F1 H1 v R1 s1 r1 q1=> ?_⟩;cases d with
  | int m=>
   subst r1;split at q1
   ·rename_i m' ds hm e2;cases hm;obtain⟨d,ed,hp⟩:=q1;obtain⟨o,e3,a',vs',ea,g1,g2,g3,r'⟩:=AQb e2;rw[e1] at e3;cases e3;cases ea;show A4 w ew tK zr8 r' ed;exact⟨a,vs',m,w,rfl,rfl,sK g1,ew,k d Γ1 F1 H1 w R1 s1 tK hp⟩
   ·exact q1.elim
  | _=>show JY q1))
#where
def OwR(X:Cx)(id:String)(g:AGU):Prop:=
 ∀(pins:dD) (s:Shared) (σ:St) (F H:Hp) (l:Addr) (vs args:Ζ) (xs ds:Ε) (us:Τ) (P:Q1) (Q:VK),Φ Ι (K' l OU) g_ (dl F xs) (EC (aM X.K F ds args) (Ċ args) (g xs ds P) (∀ys ws,aM X.K F ys ws ->P ys ->Q AF (GV l AeB)) (ApM LS))
def xV:AGU:=ArU [d] (Aih/\P (xs++ [d]))
def VD(xs:Ε)(k:Nat)(d:D):Ε:=xs.take k++d::xs.drop k
def Dh:AGU:=ArU [wy,d] (0<=k/\AuD/\Aih/\P (VD xs k.toNat d))
def ztv:AGU:=ArU (Su ys) (BM Amj/\P (xs++ys))
section
variable{X:Cx}
theorem VF:OwR X "list.append" xV:=by
 intro pins s σ F H l vs args xs ds us P Q I hl sF rs ra rv h k;show Bi xV;show C5
 ·show AJj rd ra;exact zt4 pins s σ H ATQ [v] ATQ us Q I rfl rv ⟨l,vs,v,rfl,rfl,hl,BE UB h.1,k _ _ (Lj rs (J8 rd)) h.2⟩
 ·show EO
theorem z33:OwR X "list.insert" Dh:=by
 intro pins s σ F H l vs args xs ds us P Q I hl sF rs ra rv h k;show Bi Dh;show C5
 ·rename_i j d;obtain⟨v,_,rfl,rj,w,_,rfl,rd,rfl⟩:=ra;subst rj;show QP h0 h1 h2 hp;obtain⟨u1,u2,rfl,⟨t,rfl⟩,r2⟩:=vals2 rv;obtain⟨z,its,n,r,hlen,e⟩:=I.lstM hl;have hxl:=jO rs;have hfit:¬(AEv (Builtin.List.listFitsIndex j)):=by
   show AAz;unfold Builtin.List.listFitsIndex;simp;omega
  refine call_meets PySem.F.slot_list_insert (G1 e) PySem.F.entry_list_insert (PySem.F.args_list_insert_3 _ _ _) (AutoSeq1.list_insert_list_int_val_1 l its.toArray n j t u2 hfit AV8) (Ev e)
  have hk:(AY (j<0) (IO (j+ AC its.toArray.size)) (min j.toNat its.toArray.size))=j.toNat:=by
   rw[AK ψ,List.size_toArray]
   omega
  refine GE AF (I.lset (its' :=its.take j.toNat++u2::its.drop j.toNat) (ys:=vs.take j.toNat++w::vs.drop j.toNat) hl e ?_ ?_ ?_) (k _ _ ?_ hp)
  ·rw[hk];show BMP;simp;exact List.take_of_length_le Ψ
  ·exact(r.take _).append (Nl r2 (r.drop _))
  ·simp;omega
  ·exact Lj (zn1 _ rs) (qK rd (zn4 _ rs))
 ·show EO
#where
section
variable{X:Cx}{F0 H0:Hp}{x name:Str}{apos cpos npos pos:Pos}{e:Expr}{es:A5}{id:String}{i:Nat}{t:cN}{g:AGU}
def wF(i:Nat)(g:AGU)(t:cN):aH:=fun D Γ E=>(∃xs,tP AKW)/\t Γ (fun ds Γ1=>(BAd (ANa (.ow ys)))) E
theorem z9p{z:NQ}{σ:St}{F Fa H Ha:Hp}{Γ Γ1:G2}{xs:Ε}{a:Addr}{D2:pW}{Dn:Ends}{vs args:Ζ}{ds:Ε}(_R:AHU)(R1:WH Fa Ha Γ1)(s1:WA Fa)(k:vV X.K F0 H0 F D2 Dn)(e1:AVf)
  (q:BAd (AjY (.ow ys))):
  ∃vs xs P,EE Ha OU/\dl Fa xs/\g xs ds P/\∀ys ws,aM X.K Fa ys ws ->P ys ->Dn.nx σ (upd Ha a AeB):=by
 show ZI
 ·rename_i xs e;obtain⟨o,e2,a',vs,rfl,g1,g2,g3,r⟩:=AQb e;rw[e1] at e2;cases e2;exact⟨vs,xs,_,g1,r,q,fun ys ws tK hp=>G_ (R1.wr e e1 tK) s1 hp⟩
 ·exact q.elim
theorem Oh(hr:∀z,OwR E4 id g)(slot:PySem.Slot "list" name id)(hty:A8Q)(hN:E_)(hv:Nc)(ha:LX)
  (hd:As x "__debug__":=by decide) (hcd:As x "__classdict__":=by decide)
  (hbase:ARJ IC name IC IC:=by rfl)
  (hfew:Op (AWJ Da all x x.1&&Abk) (Abo (ME Da)):=by rfl)
  (hline:k_:=by rfl) (hs:starEach Da X.env=EW (CH e) (EV es):=by rfl) (hplain:Ac4:=by rfl)
  (hsw:BJv A8t none:=by rfl):
  NI (.Expr A8t pos) (wF i g t):=by
 intro z E cx;refine ud (J_ zxw te (AIe (Nk i σ H (bq v (tyV X.K "list" v H1/\Rj X.K F0 H0 t E σ H1 fun vs H2=>BIq)))) ?_ hsw) ?_
 ·refine J_ ylt T "list" (id:=id) (r:=fun v vs H2 Q=>BIq)
   PySem.F.plainAttrs_list slot hty ?_ VW DS hbase hfew hline hs hplain
  rintro pins s σ H x xs v us Q I rx rs ⟨l,ys,ws,Fz,Pd,ds,e1,h1,h2,h3,h4,h5,h6⟩;subst e1;cases rx;exact hr z pins s σ Fz H l ws xs ys ds us Pd Q I h1 h2 h3 h4 rs h5 h6
 ·rintro Dn σ H ⟨F,Γ,D2,R,⟨⟨xs,e0⟩,h⟩,k⟩;obtain⟨o,e1,a,vs,rfl,h1,h2,h3,r⟩:=ANK;refine⟨AI,e1,.inl ⟨rfl,vs,sK h1⟩,F,Γ,_,R,h,fun ds Γ1 F1 H1 us R1 s1 r1 q1=> ?_⟩;obtain⟨ws,ys,P,g1,g2,g3,g4⟩:=P9 z9p z z vs vs args us xs xs R R1 s1 k e1 q1;exact⟨a,ys,ws,F1,P,ds,rfl,g1,R1.g,g2,r1,g3,g4⟩
#where
#print L3
namespace L3
open PySem PySem.Spec PyProof.Rows L2
section
variable{X:Cx}{F0 H0:Hp}{st:Stmt}{i:Nat}{t:cN}
theorem JK(h:NI st (fC i t)):NI st (aU i (dW t)):=fun z E cx=>
 ud SO fun Dn σ H hq1=>by
  obtain⟨F,Γ,D2,R,q,k⟩:=hq1;have key:(fun(ds:Ε) (Γ1:G2)=>(ALh (Γ1.set i iP)[i]? (.ow ds') (D2.nx ((Γ1.set i iP).set i (.pu (CO ds')))) (AjY iP)))=fun ds Γ1=>(AjY AVF):=by
   funext ds Γ1
   show ADS Γ1.length
   ·rw[List.getElem?_set_self hi];dsimp only;rw[List.set_set]
   ·rw[List.getElem?_eq_none (Bz hi)]
    rw[BM8,BM8]
  refine⟨F,Γ,{D2 with nx:=fun Γ' =>(ALh Γ'[i]? iP (D2.nx (Γ'.set i AVF)) (D2.nx Γ'))},R,?_,ABY (fun Γ' F' H' σ' R' s' q' => ?_) k.bk k.ct⟩
  ·show t Γ _ E;dsimp only;rw[key];exact q
  ·dsimp only at q';split at q'
   ·rename_i ds e;obtain⟨a,F2,_,s2,R2,_⟩:=R'.frz e;exact G_ R2 (s'.trans s2) q'
   ·exact G_ R' s' q'
#where
def nU(t u:cg):cN:=L8 t d (mS u d' (AM6 d d' ZT ALa (BM Amj/\P AnB Γ2)))
section
variable{X:Cx}{F0 H0:Hp}{a b c:Expr}{pos:Pos}{ta tb tc:cg}
theorem z5i{M:Program}{w:World}{A:Around}{E:dh}{s:Shared}{l b:Addr}{vs ws:Τ}{Q:dh}(hl:AU9 vs.toArray)(hb:s.heap.IsList b ws.toArray)
  (h:ANb (AIQ (Ala).toArray)) (hsz:BM (vs.length+ws.length)):AH3 (model M w) (binaryOp .Add ATQ (AG b)):=by
 obtain⟨⟨cls,dd,data,sl⟩,ho,hc,n,hd⟩:=id hl;obtain⟨⟨cls2,dd2,data2,sl2⟩,ho2,hc2,n2,hd2⟩:=id hb;simp only at hc hd hc2 hd2;subst hc hd hc2 hd2;have e:vs.toArray++ws.toArray=(Ala).toArray:=A1
 refine concat_meets (G1 ho) (G1 ho2) noFill_list_add seq_list_add PySem.F.slot_list_add PySem.F.entry_list_add (PySem.F.args_list_add_2 _ _) (list_addW l b vs.toArray ws.toArray n n2 dd dd2 sl sl2 (Bz hsz)) ⟨ho,ho2,?_⟩
 rw[e];exact h
theorem VG(ha:SD)(hb:ng):kK (.BinOp a .Add b pos) (nU ta tb):=fun z E cx=>
 nO (J_ yjk r (Ń (∃p q xs ys,x= PM/\y= .ref q/\lU X.K H p xs/\ul lU q/\BM Amj/\Ar3 (CO AnB))) (by
  rintro pins s σ H x y v u Q I rx ry ⟨p,q,xs,ys,e1,e2,h1,h2,hz,k⟩;subst e1 e2;cases rx;cases ry;obtain⟨its,r,pl,_⟩:=I.list h1;obtain⟨its2,r2,pl2,_⟩:=I.list h2;have l1:=r.length;have l2:=r2.length;refine z5i pl.isList pl2.isList ?_ ψ
  exact GE (.ref _) (AP9 I.lnew (r.append r2) (ACV List.length_append)) (k _ I.fresh)) DS LT) (Do σ H Q hq2 P hq2 (APA (by
   cases d1 with
   | lst xs=>
    cases d2 with
    | lst ys=>
     have r1' :=r1.up s2;show Cb p vs hq rs r1';show Cb q ws hq2 JL r2;refine⟨p,q,vs,ws,rfl,rfl,R2.g.seq hq,R2.g.seq hq2,AgJ UB (jO JL) h2.1,AD l hl⟩
     have ra:=Lj rs JL;obtain⟨R3,e1,e2,e3,ap⟩:=GC R2 hl ra;exact k _ Γ2 F2 _ l _ R3 d_ e1 e2 e3 ra ap h2.2
    | _=>show JY h2
   | _=>show JY h2)))
def Ge:D ->Bool | AF=>true | XE=>true | UE=>true | U2=>true | _=>false
def eqD:A2'
 | AF,AF=>true
 | .bl a,Z3=>ď
 | .bl a,Ŗ=>(ae a)==b
 | ALK,Z3=>a==(ae b)
 | ALK,Ŗ=>ď
 | .str a,.str b=>ď
 | _,_=>false
def inD(x:D)(xs:Ε):Bool:=xs.any fun y=>eqD y x
def xW(neg:Bool):EG:=f_ (fF y ZT BFq SA BFq)
theorem Hf{K:W.Frag}{F:Hp}{d:D}{v:V}(h:Ge d=true)(r:LO):oY v=true:=by
 cases d<;>first | (subst r;rfl) | show Ag' h
theorem abl(Kb){d e:D}{v u:V}(h:Ge d=true)(h' :Ge e=true)(r:LO)(r' :Rep K F e u):J6 v u=eqD d e:=by
 cases d<;>first | show Ag' h | (subst r;cases e<;>first | show Ag' h' | (subst r';rfl))
theorem VH(Kb):BFw (vs.all oY=true)
 | [],vs,r,_=>Agb
 | SV,vs,r,h=>by
  show AON;rw[List.all_cons,Bool.and_eq_true] at h⊢;exact⟨Hf h.1 r1,VH r2 h.2⟩
theorem Hg{K:W.Frag}{F:Hp}{x:D}{u:V}(hx:Ge x=true)(rx:Rep K F x u):BFw (inV u vs=inD x ds)
 | [],vs,r,_=>Agb
 | SV,vs,r,h=>by
  show AON;rw[List.all_cons,Bool.and_eq_true] at h;unfold inV inD;rw[List.any_cons,List.any_cons,abl h.1 hx r1 rx];have:=Hg hx rx r2 h.2;unfold inV inD at this;rw[this]
theorem Oi:pr In AXZ:=by
 rintro pins s σ H x y v u Q I rx ry ⟨F,d1,d2,P,sF,r1,r2,h,k⟩;show Bi xW;show C5
 ·show AXG;show APH;exact Aby zu6 AZL
 ·show AXG;show APH;exact Aby zu6 AZM
 ·show EO
theorem yme:pr NotIn (xW true):=by
 rintro pins s σ H x y v u Q I rx ry ⟨F,d1,d2,P,sF,r1,r2,h,k⟩;show Bi xW;show C5
 ·show AXG;show APH;exact Aby zlz AZL
 ·show AXG;show APH;exact Aby zlz AZM
 ·show EO
def gF(g g' :EG)(ta tb tc:cg):cg:=L8 ta x (mS tb y (g x y fun r=>(i' r (.bl k) (EJ k BHF (P ū Γ2)))))
theorem z7n(NW){g g' :EG}{E:XW}{σ:St}{H:Hp}{Q:VK}(h:Gz K F0 H0 (gF g g' ta tb tc) E σ H Q):Gx (rW K g) (rW K g') AvZ AvY (Lv Gz tc E) σ H Q:=by
 show Lm h;refine ABg x v1 (AJH (AJL y v2 ⟨F2,x,y,_,R2.g,AjA,r2,h2,fun d z F' H' gr rz hp=> ?_⟩));cases d with
 | bl b=>
  show BA b rz;have R3:=R2.grow gr;cases b with
  | true=>
   show eC;have hp' :BHF:=hp;exact⟨F',Γ2,_,R3,hp',fun w Γ3 F3 H3 v3 R4 s4 r4 h4=>⟨F3,y,w,_,R4.g,r2.up (gr.f.trans s4),r4,h4,fun d z F5 H5 gr5 rz5 hp5=>k d Γ3 F5 H5 z (R4.grow gr5) (A1c gr5.f) rz5 hp5⟩⟩
  | false=>
   show BF Bool.false_ne_true;have hp' :P ū Γ2:=hp;exact k _ Γ2 F' H' _ R3 (AQy gr.f) IP hp'
 | _=>show JY hp
theorem z9x(ho:Ae2 op AKV)(ho' :Ae2 op' (rW X.K g'))(ha:SD)(hb:ng)(hc:CA c tc)
  (hm:lastMarks [op,op'] [b,c]=false:=by show AQM):CA BCw (gF g g' ta tb tc):=fun z E cx=>
 nO (ybg (ho z) (ho' z) DS LT ATx hm) (i3 z7n)
#where
def z9z(sc Vz:Scope):Scope:={sc with names:=sc.names.map fun uk=>if (k== LH&&Vz.kind== ABz&&Vz.names.lookup n==AIo) then(n,ci) else uk}
section
variable{X:Cx}{F0 H0:Hp}{x:Str}{pos:Pos}{d:D}
def Oj(K:W.Frag)(mg:B7)(x:Str)(d:D):Prop:=∃v u,ACo u/\LW/\∀F,LO
theorem yk8(hg:Hk)(h:Oj X.K X.mg x d)(hd:As x "__debug__":=by decide):CA hV (cC d):=by
 obtain⟨v,u,hm,r,rp⟩:=h;exact Vf (Hb (Be yft hg hm r hd)) rp
theorem glb_tup{K:W.Frag}{mg:B7}{a:Addr}{od:IE}{its:EL}{n:Nat}{sl:vz}{ds:Ε}(hm:ACo B9)(hk:EE K.lookup (AJM "tuple" od AiR sl))(hz:Agf)
  (hv:∃vs,Vals vs its.toList/\∀F,F_):Oj K mg x (.tup ds):=by
 obtain⟨vs,rv,rp⟩:=hv;refine IL AI AI hm (EM F);exact No a (.inr ⟨_,its,n,hk,rfl,rfl,hz,rv⟩) (rp F)
#where
structure Hh (K:W.Frag) (x qual:Str) (st:Stmt) (f:Addr) (fd:FuncData) (dV:Value):Prop where
 ex:∃(oc:Value) (od:IE) (kV doc pm:Value) (an:IE) (cdv ct:Value) (osl:vz),
  BIt dV
 kp:AKh
section
variable{P:Program}{w:World}{K:W.Frag}{mg:B7}{base:Heap}
theorem abm(Ar6){f:Addr}{fd:FuncData}{dV:Value}{N ps:Β}{k:Nat}{sp:dw}(Fn:Hh K x qual st f fd dV)(S:AG_ ps)(len:APh)
  (hbody:AHz (∀F0:Hp,
   ∃t,AmC ú/\ApN Ao0)):
  AjR nq:=by
 show AAr;show APq
 ·obtain⟨F,ds,P',Ex,_,rs,hs,_⟩:=hq1;rw[<- UB];exact AOh
 show AtA;show AmK;show APi (by
  show AH0;show AH1;obtain⟨Γ',F',x,R',_,xr,_,z1⟩:=z;exact APo)
 exact Asl (ACw (C8 (Pd AF)) Pd) (AYt (fun Γ F' H' σ R' _ q=>BAc) x6 x6 BIo)
structure Ol (Axv):Prop where
 ex:∃f fd,AGs nq/\ACo Fk/\AKh/\ę/\Binds K fd ps [Ω]
#where
def ju(sp:dw)(t:cN):cg:=P4 (AQR (ds++ [AF]) (ub (DM d)) C C)
section
variable{X:Cx}{F0 H0:Hp}{e:Expr}{es:A5}{pos p:Pos}{x:Str}{ps:Β}{k:Nat}{sp:dw}{t:cN}
theorem ya6(Asp Ol):
  CA YE (aC sp t):=by
 obtain⟨f,fd,h1,h2,h3,h4,_⟩:=G.ex;exact z7y h1 hr hg h2 h3 h4 ha hdb he hpl
#where
def VE(y9):Prop:=W.kitOne K EU (Kk "ValueError")=some true
def uF(K:W.Frag)(ta:cg):cg:=BLy (lY K C0/\G6 K C0/\VE K C0) AhR
def uG(K:W.Frag)(Cs:AR)(ta:cg):cg:=BBb (Cs.any fun C=>bC K C0 C)
theorem zsi(BFs){H:Hp}{s:Shared}{h' :Heap}{t' :Nat}{fp:AR}(I:Ι)(k:AXp (b∉fp))(hf:AMb):Age:=by
 have T9:Q4 H (b∉fp):=MM e z (AKq (hf b z).1)
 refine Ass fp AL8 (fun b o _ _ hc e _=>Aju) (fun b o _ _ hc e _=>⟨o.slots,Aju⟩) A3t (fun b o hc e=>(N3 Aju)) (AKv) (qk e e) A4R (MR m hm) (ER) I.bare
 ·obtain⟨f0,f1,f2,f3,f4,f5⟩:=hf b hb;exact⟨f3,f1,f4,f5⟩
 ·obtain⟨o,es,ep,ho,r⟩:=hm;exact⟨o,es,ep,k _ o (Hb (AnT hf)) ho,r⟩
 ·refine AlE (fun c v hc q=>k c v ?_ q) AHK X_;show JA hc
  ·rw[z];exact Pe T9
  ·exact T9 c _ z
theorem zmv(h:AcU)(hb:He):AdJ ANX:=⟨ŵ hb h.1,h.2⟩
theorem zxc{X:Cx}{pins:dD}{σ:St}{H:Hp}{s:Shared}{h' :Heap}{t' :Nat}{fp:AR}{xs:Ζ}{its:Τ}(I:Ι)(k:AXp (b∉fp))
  (hlt:Av2) (ht:BKO AeQ) (hv:ADM) (hz:Tl) (hf:AMb):
  ġ RF ADN:=by
 have I1:ġ RF A2Z:=
  AiS (di) D4 (V_ _ RF (Ami hz its hv))
 refine zsi (s:=A2Z) (fp:=fp) I1 (sf ?_) (FM (zmv Ahu (zL (hlt b hb))));rcases Heap.get?_push_cases e with ⟨rfl,rfl⟩ | e
 ·exact ht
 ·exact k b o hb e
def Ite(K:W.Frag)(a:Addr):It:=
 A6j (∃b v,x= İ/\FX/\H' =upd H b (TZ Co v)/\∀xs,mE ->æ xs)
theorem z4n{P:Program}{w:World}{K:W.Frag}{elts:A5}{x1}{pos:Pos}(a e it:Addr)(hne:e≠it):Turn P w K Aon Ai6 [e,it] e (NS h ((∃old,IsEnum h e it Ic old)/\h.IsListIter it a i)) where
 mem:=A1
 obj:=fun i h q b hb=>by
  show APd;show ip
  ·exact AOC q
  ·show AGS
   show Abe;exact AM3
 keep:=fun i h h' q k=>by
  show APd;exact⟨⟨old,xx e q⟩,st.at fun o z=>k it Ψ o z⟩
 item:=by
  intro X hP hw hK hc i pins s σ H E I hf q hg;show APd;show NA;show AsO;show AM4;show ArJ;show eR el e (zJ q);show eR il it (by show ō z st;exact zJ z)
  refine wpAny_pyNext_enum_item q st p.isList (x:=u) AT1 hne fun h1 eo st1 ht hs1 k1=> ?_
  show oC _ (wpAny_letOwnedTupleGo_enum eo (Κ h2 e2 sb));show Asf e;have I2:AjL (TZ Co x) AQG:=
   zxc (fp:= [e,it]) (its:= [.int i s.toks,u]) I (cK o z (Ei.extBut b o RS (k1 b o RS RS z)))
    (L9 (by
     show ip
     ·exact el
     ·show AGS
      exact il))
    (Am0 (wc el) ht) (AqI D5 ru) AYG hf
  refine⟨X2,_,I2,rfl,gI _ x I.fresh rfl (BLi I.list_inj),⟨Ev u,(st1.extBut Ei.extBut (sB hne))⟩,HG⟩
  ·have:AUI=Ic+1:=Α
   rw[this];exact e2
  ·refine(zmv Ahu ?_).1;show ip
   ·exact zL el
   ·show AGS
    exact zL il
 done:=by
  intro X hP hw hK hc i pins s σ H E I hf q hg;show APd;show NA;show Aqi;show AM4;show Ps;exact wpAny_pyNext_enum_end SY q st p.isList ve (Aun [e,it] (cK o z (eb b o RS z)))
 self:=AuU (by
  show APd;exact wpAny_pyIter_enum q h)
theorem zpr:AGf "enumerate" "enumerate":=Mb
def VJ(K:W.Frag)(ta:TA):TI:=BHG Ai6
theorem yga{X:Cx}{a:Expr}{ta:TA}{p pos:Pos}{elts:A5}{x1}{pt:Pos}(hg:BNR)(hm:BNP)(ha:AXL)(hs:starEach [a] X.env=EW (CH a) (EV []):=by rfl):
  PI X ARu Au5 (VJ X.K ta):=by
 show oy;show AmW zpr;show ANd;show Aq4;show Ah9;cases rx;show AlB;refine call_enumerate_list pl.isList (DL h' e1 st hsz kp);refine wpAny_pyIter_enum (i:=0) e1 ⟨MB,AyF,_,_,H1,rfl,Acb kp,z4n l _ _ (Nat.ne_of_gt (Nat.lt_succ_self _)),⟨CI e1,st⟩,HG,q hz⟩;have hb2:s1.heap.objs.size<=b:=by
  show ip
  ·exact BMh
  ·show AGT
   exact HC
 exact BCI
def JM:qr Ε Ε
 | _,[]=> []
 | k,x::r=> UH wy x::JM FR r
theorem zsx:∀(k:Nat) (xs:Ε),AS9 (IF JM k xs)
 | _,[]=>rfl
 | k,x::r=>by show IF JM FR r+1=r.length+1;rw[zsx]
theorem zr5:∀(k:Nat) (xs:Ε) (i:Nat),(JM k xs)[i]?=(xs[i]?).map fun d=> (UH (.int (E3 (k+i))) d)
 | _,[],_=>rfl
 | k,x::r,0=>rfl
 | k,x::r,BQ=>by
  show(JM FR r)[i]?=_;rw[zr5 FR r i,GH (k+1+i) (k+ BS)]
  rfl
def Bl(t:cN):cN:=P4 (r8 AIf (DM (JM 0 xs)))
theorem z99(BFz):ANi Ai6 (JM 0 xs):=by
 have hl:=jO rs;show BO (ĝ zsx) (fun i H2 F2 s2 s3 _=>(AN5 ⟨vs,AOG,by rw[e,zsx];omega⟩))
 rw[zr5] at hd;cases hx:xs[i]? with
 | none=>show GG hx hd hd
 | some x=>
  rw[hx] at hd;cases hd;show AOK hx;show BO (Api AOG) (Κ y H' z);show js b v2 hb rfl z z;have:=z vs (s3.seq (s2.seq hq));show AJ hv;show DC;have gr:=Gr.laid (o:=HO.tup [Co,v]) s3 hb;show U_ gr;unfold Rep;refine aE b x_ (qK ?_ (qK (Al8 gr.f) (by unfold aM;rfl)))
  unfold Rep;simp
section
variable{X:Cx}{F0 H0:Hp}{a b e tg:Expr}{es:A5}{pos p pt:Pos}{te:cg}{t:cN}{g:tO}{tb:aH}{elts:A5}
theorem zgj{x1}(hc:C3)(hg:BNR)(hm:BNP)(ha:ADs)(hs:starEach [a] X.env=EW (CH a) (EV []):=by rfl):
  Anq Au5 (Bl t):=BAu yga (ApR (by
  unfold Bl at*;show SH
  ·show APK;exact BCp z99
  ·show gf))
#where
def Bm:M3:=APz (fF ds [Z3] (NY (ae b)) [Co] (NY i))
theorem ye8:ADP "int" (uo X.K Bm):=by
 rintro pins s σ H xs us Q I r ⟨F,ds,P,sF,rs,h,k⟩;show Bi Bm;show C5
 ·show AYX;show M';cases rx;exact call_int_bool (A5W AQC)
 ·show AYX;show M';show PQ;exact call_int_int (A5W I)
 ·show EO
theorem zqw:A'N ApJ Aum
 | [],_,B_=> B_
 | n::ns,_,.cons h r=>by
  show L_ h;exact Nl _ _ (zqw r)
theorem UW:A'N Aum ApJ
 | _,_,B_=> B_
 | _,_,Nl _ _ r=> Nl D5 (UW r)
def Hi:MO:=Ĺ (∃ns,AYS/\ns.length<64/\∀ms:An,ms.Perm ns ->Awa ->AKR T_)
section
variable{prog:Program}{w:World}{A:Around}{E:dh}{s:Shared}
def gG(t:Bool)(h:Heap)(it l:Addr)(i:Nat):Prop:=Apj (h.IsListIter it l i) (h.IsTupleIter it l i)
def iy(t:Bool)(h:Heap)(l:Addr)(xs:EL):Prop:=Apj (h.IsList l xs) (h.IsTuple l xs)
theorem LK(x:Ĩ h)(k:∀o,xI it ->tj it):Ĩ h':=by
 cases t<;>exact Ams k
theorem zwi(x:iy t h l xs)(k:∀o,xI l ->tj l):iy t h' l xs:=by
 cases t<;>exact Ams k
theorem ztc(x:Ĩ h):AfC (xI it):=by
 cases t<;>exact let ⟨o,ho,_,d⟩:=x;Ů BKF
theorem VL(hl:AZ3)
  (hQ:ANb (NN (AY t "tuple_iterator" "list_iterator") #[LS,vt])):AVb l:=by
 cases t
 ·exact wpAny_pyIter_list hl hQ
 ·exact wpAny_pyIter_tuple hl hQ
theorem zkh(hit:Ĩ s.heap)(hl:AZ3)(hx:TM)
  (hQ:tz (gG t h' it l BS) AwD (Q x MA)):Az8:=by
 cases t
 ·exact wpAny_nextOf_list_item hit hl hx hQ
 ·have hit2:AwL:=hit;show A6R;obtain⟨ol,hol,_,nl,hdl⟩:=A8K;refine z6 (wpAny_callSpecial?_slot (name:=AJw) hit2.typeIs F.slot_tuple_iterator_next BDy);show AGd (field ua 0);show IJ (Re ho hd LS) rfl;show AZ2 (Ac3 (Value.ref l));show IJ (Re ho hd (c_ i)) rfl;show MC wpAny_seqItems hol hdl;show Auw;refine z6 (wpAny_setField ho hd Ψ (z7 (NL x (z7 (hQ _ ?_ AeZ)))))
  exact Ape
theorem zu7(hh:JI)(hit:Ĩ s.heap)(hl:AZ3)(hx:xs[i]?=none)
  (hE:BAb AwE):Az8:=by
 cases t
 ·exact wpAny_nextOf_list_end hh hit hl hx hE
 ·have hit2:AwL:=hit;show A6R;obtain⟨ol,hol,_,nl,hdl⟩:=A8K;refine z6 (wpAny_callSpecial?_slot (name:=AJw) hit2.typeIs F.slot_tuple_iterator_next BDy);show AGd (field ua 0);show IJ (Re ho hd LS) rfl;show AZ2 (Ac3 (Value.ref l));show IJ (Re ho hd (c_ i)) rfl;show MC wpAny_seqItems hol hdl;show Auw;show D3 wpAny_rule (z6 (wpAny_setField ho hd Ψ ?_))
  show KO;show AXB AEn
  show Arv
  show AXc AEn
  show Ahl
  first | show KM AUb hh | rw[hh]
  show tq z7 wpAny_throw;exact hE _ _ A6H AJt
structure xX (z TI TO i1 i2 l1 l2:Addr):Prop where
 p:TI≠z/\TO≠z/\i1≠z/\i2≠z/\TI≠TO/\TI≠i1/\TI≠i2/\TO≠i1/\TO≠i2/\i1≠i2
 q:l1≠z/\l1≠TO/\l1≠i1/\l1≠i2/\l2≠z/\l2≠TO/\l2≠i1/\l2≠i2
theorem xX.k{z TI TO i1 i2 l1 l2:Addr}(D:BKJ xX):AOW:=by
 obtain⟨⟨a1,a2,a3,a4,a5,a6,a7,a8,a9,a10⟩,b1,b2,b3,b4,b5,b6,b7,b8⟩:=D;exact⟨a1,a2,a3,a4,a5,a6,a7,a8,a9,a10,b1,b2,b3,b4,b5,b6,b7,b8⟩
theorem z6l(BHa){Q:dh}(D:AOW)(hz:AM9 s.heap)(hTI:APX s.heap)(hTO:AXz)
  (h1:AaM) (h2:AaN) (hl1:AHb) (hl2:AHq) (hx:EH xs k1 x) (hy:EH ys k2 y)
  (hQ:A_D (lc h' x y ->Aj6 h' ->EC (Aj7 h') BAj Ax9 AY1 (AQo MA))):AJR A0j (YU fin (∃v,fin= Aed v/\Q v s')):=by
 have kI:∀{t:Bool} {h h' :Heap} {it l c:Addr} {i:Nat},A'3:=fun x e n=>LK x (AMh (e _ o n ho));have kS:∀{t:Bool} {h h' :Heap} {l c:Addr} {ws:EL},A'4:=fun x e n=>zwi x (AMh (e _ o n ho));show gE (field AEp 2>>=_);show IJ (Re hz rfl AH7) rfl;show gE (field AEp 3>>=_);show IJ (Re hz rfl (.ref TI)) rfl;show AGi hTI;show gE (Builtin.SmallTypes.ownedTupleIsFree (AG z)>>=_);show KO;refine z6 (Re hz rfl Ω rfl AQ3);simp only [if_true];show KB wpAny_rule;show IJ (Re hz rfl (.ref TO)) rfl;refine z6 (wpAny_setField_rec hz Ψ (Κ g1 hz1 hs1))
 replace hz1:AGe g1:=hz1;show KO;show BBp;show AZ1;refine z6 (zkh AqY Aoz hx fun g2 q1 hs2=>z7 ?_);have VN :lc g2 a b:=hs2.extBut _ _ D.TOi1 (hs1.extBut _ _ D.TOz hTO);show AGi VN;refine z6 (wpAny_updateSeq_pair VN (Κ g3 t3 hs3));replace t3:lc g3 x b:=t3;show tq wpAny_letGo z7;show AZ1;refine z6 (zkh BJL BIz hy fun g4 q2 LQ=>z7 ?_);have t4:lc g4 x b:=LQ.extBut _ _ D.TOi2 t3;show AGi t4;refine z6 (wpAny_updateSeq_pair t4 (Κ g5 t5 LR));replace t5:lc g5 x y:=t5;show D3 wpAny_letGo (z7 (z7 ?_));show AGi t5;show KB wpAny_newTuple;have hsz:g5.objs.size=s.heap.objs.size:=by rw[LR.1,LQ.1,hs3.1,hs2.1,hs1.1]
 have hz5:AGe g5:=LR.extBut _ _ D.TOz.symm (LQ.extBut _ _ D.i2z.symm (hs3.extBut _ _ D.TOz.symm (hs2.extBut _ _ D.i1z.symm hz1)));have hk5:BKc Awu:=BIc (BHL c2 LQ.extBut e);have r1:Aj6 g5:=kI (kI (kI q1 hs3.extBut D.TOi1.symm) LQ.extBut D.i12) LR.extBut D.TOi1.symm;have r2:Aj7 g5:=kI q2 LR.extBut D.TOi2.symm;have zlt:z<g5.objs.size:=zJ hz5;show KO;have hz6:AGe (g5.push (WO #[x,y])):=z8 _ hz5;refine z6 (wpAny_setField_rec hz6 Ψ (Κ g7 hz7 hs7))
 replace hz7:Afp g7 g5.objs.size:=hz7;refine wpAny_setField_rec hz7 Ψ (Κ g8 hz8 hs8)
 replace hz8:Afp g8 g5.objs.size:=hz8;have up:∀c o,c≠z ->Awu ->g8.get? c=some o:=fun c o c1 e=>hs8.extBut _ _ c1 (hs7.extBut _ _ c1 TN);have hT8:IsPair g8 g5.objs.size x y:=hs8.extBut _ _ (wc zlt) (hs7.extBut _ _ (wc zlt) AZR);have sz8:g8.objs.size=g5.objs.size+1:=by rw[hs8.1,hs7.1,Heap.size_push]
 rw[hsz] at hz8 hT8 sz8;refine z7 AFv;rw[hsz];exact hQ g8 hz8 (up _ _ D.TOz t5) (LK r1 (ADU (up _ o D.i1z e))) (LK r2 (ADU (up _ o D.i2z e))) hT8 sz8 (BIc (up c o c1 (hk5 c o c1 c2 c3 c4 e)))
theorem z9o(Afk){xs ys:EL}{a b:Value}{Q:Dx Fin}(hh:JI)(D:AOW)(hz:AM9 s.heap)(hTI:APX s.heap)(hTO:AXz)
  (h1:AaM) (h2:AaN) (hl1:AHb) (hl2:AHq) (hend:A6')
  (hE:BAb (AY1)):Fu A0j:=by
 have kI:∀{t:Bool} {h h' :Heap} {it l c:Addr} {i:Nat},A'3:=fun x e n=>LK x (AMh (e _ o n ho));have kS:∀{t:Bool} {h h' :Heap} {l c:Addr} {ws:EL},A'4:=fun x e n=>zwi x (AMh (e _ o n ho));show gE (field AEp 2>>=_);show IJ (Re hz rfl AH7) rfl;show gE (field AEp 3>>=_);show IJ (Re hz rfl (.ref TI)) rfl;show AGi hTI;show gE (Builtin.SmallTypes.ownedTupleIsFree (AG z)>>=_);show KO;refine z6 (Re hz rfl Ω rfl AQ3);simp only [if_true];show KB wpAny_rule;show IJ (Re hz rfl (.ref TO)) rfl;refine z6 (wpAny_setField_rec hz Ψ (Κ g1 hz1 hs1))
 replace hz1:AGe g1:=hz1;show KO;show BBp;show AZ1;cases hx:xs[k1]? with
 | none=>
  show D3 (zu7 hh AqY Aoz hx) (EX g2 e hs2 he);obtain⟨oe,hoe,hce⟩:=he;have hz2:AGe g2:=hs2 _ _ D.i1z.symm hz1;show BEz hz2
  exact wpAny_setField_rec hz2 Ψ fun g3 _ hs3=>hE g3 e (fun c o c1 _ c3 _ x=>hs3.extBut _ _ c1 (hs2 _ _ c3 (hs1.extBut _ _ c1 x))) ⟨oe,hs3.extBut _ _ hez hoe,hce⟩
 | some x=>
  have hy:ys[k2]?=none:=by show OE hend;rw[hx] at h;cases h;exact h
  refine z6 (zkh AqY Aoz hx fun g2 q1 hs2=>z7 ?_);have VN :lc g2 a b:=hs2.extBut _ _ D.TOi1 (hs1.extBut _ _ D.TOz hTO);show AGi VN;refine z6 (wpAny_updateSeq_pair VN (Κ g3 t3 hs3));show tq wpAny_letGo z7;show AZ1;show D3 (zu7 hh BJL BIz hy) (EX g4 e LQ he);obtain⟨oe,hoe,hce⟩:=he;have hz4:AGe g4:=LQ _ _ D.i2z.symm (hs3.extBut _ _ D.TOz.symm (hs2.extBut _ _ D.i1z.symm hz1));show BEz hz4
  exact wpAny_setField_rec hz4 Ψ fun g5 _ LR=>hE g5 e (fun c o c1 c2 c3 c4 x=>(BHL c1 LQ x)) ⟨oe,LR.extBut _ _ hez hoe,hce⟩
theorem z17(BHa){Q:Dx L5}(D:AOW)(hz:AM9 s.heap)(hTI:APX s.heap)(hTO:AXz)
  (h1:AaM) (h2:AaN) (hl1:AHb) (hl2:AHq) (hx:EH xs k1 x) (hy:EH ys k2 y)
  (hQ:A_D (lc h' x y ->Aj6 h' ->EC (Aj7 h') BAj Ax9 AY1 (Q (some fN) MA))):AAX z:=by
 have hT:s.TypeIs AEp "zip" :=G1 hz;exact z6 (wpAny_attempt (wpAny_callSpecial?_slot (name:=AJw) hT F.slot_zip_next (wpAny_call_entry F.slot_zip_next hT F.entry_zip_next (z6l D hz hTI hTO h1 h2 hl1 hl2 hx hy fun h' a1 a2 a3 a4 a5 a6 a7=>z7 (hQ h' a1 a2 a3 a4 a5 a6 a7)) (F.args_zip_next_1 _))))
theorem z56(Afk){xs ys:EL}{a b:Value}{Q:Dx L5}(hh:JI)(D:AOW)(hz:AM9 s.heap)(hTI:APX s.heap)(hTO:AXz)
  (h1:AaM) (h2:AaN) (hl1:AHb) (hl2:AHq) (hend:A6')
  (hQ:AW5 (AY1)):AAX z:=by
 have hT:s.TypeIs AEp "zip" :=G1 hz;show AUC (wpAny_callSpecial?_slot (name:=AJw) hT F.slot_zip_next (wpAny_call_entry F.slot_zip_next hT F.entry_zip_next (z9o hh D hz hTI hTO h1 h2 hl1 hl2 hend (EX h' e hk he)) (F.args_zip_next_1 _)));show Ts ho hc he;show MC Arw (Ů hc) isSubtype_stop;exact z7 (hQ _ hk)
def VP(t:Bool):String:=if t then "tuple_iterator" else "list_iterator"
abbrev zH1(t1:Bool)(h:Heap)(l1:Addr):Heap:=A6P h.push
abbrev zH2(Abl):Heap:=(zH1 t1 h l1).push (NN (VP t2) #[.ref l2,vt])
abbrev zH3(Abl):Heap:=(ASN zH2 l2).push (WO #[.ref h.objs.size,.ref (AmV h)])
abbrev zH4(Abl):Heap:=(ASN zH3 l2).push (WO #[Ω,Ω])
abbrev Rv(Abl):Heap:=(ASN zH4 l2).push (NN "zip" #[Ω,AH7,AH7,Ayg zH2,Ayg zH3])
theorem z53(x:iy t h l xs)(o:Obj):iy t (h.push o) l xs:=zwi x (GT e cE)
theorem Hj(hl:AZ3)
  (hQ:ANb (NN (VP t) #[LS,vt])):AVb l:=VL hl hQ
theorem Om(t1 t2:Bool)(l1 l2:Addr)(xs ys:EL):Meets (Builtin.«zip.__new__» (E6 [.type "zip",.ref l1,.ref l2])) (fun _ R s=>AHb/\AHq/\Adr (AG Aj4) (OR (Rv t1 t2 s.heap l1 l2))):=
 BHs (by
  show y8;show FV hl1 hl2 h;have hsub:=sub_zip;have hL1:iy t1 (Shared.heap (re hp tk)) l1 xs:=hl1;have hL2:iy t2 (Shared.heap (re (A6P hp.push) tk)) l2 ys:=z53 hl2 _
  wp_walk using Hj hL1,Hj hL2
  exact Of h)
theorem zyy(e:TC (NN (VP t) #[LS,vt])):gG t h a l 0:=by
 cases t<;>exact IN e rfl rfl
theorem z8s(hl1:AHb)(hl2:AHq)
  (h:tz (IsZip h' Auz Atd Avr Ω) (IsPair h' Atd fN (AG Uf)) (EC (IsPair h' Avr Ω Ω) (gG t1 h' s.heap.objs.size l1 0) (gG t2 h' Uf l2 0) (∀c o,AIL c ->tj c) (FS Auz MA))):AnK "zip" [.ref l1,.ref l2]:=by
 refine callType_new F.called_zip Δ (F.typeCall_zip_2 _ _) (F.newCall_zip_2 _ _) (Υ obj (F.args_object_init_3 obj _ _)) F.entry_zip_new (Om t1 t2 l1 l2 xs ys) ⟨hl1,hl2,?_⟩
 show ANp z1 (AmV s.heap) mh;show Aom z2 (AJ4 zH2) 2 z1
 show Aom z3 (AJ4 zH3) 3 z2
 show Aom z4 Aj4 4 z3
 show PZ g5 AMv l2 Aj4 _ OS;show PZ g4 AMv l2 (AJ4 zH3) _ (z8 _ AZR);show PZ g3 AMv l2 (AJ4 zH2) _ (z8 _ AoH);show PZ g2 AMv l2 (AmV s.heap) _ (z8 _ (z8 _ AoH));show PZ g1 AMv l2 s.heap.objs.size _ (z8 _ (ANh AoH));rw[z2,z3,z4] at g5;rw[z1,z2] at g3;rw[z3] at g4;rw[z1] at g2;rw[z4];exact⟨G1 g5,h _ g5 g3 g4 (zyy g1) (zyy g2) fun c o x=>z8 _ (ANh (ANh x))⟩
#where
def Sq(t:Bool)(K:W.Frag)(H:Hp)(a:Addr)(xs:Ζ):Prop:=Apj mE x0
theorem Rx(I:Ι)(h:Aru xs):Apn (iy t s.heap a its.toArray):=by
 cases t
 ·show T' its rv p hz AgM ⟨its,rv,p.isList,hz⟩
 ·show T' its rv p hz (I.tuple h) ⟨its,rv,p,hz⟩
theorem yd7(I:Ι)(h:Aru xs)(h' :Aru ys):xs=ys:=by
 cases t
 ·exact I.list_inj h h'
 ·exact I.tuple_inj h h'
def Itz(YN)(t1 t2:Bool)(a b:Addr):It:=
 ⟨kz (∃xs ys x y,Aqt/\Aqu/\TM/\AcY),fun i H v H' =>∃c x y,v= ATa/\HU c/\H' =upd H c (TZ x y)/\ (∀xs,Aqt ->TM)/\∀ys,Aqu ->AcY,
  kz (∃xs ys,Aqt/\Aqu/\ (ASE\/ys.length<=i))⟩
theorem zap{n l1 l2:Nat}(h1:l1<n)(h2:l2<n):xX (n+4) (n+2) (n+3) n NO l1 l2:=by
 have e:∀a b:Nat,a≠b ->(a:Addr)≠b:=Ait;refine⟨⟨KP,KP,KP,KP,KP,KP,KP,KP,KP,KP⟩,KP,KP,KP,KP,KP,KP,KP,KP⟩<;>omega
theorem yar(AEd)(Aau){pos:Pos}(t1 t2:Bool)(a b z TI TO i1 i2:Addr)(D:xX z TI TO i1 i2 a b):Turn P w K Aon (Arh b) Abn z
  (NS h (AM9 h/\APX h/\ (∃u v,lc h u v)/\gG t1 h i1 a i/\gG t2 h i2 b i)) where
 mem:=A1
 obj:=fun i h q c hc=>by
  show Ab0;show AHo hc;show Asv
  ·exact AOC q1
  ·exact AOC q2
  ·exact AOC q3
  ·exact ztc q4
  ·exact ztc q5
 keep:=fun i h h' q k=>by
  show Ab0;exact⟨xx z q1,xx TI q2,⟨u,v,xx TO q3⟩,LK q4 (ADU (k i1 Ψ o e)),LK q5 (ADU (k i2 Ψ o e))⟩
 item:=by
  intro X hP hw hK hc i pins s σ H E I hf q hg;show Ab0;show NA;obtain⟨xs,ys,x,y,hq1,hq2,hx,hy⟩:=hg;obtain⟨its,rv,p,_⟩:=Rx I hq1;obtain⟨jts,Ry,p2,_⟩:=Rx I hq2;show BD ux hux rux rv.get hx;show BD uy huy ruy Ry.get hy;show D7 lt c Abn AjD c hc (by
   show AHo hc;show Asv
   ·exact zJ q1
   ·exact zJ q2
   ·exact zJ q3
   ·show ō e (ztc q4);exact Iy
   ·show ō e (ztc q5);exact Iy)
  have Dk:=D.k;refine z17 Dk q1 q2 q3 q4 q5 p p2 (x:=ux) (y:=uy) (Bz hux) (Bz huy) fun h1 a1 a2 a3 a4 a5 a6 k1=> ?_
  show oC _ (wpAny_letOwnedTupleGo_zip a1 (Κ h2 e2 sb));show Asf z;have zl:=lt z Ψ
  have I2:AjL (TZ x y) s.toks:=
   zxc (fp:= Abn) (its:= [ux,uy]) I (Axq (A3i RS RS e))
    lt (Am0 (wc zl) a5) (AqI rux ruy) AYG hf
  refine⟨X2,_,I2,rfl,⟨_,x,y,rfl,I.fresh,rfl,fun zs hz=>(Ο (yd7 I hz hq1) hx),fun zs hz=>(Ο (yd7 I hz hq2) hy)⟩,⟨e2,?_,⟨ux,uy,Ei.extBut _ _ Dk.TOz a2⟩,A2_ a3 Dk.i1z,A2_ a4 Dk.i2z⟩,Am8⟩
  ·exact Ei.extBut _ _ Dk.TIz (k1 _ _ Dk.TIz Dk.TITO Dk.TIi1 Dk.TIi2 q2)
  ·exact BAY lt
 done:=by
  intro X hP hw hK hc i pins s σ H E I hf q hg;show Ab0;show NA;obtain⟨xs,ys,hq1,hq2,hx⟩:=hg;obtain⟨its,rv,p,_⟩:=Rx I hq1;obtain⟨jts,Ry,p2,_⟩:=Rx I hq2;have l1:=rv.length;have l2:=Ry.length;refine z56 SY D.k q1 q2 q3 q4 q5 p p2 ?_ fun h' k1=>(E7 (ASW zsi fp Abn I (fun c o hb e=>A3i RS RS e) hf))
  rcases hx with hx | hx
  ·show B3 ve
  ·show DJ ve
 self:=AuU (wpAny_pyIter_zip q.1 h)
theorem yb8:AGf "zip" "zip":=Mb
def abn(K:W.Frag)(ta:TA):TI:=ASy (∃t1 t2 a b xs ys,vs= [AI,İ]/\Sq t1 K H1 a xs/\Sq t2 K H1 b ys/\ (Tl ->ALX ->R (Arh b) H1))
theorem ykd{X:Cx}{a b:Expr}(AsI)(Aau){pt:Pos}(hg:Gl X "zip")(hm:WJ "zip")(ha:Aj2)(BIa):
  PI X ARu Aw0 (abn X.K ta):=by
 show oy;show Ad7 yb8 (ADT AJ5) hs hpl;show ANd;obtain⟨t1,t2,l1,l2,xs,ys,rfl,hq1,hq2,q⟩:=q1;cases r1 with
 | cons r rr=>
  cases rr with
  | cons r' rr=>
   cases rr;cases r;cases r';obtain⟨its,rv,p1,hz1⟩:=Rx I1 hq1;obtain⟨jts,Ry,p2,hz2⟩:=Rx I1 hq2;have n1:l1<s1.heap.objs.size:=by cases t1<;>exact let ⟨o,e,_⟩:=p1;Iy
   have n2:l2<s1.heap.objs.size:=by cases t2<;>exact let ⟨o,e,_⟩:=p2;Iy
   refine z8s p1 p2 fun h' e1 e2 e3 e4 e5 kp=> ?_;refine wpAny_pyIter_zip e1 ⟨AS_ 4,[AS_ 4,AS_ 2,AS_ 3,s1.heap.objs.size,MB],_,_,H1,rfl,Acb kp,
    yar t1 t2 l1 l2 _ _ _ _ _ (zap n1 n2),⟨e1,e2,B5 _ e3,e4,e5⟩,Am8,q hz1 hz2⟩
   have hb2:s1.heap.objs.size<=c:=by
    show AHo hc;show Asv
    ·exact AT7
    ·exact AT7
    ·exact AT7
    ·exact HC
    ·exact AT7
   exact BCI
def lG(xs ys:Ε):Ε:=List.zipWith (fun x y=> (UH x y)) xs ys
theorem z3n(NW){F:Hp}{t1 t2:Bool}{a b:Addr}{vs us:Ζ}{xs ys:Ε}(hq1:Am6 (Sq t1 K H1 a vs))(hq2:Am6 (Sq t2 K H1 b us))(r1:Ė)(r2:JS ys us)(hz:BM vs.length):ANi (Arh b) Ake:=by
 have l1:=jO r1;have l2:=jO r2;have lz:IF lG xs ys=min xs.length ys.length:=List.length_zipWith;show BO Α (fun i H2 F2 s2 s3 _=>(AN5 ⟨vs,us,Aaw hq1,Aaw hq2,Α⟩))
 unfold lG at hd;show Auv;cases e1:xs[i]? with
 | none=>show GG e1 hd hd
 | some x=>
  cases e2:ys[i]? with
  | none=>show AYd;cases hd
  | some y=>
   show AYd;cases hd;show A4 v hv rv wA r1 e1;show A4 u hu ru wA r2 e2;show BO ⟨vs,us,v,u,Aaw hq1,Aaw hq2,hv,hu⟩ (Κ w H' z);obtain⟨c,v2,u2,rfl,hc,rfl,z1,z2⟩:=z;have:=z1 vs (hq1 H2 Awd);show AJ hv;show DC;have:=z2 us (hq2 H2 Awd);show AJ hu;show DC;have gr:=Gr.laid (o:=HO.tup [v,u]) s3 hc;show U_ gr;exact aE c x_ (qK (Al8 gr.f) (qK ((ru.up s2).up gr.f) IP))
def Ma(t:cN):cN:=P4 (r8 AAy (match x,y with | ZT,ALa=>DM Ake | SA,AUO=>DM Ake | _,_=>False))
section
variable{X:Cx}{F0 H0:Hp}{a b e tg:Expr}{es:A5}{pos p pt:Pos}{te:cg}{t:cN}{elts:A5}
theorem Rz{x1}(hc:C3)(hg:Gl X "zip")(hm:WJ "zip")(ha:Ahk)(BIa):
  Anq Aw0 (Ma t):=fun z E cx=>Oe (Be ykd hg hm DS hs hpl) (AfX (ApR (by
  unfold Ma at*;show SH
  ·show SH
   ·obtain⟨v,_,rfl,⟨l,us,rfl,hq,rs⟩,⟨v2,_,rfl,⟨l2,us2,rfl,hq2,JL⟩,rfl⟩⟩:=r1;exact⟨false,false,l,l2,us,us2,rfl,ĵ,R1.g.seq hq2,fun hz _=>(AKx (z3n (t1:=false) (t2:=false) (AX' (s.seq hq)) (AX' (s.seq hq2)) rs JL hz))⟩
   ·obtain⟨v,_,rfl,⟨l,us,rfl,hq,rs⟩,⟨v2,_,rfl,⟨l2,us2,rfl,hq2,JL⟩,rfl⟩⟩:=r1;exact⟨true,true,l,l2,us,us2,rfl,Ajx,sV R1.g hq2,fun hz _=>(AKx (z3n (t1:=true) (t2:=true) (AX' (sV s hq)) (AX' (sV s hq2)) rs JL hz))⟩
   ·show gf
  ·show gf)))
#where
def mU:Β ->Ε ->Str ->Ř
 | VU,SV,g=>AOj (some d) (mU fs ds g)
 | _,_,_=>none
theorem zuq{K:W.Frag}{F:Hp}{g:Str}{x:D}:∀{fs:Β} {ds:Ε} {vs:Ζ},mU fs ds g=some x ->F_ ->∃v,ANz g=some v/\Rep K F x v
 | [],_,_,h,_=>Bn
 | BY,[],_,h,_=>Bn
 | VU,SV,vs,h,r=>by
  show AON;show Bi mU;show Akr;show HA g f
  ·show og e;cases h;subst e;exact⟨v,A1,r1⟩
  ·show U' e;show A4 u hu ru zuq h r2;exact⟨u,BNV e hu,ru⟩
theorem zho:KG fs Β vs Ζ (g∉fs) (ANz g=none)
 | [],_,_=>rfl
 | BY,[],_=>rfl
 | VU,AGC,h=>by
  show Akr;have h1:g≠f:=fun e=>h (Fs e)
  rw[beq_false_of_ne h1];exact GY (zho (vs:=vs)) e (h (zX _ e))
def mj(C:Addr)(f:Str)(te:cg):cg:=fh (AAR (C' =C/\∃x,mU fs ds f=some x/\DM x))
def sy(BJT):cg:=fh (AAR (C' =C/\AGI/\A9e))
section
variable{X:Cx}{F0 H0:Hp}{e o:Expr}{es:A5}{pos p apos:Pos}{f m:Str}{C fa:Addr}{fd:FuncData}{ps:Β}{k:Nat}{sp:dw}{te:cg}{t:cN}
theorem yE(hc:vi)(hn:RR)(he:Pi)(hb:YO f:=by rfl):AIl Attribute e f (mj C f te):=fun z E cx=>
 nO (Be yd5 Lc hb) (Do σ H Q hq1 P hq1 (VX (by
  cases d with
  | obj C' fs ds=>
   obtain⟨rfl,x,hx,hp⟩:=h1;obtain⟨a,dx,vs,rfl,ea,hl,rs⟩:=r1;show A4 u hu ru zuq hx rs;exact⟨a,C',dx,_,u,rfl,R1.g _ _ ea,hc,hn,hu,k x Γ1 F1 H1 u R1 s1 ru hp⟩
  | _=>show xL)))
theorem yh1(A_R)(Fn:A1y)(hr:t9)(hb:AEX)(ho:AMP)(ha:LX)
  (hst:starEach Da X.env=EW (CH e) (EV es):=by rfl) (hpl:AIP:=by rfl)
  (ht:eval AJT X.env=(do
   let ov<- CH o
   AAj
   let (f,first)<- ABR m pl
   ABX (Ŭ Da) AGl):=by rfl):
  Abz sy:=by
 rintro z E cx pins s σ H Q I ⟨F,Γ,P,R,h,kk⟩;refine Aao (NJ (A6p (AAR (C' =C/\AGI/\A9e)) (VX (AdK d))) u ⟨x,H1,I1,rx,F1,Γ1,d,R1,sF,rd,q⟩) ht
 cases d with
 | obj C' fs ds=>
  show ApE;have V0:=rd;show Amb;show af;show A6n;refine W.callWith_K (first:= LP) (h₀:=X.base) I.ok.mod.Jy hm.kp (bW (ha z E cx pos pins s1 σ H1 (ē H2 (∃F2 Γ2 es,WH F2 H2 Γ2/\AQQ/\dl F2 es/\BLx)) I1 (AcO q (AJL es vs ⟨F2,Γ2,es,R2,s2,r2,h2⟩)))
   (AWN ⟨ws,H2,I2,r,F2,Γ2,es,R2,Oo,JL,q2⟩ (Ev I2.kIn))) hst hpl
  exact A'I Vl Fn hr hb cx I2 R2 Au6 (qK (V0.up Oo) JL) q2 (Apf (kk d Γ2 F' H' v At0 (sF.trans (Oo.trans gr.f)) rv hp))
 | _=>show JY q
#where
inductive Di (A6W dw):Prop
 | mk:∀x dx rest F ds Pd Ex,A9r ->(C9 H (Ü [])) ->(AQq dx x) ->EC (dx≠x) ADc (F x=none) (F dx=none) (A'5 (∀d F' H' H3 v,Φ (Gr F H F' H3) Y' (Pd d) (H' =upd H3 x (Ü AWi)) Ade) Di)
def uH(A6X dw):Sp:=AOu (Afu Di)
theorem zll(h:eO P w outer H2 s2 E e s')(os:s2.os=s.os)(un:AJa AiJ [] H2 s2.heap)(kp:xw s.heap.get? s2.heap.get?):AOP eO :=by
 obtain⟨a,C,H',B,dx,h1,h2,h3,h4,h5,h6,h7,h8,h9⟩:=h;exact⟨a,C,H',B,dx,h1,h2.trans os,h3,un.trans h4,h5,h6,XA (h7 b o (W_ kp) n),h8,h9⟩
def Dj(C:Addr)(f:Str)(sp:dw):dw:=BCf (ub (P (.obj C [f] [d])))
section
variable{P:Program}{w:World}{K:W.Frag}{mg:B7}{base:Heap}
theorem ygq{x qual:Str}{st st1:Stmt}(A_S){N ps:Β}{k:Nat}{sp:dw}{C:Addr}{fl:Str}{value:Expr}{px pos' pos:Pos}(Fn:Â)(hbd:xH st= [st1,.Assign (ART (Ĉ px) fl) value pos])(S:AG_ Aep)
  (hc:L2.Cls K C) (hn:ue fl) (hN:EH N 0 AcB) (Oq:AlM) (len:APh)
  (hbody:AHz (∀F0:Hp,
   Ó (swapsWith value (A9 (rL (Ĉ px) fl pos')) pos.line (S_).env)/\
   ∃t te,QS S_ F0 H st1 t/\QE S_ F0 H value te/\
    BEa (t (ACw (fun Γ=>te Γ A4c P6) XT) (gB N AFu) P6))):
  A4N uH:=by
 show AAr;show APq
 ·obtain⟨x,dx,rest,F,ds,Pd,Ex,e,_,_,_,_,_,_,rs,hs,_⟩:=hq1;show Apv e AOh
 obtain⟨a,dx,rest,F0,ds,Pd,Ex,ev,hx,hdx,hne,sF,fx,fdx,rs,hsp,hQ,hE⟩:=hq2;subst ev;obtain⟨hsw,t,te,ht,hte,hq⟩:=Ad9;show APi (by
  show AH0;show AH1;obtain⟨Γ',F',x,R',_,xr,_,z1⟩:=z;exact APo)
 rw[hbd];show U_ (Zi (ht _ _ cx) (Zj (z6r (tH (i:=0) hN Oq) Awt hsw)));refine⟨F0,gB N AFu,_,Vm sF (qK IP rs),BGz,AYt (fun Γ F' H' σ R' s' q=> ?_) t7 t7 t7⟩
 refine⟨F',Γ,_,R',q,fun d Γ1 F1 H1 v R1 s1 rv hp=> ?_⟩;obtain⟨h0,hp⟩:=hp;show Ts eo ro (R1.sl 0 _ h0);show MI rfl ru ro;subst ru;exact⟨AI,eo,a,C,dx,[],rfl,ATr hx,hc,hn,AQ,hQ d F1 _ H1 v R1.gr rv hp rfl⟩
#where
section
variable{X:Cx}{F0 H0:Hp}{e:Expr}{es:A5}{pos p:Pos}{x fl:Str}{C f:Addr}{fd:FuncData}{ps:Β}{k:Nat}{sp:dw}{t:cN}
theorem yhl(M:Mk X.K C f)(Fn:A_9 uH)(hr:AAq)(hg:Hk)(hm:ASX)(hb:AEX)
  (ha:LX) (hdb:As x "__debug__":=by decide) (YI):
  A_7:=by
 rintro z E cx pins s σ H Q I ⟨F,Γ,P,R,h,kk⟩;show Aaz;refine W.callWith_K (h₀:=X.base) I.ok.mod.Jy M.kp (ADT (Abr (Ad2 (ub (DM (.obj C [fl] [d])))))) he hpl;obtain⟨vs,H1,I1,r,F1,Γ1,ds,R1,sF,rs,q⟩:=hz1;show AUh;have I2:=Inv.made (C:=C) I1;have n1:H1 (MB)=none:=AWk;have n2:lr s1.heap.objs.size:=AWj;have ne:s1.heap.objs.size≠MB:=AZj;have kp:xw s1.heap.get? Aze:=GW ALx;show Anr ABO (AmQ n1 n2)
 have f1:F1 (MB)=none:=by
  cases q:F1 (MB) with
  | none=>rfl
  | some o=>show ApW
 have f2:F1 s1.heap.objs.size=none:=by
  cases q:BMF F1 with
  | none=>rfl
  | some o=>show GG (R1.g _ _ q) n2 n2
 have hs:uH X.K C fl sp A1k ABO AxA BFx:=by
  refine⟨bz,s1.heap.objs.size,vs,F1,ds,_,_,rfl,gb,Ajr,ne,Ajh,f1,f2,rs,q,?_,BEf⟩
  rintro d F' H' H3 v gr rv hp rfl;show CS rfl;have g1:F' (MB)=none:=by
   cases q:F' (MB) with
   | none=>rfl
   | some o=>
    show ŏ (gr.n _ _ q f1) z e' z
    ·rw[gb] at z;cases z
    ·rw[gb] at z;cases z;cases e'
  have g2:F' s1.heap.objs.size=none:=by
   cases q:BMF F' with
   | none=>rfl
   | some o=>
    show ŏ (gr.n _ _ q f2) z e' z
    ·rw[bG ne,gb] at z;cases z
    ·rw[bG ne,gb] at z;cases z;cases e'
  have abo:H3 s1.heap.objs.size=some AcD:=gr.h _ _ (md (bG ne) gb)
  have qd:Gr F1 H1 BBN (AcT H3 [(fl,v)]):=by
   show CU ANC ANC ANC (XA ?_)
   ·rw[jp f1,jp f2];exact gr.f _ _ e
   ·show cf bz
    ·subst hb;rw[gb] at e⊢;exact e
    ·rw[X9] at e⊢;by_cases hb2:b=s1.heap.objs.size
     ·subst hb2;rw[gb] at e;cases e;exact abo
     ·rw[AVA] at e;exact gr.g _ _ e
   ·show xC n1 (gr.h _ _ (sH _ _ e))
   ·show cf bz
    ·subst hb;exact .inl n1
    ·rw[X9] at e;by_cases hb2:b=s1.heap.objs.size
     ·subst hb2;exact .inl n2
     ·rw[AVA] at e;have:=gr.n _ _ e n;unfold vU at this⊢;show YR X9 AVA;exact this
  refine kk _ Γ1 _ _ _ (R1.grow qd) (sF.trans qd.f) ?_ hp;have s2:Same F' BBN:=GW (AmQ g1 g2)
  exact⟨bz,s1.heap.objs.size,[v],rfl,gb,rfl,qK (rv.up s2) IP⟩
 show AJ9 AGH (by
  have e:=AJ7;show Apw AeV e)
 have hbs:=hb (AKK (ARd (W.instObj C s1.heap.objs.size))) AGH I2.kIn AZT
 show z0;show BJR;show ATv (Fn.run _ X.stack _ _ (ALw Acj) AGH _ _ _ AWv Ajf hbs A3_ hs) (AJE hq');cases r with
 | error e=>
  refine AYu H1 I1 R1 (Aqa ?_);have u1:Un ic [] H1 AIs s1.heap AZA:=Un.laid AHE D4 n2;have u2:Un ic [] AIs ABO AZA BCS:=Un.laid AHE ApV (B2 (ADX ne) n1)
  exact u1.trans u2
 | ok V1 =>
  cases V1 with
  | ret u=>
   obtain⟨v,H',I3,rv,ev,q3⟩:=Ax3;subst ev;exact⟨rv,A5m⟩
  | next=>show o5
  | brk=>show o5
  | cont=>show o5
#where
structure Dl (Ab1) (base:Heap) (C:Addr) (m:Str) (k:Nat) (ps:Β) (sp:dw):Prop where
 ex:BCz (AGs nq)
structure Mk2 (BBW dw):Prop where
 ex:A4J (A4M uH)
def V2(A6T):cg:=BH' SA (¬(HT.sIx xs.length 0 l=0/\HT.sIx xs.length xs.length u=xs.length)/\P (.tup A9H) Γ3)
section
variable{X:Cx}{F0 H0:Hp}{e o:Expr}{lo hi:ALP}{es:A5}{pos p p2 apos:Pos}{x m fl:Str}{C:Addr}{ps:Β}{k:Nat}{sp:dw}{te:cg}{tl th:Kf}{t:cN}
theorem RB(G:Apg Dl)(hc:vi)(hr:t9)(ho:AMP)(ha:LX)
  (hst:starEach Da X.env=EW (CH e) (EV es):=by rfl) (hpl:AIP:=by rfl)
  (ht:eval AJT X.env=(do
   let ov<- CH o
   AAj
   let (f,first)<- ABR m pl
   ABX (Ŭ Da) AGl):=by rfl):Abz sy:=by
 obtain⟨f,fd,h1,h2,h3⟩:=G.ex;exact yh1 hc h2 h1 hr h3 ho ha hst hpl ht
theorem z0u(G:BAs Mk2)(hr:AAq)(hg:Hk)(ha:LX)(hdb:As x "__debug__":=by decide)(YI):
  A_7:=by
 obtain⟨f,fd,h1,h2,h3,h4⟩:=G.ex;exact yhl h2 h1 hr hg h3 h4 ha hdb he hpl
theorem z50(BHx):AVy e AsV (V2 te tl th):=fun z E cx=>
 nO (zzl yj1 Lc (JO hl) (JO hh)) (Do σ H Q DW P DW (VX (AJH (fun l Γ2 F2 H2 R2 s2 h2=>(AmU (fun u Γ3 F3 H3 R3 s3 h3=>by
  cases d with
  | tup xs=>
   have r3:=r1.up (s2.trans s3);show Cb a vs hq rs r3;have hlen:=jO rs;refine⟨a,vs,rfl,sV R3.g hq,BE hlen h3.1,ZA⟩
   have gr:=Gr.laid (o:=HO.tup (xM vs l u)) R3.g hp;refine k _ Γ3 _ _ _ (R3.grow gr) (ABp (AZI gr.f)) ?_ h3.2;exact aE p x_ ((zyo rs l u).up gr.f)
  | _=>show JY h3))))))
#where
mutual
def qe:AEw
 | g6=>False
 | š=>False
 | xh=>False
 | xi=>False
 | AFo=>False
 | SA=>iZ xs
 | .obj _ fs xs=>DX fs=false/\iZ xs
 | _=>True
def iZ:Q1
 | []=>True
 | SV=>qe d/\ADR
end
section
variable{K:W.Frag}{F F' :Hp}{A:ATj}
mutual
theorem yev(hA:Q4 F (VM\/FI F')):BI0
 | AF,_,_,h=>IG
 | XE,_,_,h=>IG
 | UE,_,_,h=>IG
 | U2,_,_,h=>IG
 | Ţ,_,_,h=>IG
 | Ť,_,n,h=>by
  show AaO;refine⟨a,vs,h0,?_,zjb hA ds vs n h2⟩;show ATI h1 h1 h1 h1
  ·show JA ARo
   ·exact z.tup.elim
   ·show B3 (D1 z)
  ·show JA ARo
   ·exact z.frz.elim
   ·show B3 (CY (N3 z))
  ·show DJ h1
 | AVN,_,n,h=>by
  show Ash;refine⟨a,dx,vs,h0,?_,h3,zjb hA ds vs n.2 h4⟩;show JA ARo
  ·have:=z.ins;show YR (Zz h3) n.1;show DC
  ·exact z
 | g6,_,n,_=>Zl
 | š,_,n,_=>Zl
 | xh,_,n,_=>Zl
 | xi,_,n,_=>Zl
 | AFo,_,n,_=>Zl
theorem zjb(hA:Q4 F (VM\/FI F')):BI1
 | [],_,_,h=>IG
 | SV,_,n,h=>by
  obtain⟨v,r,h0,h1,h2⟩:=h;exact⟨v,r,h0,yev hA d v n.1 h1,zjb hA ds r n.2 h2⟩
end
#where
theorem zzi(BBS):∀{ds:Ε} {vs:Ζ} (j:Nat),F_ ->JS (ds.set j d) (vs.set j v)
 | [],vs,j,r=>Agb
 | x::ds,vs,j,r=>by
  show Cb u us r1 r2 r;cases j with
  | zero=>exact qK h r2
  | succ j=>exact qK r1 (zzi h j r2)
def Ot(i:Nat)(ti te:cg):aH:=AXH ((∃xs,AJP AKW)/\mS ti k (AM6 k Γ2[i]? wy (some AKW) (∃j,A9w/\D.nx (Γ2.set i (.ow (xs.set j d))))))
section
variable{X:Cx}{F0 H0:Hp}{x:Str}{pos pos' npos:Pos}{e k:Expr}{i:Nat}{te ti:cg}
theorem ydn(hN:E_)(hv:Nc)(hk:CA k ti)(he:Pi)(hd:As x "__debug__":=by decide)(hcd:As x "__classdict__":=by decide)
  (ha:∀v,assign A1t X.env v=(do
   let ov<- Aac [v] IC
   let iv<- Aac [v,ov] k
   standAt pos'
   BD'
   A1i):=by show Mo)
  (hs:AVh AXx e:=by rfl) (hw:AZV AXx e none:=by rfl)
  (h1:AHR AXx (·.2)= [ATs A1t]:=by rfl):
  AQD AXx e (Ot i ti te):=fun z E cx=>
 ud (Be yj9 Lc (Be ylc VW Agp ya9 ha) hs hw h1) fun Dn σ H hq1=>by obtain⟨F,Γ,D2,R,h,kk⟩:=hq1;exact VX (by
  obtain⟨⟨xs,e0⟩,h2⟩:=h1;obtain⟨o,e1,a,vs,rfl,g1,g2,g3,r⟩:=AWV;refine⟨AI,e1,F1,Γ1,_,R1,h2,fun k Γ2 F2 H2 kv R2 s2 rk q=> ?_⟩;show ZI
  ·rename_i k' xs' e2;show PU j hj q;obtain⟨o,e3,a',ws,rfl,w1,w2,w3,tK⟩:=Azo;rw[e1] at e3;cases e3;subst rk;have hl:=jO tK;refine⟨a,ws,k',j,rfl,rfl,w1,BE hl hj,?_⟩
   exact H_ kk.nx (R2.wr e2 e1 (zzi (r1.up s2) j tK)) d_ q
  ·exact q.elim)
#where
section
variable(K:W.Frag)(F0 H0:Hp)
inductive UpR (t:cg) (E:XW) (σ:St) (H:Hp) (Q:VK):Prop
 | mk:BFI A5s UpR
def upR(t:cg)(E:XW):TE:=yo UpR
inductive V3 (t:cN) (E:XW) (σ:St) (H:Hp) (Q:AFc):Prop
 | mk:BFJ (aM K (jq F0 F') ds vs) V3
def abp(t:cN)(E:XW):TA:=yo V3
#where
def QR(X:Cx)(F0 H0:Hp)(e:Expr)(t:cg):Prop:=ANf upR
def QRA(A5N):Prop:=k9 PA es abp
section
variable{X:Cx}{F0 H0:Hp}{e:Expr}{es:A5}{pos:Pos}{te:cg}
theorem z6d(BLq)(h0:Fr F0)(h:Ae1):lU K (jq F0 F) a vs:=by
 have e:jq F0 F a=F a:=zow (Fm q (AWO h0))
 show OE h
 ·left;unfold Rd at h⊢;rw[e];exact h
 ·show DJ h
def V4(t:cN):cg:=P4 (ADR/\DM ACn)
#where
section
variable{X:Cx}{F0 H0:Hp}{e:Expr}{es:A5}{pos p:Pos}{x:Str}{f:Addr}{fd:FuncData}{ps:Β}{k:Nat}{sp:dw}{t:cN}{te:cg}
def Hl(ii):cg:=fun Γ P _=>te (jP Γ) (N0 d (P d Γ)) jN
#where
def V5{α:Type}(lt:fe):Akn ->α
 | .ret a=>a
 | AbX=>V5 lt (k AVG)
def RD(p_)(lt:fe)(n:Nat):Akn ->Bool
 | .ret _=>true
 | AbX=>Μ (i<n)&&(Μ (j<n)&&(Μ qA&&RD lt n (k AVG)))
theorem ydi(hc:∀i j (C:Dx Bool),Φ (i<n) (j<n) qA (C AVG s) (cmp i j C s)):
  ∀(t:Akn) (Q:Dx α),RD lt n t=true ->Q (V5 lt t) s ->t.kasWp cmp Q s
 | .ret _,_,_,h=>h
 | AbX,Q,ok,h=>by
  unfold RD at ok;show AlU ok;exact hc i j _ ok.1 ok.2.1 ok.2.2.1 (ydi hc BCQ Q ok.2.2.2 h)
section
variable{prog:Program}{w:World}{A:Around}{E:dh}{s:Shared}
theorem z51{vs:Τ}{p:Ya}(hp:AIC p.size):AIC (List.toArray (p.toList.map fun i=>vs.getD i Value.none)).size:=BH hp
#where
theorem zuu(h:Rc):A4t vT (Vals (ApI xs.getD) (is.map (CL (us.getD i Value.none))))
 | [],_=> B_
 | i::is,k=>by
  have hi:=k i zY;show AQ9 (h.get (zZ hi));refine .cons ?_ (zuu h A0S);show RelV (xs.getD i AF) (us.getD i Value.none);show Aku SU hu;exact ru
theorem zvc{K:W.Frag}{F:Hp}{ds:Ε}{vs:Ζ}(h:F_):A4t (i<ds.length) (JS (ApI ds.getD) (ApI vs.getD))
 | [],_=>BH aM
 | i::is,k=>by
  have hi:=k i zY;obtain⟨v,hv,rv⟩:=wA h (zZ hi);refine qK ?_ (zvc h A0S);show Rep K F (ds.getD i AF) (vs.getD i AF);show Aku SU hv;exact rv
def Ho(xs:Ap):Prop:=AS8 xs.Pairwise
theorem V6(h:Ho xs)(hij:i<j)(hj:j<xs.length):xs[i]'(Nat.lt_trans hij hj)<xs[j]:=List.pairwise_iff_getElem.mp h i j _ hj hij
structure Bel (xs:Ap) (j b:Nat):Prop where
 le:b<=xs.length
 lo:AwV (k<b) (xs[k]<j)
 hi:AwV (b<=k) (j<=xs[k])
theorem zsu(hr:AWb):∀(f lo hi:Nat),lo<=hi ->EC (hi<=xs.toList.length) (hi - lo<=f) (AwW (k<lo) (At_<j)) (AwW (hi<=k) (j<=At_)) (Bel xs.toList j (SetTable.below.go xs j f lo hi))
 | 0,lo,hi,h1,h2,h3,h4,h5=>by
  show Nn lo hi
  exact⟨h2,h4,h5⟩
 | f+1,lo,hi,h1,h2,h3,h4,h5=>by
  unfold SetTable.below.go;by_cases hl:lo<hi
  ·show DF hl;have hm1:lo<=ir:=Α
   have hm2:ir<hi:=Α
   have hm:ir<xs.toList.length:=Α
   have hg:xs.getD ((lo+hi)/2) j=xs.toList[ir]:=by
    have:ir<xs.size:=A0 hm
    simp [Array.getD,this]
   dsimp only;rw[hg];by_cases hc:xs.toList[ir]<j
   ·show DF hc;refine zsu hr f _ hi ψ h2 ψ (Κ k hk hlt) h5
    show HA k ir
    ·show N9 hc
    ·exact Nat.lt_trans (V6 hr (Α:k< ir) hm) hc
   ·show BF hc;refine zsu hr f lo _ ψ ψ ψ h4 AxX
    show HA k ir
    ·subst e;omega
    ·have:=V6 hr (Α:ir<k) hk
     omega
  ·show BF hl;show Nn lo hi
   exact⟨h2,h4,h5⟩
theorem zym(hr:AWb)(j:Nat):Bel xs.toList j A0k:=CC (zsu hr _ 0 _ gy Ψ ψ (fun k _ h=>Α) fun k hk h=>by simp at hk;omega)
theorem yiq(h:Bel xs j b)(k:Bel xs j c):b=c:=by
 rcases Nat.lt_trichotomy b c with q | q | q
 ·have hb:b<xs.length:=zN q k.le;have:=k.lo b hb q;have:=h.hi b hb (zO _);omega
 ·exact q
 ·have hc:c<xs.length:=zN q h.le;have:=h.lo c hc q;have:=k.hi c hc (zO _);omega
theorem yha(hr:AWb)(hn:xs[A0K]?≠some j):Ho (SetTable.insertAt xs A0k j).toList:=by
 rw[SetTable.toList_insertAt];have hb:=zym hr j;generalize A0K=b at*;have hn' :∀(h:b<xs.toList.length),xs.toList[b]≠j:=fun h e=>hn (by rw[<- Array.getElem?_toList,UX,e])
 unfold Ho;show Af4;show w9 hr.take (EX a ha c hc)
 ·rw[List.pairwise_cons];show BO Am8 hr.drop;show xn k hk hc;rw[List.length_drop] at hk;rw[List.getElem_drop];have h1:=hb.hi (b+k) ψ ψ
  show HA k 0
  ·subst e;have:=hn' ψ
   omega
  ·have:=V6 hr (Α:b<b+k) ψ
   have:=hb.hi b ψ (zO _)
   omega
 ·show xn k hk ha;rw[List.length_take] at hk;rw[List.getElem_take];have h1:=hb.lo k ψ ψ
  show K2 hc hc
  ·exact h1
  ·show xn m hm hc;rw[List.length_drop] at hm;rw[List.getElem_drop];have:=hb.hi (b+m) ψ ψ
   omega
theorem z05(hr:AWb)(hi:i<=xs.toList.length):SetTable.below xs (ATK (0<i) (xs.toList[i - 1]' ψ+1) 0)=i:=by
 refine yiq (zym hr _) ⟨hi,Κ k hk hlt,AxX⟩
 ·rw[dif_pos ψ]
  show HA k (i - 1)
  ·show N9 ALS
  ·have:=V6 hr (Α:k<i - 1) ψ
   omega
 ·split
  ·rename_i h0;have:=V6 hr (Α:i - 1<k) hk
   omega
  ·exact FC
structure Ej (led:Bool) (t:SetTable):Prop where
 ris:AuO
 dum:Akp
 led:t.led=led
theorem z5c:Ej led (.fresh 0 0 led):=NL (O_ SetTable.fresh Ho) rfl
theorem z41(n:Nat):Ho (Array.range n).toList:=Ο Array.toList_range List.pairwise_lt_range
theorem zfx(h:AM7)(n:Nat):Ej led (t.standIn n):=NL (z41 n) h.led
theorem z8k(h:AM7):Ej led {t with plain:=false}:=⟨h.ris,h.dum,h.led⟩
theorem z6p(j:Nat):SetTable.has #[] j=false:=BH SetTable.has
theorem zq7{t:SetTable}(hd:Akp){j:Nat}:(A4b ->Apm t.place j≠some j)/\t.slot j≠ .dummy:=by
 unfold SetTable.slot;rw[hd,z6p];dsimp only;split
 ·exact⟨AgZ,AgZ⟩
 ·show HQ;exact⟨C8 (Bz q),AgZ⟩
theorem zyn{t:SetTable}(hd:Akp){ha:g9}{h:Int}:∀(f:Nat) (p:SetTable.Probe) {j:Nat} {dm:GL Nat},p.dummy=none ->SetTable.probe.go t ha h f p=some (.empty j dm) ->dm=none/\A4b
 | 0,p,j,dm,_,e=>ALE
 | f+1,p,j,dm,hp,e=>by
  have adv:(t.advance p).dummy=none:=by
   unfold SetTable.advance;split<;>exact hp
  show N4 SetTable.probe.go;split at e
  ·show HQ;cases e;exact Ĭ hp
  ·show HQ;exact NH q (zq7 hd).2
  ·rename_i i q;split at e
   ·cases e
   ·exact zyn hd f _ adv e
theorem ygf{led:Bool}{t:SetTable}(h:AM7)(es:qh)(k:Int)(x:Value):Ej led (layNew t es k x).2.1:=by
 unfold layNew;split
 ·rename_i slot wd q;unfold SetTable.freeSlot at q;show ZI
  ·rename_i j dm e;cases (q);show To hs (zyn h.dum _ _ rfl e);have hn:=(zq7 h.dum).1 hs;dsimp only [Option.getD_none];have hp:Ej led (t.put j).1:=⟨yha h.ris hn,by show(AY (SetTable.has t.dummies j=true) _ t.dummies)= #[];rw[h.dum,z6p];rfl,h.led⟩
   unfold SetTable.orStandIn;split
   ·exact hp
   ·exact zfx hp _
  ·cases q
 ·exact zfx h _
theorem z76(h:AM7)(es:qh)(n:Nat):Ej led (relayAll t es n).2.1:=by
 unfold relayAll;split
 ·rename_i t' order q;dsimp only;split
  ·unfold SetTable.relaid SetTable.laid at q;cases e:SetTable.layClean (SetTable.sizeAbove n - 1) (es.map (·.1)) with
   | none=>rw[e] at q;cases q
   | some owner=>
    rw[e] at q;cases (q);show oC ?_ h.led;have sub:∀l:Ap,((l.filterMap fun j=>(owner.getD j none).map (j, ·)).map (·.1)).Sublist l:=by
     intro l;induction l with
     | nil=>exact List.Sublist.refl _
     | cons a r ih=>
      rw[List.filterMap_cons];cases owner.getD a none with
      | none=>exact ih.cons _
      | some v=>exact ih.cons₂ _
    exact List.Pairwise.sublist (sub _) List.pairwise_lt_range
  ·exact zfx h _
 ·exact zfx h _
section
variable{prog:Program}{w:World}{κ:Type}[lT](knd:É)(kf:ye)
structure pG (led:Bool) (o:Obj) (ks:ZN) (es:qh) (ep:Nat) (t:SetTable):Prop where
 ex:o.ExactSet
 dat:BEJ
 el:AY' es.toList
 fit:t.fits es.size=true
 tok:AM7
 key:(es.toList.map Aiz).Perm ks
def sY(led:Bool)(h:Heap)(a:Addr)(ks:ZN):Prop:=∃o es ep t,pV/\ze
def qX(ks:ZN)(k:κ):ZN:=ATA AXR ks ks k
variable{knd kf}(hkf:Ao4)
include hkf
theorem yhf(el:AY' es):k∈GY es.map e (kf e.2)↔∃e∈es,knd.is k e.2=true:=by
 rw[List.mem_map];constructor
 ·show AEl e he;obtain⟨⟨k',hk',_⟩,_⟩:=el e he;exact⟨e,he,Ο (hkf k' _ hk') hk'⟩
 ·rintro⟨e,he,hk⟩;exact⟨e,he,hkf k _ hk⟩
variable{A:Around}{E:dh}{s:Shared}{a:Addr}{ks:ZN}{led:Bool}
theorem z5g{h:Heap}{o:Obj}{es:qh}{ep:Nat}{t:SetTable}(hg:pV)(hd:BEJ)(es' :qh)(t' :SetTable):
  EE (h.update a (Obj.putSet es' t')).get? BDq:=by
 have z:=Heap.get?_update_self (Obj.putSet es' t') hg (Gc BBx)
 rwa [BBx] at z
omit hkf in
theorem pG.put(S:ze)(el:AY' es'.toList)(fit:t'.fits es'.size=true)(tok:Ej led t')(key:(es'.toList.map Aiz).Perm ks'):
  pG knd kf led BDq ks' es' (ep+1) t' :=⟨S.ex,rfl,el,fit,tok,key⟩
theorem yis{k:κ}{x:Value}{Q:Dx Bool}(hx:knd.is k x=true)(hsc:x.scannable=true)(S:Ars s.heap ks)(hb:AL' ks.length)
  (h:∀b h',AZr h' ->Ars h' (qX ks k) ->Q b MA):Fu (setAddHashed a x AU8):=by
 obtain⟨o,es,ep,t,hg,S⟩:=S;have hsz:es.size=ks.length:=l_ S.key.length_eq this
 have hmem:=yhf hkf S.el (k:=k);refine ARA [x] (C_ (setState a) (wpAny_setState_of hg S.dat S.fit ?_));dsimp only;rw[byScan_of hsc (Α:es.size<scanBound) S.el]
 show D3 (NV rule) (wpAny_rule (C_ (setScan a x _ _ _) (wpAny_setScan_of hx hg S.dat S.fit S.el ?_)));cases hr:List.findIdx? (Υ e (knd.is k e.2)) es.toList with
 | some j=>
  obtain⟨hj,hpj,_⟩:=List.findIdx?_eq_some_iff_getElem.mp hr;have hk:AXR:=S.key.mem_iff.mp (hmem.mpr (B5 (yX hj) hpj));refine BV (BV ?_);have z:=h false s.heap (Heap.SameBut.refl a s.heap) ⟨o,es,ep,t,hg,by unfold qX;show AFZ;exact S⟩
  exact z
 | none=>
  have hk:k∉ks:=fun q=>by
   obtain⟨e,he,hp⟩:=hmem.mp (S.key.mem_iff.mpr q);have:=List.findIdx?_eq_none_iff.mp hr e he;show AJ hp;show DC
  have hperm:=layNew_perm t es AU8 x;have hfits:=layNew_fits t es AU8 x;have Kh:=ygf S.tok es AU8 x;generalize layNew t es (knd.hash k) x=lay at hperm hfits Kh⊢;obtain⟨es1,t1,wd,gave⟩:=lay;rw[Array.toList_push] at hperm;have el1:AY' es1.toList:=(S.el.push hx hsc).perm hperm;have key1:(es1.toList.map Aiz).Perm (qX ks k):=by
   unfold qX;show AFQ;refine Iq hperm.map _ ?_;show Af5;refine List.Perm.append S.key ?_;show [kf x].Perm [k];rw[hkf k x hx]
  have sz1:es1.size=es.size+1:=l_ hperm.length_eq this
  have V7:BM es1.size:=fits_of_scanBound ψ
  have gw:∀(b:Bool) {s₁:Shared} {Q' :AL9},Q' () s₁ ->AFy (A'F b) Q':=
   fun b s₁ Q' q=>by
    cases b with
    | true=>exact wpAny_rule q
    | false=>exact BV q
  have tail:∀t2:SetTable,t2.fits es1.size=true ->Ej led t2 ->AJR (do
    AVS es1 t2
    if Op (! wd) t2.tooFull then do
      (A'F (relayAll t2 es1 Amx).2.2)
      AVS (relayAll t2 es1 Amx).1 (relayAll t2 es1 Amx).2.1
      A2G
     else A2G) (ACZ (þ (AN7 r added (pure added) (setAddHashedIn a x (knd.hash k) 99999)) s')):=by
   intro t2 f2 k2;refine C_ (AVS es1 t2) (wpAny_storeSet_of hg S.dat ?_ V7);have g1:=z5g (hkf:=hkf) hg S.dat es1 t2;have S1:=S.put (ks' :=qX ks k) el1 f2 k2 key1;have sb1:=Heap.SameBut.update s.heap a (Obj.putSet es1 t2);split
   ·have hp2:=Aay relayAll_perm t2;have hf2:=Aay relayAll_fits t2;have ht2:=Aay z76 k2;generalize Aay relayAll t2=rl at hp2 hf2 ht2⊢;obtain⟨es2,t3,gave2⟩:=rl;have sz2:es2.size=es1.size:=l_ hp2.length_eq this
    show IJ gw gave2;refine C_ (AVS es2 t3) (wpAny_storeSet_of g1 rfl ?_ ψ)
    have S2:=S1.put (ks' :=qX ks k) (el1.perm hp2) hf2 ht2 (Iq hp2.map _ key1);refine BV (BV ?_);exact h true _ (sb1.trans (Heap.SameBut.update _ a _)) (oQ _ _ (z5g (hkf:=hkf) g1 rfl es2 t3) S2)
   ·exact BV (BV (h true _ sb1 (oQ _ _ g1 S1)))
  show IJ gw gave;split
  ·show KO;rw[hashByValue_scannable 8 hsc];show ţ;refine tail _ ?_ ?_
   ·split
    ·exact hfits
    ·exact SetTable.fits_plain_off hfits
   ·split
    ·exact Kh
    ·exact z8k Kh
  ·show KB BV;exact tail _ hfits Kh
#where
abbrev lH(AOd):Bool:= !(w.params.followText "set-order")
abbrev Kl(AOd):Obj:={cls:= ATm,dict:=none,data:= .set #[] 0 Axn}
def j8{κ:Type}(Aav):HI ZN
 | 0=> []
 | BQ=>A8q
theorem zr6 (Aav):∀i,IF j8 val i<=i
 | 0=>HC
 | BQ=>by
  have ih:=zr6 val i;show IF qX ASe (val i)<=BQ;unfold qX;split
  ·omega
  ·show AyG;omega
theorem zmu (Aav):∀{i},k∈j8 val i↔∃j,j<i/\val j=k
 | 0=>BH j8
 | BQ=>by
  have ih:=zmu val (k:=k) (i:=i);have e:k∈j8 val BS↔k∈j8 val i\/k=val i:=by
   show k∈A8q↔_;unfold qX;split
   ·show HQ;constructor
    ·exact .inl
    ·rintro(z | rfl)
     ·exact z
     ·exact q
   ·show Azw
  rw[e,ih];constructor
  ·rintro(⟨j,hj,rfl⟩ | rfl)
   ·exact Ix j Α
   ·exact Ix i Α
  ·show AEl j hj;show Hc j i
   ·subst q;exact .inr rfl
   ·show B3 (Ix j Α)
theorem zks (Aav):∀i,(j8 val i).Nodup
 | 0=>List.nodup_nil
 | BQ=>by
  have ih:=zks val i;show(qX ASe (val i)).Nodup;unfold qX;split
  ·exact ih
  ·show HQ;rw[List.nodup_append];show CF ih A1 A5u
   rw[List.mem_singleton] at hb;subst hb;exact AEy q ha
theorem yaz{prog:Program}{w:World}{κ:Type}[lT]{knd:É}{kf:ye}:pG knd kf ui AFt [] #[] 0 Axn:=
 ⟨Awx,rfl,fun e he=>(AB_ he),LJ,z5c,A1⟩
section
variable{prog:Program}{w:World}{κ:Type}[lT]{knd:É}{kf:ye}(hkf:Ao4)
theorem sY.stay(S:sY knd kf led h a ks)(e:∀o,pV ->lL h'.get?):Ars h' ks:=by
 obtain⟨o,es,ep,t,hg,S⟩:=S;exact⟨o,es,ep,t,e o hg,S⟩
include hkf
theorem yba{A:Around}{R:AhU}{I:Addr}{fp wr:AR}{G:BI hW hW}{n:Nat}{P:AIj Value}{St:Dx Nat}
  (W:WalksS prog w A.in1 I fp wr G n P St) {S:Addr} (hS:S∉fp) {val:HI κ} (hv:BGp (P i v)) (hb:AL' n) {led:Bool}:
  ∀(j i:Nat) (s:Shared),EC (i+j=n) (St i s) (sY knd kf led s.heap S ASe) (∀s',Moved (S::wr) G s s' ->sY knd kf led s'.heap S (j8 val n) ->Adr Ω s') (AxP "set.update.loop" (E6 [.ref S,.ref I]) R):=by
 have hw:S∉wr:=fun q=>hS (W.sub _ q);have grow:IQ wr (b∈S::wr):=fun b q=>zX _ q;intro j;induction j with
 | zero=>
  intro i s hij st hs hR;show Nn i n
  show Aww;show Auo;refine C_ (pyNext lm) (W.done s _ _ st (AD s' hm));exact BV (hR s' (hm.mono grow) (hs.stay A_m))
 | succ j ih=>
  intro i s hij st hs hR;show Aww;show Auo;refine C_ (pyNext lm) (A9o ψ st (DL v s1 hP st1 hm))
  obtain⟨hk,hc⟩:=hv i v hP;have hs1:=hs.stay (h' :=s1.heap) A_m;show W' (holding [v] (setAdd S v)) (ARA [v]);refine ARA [v] (C_ (pyHash v) (knd.pyHash hk ?_));refine yis hkf (s:={s1 with toks:=s1.toks+1}) hk hc hs1 (by have:=zr6 val i;omega) (EX _ h2 sb S2)
  refine BV ⟨ADw PyProof.Rows.F.plain_set_update_loop,ih BS _ ψ (W.frame _ s1 h2 _ st1 BMo fun b hb o e=> ?_) S2 (Κ s3 hm3 S3)⟩
  ·exact FL sb.2 b (AEy hS hb) e
  ·refine hR s3 (Moved.trans W.gtrans ((hm.mono grow).then_heap BMo (tT hb e)) hm3) S3;exact FL sb.2 b (AEy hb zY) e
#where
section
variable{prog:Program}{w:World}{A:Around}{E:dh}{s:Shared}
theorem zyi(v:Value)(h:Q₁ fN Ap7):
  ĸ DV A (L7 "set.__new__") (E6 [ATm,v]) (wants Q₁ E) s:=by
 refine codeAny_of_tree ?_;show wpAny _ A.in1 (checkBuiltinCall "set.__new__" (E6 [ATm,v])>>=C8 (again (.builtin "set.__new__" (E6 [ATm,v])))) _ _ s;refine z6 (wpAny_of_eq (PySem.F.newCall_set_1 v) (BV ⟨ADw PySem.F.plain_set_new,codeAny_builtin PySem.F.entry_set_new ?_⟩));show ARG PySem.F.plain_set_new;unfold Builtin.«set.__new__» Builtin.Frozenset.newClass;have hsub:=sub_set_self;show y8
 wp_walk
 refine wpAny_askSetting (BV ?_);exact z6 (wpAny_alloc A7n)
#where
section
variable{prog:Program}{w:World}{κ:Type}[lT]{knd:É}{kf:ye}(hkf:Ao4){A:Around}{E:dh}{s:Shared}
include hkf
set_option maxHeartbeats 3200000 in
theorem zm9{l:Addr}{items:EL}{val:HI κ}{Q:dh}(hh:JI)(hl:AU9 items)(hv:BGp (æ items))(hb:AL' items.size)
  (h:∀(h' :Heap) (tk:Nat),BFp ->(Ak_) ->AQo Ty):
  AnK "set" [LS]:=by
 obtain⟨c,tl,hmro⟩:=PySem.F.called_set.mro;have hmade:=PySem.F.called_set.made;have hsub:=PySem.F.called_set.sub;show Av8;show gE (callAny (Kk "set") _);show BLe (Code.quiet_builtin _ IY) PySem.F.entry_type_call
 rw[Around.under_plain (weight_type_call_type "set" [LS] []) rfl];have q1:=PySem.F.called_set.notType;have q2:=PySem.F.called_set.canCreate;have q3:=PySem.F.typeCall_set_1 ATQ
 show Aps
 refine codeAny_mono (zyi (AG l) (E:=E) (Q₁:=BBl Ap7) PV) (Κ r s₁ hr);cases r with
 | error e=>exact hr
 | ok fl=>
  cases fl with
  | ret obj=>
   show WC rfl hr;show Aqr AFt AFt;have hT:Shared.TypeIs Ap7 fN "set" :=G1 hS;have q4:=PySem.F.called_set.init.lookup;have q5:=PySem.F.called_set.init.bind fN
   show Aps
   show ATv (codeAny_call_builtin (R:=wants (WS s₂ (r= Ω/\∃h' tk,s₂=Ty/\BFp/\
     Ak_)) E) PySem.F.called_set.init.plain PySem.F.entry_set_init (check_set_init_1 hT ?_)) (Κ r₂ s₂ hr₂)
   ·obtain⟨ol,hol,hcl,nl,hdl⟩:=hl;obtain⟨oc,od,ot,os⟩:=ol;simp only at hcl hdl;subst hcl;subst hdl;show PZ hol' s.heap.push AFt l (AIx od (.seq items nl) os) (z8 _ hol);have q6:=PySem.F.sub_list_set;have q7:=PySem.F.sub_list_frozenset;have q8:(Value.type "list" ==Value.type "dict")=false:=AQ
    have hl1:Acy AFt IsList l items:=IB _ hol' nl rfl;unfold Builtin.«set.__init__» noKeywords Builtin.Frozenset.updateFrom;generalize hPI:pyIter=PI
    wp_walk
    subst hPI;refine wpAny_pyIter_list hl1 (z6 (wpAny_runValue ?_));show eR hlS l (zJ hol);have hh3:A.in1.in1.in1.handled=none:=BH hh
    show ANp RG (ADL AFt) mh;refine yba hkf (led:=lH w) ((Walks.list hh3 _ l (B2 RG (AXa hlS)) items).toS) (S:=s.heap.objs.size) ?_ hv hb items.size 0 _ (Nat.zero_add _)
     ⟨UO,hl1.push _⟩ (oQ _ _ (z8 _ hS) yaz) (Κ s' hm hS')
    ·rw[RG];show APc;exact⟨AZj,Nat.ne_of_gt hlS⟩
    ·show Apd;show Ap6;show A8R;show Db (os' =s.os) hm.os;show ţ;refine BV ⟨rfl,h',tk',rfl,hS',ANC⟩;show AYp;refine hm.heap b o ?_ (ANh e);rw[RG];show APc;exact⟨zL hlt,AXa hlt⟩
   ·cases r₂ with
    | error e=>exact hr₂
    | ok fl₂=>
     cases fl₂ with
     | ret r=>
      obtain⟨rfl,h',tk,rfl,hS',hk'⟩:=hr₂
      show Aps
      exact h _ _ hS' hk'
     | _=>exact hr₂.elim
  | _=>exact hr.elim
#where
theorem qY:Awe "__next__" "set_iterator.__next__" := BJj "__next__"
theorem ylg:ASs "set_iterator.__next__" Builtin.«set_iterator.__next__»:=entryFor_of_tree (by kernel_rfl)
theorem yjf(v:Value):argsOk "set_iterator.__next__" (E6 [v]):=UV
theorem ybq:ASs "set.__iter__" Builtin.«frozenset.__iter__»:=BL7 "frozenset.__iter__"
def Bo(h:Heap)(I:Addr)(fst:Value)(i:Nat)(S:Addr)(n ep:Nat):Prop:=∃o,xI I/\ARW "set_iterator" /\o.data= b_ #[fst,c_ i,.ref S,c_ n,c_ ep]
theorem Bo.ty{s:Shared}{I S:Addr}{fst:Value}{i n ep:Nat}(x:AGq s.heap):s.TypeIs lm "set_iterator" :=let ⟨o,ho,hc,_⟩:=x;Ů hc
theorem Bo.at(x:AGq h)(e:∀o,xI I ->tj I):AGq h':=Ams e
theorem z0m(hi:vT):(xs[i]::xs.eraseIdx i).Perm xs:=by
 rw[List.eraseIdx_eq_take_drop_succ];refine List.perm_middle.symm.trans ?_;rw[<- Ats,List.take_append_drop]
section
variable{prog:Program}{w:World}{A:Around}{E:dh}{s:Shared}
theorem z8l(hn:n≠0)(h:∀i d,i<n ->Q i An2):Fu (choose src n):=fun Γ p _=>by
 unfold choose;rw[Sem.wp_choose];exact⟨hn,h _ _ (Nat.mod_lt _ (BMQ hn))⟩
theorem zvs(n:Nat):∀(xs:Au) {s:Shared} {Q:Dx Au},xs.length=n ->(∀ys d,ys.Perm xs ->Q ys An2) ->Fu (drawOrder n xs):=by
 induction n with
 | zero=>
  intro xs s Q hn h;have:xs= []:=List.length_eq_zero_iff.mp hn;show UT;exact BV (h [] s.drawn GA)
 | succ n ih=>
  intro xs s Q hn h;cases xs with
  | nil=>cases hn
  | cons x xs=>
  refine ku choose (z8l Ψ (Κ i d hi))
  show AvI;refine z6 (ih ((x::xs).eraseIdx i) ?_ fun ys d' hp=>BV (h _ d' ?_))
  ·show AvJ;omega
  ·refine Iq hp.cons _ ?_;exact z0m hi
section
variable{S I:Addr}{fst:Value}{i n ep:Nat}{o:Obj}{es:qh}{t:SetTable}
theorem zxb(hh:JI)(hQ:AW5 (Heap.ExtBut I h0 h'))(hk:Heap.ExtBut I h0 s.heap):
  wpAny DV A.in1 (BLj>>=fun e=>(raiseNew e:Sem PySem.Fin)) AI0
   (YU e (þ (do if<- isInstance e AdX then A1M else throw e) s')) s:=by
 show KO;show AXB AEn
 show Arv
 show AXc AEn
 show W' _ wpAny_handled;rw[show AUb by simp [hh]]
 show tq BV (wpAny_throw (α:=_));refine ku isInstance (Arw AJt isSubtype_stop ?_);exact BV (hQ _ (TK hk.push _ _))
#where
#where
section
variable{prog:Program}{w:World}{κ:Type}[lT]{knd:É}{kf:ye}{A:Around}{E:dh}{s:Shared}{S I:Addr}{fst:Value}{i n ep:Nat}{o:Obj}{es:qh}{t:SetTable}{led:Bool}{ks:ZN}
theorem RJ(hit:AGq s.heap)(hg:ph)(O:ze)(hn:es.size=n)
  (h:wpAny DV A.in1 (if let .int slot _:=fst then do
    match<- setNext S slot.toNat i ep with
    | some (x,next)=>
     ASp lm 0 next
     A3q
     ret x
    | none=>BAI;Ax5
   else do
    let some places<- seqItems? fst | Ax6
    match places[i]? with
    | some (T_ place _)=>
     let x<- setNextDrawn S place.toNat ep
     A3q
     ret x
    | some _=>Ax6
    | none=>ASp lm 0 0;BAI;Ax5)
   (YU fin (∃r,fin= Aed r/\Q (some r) s'))
   (YU e (þ (do if<- isInstance e AdX then A1M else throw e) s')) s):
  AAX I:=by
 show MH oi ho hc hd hit;unfold pyNext;refine C_ _ (wpAny_attempt (AlO hit.ty qY qY hit.ty ylg yjf));unfold Builtin.«set_iterator.__next__»;show AFx BNQ;refine NV fieldsOf (wpAny_fieldsOf ho hd ?_);refine C_ (setEntries S) (wpAny_setEntries_of hg O.dat O.fit ?_);rw[F9 (AL6 hn)]
 show AFL h (fun fin s' hz=>by obtain⟨r,hr,hq⟩:=hz;exact⟨r,hr,BV hq⟩) (fun e s' he=>he)
theorem zjz(h:Q (w.params.followText "set-order") s):Fu setsByText:=CC (C_ ask (wpAny_askSetting (BV h)))
theorem zuw(hbt:AzT)(hg:ph)(O:AIm true)(hdr:GN AHt)
  (h:Q (match Apm es slot,Apm t.place slot with | some (_,x),some j=>some (x,j+1) | _,_=>none) s):BCq e0:=by
 show AO3;show AZn;rw[hbt,UF,F9 (Ξ (by have z' :AHt=true:=z;rw[hdr] at z';cases z'))]
 refine C_ _ ?_;show gE (AY (Op (! t.led) (! es.isEmpty)) _ (pure PUnit.unit));rw[O.tok.led,AK Ψ]
 exact BV (BV h)
theorem zuj(hbt:Ay3)(hg:ph)(O:ze)
  (h:Q (((pickOrder ASt es)[given]?).map fun e=>(e.2,slot)) s):BCq ep:=by
 show AO3;show AZn;rw[hbt,B4,AK Ψ]
 refine C_ (setWalk S) ?_;show AO3;show AZn;rw[hbt,B4];exact C_ ask (wpAny_askSetting A7n)
theorem z64(hg:ph)(O:ze)(hx:EH es p x)(h:Q x.2 s):Fu (setNextDrawn S p ep):=by
 show AO3;dsimp only;rw[AK Ψ,hx]
 exact BV h
theorem zwt(hg:ph)(O:ze)(h:Q (! Ax4 &&AHt) s):Fu (setDrawn S):=by
 show AO3;show AZn;exact BV h
theorem z8r(nx:On):∀(f k:Nat) (l:Au) (out:Array α),l.length=f ->(pickOrder.go nx f k l out).toList.Perm (out.toList++l)
 | 0,k,l,out,hl=>by
  unfold pickOrder.go;rw[List.length_eq_zero_iff.mp hl];simp
 | f+1,k,l,out,hl=>by
  unfold pickOrder.go;have hi:A7R<l.length:=Nat.mod_lt _ ψ
  show AvI;refine FL (z8r nx f FR (l.eraseIdx (A7R))) _ (by show AvJ;omega) ?_
  rw[Array.toList_push,List.append_assoc];exact List.Perm.append_left _ (z0m hi)
theorem zok(nx:On)(xs:Array α):(pickOrder nx xs).toList.Perm xs.toList:=CC (z8r nx _ 0 _ #[] Ψ)
#where
theorem yeb:Awe "__iter__" "set_iterator.__iter__" := BJj "__iter__"
theorem yk7:Ava "set_iterator.__iter__":=Axu
theorem yjm(v:Value):argsOk "set_iterator.__iter__" (E6 [v]):=UV
theorem Bo.Ou(x:AGq h)(v:Value):Ă (h.update I (Obj.mapFields (·.setIfInBounds 0 v))) v i:=by
 obtain⟨o,ho,hc,hd⟩:=x;exact BK6 (by rw[Obj.data_mapFields hd];simp)
theorem Bo.Ov(x:AGq h):Ă (h.update I (Obj.mapFields (·.setIfInBounds 1 (rawInt ((i:Int)+1))))) fst BS:=by
 obtain⟨o,ho,hc,hd⟩:=x;exact Ape
section
variable{prog:Program}{w:World}{κ:Type}[lT]{knd:É}{kf:ye}
structure Steps (prog:Program) (w:World) (A:Around) (I S:Addr) (n ep:Nat) (o:Obj) (ex:dD) (vals:Τ) (fst:HI Value):Prop where
 item:∀i (s:Shared) (Q:Dx L5) (E:dh),i<n ->EC (Ă s.heap (fst i) i) ph Aw5 (∀v h',æ vals ->Ă h' (fst BS) BS ->Heap.SameBut I s.heap h' ->Q (some v) MA) (AAX I)
 done:∀(s:Shared) (Q:Dx L5) (E:dh),EC (Ă s.heap (fst n) n) ph Aw5 (AW5 (Heap.ExtBut I s.heap h')) (AAX I)
theorem z8n(T:BK_ n ex vals fst)(hS:S≠I)(hX:∀p∈ex,A2≠I):
  Walks prog w A I (I::S::ex.map (·.1)) [I] n Au2 (NS h (Ă h (fst i) i/\xI S/\∀p∈ex,ACs h.get?)) where
 sub:=A8X
 frame:=fun i h h' st hk=>⟨A5c,hk S Ψ o ATc,XI (hk A2 (by simp only [List.mem_cons,List.mem_map];exact sq (Ix p hp)) p.2 (ATo p hp))⟩
 item:=BIO (T.item i s Q E hi fI ATc ATo fun v h' hv st' sb=>hQ v h' s.toks hv ⟨st',FL sb.2 S hS ATc,XI ((sb.2 A2 (hX p hp)).trans (ATo p hp))⟩ (P7 hb e (FL sb.2 b (Ξ (APx z)) e)))
 done:=fun s Q E st hQ=>T.done s Q E fI ATc ATo fun h' eb=>hQ h' s.toks (P7 hb e (eb b o (Hb (APx z)) e))
 self:=fun i s Q E st hQ=>by
  refine wpAny_pyIter_slot (fI).ty yeb (ACr yeb (fI).ty yk7 yjm);exact BV (BK0 (fI).ty hQ)
variable{A:Around}{I S:Addr}{n ep:Nat}{o:Obj}{es:qh}{t:SetTable}{ks:ZN}
def o7(t:SetTable)(i:Nat):Nat:=ATK (0<i/\AtH) (t.place.toList[i - 1]' ψ+1) 0
theorem zni(hr:AuO)(hi:AtH):SetTable.below t.place (o7 t i)=i:=by
 have:=z05 hr hi;unfold o7;by_cases h0:0<i
 ·rw[dif_pos ⟨h0,hi⟩];show AJ (dif_pos h0);exact this
 ·rw[dif_neg (Ξ (h0 z.1))];show AJ (dif_neg h0);exact this
theorem z00(h:t.fits n=true):t.place.toList.length=n:=by
 simp only [SetTable.fits,Bool.and_eq_true,beq_iff_eq] at h
 simpa using h.1
theorem yfv(hh:JI)(hbt:AzT)(O:AIm true)(hdr:GN AHt):
  Amc [] (es.toList.map (·.2)) (CL (c_ (o7 t i))) where
 item:=Axy (by
  have hl:=z00 O.fit;have hb:=n_ Ax7 ψ
  have hp:i<t.place.size:=A0 (Α:i<t.place.toList.length)
  show AHw;show W' AT9 (zuw (ep:=ep) hbt hg O hdr);rw[A'H i i,hb,AiV,Array.getElem?_eq_getElem hp];show AHu;show AHf
  show Aqd (E3 (t.place[i]+1));show Asa;show AoB
  refine BV (Of (hQ _ _ (Fs hi) ?_ (APW trans AnJ)))
  have e:(Value.int (o7 t BS) 0)=rawInt (E3 (t.place[i]+1)):=by
   unfold o7;rw[dif_pos AAg]
   simp [rawInt]
  rw[e];exact hit2.Ov)
 done:=Axw (by
  have hl:=z00 O.fit;have hb:=Ax7 (i:=es.size) ψ
  show AHw;show W' AT9 (zuw (ep:=ep) hbt hg O hdr);rw[A'H es.size es.size,hb,Array.getElem?_eq_none (Nat.le_refl _)];show AHu;show AHf
  exact As9 (APW extBut))
theorem yh6(hh:JI)(hbt:Ay3)(O:ze):
  Amc [] ((pickOrder (w.params.setOrder S ep) es).toList.map (·.2)) (C8 vt) where
 item:=Axy (by
  show A7N;show Ad_ hp;show AHw;refine C_ AT9 (zuj hbt hg O ?_);have hi' :i< (pickOrder ASt es).size:=Α
  rw[Array.getElem?_eq_getElem hi'];show AHu;show AHf
  show Aqd AFT;show Asa;show AoB
  exact BV (Of (hQ _ _ (Fs hi') hit2.Ov (APW trans AnJ))))
 done:=Axw (by
  show A7N;show Ad_ hp;show AHw;refine C_ AT9 (zuj hbt hg O ?_);rw[Array.getElem?_eq_none ψ]
  show AHu;show AHf
  exact As9 (APW extBut))
theorem ygt{led:Bool}(hh:JI)(O:ze){Tp:Addr}{ot:Obj}{ps:Ap}(hps:AR0 ps.Perm es.size)(hot:∃m,ot.data= .seq Ao2 m):
  Amc [(Tp,ot)] A8N (C8 (.ref Tp)) where
 item:=fun i s Q E hi hit hg hx hQ=>by
  obtain⟨m,hm⟩:=hot;show AqK hl
  have hi' :i<ps.length:=Α
  have hlt:Mn<es.size:=List.mem_range.mp (hps.mem_iff.mp (yX hi'));show AHw;refine NV seqItems? (wpAny_seqItems A7U hm ?_)
  dsimp only;have e:B8 Ao2 (.int (E3 Mn) 0):=O_ hi' rawInt
  rw[e];refine C_ (setNextDrawn _ _ _) (z64 (x:=es[Mn]) hg O (B2 Int.toNat_natCast At9) ?_)
  show AHu;show AHf
  exact BV (Of (hQ _ _ (by simp [hi',hlt]) hit.Ov (Heap.SameBut.update s.heap I _)))
 done:=fun s Q E hit hg hx hQ=>by
  obtain⟨m,hm⟩:=hot;show AqK hl
  show AHw;refine NV seqItems? (wpAny_seqItems A7U hm ?_)
  dsimp only;have e:Ao2[es.size]?=none:=BH hl
  rw[e];show AHu;show AHf
  show Aqd 0;show Asa;show AoB
  exact As9 (APW trans AnJ).extBut
#where
section
variable{prog:Program}{w:World}{κ:Type}[lT]{knd:É}{kf:ye}{A:Around}{E:dh}{s:Shared}{S:Addr}{ep:Nat}{o:Obj}{es:qh}{t:SetTable}{ks:ZN}
structure Laid (knd:É) (kf:ye) (s:Shared) (S:Addr) (o:Obj) (ks:ZN) (I:Addr) (h' :Heap) (n:Nat) (vals:Τ) (St:AMr) (fp:AR):Prop where
 wk:A8w (Walks prog w A' I fp [I] n Au2 St)
 st:St 0 h'
 len:vals.length=n
 lem:n=ks.length
 key:ApL
 mem:∀v∈vals,Aeu
 new:ZH I
 inF:I∈fp
 fpl:Tb (b<h'.objs.size)
 fpn:Tb (b=S\/ZH b)
 kep:AYl
 siz:ZH h'.objs.size
theorem ybx(hg:ph)(O:AIm ui)(hb:Agi)
  (h:∀(I:Addr) (h' :Heap) d n vals St fp,Laid knd kf s S o ks I h' n vals St fp ->FS I (Ap9 h')):AVb S:=by
 have hT:s.TypeIs ATS "set" :=Ahc hg;show eR hSl S (zJ hg);show ApC ks.length
 show D7 scn v (es.toList.map (·.2)) Aeu v hv (by
  show Pc e he hv;obtain⟨⟨k,hk,_⟩,hs⟩:=O.el e he;exact⟨⟨k,hk⟩,hs⟩)
 have fin:∀(h1:Heap) d (vals:Τ) (ex:dD) (fst:HI Value),ZH h1.objs.size ->(∀b ob,Ac6 ->sg h1.get?) ->(∀p∈ex,ACs h1.get?/\ZH A2) ->
   Φ (A8w (Steps prog w A' h1.objs.size S es.size ep o ex vals fst)) (vals.length=es.size) ApL A3V (FS h1.objs.size (Ap9 (h1.push (NN "set_iterator" #[fst 0,ASO,.ref S,rawInt es.size,rawInt ep])))):=by
  intro h1 d vals ex fst hsz hk hx' hs hl hp hm;show D7 hx p ex (ACs h1.get?) p q (hx' p q).1;refine h _ _ d es.size vals _ _ ⟨fun A' hh=>z8n (hs A' hh) (zL (zN hSl hsz)) (fun p q=>zL (zJ (hx p q))),⟨UO,z8 _ (hk S o hg),fun p q=>z8 _ (hx p q)⟩,hl,hlk,hp,hm,hsz,A1,AU5,AU5,FF ob e (z8 _ (hk b ob e)),?_⟩
  ·show Af2;simp only [List.mem_cons,List.mem_map] at q;rcases q with rfl | rfl | ⟨p,hp',rfl⟩
   ·exact ALS
   ·exact Nat.lt_succ_of_lt (zN hSl hsz)
   ·exact Nat.lt_succ_of_lt (zJ (hx p hp'))
  ·simp only [List.mem_cons,List.mem_map] at q;rcases q with rfl | rfl | ⟨p,hp',rfl⟩
   ·show DJ hsz
   ·show hZ
   ·show DJ (hx' p hp').2
  ·rw[Heap.size_push];exact AS7 hsz
 refine wpAny_pyIter_slot hT PySem.F.slot_set_iter (ACr PySem.F.slot_set_iter hT ybq PySem.F.args_set_iter_1);unfold Builtin.«frozenset.__iter__»;refine ku Builtin.Frozenset.slot0 ?_;show AFx BNQ;show ţ;refine C_ (Builtin.Frozenset.sizeOf S) ?_;refine C_ (setEntries S) (wpAny_setEntries_of hg O.dat O.fit (BV ?_));refine C_ (setDrawn S) (zwt hg O ?_);cases hbt:Ax4 with
 | true=>
  rw[gS (GN (! true&&AHt)),UF];show AFx (pure _);show A1a;show Aqq;have hp:=zok ASt es;refine BJb ((pickOrder (w.params.setOrder S ep) es).toList.map (·.2)) (AV vt) (fun A' hh=>yh6 hh hbt O) (Bz hp.length_eq) ?_ (A8z (hp.map _).mem_iff.mp)
  show nv;exact(hp.map _).trans O.key
 | false=>
  have abq:lH w=true:=Acr lH hbt
  cases hdr:AHt with
  | false=>
   rw[gS (GN (! false&&false)),UF];show AFx (pure _);show A1a;show Aqq;rw[abq] at O;refine BJb (es.toList.map (·.2)) (ï (c_ (o7 t i))) (fun A' hh=>yfv hh hbt O hdr) Ψ ?_ scn
   show nv;exact O.key
  | true=>
   rw[gS (Op (! false) true),B4];refine ku drawOrder (zvs es.size (List.range es.size) Ψ (Κ ps d hps))
   show AqK hpl
   refine NV newTuple (wpAny_newTuple ?_ (by show å hpl;exact hb))
   have hgt:ASI A8i S=some o:=z8 _ hg;refine C_ (setEpoch S) (wpAny_setEpoch_of hgt O.dat O.fit ?_);show Aqq;have hpm:(ps.map fun p=>AfE).Perm (es.toList.map (·.2)):=by
    refine Iq hps.map _ ?_;have:GY (Kj es.size) p AfE=es.toList.map (·.2):=by
     show UU
     ·simp
     ·show zn;have:Ac0:=A0 h1
      simp [this]
    rw[this]
   refine fin _ d A8N [(s.heap.objs.size,A8i)] (AV X2) (Ajp Heap.size_push) (FF ob e cE) (MR p q) (fun A' hh=>ygt hh O hps D5) (Fs hpl) ?_ (A8z hpm.mem_iff.mp)
   ·show Db (p=_) (A0 q)
    exact⟨OS,HC⟩
   ·refine Iq hpm.map kf ?_;rw[List.map_map];exact O.key
abbrev jw:Obj:=AJi
theorem zn3(hh:JI)(hg:ph)(O:AIm ui)(hb:Agi)
  (h:∀(vals:Τ) (h' :Heap) d tk,EC ApL A3V AyL AYl (Q vals BIp)):
  ABy collect S:=by
 show eR hSl S (zJ hg);show A4u (codeAny_builtin PySem.F.entry_proto_collect ?_);show Aup;show A8x;show A6M;show Auq;have hg1:ASI jw S=some o:=z8 _ hg;have hT1:Shared.TypeIs (AJA jw) ATS "set" :=Ahc hg1;show Aof hT1;have n1:Builtin.List.listSameRef fN ATS=false:=AtN (Nat.ne_of_gt hSl)
 rw[F9 (AFm n1)]
 refine NV pyIter (ybx hg1 O hb fun I h1 d n vals St fp L=> ?_);show W' (holding _ _) Aek;have hg2:h1.get? S=some o:=L.kep S o hg1;have hT2:Shared.TypeIs (Ap9 h1) ATS "set" :=Ahc hg2;show Ao1 PySem.F.slot_set_len.lookup;dsimp only;rw[Agn (splitId "set.__len__" =some ("set","__len__"))]
 refine ku isInstance (wpAny_isInstance hT2 sub_set_self ?_);rw[AK Δ,A_ IY]
 show Aof hT2;show ţ;show DF IY
 show W' (rule _) wpAny_rule;have hS1:h1.get? s.heap.objs.size=some jw:=L.kep _ _ AZR;have hNI:s.heap.objs.size≠I:=zL (zN (B2 Heap.size_push (Nat.lt_succ_self _)) L.new)
 refine NV Builtin.List.listTouch ?_;refine ku updateSeq (wpAny_updateSeq hS1 rfl ?_);show Agr hS2 (Obj.mapSeq (·.push Value.none)) hS1;refine wpAny_updateSeq hS2 rfl ?_;show Agr hS3 (Obj.mapSeq (·.pop)) hS2;have oth:∀b ob,AR9 ->sg h1.get? ->sg ((h1.update s.heap.objs.size (Obj.mapSeq (·.push Value.none))).update s.heap.objs.size (Obj.mapSeq (·.pop))).get?:=
  fun b ob q e=>ANx q (ANx q e)
 have hNf:s.heap.objs.size∉fp:=fun q=>by
  show JA (L.fpn _ q)
  ·exact NG z Nat.ne_of_gt hSl
  ·have z' :ADL jw<=s.heap.objs.size:=z;rw[Heap.size_push] at z';exact NG z' Nat.not_succ_le_self _
 have Hq:BM n:=by
  have e1:=L.lem;have e2:es.size=ks.length:=A0 O.key.length_eq
  omega
 have W:=L.wk A.in1 AhN
 refine BV ⟨ADw PySem.F.plain_extend_loop,codeAny_extend_loopS W.toS Hq _ hNf _ n 0 _ _ _ rfl gy (W.frame 0 h1 _ L.st fun b q ob e=>oth b ob (Hb (s_ hNf q)) e) hS3 BMp BH2⟩;refine NV load (wpAny_load hS' ?_);show ţ;have ev:acc.toList=vals:=by
  apply List.ext_getElem?;intro i;show FB (i<n)
  ·have hi:i<acc.size:=Qr AK'
   show BEQ hi;rw[Array.getElem?_toList,AiV,this]
  ·exact(List.getElem?_eq_none (by rw[Array.length_toList,AK'];omega)).trans (Nw List.getElem?_eq_none (ACV L.len))
 rw[ev];show Apd;show Ap6;show Db (d' =d) hm.drawn;show Db (os' =s.os) hm.os;refine h vals h' d' tk' L.key L.mem (zJ hS') (IA ob e);show AYp;have hbN:AR9:=zL hlt;refine hm.heap b ob ?_ (oth b ob hbN (L.kep b ob TN));show APc;exact⟨hbN,Ξ (hbN (by
  subst z;have z2:ADL jw<=b:=L.new;rw[Heap.size_push] at z2;exact NG hlt Nat.not_lt_of_ge (Nat.le_of_succ_le z2)))⟩
#where
def Ek:í Int | AOD=>i | _=>0
theorem yfy:∀k v,AKz PySem.intKind k v=true ->Ek v=k:=fun k v h=>by
 show L_ (Value.isInt_shape h)
 rfl
theorem z3l:HL vs Τ (A3U PySem.intKind) (IntsAre vs (vs.map Ek))
 | [],_=> B_
 | AGC,h=>by
  obtain⟨⟨k,hk⟩,_⟩:=AZw;show B' t rfl Value.isInt_shape hk;exact Nl _ _ (z3l fun u hu=>A0t)
theorem yli(hob:TC (ã xs n)):∃e,AR6 BH_ out e:=by
 have hal:a<h.objs.size:=zJ hob;have h1:=get?_update_seq hob Acz;have h2:A5l (h.update a (AIi (C8 #[]))).push _:=z8 _ (z8 _ h1);exact Ay' h2 out
theorem yde(hb:XX)(hne:He):FH BH_:=by
 have h1:FH (h.update a (AIi (C8 (#[]:EL)))).get?:=(AFN hne).trans hb;exact(AFN hne).trans (ANh h1)
section
variable{prog:Program}{w:World}{A:Around}{E:dh}{s:Shared}{S:Addr}{ks:An}
theorem z2d(hh:JI)(hS:sY (PySem.intKind prog w) Ek ui s.heap S ks)(h64:ks.length<64)
  (h:∀(l:Addr) (h' :Heap) d tk (out:Τ) (ms:An) e,ZH l ->IntsAre out ms ->EC (ms.Perm ks) Awa (ACR l (ã out.toArray e)) AYl (FS l BIp)):
  AzQ [.ref S]:=by
 obtain⟨o,es,ep,t,hg,O⟩:=hS;show ApC ks.length
 show AG' 64
 refine Calls.call_function_entry kind_sorted plain_sorted entry_sorted BMq A8J;show BMJ;show AFx (checkCount "sorted" 1 1 _);refine C_ (collect _) (zn3 AhN hg O ψ BIn)
 have Hq:vals.length=ks.length:=A0 hk.length_eq
 refine NV newList (wpAny_newList ?_ ψ)
 show PZ hoL h1.push AuK h1.objs.size AuK OS;have hI:=z3l hm;show BG9 (list_sort_tree (ns:=vals.map Ek) hoL hI ψ fun out ms a1 a2 a3=>AFv)
 refine BV AFv;show B' e he (yli (vs:=vals) (out:=out)) hoL;have hle:s.heap.objs.size<=h1.objs.size:=Nat.le_of_lt hlt;refine h h1.objs.size _ d tk out.toList ms e hle a1 (a2.trans hk) a3 (B2 Array.toArray_toList he) (AFX ob)
 have e1:=hold b ob eb;exact yde Ahq (zL (zJ e1))
#where
def Hr(P:Program)(w:World)(a:Addr)(ns:An):HO:= AX_ (sY (PySem.intKind P w) Ek ui h a (j8 AMi ns.length))
theorem yc5(I:Ι)(d):i7 An2:=Akm I.ok
inductive Mg (APk):Prop
 | mk:∀(p:Addr) (ns:An),EC (vs= [PM]) (lU X.K H p ACv) (AL' ns.length) (∀q,HU q ->FS q (GV q AmE)) (ACl Mg)
def V8(X:Cx):ie:=ANw Mg
inductive Mh (APk):Prop
 | mk:∀(q:Addr) (ns:An),Φ AjU (K' q AmE) (IF j8 AMi ns.length<64) (∀(l:Addr) (ms:List Int),H l=none ->ms.Perm (j8 (fun i=>ns.getD i 0) ns.length) ->ms.Pairwise (· <= ·) ->Q (.ref l) (upd H l (.lst (ms.map .int)))) (ACl Mh)
def abr(X:Cx):ie:=ANw Mh
theorem z89(z_):ADP "set" (V8 X):=by
 rintro pins s σ H xs us Q I r ⟨p,ns,e0,hq,hb,k⟩;subst e0;show M';cases rx;show AvV;show Ps;show AAf;have hI:=zqw rv;show BDI
 refine DZ zm9 κ Int knd (PySem.intKind X.prog X.w) kf Ek yfy (val:=Azz) SY pl.isList A4x Avu A'M
 ·show L_ (IntsAre.int_at hI i v (Bz hv))
  exact sD (H_ intKind_is)
 ·rw[hsz] at hS;have I2:ġ (AbW Hr) Ty:=
   xk I.laid hold D4 (V_ _ (AbW Hr) ⟨hS,AdV o hS (N3 e),fun h1 h2 q st=>q.stay st⟩)
  exact A2r
theorem z9b(z_):kl "sorted" (abr X):=by
 rintro pins s σ H xs us Q I r ⟨q,ns,e0,hq,h64,k⟩;subst e0;show M';cases rx;obtain⟨hS,_,_⟩:=d4 q hq;refine z2d SY hS h64 fun l h' d tk out ms e hle a1 a2 a3 hl hold=> ?_;have hlen:BM (BN ms.map V.int):=by
  show å a2.length_eq;have:WE 64:=AQ
  omega
 have I2:Ak9 Au0:=
  xk I.laid hold hle (V_ _ Au0 ⟨hlen,out,e,UW a1,hl⟩)
 exact A4y (k l ms (ARz hle) a2 a3)
def z5j:MO:=Ĺ (∃ns,AYS/\ns.length<63/\∀ms:An,AS8 ms.Pairwise ->(AmZ ns) ->AKR T_)
theorem zzc:AGf "set" "set":=Mb
section
variable{X:Cx}{F0 H0:Hp}{a e:Expr}{pos p pos2 p2:Pos}{t:cN}
theorem yfw(ns:An)(k:Int):k∈j8 AMi ns.length↔k∈ns:=by
 rw[zmu];constructor
 ·show AEl j hj;rw[List.getD_eq_getElem?_getD,AUl];exact yX hj
 ·intro h;show X0 j hj BMc;exact⟨j,hj,by show ns.getD j 0=k;rw[List.getD_eq_getElem?_getD,AUl];exact e⟩
theorem yei(BJU):
  BEb z5j:=fun z E cx=>by
 have inner:PE E4 Aet (A7W V8):=Be Zt (z89 hc) hg2 hm2 zzc DS Δ Δ he rfl
 refine nO (Be Uw (z9b hc) hg hm hb BBy Δ Δ he2 rfl) (EX σ H Q hq1)
 show Lm hq1;refine RE ?_;unfold z5j at h1;show SH
 ·show APK;obtain⟨ns,hns,hlt,h1⟩:=h1;show AmB;refine⟨l,ns,rfl,ĵ,BMk,AVx⟩
  have hml:=zr6 AMi ns.length;refine⟨q,ns,rfl,gb,Α,DL l2 ms hl2 hp hs⟩
  have R2:WH F1 (WI q AmE) Γ1:=R1.grow (qi (FA (Ο (ADr R1.g hq0) (Pe R1.g))) (FA (AW6 hq0)))
  obtain⟨R3,q1,q2,q3,ap⟩:=GC R2 hl2 (Z0 (K:=X.K) (F:=F1) ms);refine k _ Γ1 F1 _ l2 _ R3 s1 q1 q2 q3 (Z0 ms) ap (h1 ms ?_ (CL (hp.mem_iff.trans (yfw ns i))));have nd:ms.Nodup:=hp.nodup_iff.mpr (zks _ _);have:=List.Pairwise.and hs nd;exact this.imp fun{a b} hz=>by obtain⟨q1,q2⟩:=hz;omega
 ·show gf
#where
def Itv(K:W.Frag)(a:Addr)(xs:Ζ):It:=⟨kz (mE/\vT),fun i H x H' =>H' =H/\bc xs.reverse,OO _ ASE⟩
theorem yb9{P:Program}{w:World}{K:W.Frag}{tg:Expr}(a it:Addr)(xs:Ζ):AOV AxZ (AMT/\h.IsRevIter it a (ANv - Ic)) where
 mem:=A1
 obj:=AHD (by
  show AGS
  obtain⟨_,o,e,c,d⟩:=st;exact AM3)
 keep:=ARi ⟨fI,eL (st.2).at (k it Ψ o e)⟩
 item:=by
  intro X hP hw hK hc i pins s σ H E I hf st hg;show NA;show AOz;show AM4;show Ps;show i6
  have hj:AVv<xs.length:=Α
  show AQ9 (rv.get (zZ hj));have hit:=st.2;rw[GH (ANv - Ic) (Cl AVv)] at hit
  refine wpAny_pyNext_rev_item hit p.isList (x:=u) AT1 (SK hit' sb)
  have I1:AKI:=AZ8;show MH o e c d hit';show oC u (Uk (s:=MA) e c d Δ ⟨xs[AVv],H,I1,ru,AL3,Ev hx,ASg⟩)
  ·rw[List.getElem?_reverse hx,AUl]
  ·rw[GH (Cl AVv - 1) (ANv - AUI)] at hit'
   exact hit'
 done:=by
  intro X hP hw hK hc i pins s σ H E I hf st hg;show NA;show i6
  have hle:xs.length<=i:=hg;have hit:=st.2;rw[show ANv - Ic= -1 by have:=st.1;omega] at hit
  exact wpAny_pyNext_rev_end (I.ok.hd hc) hit AO5
 self:=AdA (wpAny_pyIter_revIter st.2 h)
theorem zjw:AGf "reversed" "reversed":=Mb
def V9(K:W.Frag)(ta:TA):TI:=BHG AxZ
theorem yii{X:Cx}{a tg:Expr}(AsI)(hg:AU1)(hm:AUu)(ha:AXL)(hs:starEach [a] X.env=EW (CH a) (EV []):=by rfl):
  nX (AKa "reversed") (V9 X.K ta):=by
 show oy;show AmW zjw;show ANd;show Aq4;show Ah9;cases rx;show AlB;show Ps;show AzV;have hit:(s1.heap.push Apy).IsRevIter s1.heap.objs.size l (ANv - AFT):=IN OS rfl (by show Data.fields _=_;show ARV;simp [rawInt])
 refine wpAny_pyIter_revIter hit ⟨s1.heap.objs.size,AEg,_,_,H1,rfl,AAp,yb9 l _ xs,⟨FC,hit⟩,HG,q hz⟩;show AGT
 exact AHj
def zkj(t:cN):cN:=P4 (r8 AIf BNK)
theorem yfm(BFz):ANi (Itv K a vs) xs.reverse:=by
 have hl:=jO rs;show BO AuG (fun i H2 F2 s2 s3 _=>(AN5 (by show Aha;rw[e,List.length_reverse];omega)))
 obtain⟨v,hv,rv⟩:=wA (zmw rs) hd;show AiP (è (KI hv) List.length_reverse)
 show BO ⟨AOG,hi⟩ (Κ y H' z);show To z z;rw[hv] at z;cases z;exact ArL
section
variable{X:Cx}{F0 H0:Hp}{a e tg:Expr}{pos p pos2 p2:Pos}{t:cN}
theorem zw5(hc:C3)(hg:AU1)(hm:AUu)(ha:ADs)(hs:starEach [a] X.env=EW (CH a) (EV []):=by rfl):
  ACd QI (AKa "reversed") (zkj t):=BAu yii (ApR (by
  unfold zkj at*;show SH
  ·show APK;exact BCp yfm
  ·show gf))
#where
theorem z7j:Aeg (Kk "list_reverseiterator") "__len__" none:=AfU
theorem z9i:Aeg (Kk "list_reverseiterator") "__length_hint__" (A9 (L7 "list_reverseiterator.__length_hint__")):=AfU
section
variable{prog:Program}{w:World}{A:Around}{E:dh}{s:Shared}
abbrev nW:Obj:=AIQ #[]
theorem zw2(hh:JI)(hit:s.heap.IsRevIter I l (AC items.size - 1))(hl:AU9 items)(hz:Agg)
  (h:∀h' c tk,(AXp (b≠I)) ->AfS items.reverse c ->AQo Ty):
  AnK "list" [.ref I]:=by
 show eR hIl I (by show ō e hit;exact Iy)
 show eR hll l (by show ō e hl;exact Iy)
 have hne:l≠I:=by
  obtain⟨o,e,c,_⟩:=hit;obtain⟨o',e',c',_⟩:=hl;rintro rfl;rw[e] at e';cases e';rw[c] at c';exact oB Value.type.inj c' Δ
 refine callType_codes (Q₁:=BBl (AJA nW)) PySem.F.called_list (PySem.F.typeCall_list_1 _) PySem.F.entry_list_init (code_list_new _ PV) (Κ obj s₁ h₁);show WC rfl h₁;show Aqr nW nW;show BA (G1 hS) (PySem.F.args_list_init_2 _ _);refine NV Builtin.List.listItems (listItems_at hS rfl ?_);refine C_ (Builtin.List.listUpdate _ _) (listUpdate_at hS rfl ?_ gy gy);show Agr hS2 Aec hS;show W' (letGo _) wpAny_letGo;have oth:Oy AR9 (FH (ASI nW)) (FH (AfN s.heap.objs.size Aec).get?):=
  P7 q e (ANx q e)
 have hit2:A7h IsRevIter I l (AC items.size - 1):=eL hit.at (oth I o (zL hIl) TN);have hl2:A7h IsList l items:=eL hl.at (oth l o (zL hll) TN);generalize AfN s.heap.objs.size (Obj.mapSeq Acz)=h2 at*;have hT2:Shared.TypeIs (OR h2) lm "list_reverseiterator" :=hit2.typeIs;show Aof hT2;have n1:Builtin.List.listSameRef fN lm=false:=AtN (Nat.ne_of_gt hIl)
 rw[F9 (AFm n1)]
 refine NV pyIter (wpAny_pyIter_revIter hit2 ?_);show W' (holding _ _) Aek;show Ao1 z7j;show Ao1 z9i;dsimp only;rw[Agn (splitId "list_reverseiterator.__length_hint__" =some ("list_reverseiterator","__length_hint__"))]
 refine ku isInstance (wpAny_isInstance (b:=true) hT2 BLf ?_)
 rw[AK Δ,A_ IY]
 show BF IY
 show ţ;show BF IY
 have hSf:s.heap.objs.size∉ [I,l]:=by
  show APc;exact⟨Nat.ne_of_gt hIl,Nat.ne_of_gt hll⟩
 have W:=DZ Walks.listRev prog prog w w A A.in1.in1 AhN I l hne items
 refine BV ⟨ADw PySem.F.plain_extend_loop,codeAny_extend_loopS W.toS hz _ hSf _ items.size 0 _ _ _ rfl gy ⟨FC,Ο (GH (Auj - AFT) Auj) hit2,hl2⟩ hS2 BMp BH2⟩
 have ev:acc=items.reverse:=by
  apply Array.ext_getElem?;intro i;show FB (i<items.size)
  ·have hi:i<acc.size:=Qr AK'
   show BEQ hi;rw[AiV,Array.getElem?_reverse q,this]
  ·rw[Array.getElem?_eq_none (by rw[AK'];omega),Array.getElem?_eq_none (by simp;omega)]
 subst ev;show Apd;show Ap6;show A8R;show Db (os' =s.os) hm.os;show BO rfl (h h' c' tk' (sf ?_) hS');show AYp;exact hm.heap b o (by show APc;exact⟨zL hlt,hb⟩) (oth b o (zL hlt) TN)
#where
theorem yeq(hc:C3)(hg:AU0)(hm:AUt)(hg2:AU1)(hm2:AUu)(ha:AXL)(hb:AGf "list" "list":=by show OM)
  (he:starEach [a] X.env=EW (CH a) (EV []):=by rfl) (he2:starEach (sj AKg [a] pos2) X.env=EW (CH (qo AKg [a] pos2)) (EV []):=by rfl):
  PE X A'c (IU ta vs (∃l xs,vs= [LS]/\lU X.K H1 l xs/\BFG AgW)):=by
 show EQ;show Aq9
 show Alc ?_ he2;rw[he2];show Ag9;refine wpAny_Call_Name_kw (Gq I hg2 hm2 zjw ?_ Δ Δ)
 show Alc (ADT (Ace pos2)) he;show ANd;show Aq4;show Ah9;cases rx;show AlB;show Ps;show AzV;show Ag8;have I2:ŗ (Ð s1 (s1.heap.push (revObj l BKp)) s1.toks):=I1.kept di;refine zw2 (I:=s1.heap.objs.size) (items:=its.toArray) (I2.ok.hd hc) UO (pl.isList.push _) AV8 (DL h' c tk hold hS)
 show ANp RG (AeR Apy) MB;have kp:cn s1.heap.get? sv:=GW (hold b o AOQ TN);have I3:A4h (WI (AeR Apy) AgW):=
  xk I1.laid kp (Ajp RG) (V_ _ AgW ⟨AuG,its.reverse,c,rv.reverse,AL6 hS⟩)
 exact GE (.ref _) I3 (q _ (I1.hok.fresh (Ajp RG)))
def ya3:MO:=Ĺ (P xs.reverse)
theorem z24(hc:C3)(hg:AU0)(hm:AUt)(hg2:AU1)(hm2:AUu)(ha:ADs)
  (he:starEach [a] X.env=EW (CH a) (EV []):=by rfl) (he2:starEach (sj AKg [a] pos2) X.env=EW (CH (qo AKg [a] pos2)) (EV []):=by rfl):
  AKb A'c ya3:=fun z E cx=>by
 refine nO (Be yeq hc hg hm hg2 hm2 DS IY he he2) (EX σ H Q xO)
 show Lm xO;refine RE ?_;unfold ya3 at h1;show SH
 ·show APK;refine IB l us ĵ AVx;obtain⟨R2,q1,q2,q3,ap⟩:=GC R1 hq0 (zmw rs);exact A'6 (zmw rs)
 ·show gf
theorem zix{K:W.Frag}(self:Value):HL l Τ (Aza l) (refuseLoop self "__setattr__" l=pure ())
 | [],e=>ALE
 | v::r,e=>by
  rcases Bool.or_eq_true_iff.mp e with q | q
  ·rw[beq_iff_eq.mp q];exact PySem.F.store_ValueError.passes self
  ·show ZI
   ·show ZI
    ·show BKe beq_iff_eq q;rw[refuseLoop_ref];exact zix self q.2
    ·cases q
   ·cases q
structure iB (y9):Prop where
 cls:iS
 g:G6 K C
 sa:Aoq
 hd:AVQ
section
variable{prog:Program}{w:World}{A:Around}{E:dh}{K:W.Frag}{h:Heap}{g:hW}{d:Drawn}{t:Nat}{os:OsState}{x C:Addr}{o:Obj}{name:Str}{v:Value}
theorem z4h{Q:AL9}(X:Ll)(c:ADu)(hn:Ai8)(hx:AjJ)(hc:AWG)(hnc:AnD)(hd:AUa)
  (hq:∀h' tk',h'.Ns1 h.objs.size (AqL none) ->Agm (BJ9 h.objs.size) ->(AEV x h.get?) ->A3S):
  AGY Aov:=by
 show AyP;have J:W.InstAt h x o C none:=⟨hx,hc,hnc,by rw[hd];trivial⟩
 show BGc;obtain⟨bm,N,nm,qn,bs,hdct,sn,sub,ab,col,dd,k0,k1,k2,k3,k5,e1,T,ht,cd,hcd,hmro⟩:=Ea X c.cls;have sub:W.Looks DV h (isInstance RI ALv) true:=BB';refine codeAny_call_builtin SF.slot.plain SF.entry (BMG DV _ _ AId "object.__setattr__" "object" "__setattr__" RI [.str name t,v] [] _ SF.kind SF.split sub A2h ?_);have hm:W.Looks DV h (mroOf EU) cd.mro:=BCG .now;rw[W.osa_eq,refuse_eq];show D3 z6 (AaW hm ?_);rw[hmro,refuseLoop_ref,zix _ ht];refine z7 (z6 (AaW (AjW hn) AXt));show BBG;obtain⟨oc,od,oda,osl⟩:=o;subst hc hd;show D3 z7 (z6 (z6 (wpAny_loadPart hx (z6 (AQV (AjV hc') ?_)))));rw[hd'];show ZY
 show BF (Fs typeHasDict)
 have body:wpAny DV A.in1 (alloc T1>>=fun d=>(update x (Ac8 d))>>=C8 (dictMade EU x d)) (fun a s' =>∃dx,a=some dx/\BJA) AI0 AId:=by
  have hx₁:C9 (h.push T1).get? (î none oda osl):=z8 _ hx;have hxs:x≠h.objs.size:=zL (zJ hx);show D3 wpAny_alloc' (z6 (wpAny_update' hx₁ ?_));refine z7 AFv;have hgd:(A7a x Au9).get? h.objs.size=some T1:=
   Iq AFN (sB hxs) (Heap.get?_push_at rfl rfl)
  have hnd:(A7a x Au9).Ns h.objs.size AgR:=
   ⟨_,#[],_,hgd,rfl,fun e he=>(ACG he),AEx⟩
  show D3 z7 (z6 (wpAny_nsSet1 (Heap.Ns1.of_empty hnd) (SK hn' hs)));show A6o Within.nil;show AqE A8Y
  have hx' :Agm (î (some h.objs.size) oda osl):=by
   refine FL hs.2 x hxs (BMn hx₁ ?_);have hfr:=(Heap.get?_some_iff.mp hx).2;cases oda<;>first | rfl | exact hfr
  refine BV (E7 (hq h' _ ?_ hx' fun b ob hbx hb=> ?_))
  ·exact hn'
  ·exact AQI (zL (zJ hb)) (Iq AFN hbx (z8 _ hb))
 have fin:∀a s',(∃dx,a=some dx/\BJA) ->wpAny DV A.in1 (AN7 a d (Builtin.ObjectAttr.storeInDict d (Value.str name t) name v) (Builtin.ObjectAttr.noDictFor (Value.ref x) (Value.ref C) name false)) (YU fin (match fin with
     | Fin.done f=>
      match Except.ok f with
      | A4a=>ACa
      | Except.ok a=>False
      | BM5=>E e s'
     | Fin.again c' =>
      c'.quiet=true/\
       codeAny DV A c'
        (ACZ (match r with
         | A4a=>ACa
         | Except.ok a=>False
         | BM5=>E e s'))
        s')) (YU e (E e s')) s' :=by
  rintro a s' ⟨dx,rfl,z⟩;exact wpAny_mono z (fun f s2 hz=>by show AEi q hz;subst e;exact q) ARP
 cases oda with
 | cls c=>cases hnc
 | _=>exact wpAny_mono body fin ARP
#where
section
variable{prog:Program}{w:World}{A:Around}{E:dh}{K:W.Frag}{h:Heap}{g:hW}{d:Drawn}{t:Nat}{os:OsState}{x C dx:Addr}{o:Obj}{name:Str}{v:Value}{mA:B7}
theorem z3c(X:Ll)(c:ADu)(hn:Ai8)(hx:AjJ)(hc:AWG)(hnc:AnD)(hd:Aub)(hA:Aaa)(hv:A3H)(hv' :Agx v)
  (hq:Q v AId):AGY (getAttr RI name expr):=by
 show BD od ho hl zv3 hA;have J:W.InstAt h x o C (A9 od):=⟨hx,hc,hnc,Ο hd ho⟩
 have LF:W.Looks DV h (Builtin.ObjectAttr.find RI EU name) (.value v):=W.looks_find X J (W.findObj_own c.hd hn rfl (md hl hv))
 have L0:W.Looks DV h (typeOf RI) EU:=J.type;have L1:=W.looks_findIn (M:=An3) X c.g.ga;have L2' :=W.looks_findIn (M:=An3) X c.g.gn;have b3:=PySem.F.excAttr_ValueError.ga.bind RI;unfold getAttr getAttrBy;show D3 wpAny_mkText (wpAny_holding (z6 (L0.at (z6 (L1.at ?_)))));have hx2:(A4Z&&Ave ==Avf)=false:=DB (Agn (GN (Ave ==Avf))) Bool.and_false
 show BLU hx2;unfold getAttrByItsOwn hookBefore callGetattribute;simp only [gS (A4Z=true),if_true];show KB L2'.at;simp only [gS (GN (onTheHeap (Value.builtin "BaseException.__getattribute__"))),Bool.and_false,Bool.false_eq_true,if_false];unfold boundAndCalled;show AUC (wpAny_holding (z6 (wpAny_of_eq b3 ?_)));show AzB PySem.F.excAttr_ValueError.ga.plain F.entry_bexc_ga (zro X c.g hx hc ?_);unfold Builtin.«object.__getattribute__»;show KB BV;show KB BV;show D3 L0.at (z6 (LF.at ?_));exact BV (W.handed_on hv' hq)
theorem z3h{f:Addr}{rest:Τ}{Q:Dx Fin}(X:Ll)(hC:iS)(hi:Ł)(hf:APP)
  (hq:wpAny DV A (AXn AEt rest) (AV9 (Q (.done (.ret (AG AEt))) s')) E
   BGa) (hrest:Agj):
  AGY (Builtin.«type.__call__» (E6 (ET::rest))):=by
 obtain⟨bm,N,nm,qn,bs,hdct,sn,sub,ab,col,dd,k0,k1,k2,k3,k5,hC,T,ht,cd,hcd,hmro⟩:=AAm;show AyQ
 repeat (first | show uu hC | with_reducible refine wpAny_madeBy_exc hC ?_ | wp_step)
 refine codeAny_call_builtin_code (BMw Fv.quiet) (wpAny_check_new_subU Fv Fv.hasB T hC ?_);refine codeAny_exc_new_subU Fv Fv.hasB Fv T hC ?_ hrest;have X1:K.In (TK h.push AKT AKd):=X.keeps (GW ALx);have hC₁:=z8 AKd
  (z8 AKT hC)
 show PZ hget (TK h.push AKT) AKd AEt AKd (by heap_get)
 have hcC:AHm EU=true:=A1
 have LI:=W.looks_findIn (M:=An3) X1 hi
 repeat (first | show uu hget | show ASi hC₁ hcC | wp_step)
 refine LI.at ?_;refine wpAny_holding (z6 ?_);refine(W.bind_fn X1 (AG AEt) hf).at ?_;show iE hq (Κ r s' hr) (Fm z z);show To hQ hr
 wp_walk
 exact hQ
theorem z0c{f:Addr}{rest:Τ}{Q:dh}(X:Ll)(hC:iS)(hi:Ł)(hf:APP)
  (hq:wpAny DV (AN_ (E6 (ET::rest))) (AXn AEt rest) (AV9 (FS AEt s')) E
   BGa) (hrest:Agj):
  AGY (call EU rest):=by
 obtain⟨bm,N,nm,qn,bs,hdct,sn,sub,ab,col,dd,k0,k1,k2,k3,k5,hC',T,ht,cd,hcd,hmro⟩:=AAm;have f1:=tc_lookup;have f2:=tc_bind EU;have hT:(ACN:Shared).TypeIs EU "type" :=G1 hC';show Av8
 repeat (any_goals (first | assumption | show uu hC' | wp_step))
 show CS rfl;exact codeAny_call_builtin_at (BMw IY) entry_typeCall (wpAny_check_type_call_sub hC' (z3h X hC hi hf hq hrest))
theorem z8w{t0:Addr}{od:IE}{sl:vz}{rest:Τ}{Q:dh}(X:Ll)(hC:iS)(hx:C9 h.get? (AJ2 t0 sl))(hrest:Agj)
  (hq:tz (AEV x h.get?) (Agm (AJ2 h.objs.size sl)) (Q Ω (re h' t))):
  AGY (AKX "ValueError.__init__" (.ref x::rest)):=by
 obtain⟨bm,N,nm,qn,bs,hdct,sn,sub,ab,col,dd,k0,k1,k2,k3,k5,hC,T,ht,cd,hcd,hmro⟩:=AAm;show AyQ;show AzB Fv.init.plain Fv.initEntry (wpAny_check_init_subU Fv T hC hx rfl ?_);have hx1:C9 (h.push AKT).get? (AJ2 t0 sl):=z8 _ hx
 wp_walk
 refine hq _ (cK u e ?_) ?_
 ·rw[AZN];exact cE
 ·rw[AZZ hx1]
  rfl
theorem z60(hC:iS)(hh:JI)
  (hm:wpAny M A m (OZ s₁ (∃e oe fv,v= .ref e/\AiA/\AxD/\AOX/\AWl/\ASh s₁)) E s):YY (raiseStmt env (A9 m) none):=by
 show iE hm (AOk v) VZ;obtain⟨e,oe,fv,rfl,X,he,hc,hda,hE⟩:=h₁;obtain⟨bm,N,nm,qn,bs,hdct,sn,sub,ab,col,dd,k0,k1,k2,k3,k5,hC,T,ht,cd,hcd,hmro⟩:=AAm;show Anb hcB AHm (T.hasType PySem.F.excBase_ValueError.hasBase)
 show ACP s₁;obtain⟨oc,od,oda,osl⟩:=oe;subst hc hda
 show BGr
 exact wpAny_raiseNew_none hh hE
theorem z81(BIS){args:A5}{Q:AhT}(hC:iS)(hh:JI)(hplain:Azd)
  (hi:Ł) (hf:APP)
  (h:AaD AeW fv (fv= ET/\AFy (evalArgs EU true Ae3 []) (fun a s₂=>a.kw= []/\BM a.pos.length/\AtU/\
    wpAny DV (AN_ (E6 (ET::a.pos))) (AXn ADk a.pos) (AV9 (∃oe fv,AtT/\A2T/\AOX/\AWl/\E (AG ADk) s')) E
     (Ay8 (WO a.pos.toArray) Atg)))):
  A8b none:=by
 rw[arm_exec_Raise];show Ag6 (z60 hC hh ?_);show iE (wpAny_Call_ofName (ĭ h (AOk fv) VZ)) A6e VZ;show To h₁ h₁;show AFS (ĭ h₁ (fun a s₂ h₂=>A1') VZ);obtain⟨apos,akw⟩:=a;obtain⟨hkw,hlen,X,h₂⟩:=h₂;show Db (akw= []) hkw;show ACP s₂;obtain⟨bm,N,nm,qn,bs,hdct,sn,sub,ab,col,dd,k0,k1,k2,k3,k5,hC',T,ht,cd,hcd,hmro⟩:=AAm;simp only [hplain];show IJ wpAny_keeperOf_exc hC';show BJI;obtain⟨_,oe,fv,X',he,hc,hda,hE⟩:=hr;exact⟨_,oe,fv,rfl,X',he,hc,hda,hE⟩
#where
def XO(e C:Addr)(od:IE):HO:= AX_ (∃t,Aor)
theorem RK(hok:P3)(q:K' e (XO e C od)):∃t,Aor:=(hok e _ q).1
theorem yan(q:Aor):bB P w H h e (XO e C od):=
 ⟨Ĭ t,CI q,fun _ _ hz st=>by obtain⟨u,z⟩:=hz;exact⟨u,st _ z⟩⟩
theorem zux(k:bB P w H h b u):∃o,XX:=by
 cases u with
 | lst xs=>show Af8 k;exact CI e
 | tup xs=>obtain⟨_,_,_,o,e,_⟩:=k;exact CI e
 | dK kvs=>show AZq
 | dT kvs=>show AZq
 | set S n=>show AQj o k;exact CI e
 | ins C dx fs=>show Af_ k;exact CI e
 | own y=>exact k
 | xd fs=>show Af' k;exact CI e
 | rng lo hi=>show Af9 k;exact CI e
 | frz ob u=>obtain⟨e,_⟩:=k;exact CI e
 | J4 ps=>show AwM
 | met f y=>show AwM
 | ext φ=>obtain⟨_,e,_⟩:=k;exact e
section
variable{X:Cx}{pins:dD}{σ:St}{H:Hp}{s:Shared}{A:Around}{E:dh}{a C dx:Addr}{f:Str}{y v:V}{u:Value}{fs:aI}
theorem yep(I:Ι)(e:IM AcW)(c:k7)(n:RR)(ry:KL)
  (h:∀dx s',HU dx ->dx≠a ->OL (upd (GV a AGo) dx (.xd [(f,y)])) s' ->ACa):AqT:=by
 show An8;show y8;have hlt:a<hp.objs.size:=zJ hx;refine z4h I.kIn c n hx rfl rfl rfl fun h' tk' ns hx' kp=>h hp.objs.size _ ĺ (wc hlt) ?_;have gs:EE (hp.update a Aka).get? (î (some hp.objs.size) (b_ (AH9 t)) #[]):=AZZ hx;have I1:OY a (AQd hp.objs.size) (Ð (re hp tk:Shared) (hp.update a Aka) tk):=
  AOJ a a AXf NR (cK u z ((AQn AJU).trans z)) (CI gs) (yan gs)
 refine I1.laid (t' :=tk') (IA u z) (Nat.le_of_eq (Heap.size_update ..)) (B5 ns (EM g))
 ·show N_
  ·subst hb;rw[show(hp.update b Aka).get? b=_ from gs] at z;cases z;exact hx'
  ·exact kp b u hb ((AQn AJU).symm.trans z)
 ·show Hc g f
  ·show AMx f BM';show AA' D';exact ry
  ·show AAi f AhO;show AA' D_;trivial
theorem ygi(I:Ι)(e:IM AGo)(ed:K' dx AeT)(c:k7)(n:RR)(l:AGz)
  (h:Aq'):Aq7:=by
 show An8;show Aqk;show Aqm
 show y8;exact BIj z3c hu (zn5 ru) ApT
#where
def Wa(C:Addr)(f:Str)(ta:TE):TE:=vx (∃a dx fs v,x= AI/\ADm AGo/\A3G/\AGz/\Q v H1)
def Wb(BFr):TS:=ApY (∃a,x= AI/\EE H2 AcW/\∀dx,H2 dx=none ->dx≠a ->AGx (upd (upd H2 a AGo) dx (.xd [(f,y)])))
structure Hs (K:W.Frag) (B:Addr):Prop where
 sp:W.specialIn K (AG B) "__getattribute__" =some Awl
 rd:Azb B
 fi:W.findCls K (AG B) AeI "__init__" =some (.val (L7 "ValueError.__init__"))
section
variable{X:Cx}{o e value:Expr}{f:Str}{pos pos' apos p:Pos}{ta tv:TE}{C B:Addr}{x:Str}
theorem yg3(BI4):ApF (Wa C f ta):=by
 show EQ;refine zwp hb (bW iN (bX u hq1));obtain⟨x,H1,I1,rx,a,dx,fs,v,ex,ea,ed,l,q⟩:=hq1;subst ex;show af;exact ygi I1 ea ed c n l AsP
theorem z6g(BJf):BAx Wb:=by
 show Po;show AxM u;obtain⟨y,H1,I1,ry,q⟩:=hz1;show iX Anv ov hz2;obtain⟨x,H2,I2,rx,a,ex,ea,q2⟩:=hz2;subst ex;show kD ov rx;exact yep I2 ea c n ry fun dx s3 h1 h2 I3=>⟨σ,_,I3,q2 dx h1 h2⟩
theorem z9v(c:k7)(cb:Hs X.K B)(hg:Hk)(hm:AI' (AG B))(ha:PA X ASQ t)(hd:As x "__debug__":=by decide)
  (hst:starEach ASQ X.env=EW (CH e) (EV [e2]):=by rfl) (hpl:ABj pos [e2]:=by rfl)
  (ht:eval A6I X.env=(do
   let ov<- CH (i9 p)
   AAj
   let (f,first)<- ABR "__init__" pl
   ABX (Ŭ ASQ) AGl):=by rfl):
  PE X A6I (IU t vs (∃a od v,vs= [AI,v]/\ADm (XO a C od)/\Q AF (WI a (XO a C od)))):=by
 show EQ;refine Aao (DR I hg hm ?_ hd) ht;refine W.method_cls I.kIn cb.sp (W.cls_value I.kIn cb.rd cb.fi rfl ?_);have I0:=I.tok (AQG);refine PyProof.Rows.callWith_builtin1 (ADT (ha pos pins _ σ H _ I0 h)) hst hpl;obtain⟨vs,H1,I1,r,a,od,v,ev,ea,q⟩:=hz1;subst ev;show Cb u u2 ru ru2 (vals2 r);show kD u ru;obtain⟨t0,hx⟩:=AXY RK;show ACP s1;refine z8w I1.kIn c.cls hx A8Y fun h' kp hx' =>(GE AF (I1.write (x:=a) (e:=a) (Ac2 ea) NR (cK u z (kp b u hb z)) (CI hx') (yan hx')) q)
#where
def ya0(bn:Str)(p apos pos:Pos)(args:A5)(env:Env)(pl:AMY):Prop:=eval (BLY (FE bn p) args) env=(do
   let ov<- eval (FE bn p) env
   AAj
   let (f,first)<- ABR "__init__" pl
   ABX (BKZ pos) (backToKw pos (keywordEach [] env)))
theorem zif:∀(l:AR) {h:Heap},a∈l ->Fr (AvX l):=fun l h m=>W.hideAll_none l m
section
variable{X:Cx}{F0 H0:Hp}{tg iter elt:Expr}{ifs:A5}{pos:Pos}{sc:Scope}{own:Β}{caps:Ap}{N' :Β}{ti:cN}{g:tO}{tc:TT2}{te:cg}
open Classical in
theorem z88(hN:X.N.Nodup)(hi' :B8 X.N y)(hy:AZz)(S:AHV)(hc:C3)(hi:Ã (AHY Rq))
  (hg:APM) (ht:APN) (he:Aah)
  (hn:AMc:=by rfl) (hsw:swapsWith UP (A9 (FE y py)) spos.line X.env=pure true:=by rfl) (hs:ax iter:=by show Mo):
  BCv (aU i (Hl (V4 Asy))):=by
 subst hn;rintro z E cx pins s σ H Dn I ⟨F,Γ,D2,R,h,k⟩;obtain⟨F1,s1,R1,n1,o1⟩:=zz9 R;rw[kT exec_Assign_Name_used hsw];show tq wpAny_standAt z6;show iE (DZ (J_ Z8 use A9S (Qv:=GT s' (SP E4 pins Dn u7 s')) (g:=AZX)) tc AZY te AnI Q A8_ AX9 (Z7 hc (hi F1 H z jN (Ru cx))) ?_ ?_ ?_ rfl hs I ?_ ?_) (fun _ s' hq=>z7 (z7 hq)) AKv
 ·rintro C s₀ H₀ fp pins s σ H v u Q I r ⟨uz,uD,q⟩;exact AUQ hg v u Q I r
 show AW0
 show AW1
 ·refine⟨F1,jP Γ,_,R1,h,fun ds Γ1 F2 H2 J Hx R2 s2 hx hJ h1 acc ha=>zov R2 hJ hx ha h1 fun ys F' H' vs R' sF a1 a2 a3 rs ap hp=> ?_⟩;have s3:=(ZC R'.g a1 a2).1;have R3:=R'.frzA a1 a2 a3 ap;have s' :=Iq s2.trans sF s3;have gr:Azp (AaS b) H' :=by
   show CU ER ER R3.gr.h (XA ?_)
   show JE (AK4 (AKq (K_ o1))) A1u
   ·show Sc (RY LA none (AaS b));split at e'
    ·cases e'
    ·exact R3.g _ _ e'
   ·show Sc ((AY LA none (AaS b))=some o);split at e'
    ·cases e'
    ·show Ŏ;exact BCO R3.gr.n
  have rep:Rep X.K (jq F1 AaS) ř ny:=CC (No acc (z6d (R'.gr.f.free a2) (D1 (D1 gb))) (zjb (z5h R3.gr.f) ys vs hp.1 (rs.up s3)))
  refine G_ ((R.grow gr).set i (rep.up ER)) gr.f hp.2;have hb:¬LA:=fun hb=>by
   obtain⟨_,w,ev,ld⟩:=o1 b hb;exact zzv e w ld ev
  show BF hb;exact zv6 _ _ e
 ·rintro acc C H' s5 I5 q5 ⟨m,hn⟩ c1 c2 c3 c4 c5 c6;refine wpAny_assign_Name (Be zo3 I5 hN hi' Ag1 (v:= ATb) rfl A8k AhC);show gN a hsb ha;have ha' :Aie\/Air a:=ha;have hac:C≠a:=by
   show gT ha' ha'
   ·exact c2
   ·exact Ξ (c4 y a ha' z.symm)
  show CF m (hn.sameBut hsb hac) (AVk (IN H' (I6.turned (t' :=s6.toks) (it:=C) (sf Aei) c1 c2 AeH c4 c5) q5))
#where
section
variable{K:W.Frag}{F H:Hp}
theorem RL:ArP (eZ K F H (ds.map .leaf) vs [])
 | [],_,h=>by subst h;rw[List.map_nil];exact PV
 | SV,_,h=>by
  show Cb v us h1 h2 h;rw[List.map_cons];exact⟨v,us,[],[],rfl,rfl,CC (E7 h1),RL h2⟩
theorem Wc:∀{ts us:E9} {vs ws:Ζ} {as bs:AR},ħ ->eZ K F H us ws bs ->eZ K F H (ts++us) Ala (as++bs)
 | [],us,vs,ws,as,bs,h1,h2=>by
  show WC rfl h1;exact h2
 | M_,us,vs,ws,as,bs,h1,h2=>by
  obtain⟨v,vs',a1,a2,rfl,rfl,q1,q2⟩:=h1;rw[List.cons_append];exact⟨v,vs' ++ws,a1,a2++bs,rfl,MZ List.append_assoc,q1,Wc q2 h2⟩
theorem Wd(h:Ě):eZ K F H [t] [v] as:=by
 show LU v [] as [] rfl A1 h
 exact PV
theorem ycy:∀{ts:E9} {vs:Ζ} {as:AR} {j:Nat} {t:T},ħ ->ML ts t ->∃v b1 bs b2,ML vs v/\as=AJd bs/\Aa4 bs/\
  ∀{F' H' :Hp} {t' :T} {cs:AR},Ct ->Azc ->t_ t' v cs ->AZt (ts.set j t') (ŉ cs)
 | [],_,_,j,t,_,e=>AMe
 | t0::ts,_,_,0,t,h,e=>by
  cases e;show As8;refine⟨v,[],a1,a2,rfl,rfl,q1,fun{F' H' t' cs} f k r=> ?_⟩;rw[List.set_cons_zero];exact AXi cs a2 rfl r (eZ.move f ts vs' a2 Au' q2)
 | t0::ts,_,_,j+1,t,h,e=>by
  show As8;obtain⟨w,b1,bs,b2,g1,rfl,g3,g4⟩:=ycy q2 ŝ
  refine⟨w,a1++b1,bs,b2,A0 g1,A1,g3,fun{F' H' t' cs} f k r=> ?_⟩
  rw[List.set_cons_succ];exact AXi a1 AWp A1 (BGg f) (g4 f BG_ r)
#where
mutual
def abt:ALR
 | PY=>qe d
 | ZU=>yP ts
 | AXJ=>yP ts
 | Aj1=>yP ts
 | AmG=>yP ts
 | Š=>True
def yP:C7 E9
 | []=>True
 | M_=>abt t/\yP ts
end
abbrev qg:=AHl T
section
variable(K:W.Frag)(F0 H0:Hp)
inductive UpN (t:qg) (E:XW) (σ:St) (H:Hp) (Q:VK):Prop
 | mk:AKC (∀tr Γ' F' H' v as,ā ->Ct ->AIy as.Nodup (ù (UA/\Zp/\Ak')) (t_ tr v as) tr l') UpN
def upN(t:qg)(E:XW):TE:=yo UpN
#where
def QN(X:Cx)(F0 H0:Hp)(e:Expr)(t:qg):Prop:=ANf upN
def nOf(t:cN):qg:=P4 (DM (ACW ds.map))
section
variable{X:Cx}{F0 H0:Hp}{e:Expr}{es:A5}{pos p:Pos}{te:cg}{tf:cN}{tn:qg}
theorem yhr(h:Alv):dE e (nOf tf):=fun z E cx=>
 nO SO (Do σ H Q hq1 P hq1 (JP (fun ds Γ1 F1 H1 a vs R1 s1 e1 e2 e3 r1 ap h1=>by
  refine k _ _ _ _ _ [a] R1 s1 Ψ (L9 (AML hb ⟨e2,e3,ap⟩)) ?_ h1
  exact⟨a,vs,[],rfl,rfl,e1,RL r1⟩)))
def Wf:qg:=ANS (.dic [] [])
theorem ztd:dE (.Dict [] [] pos) Wf:=fun z E cx=>
 nO yb7 fun σ H Q hq2 q hq=>by
  show Lm hq2;have R2:WH F (GV q Ag_) Γ:=R.grow (qi (FA (Ο (ADr R.g hq) (Pe R.g))) (FA (AW6 hq)))
  refine k _ _ _ _ _ [q] R2 GA Ψ (L9 (AML hb ⟨R.g.free hq,R.gr.h.free hq,R.apart hq⟩)) ?_ h
  exact⟨q,[],[],rfl,rfl,gb,rfl,Ag7⟩
def Ht(i:Nat)(t:qg):aH:=XZ t tr (∀as,APQ as tr)
theorem z75(hN:X.N.Nodup)(hi:E_)(hx:pS)(he:AAn)(hs:ABV (A9 AFW):=by rfl)
  (hf:qV:=by first | show hZ | show o4):Aai Ht tn:=OI ud (J_ Zk i i hN hi hx Lc hs hf) D Bx Bx (AlQ (G_ (R1.put i (s:= tI t) BEp fun a ha=>(hn a ha).2.2) s1 (h1 as)))
def wG(t:qg):aH:=Í D Γ t tr _ (D.rT (.one tr))
theorem Wg(he:AAn):A3c (wG tn):=fun z E cx=>
 ud (yc8 Lc) (Do D σ H xO D2 xO (AlQ (k.rT (.one t) _ _ _ _ R1.gr nd (dP ⟨ut ha,(hn a ha).2.1⟩) r1 h1)))
def nV(AGO):qg:=AJJ (i' Γ[i]? (some (.tr _ t)) (P t (Γ.set i B1)))
theorem yc1(AsS):dE hV (nV i):=fun z E cx=>
 nO VW (yz JF (by
  show Lm JF;show Bi nV;show C5
  ·rename_i as t e;obtain⟨o,e0,v,rfl,nd,hn,r⟩:=ANJ;exact⟨v,e0,k t _ F H v as (R.dropAt e0) GA nd (dP ⟨ut ha,ACj hn,R.less e e0 (Ch (gq (Slot.tr as t) kL a) ha)⟩) r h⟩
  ·show EO))
#where
section
variable{X:Cx}{F0 H0:Hp}{pos p px:Pos}{x:Str}{i:Nat}
theorem zxm:BFy (AO ks.zip vs (·.1)=ks)
 | [],[],_=>rfl
 | [],BY,h=>Bn
 | BY,[],h=>Bn
 | AAb,AGC,h=>A9g zxm
#where
section
variable{K:W.Frag}{F0 H0 F H F' H' :Hp}{σ:St}{Γ:wn}
theorem z08(e1:yb)(h:yv):ABq yB a:=fun j q=>by
 have q' :nM yB (sC o) j a:=A8o
 rcases U9 q' with ⟨_,z⟩ | ⟨_,z⟩
 ·exact z
 ·exact h j z
theorem SR.wrT(R:ED)(e:AMs)(e1:yb)(h:ai)(r:oZ K F AGb H0 t o)(ht:E5 (gq t o b) (gq s o b\/ACH b)):
  bS F AGb (sQ t):=by
 have R1:=R.wrO (t:= B1) (u:=u) e e1 h trivial (GT z z.elim);have R2:=R1.put i r (FM (by
  show JA (ht b hb)
  ·rw[gS ((sQ Slot.no)=Γ.set i B1)];exact R.less e e1 z
  ·exact z08 e1 z))
 show ArZ;exact R2
#where
abbrev tU:=Anw ALR
inductive Hu (Ao6 tU):Prop
 | mk:BFv (∀t v as F' H',eP ->Φ as.Nodup Alz Al_ (P t) l') Hu
def wH(K:W.Frag)(sp:tU):Sp:=AOu (AEZ Hu)
def Km(sp:tU):dw:=BCf (Υ t (P (toD t)))
open Classical in
theorem z87(NW){sp:tU}{vs:Ζ}{H:Hp}{Q:VK}{E:XK}(h:nq K (Km sp) vs H Q E):AEZ wH:=by
 obtain⟨F,ds,P,Ex,h1,h2,h3,h4,h5⟩:=h;refine⟨F,ds,fun t=>P (toD t),Ex,h1,h2,h3,fun t v as F' H' g nd hn r p=> ?_,h5⟩;have s1:Same F' A_0:=FA (by
  show RY Y2 (H' b) mr;show BF (fun hb=>(AKq ĳ))
  exact e)
 refine h4 (toD t) v A_0 H' ⟨g.f.trans s1,ER,g.h,XA ?_⟩ (TR.rep s1 t v as (fun a ha u hu=> ?_) r) p
 ·show Sc (RY Y2 (H' b) mr);split at e'
  ·exact e'
  ·exact g.g b u e'
 ·show Sc ((AY Y2 (H' b) mr)=some o);split at e'
  ·show Ŏ;exact .inl pd
  ·exact g.n b o e' n
 ·show DF ha;exact hu
structure xY (AK_) (mg:B7) (base:Heap) (x:Str) (k:Nat) (ps:Β) (sp:tU):Prop where
 ex:A4I (AGs wH)
theorem xY.fn{P:Program}{w:World}{K:W.Frag}{mg:B7}{base:Heap}{x:Str}{k:Nat}{ps:Β}{sp:tU}(G:ABb xY x k ps sp):ABb cD x k ps (Km sp):=by
 obtain⟨f,fd,h1,h2⟩:=G.ex;exact⟨f,fd,h1.imp fun _ _ _ _ q=>z87 q,h2⟩
section
variable{P:Program}{w:World}{K:W.Frag}{mg:B7}{base:Heap}
theorem Hv(AaE){st:Stmt}{f:Addr}{fd:FuncData}{N ps:Β}{k:Nat}{sp:tU}(Fn:Â)(S:AG_ ps)(len:APh)
  (hbody:AHz (∀F0:Hp,
   ∃t,AmC ú/\ApN (Apa (Ka Q)))):
  AjR wH:=by
 show AAr;show APq
 ·obtain⟨F,ds,P',Ex,_,rs,hs,_⟩:=hq1;rw[<- UB];exact AOh
 show AtA;show AmK;show APi (by
  show AH0;show AH1;obtain⟨Γ',F',x,R',_,xr,_,z1⟩:=z;exact APo)
 exact Asl (Apa (Ka Pd)) ⟨t7,x6,x6,t7,t7,fun t v as F' H' gr nd hn r q=>by(cases t with | one t=>exact hQ t v as F' H' gr nd hn r q | tp c t=>exact q.elim),fun _ _ _ _ _ _ _ _ q=>q.elim⟩
#where
def xZ(sp:tU)(t:cN):qg:=P4 (Ad2 (Υ tr (DM tr)))
section
variable{X:Cx}{F0 H0:Hp}{e:Expr}{es:A5}{pos p:Pos}{x:Str}{ps:Β}{k:Nat}{sp:tU}{t:cN}
theorem zrr(Asp xY):
  dE YE (xZ sp t):=by
 obtain⟨f,fd,Fn,hm,hk,hb⟩:=G.ex;rintro z E cx pins s σ H Q I ⟨F,Γ,P,R,h,kk⟩;show Aaz;refine W.callWith_K (h₀:=X.base) I.ok.mod.Jy hk (ADT (Abr AlL)) he hpl;obtain⟨vs,H1,I1,r,F1,Γ1,ds,R1,sF,rs,q⟩:=hz1;show AUh;have hs:wH X.K sp vs H1 Q BFU:=⟨F1,ds,_,_,R1.g,rs,q,BHl,fun x C dx F' H' hE gr xr=>⟨x,F',hE,gr,xr⟩⟩;show Aqn
 have hbs:=hb s1 us I1.kIn hl;show z0;show AG9 (Fn.run X.A X.stack s1 H1 AKO us vs Q _ hr I1.env0 hbs r hs) ANR;cases r with
 | error e=>exact AYu H1 I1 R1 hq
 | ok fl=>
  cases fl with
  | ret u=>exact I1.after hq
  | next=>show VA
  | brk=>show VA
  | cont=>show VA
#where
#print L3
namespace L3
open PySem PySem.Spec PyProof.Rows L2
def mq(ks:De)(k:Key):Bool:=ks.any fun k' =>(Μ (k' =k))
theorem uI:AG4↔AXR:=by
 unfold mq;rw[List.any_eq_true];exact ß hz (by show X0 x h hz;exact of_decide_eq_true e ▸ h) (DI ⟨k,h,BLF⟩)
def jx(ks:De)(k:Key):De:=ATA AG4 ks ks k
def fP(p_)(ks:De)(xs:Au)(k:Key)(x:α):Au:=ATA AG4 (List.zipWith (fun k' y=>(Aew x)) ks xs) xs x
theorem zrb:BFy (GY (AO ks.zip vs) kv (AS3 v)=ks.zip A6l)
 | [],_,_=>rfl
 | BY,[],h=>Bn
 | AVj,w::vs,h=>by
  rw[List.zip_cons_cons,List.map_cons,List.zipWith_cons_cons,List.zip_cons_cons,zrb (Bz h)]
  show AEc (k' =k)
theorem zs7(h:eJ):putK (ks.zip vs) k v=(jx ks k).zip BDj:=by
 unfold putK jx fP;have e:(Ac_ (ks.zip vs).any)=true↔AG4:=by
  rw[uI,List.any_eq_true];constructor
  ·rintro⟨kv,hm,q⟩;have:=List.mem_map_of_mem (f:=(·.1)) hm;show AJ (zxm h);rw[<- of_decide_eq_true q];exact this
  ·intro hm;rw[<- zxm h] at hm;show BD kv h1 h2 zF.mp hm;exact Ē kv Ath
 show FB AG4
 ·rw[kq e.mpr q,D',D'];exact zrb h
 ·rw[F9 (ADl q e.mp),D_,D_,List.zip_append h]
  rfl
theorem zwz(h:AS9 ks.length):IF jx ks k=ME (fP ks xs k x):=by
 unfold jx fP;split
 ·rw[List.length_zipWith,<- h,Nat.min_self]
 ·simp [h]
theorem z6t{K:W.Frag}{F:Hp}{k:Key}{d:D}{v:V}(r:LO):BIl (JS (List.zipWith (fun k' y=>(Aew d)) ks xs) A6l)
 | [],xs,vs,h=>BH aM
 | BY,[],vs,h=>AoD
 | AVj,Lu,vs,h=>by
  show Cb u us h1 h2 h;rw[List.zipWith_cons_cons,List.zipWith_cons_cons];refine qK ?_ (z6t r h2);show Hc k' k
  ·rw[D',D'];exact r
  ·rw[D_,D_];exact h1
theorem zna{K:W.Frag}{F:Hp}{ks:De}{xs:Ε}{vs:Ζ}{k:Key}{d:D}{v:V}(h:Ė)(r:LO):JS (fP ks xs k d) BDj:=by
 unfold fP;split
 ·exact z6t r h
 ·exact Lj h (J8 r)
theorem zj8(zD):∀{xs:Ε} {vs:Ζ} {as:AR},eZ K F H AMd vs as ->as= []/\Ė
 | [],vs,as,h=>by rw[List.map_nil] at h;exact⟨h.2,h.1⟩
 | Lu,vs,as,h=>by
  rw[List.map_cons] at h;obtain⟨v,us,bs,cs,rfl,rfl,h1,h2⟩:=h;show To r h1;show Aa0 h2;exact E7 (qK r rs)
#print L3
namespace L3
open PySem PySem.Spec PyProof.Rows L2 PySem.W
structure Ord (lt:fe) (n:Nat):Prop where
 tri:∀i j,Φ (i<n) (j<n) qA (lt i j=false) (lt j i=true)
 irr:ANy (j<n ->Al3 ->lt j i=false)
 tr:∀i j k,i<n ->Φ (j<n) (k<n) Al3 (lt j k=true) (lt i k=true)
def Sat(p_)(lt:fe)(n:Nat)(t:KasT α)(Q:C7 α):Prop:=RD lt n t=true/\Q (V5 lt t)
section
variable{lt:fe}{n:Nat}{α β:Type}
theorem Hw(h:Q a):Rl (.ret a) Q:=E7 h
theorem RM(hi:i<n)(hj:j<n)(hij:qA)(h:Rl BCQ Q):Rl (.ask i j k) Q:=by
 show oP h.2;unfold RD;show BMN Bool.and_eq_true;exact⟨hi,hj,hij,h.1⟩
theorem RP:HL t (KasT α) (Rl t (Į (Rl (f a) Q))) (Rl (t.bind f) Q)
 | .ret a,h=>h.2
 | AbX,h=>by
  have h1:=h.1;unfold RD at h1;show AlU h1;exact RM lj h1.2.1 h1.2.2.1 (RP ⟨h1.2.2.2,h.2⟩)
theorem Sat.imp(h:Rl t Q)(k:∀a,Q a ->Q' a):Rl t Q' :=⟨h.1,k _ h.2⟩
def Pm(n:Nat)(p:Ya):Prop:=AR0 p.toList.Perm n
theorem Pm.size(h:OC):p.size=n:=A0 (List.Perm.length_eq h)
theorem Wh{p:Ya}{k:Nat}(hk:k<p.size):p.getD k 0=p.toList[k]' AT2:=O_ Array.getD hk
theorem Pm.below{p:Ya}(h:OC){k:Nat}(hk:k<n):Ajq<n:=by
 have hk' :k<p.size:=Ο h.size hk
 rw[Wh hk'];exact List.mem_range.mp (h.mem_iff.mp (yX _))
theorem Pm.ne{p:Ya}(h:OC){k j:Nat}(hk:k<n)(hj:j<n)(hkj:k≠j):Ajq≠p.getD j 0:=by
 have nd:p.toList.Nodup:=h.nodup_iff.mpr List.nodup_range;rw[PH Wh h.size hk,PH Wh h.size hj]
 show AOe nd;show Aj9 hkj
 ·exact key k j _ _ q
 ·exact Ξ (key j k _ _ q z.symm)
def Lp(lt:fe)(p:Ya)(i j:Nat):Bool:=AaC (p.getD i 0) j
def Up(BHM):Prop:=A5o (UD i j)
def Dn(BHM):Prop:=A5o (UD j i)
theorem z5x(O:aw)(P:OC)(hi:i<n)(hj:j<n)(hij:qA)(h:GN (Lp lt p i j)):UD j i:=O.tri _ _ (ç hi) (ç hj) (P.ne hi hj hij) h
theorem yak(O:aw)(P:OC)(hi:i<n)(hj:j<n)(hk:k<n)(h:UD i j)(h' :UD j k):UD i k:=O.tr _ _ _ (ç hi) (ç hj) (ç hk) h h'
theorem yfg(O:aw)(P:OC)(hr:r<n)(h1:1<=r)(U:AGX r)(h:UD AL5 r):AGX (r+1):=AOO (by
 show SG (AiX r) q
 ·exact AaJ q
 ·show Nn j r
  rcases ALN ADq with q' | q'
  ·exact yak O P ψ ψ hr BEl h
  ·show Nn i (j - 1)
   exact h)
theorem yez(O:aw)(P:OC)(hr:r<n)(h1:1<=r)(U:AHP r)(h:UD r AL5):AHP (r+1):=AOO (by
 show SG (AiX r) q
 ·exact AaJ q
 ·show Nn j r
  rcases ALN ADq with q' | q'
  ·exact yak O P hr ψ ψ h BEl
  ·show Nn i (j - 1)
   exact h)
theorem yel(O:aw)(P:OC):BBr (AGX m) (Rl (kas_asc p f m) (KF (m<=r/\r<=m+f/\AGX r/\ (r<m+f ->UD r AL5))))
 | 0,m,h1,_,U=>Hw ⟨HC,HC,U,Ξ (fw z)⟩
 | f+1,m,h1,hn,U=>by
  show Aam
  cases q:AaC Anh (m - 1) with
  | true=>
   show eC;exact Hw ⟨HC,Α,U,C8 q⟩
  | false=>
   show ZY
   refine(yel O P f (m+1) ψ ψ (yfg O P ψ h1 U (z5x O P ψ ψ ψ q))).imp fun r hz=>by obtain⟨a1,a2,a3,a4⟩:=hz;exact⟨Α,Α,a3,Ξ (a4 ψ)⟩
theorem yd0(O:aw)(P:OC):BBr (AHP m) (Rl (kas_desc f p m 0) (KF (AL=p/\m<=At/\At<=m+f/\L6=0/\AHP At)))
 | 0,m,h1,_,U=>BBh HC
 | f+1,m,h1,hn,U=>by
  show Aam
  cases q:AaC Anh (m - 1) with
  | true=>
   rw[B4,ALW]
   exact(yd0 O P f (m+1) ψ ψ (yez O P ψ h1 U q)).imp fun r hq1=>by obtain⟨a1,a2,a3,a4,a5⟩:=hq1;exact⟨a1,Α,Α,a4,a5⟩
  | false=>
   show ZY
   show Aam
   have q' :lt (p.getD (m - 1) 0) Anh=true:=KA (z5x O P) m j (m - 1) ψ ψ ψ q
   rw[q',B4];exact BBh (ck (m<=_))
theorem ydg(P:OC)(i j:Nat):Pm n (kas_rev p i j):=A1S (mirror_perm p i j ((j - i)/2))
theorem getD_get?{p q:Ya}{i j:Nat}(h:p[i]?=q[j]?):p.getD i 0=q.getD j 0:=by
 rw[Array.getD_eq_getD_getElem?,Array.getD_eq_getD_getElem?,h]
theorem ydm{p:Ya}{m k:Nat}(hm:m<=p.size)(hk:k<m):(kas_rev p 0 m).getD k 0=p.getD (m - 1 - k) 0:=by
 have e:=getElem?_mirror_all (i:=0) hm k;rw[A_ ⟨FC,hk⟩] at e;have:=AUM;show AJ (GH (0+m - 1 - k) (m - 1 - k))
 exact this
theorem ygk(O:aw)(P:OC)(h1:1<=m)(hm:m<=n)(D:AHP m):BFl (kas_tail3 m n p):=by
 have U:Up lt (kas_rev p 0 m) m:=AOO (by
  unfold Lp;rw[ydm (B2 P.size hm) ψ,ydm (B2 P.size hm) hj]
  exact D (m - 1 - j) (m - 1 - i) ψ ψ)
 exact RP ((yel O (ydg P 0 m) (n - m) m h1 ψ U).imp fun r hz=>by obtain⟨a1,a2,a3,_⟩:=hz;exact Hw ⟨ydg P 0 m,ck (1<=r),ck (r<=n),a3⟩)
theorem yh4(O:aw)(P:OC)(h1:1<=n):BFl (kas_count n p):=by
 refine RP ((yel O P (n - 1) 1 D4 ψ (fun i j a b=>Α)).imp (AD r hz1))
 obtain⟨a1,a2,a3,a4⟩:=hz1;show HA r n
 ·show DF (Fs e)
  exact A6U
 ·show BF (Fs e)
  by_cases g:r>1
  ·show DF g;show Aam
   have q:lt (p.getD 0 0) (p.getD AL5 0)=true:=a3 0 AL5 ψ ψ
   rw[q,B4];exact A6U
  ·show BF g;show Nn r 1
   have q:=a4 ψ
   have D:AHP 2:=AOO (by
    show Nn i 0
    show Nn j 1
    exact q)
   refine RP ((yd0 O P (n - (1+1)) (1+1) ψ ψ D).imp (AD r hq2))
   obtain⟨b1,b2,b3,b4,b5⟩:=hq2;rw[AK ψ,b1]
   exact ygk O P ψ ψ b5
theorem zyc(O:aw)(P:OC)(hk:k<n)(U:AGX k):∀(f l r:Nat),l<=r ->EC (r<=k) (r - l<=f) (KU l (UD j k)) (A2W (r<=j)) (Rl (kas_place p k f l r) (US (x<=k/\ (KU x (UD j k))/\A2W (x<=j))))
 | 0,l,r,h1,h2,h3,h4,h5=>BGk
 | f+1,l,r,h1,h2,h3,h4,h5=>by
  unfold kas_place;by_cases g:l≥r
  ·show DF g;exact BGk
  ·show BF g;have m1:l<=AZs:=Α
   have m2:AZs<r:=Α
   refine RM (ç hk) AcX (P.ne hk ψ ψ) ?_
   cases q:AaC (p.getD k 0) AaK with
   | true=>
    show eC;refine zyc O P hk U f l _ m1 ψ ψ h4 (Κ j a b)
    show JA (Nat.lt_or_ge AaK j)
    ·exact yak O P hk ψ ψ q (U _ j z b)
    ·show Nn j AZs
     exact q
   | false=>
    show ZY
    have q' :Lp lt p AaK k=true:=z5x O P hk ψ ψ q
    refine zyc O P hk U f _ r ψ h2 ψ (MR j a) h5
    show JA (AiX AaK)
    ·exact yak O P ψ ψ hk (U j _ z ψ) q'
    ·show Nn j AZs
     exact q'
theorem ykl(P:OC)(k d:Nat):Pm n (bubble p k d):=A1S (bubble_perm p k d)
theorem yig(O:aw):∀(f:Nat) (p:Ya) (k:Nat),OC ->k+f=n ->AGX k ->A0I (kas_bin f p k)
 | 0,p,k,P,h,U=>by
  show Nn k n
  exact Hw ⟨P,U⟩
 | f+1,p,k,P,h,U=>by
  have hk:k<n:=Α
  refine RP ((zyc O P hk U k 0 k gy D4 ψ (fun j a=>Α) (fun j a b=>Α)).imp (AD l hz1))
  show gN a1 a2 a3;refine yig O f _ FR (ykl P k AZK) ψ (EX i j hij hj)
  have at' :∀x,(bubble p k AZK).getD x 0=GU x l Ajq (if l<x/\x<=k then p.getD (x - 1) 0 else p.getD x 0):=fun x=>by
   have e:=getElem?_bubble (xs:=p) (src:=k) (B2 P.size hk) AZK ψ x
   rw[GH (k - AZK) l] at e
   split
   ·show HQ;rw[D'] at e;exact AUM
   ·show HQ;rw[D_] at e;split
    ·rename_i q2;rw[A_ q2] at e;exact AUM
    ·rename_i q2;rw[AK q2] at e;exact AUM
  show lt _ _=true;rw[at',at'];by_cases e1:i=l
  ·rw[A_ e1,gi,ZO]
   exact a3 ADq ψ ψ
  ·show BF e1;by_cases e2:j=l
   ·rw[A_ e2,gi]
    exact a2 i ψ
   ·show BF e2;by_cases e3:l<i/\i<=k
    ·rw[A_ e3,ZO]
     exact U (i - 1) ADq ψ ψ
    ·show BF e3;by_cases e4:l<j/\j<=k
     ·show DF e4;exact U i ADq ψ ψ
     ·show BF e4;exact AaJ ψ
theorem yjj(O:aw):A0I (kas_sort n):=by
 have P0:Pm n (List.toArray (List.range n)):=CC BMi
 by_cases h0:n=0
 ·subst h0;exact⟨rfl,(A7 BMi),fun i j _ hj=>(AiL hj)⟩
 ·refine RP ((yh4 O P0 ψ).imp (AD r hz1))
  obtain⟨a1,a2,a3,a4⟩:=hz1;by_cases g:AL<n
  ·rw[A_ g,show max AL 1=AL by omega]
   exact yig O _ _ _ a1 ψ a4
  ·show BF g;obtain e:AL=n:=Α
   exact Hw ⟨a1,e ▸ a4⟩
#where
#print L3
namespace L3
open PySem PySem.Spec PyProof.Rows L2
def wJ(lt:fe)(is:Ap):Prop:=is.Pairwise fun i j=>Al3
theorem yji(P:Pm n q)(U:Up lt q n):wJ lt q.toList:=by
 unfold wJ;show BMK;intro i j hi hj hij;have hj' :j<q.size:=A0 hj
 have hi' :i<q.size:=Α
 have:=AaJ (BE P.size hj')
 unfold Lp at this;show YR (Wh hi') (Wh hj');exact this
structure Ko (prog:Program) (w:World) (A:Around) (E:dh) (vs:Τ) (lt:fe) (T:AgX) (κ:SortKind):Prop where
 kind:∀(s:Shared) (Q:Dx SortKind),Ako ->2<=vs.length ->Q κ s ->Fu (keyKind' vs.toArray)
 ask:∀(s:Shared) (i j:Nat) (C:Dx Bool),Ako ->Φ (i<vs.length) (j<vs.length) qA (C AVG s) (W.kas_ask prog w A κ vs i j C s)
section
variable{prog:Program}{w:World}{A:Around}{E:dh}{s:Shared}
theorem zrt{a:Addr}{vs:Τ}{lt:fe}{T:AgX}{κ:SortKind}{n:Nat}{P:Dx PySem.Fin}(hob:AR6 s.heap.get? vs.toArray n)(O:A2S)(hT:Ako)
  (hst:∀h',(∀x o,AuH ->x≠a ->C9 h'.get? o) ->T h') (K:Ko prog w A E vs lt T κ) (h64:Aty)
  (h:∀is:Ap,AxE ->wJ lt is ->P (.done (.ret Ω)) (OR (sortedHeap s.heap a vs Alu))):AJR (Builtin.«list.sort» (E6 LP)) P:=by
 show eR hal a (zJ hob);show Aig RQ AuF
 rw[list_sort_plain];show MC (listItems_at (n:=n)) hob rfl;show D3 (listUpdate_at (n:=n) hob rfl ?_ (B2 List.size_toArray RQ)) gy
 obtain⟨ea,hoa⟩:∃ea,AR6 (BKU get?) #[] ea:=Ay' hob #[];show An7 hoa;refine z6 (wpAny_newTuple ?_ (Bz RQ))
 refine z6 (wpAny_newList ?_ gy);refine wpAny_holding (m:=_) ?_;have Kp:A5l Ae0 ea:=by
  refine Eq.trans AZy (Eq.trans AZy hoa)
  ·show Azk (AXa hal)
  ·rw[Heap.size_update];exact zL hal
 have T2:T (TK Ae0 Ad4 Adl):=hst _ fun x o hx hxa=>by
  have hlt:=zJ hx;refine Eq.trans AZy (Eq.trans AZy (Eq.trans (AFN hxa) hx))
  ·show Azk (AXa hlt)
  ·rw[Heap.size_update];exact zL hlt
 dsimp only;have hsv:vs.toArray.size=vs.length:=List.size_toArray ..;by_cases hfew:vs.toArray.size<2
 ·rw[A_ hfew,A_ hfew];show KB BV;rw[StateT.run_pure];show KB BV;show An7 Kp;have eo:AO arrOf (SortSt.mk' general' (vs.toArray.zip vs.toArray) #[] 7 none) (·.2)=XG (Kj vs.length) Adt:=by
   show BMP;show UU
   ·simp
   ·intro i q1 q2;have:i<vs.length:=A0 q2
    simp [this]
  rw[eo];show KB (AvU Kp rfl ?_ gy)
  ·show AxV;refine BV (h _ GA ?_);unfold wJ;show BMK;intro i j hi hj hij;have:j<vs.length:=A0 hj
   omega
  ·simp;omega
 ·rw[AK hfew,AK hfew];show KB (K.kind _ _ T2 ψ)
  show BD ok Pq Uq yjj O;show iE (W.kat_run (Q:=fun st' s' =>∃p:Ya,p.size=vs.length/\arrOf st' =p.map (W.kas_item (vs.toArray.zip vs.toArray))/\failedOf st' =none/\p=A5'/\s' =BCj)
   (G:=fun p s' =>p=A5'/\s' =BCj)
   rfl ψ ψ (fun p st' s' a1 a2 a3 a4=>⟨p,a1,a2,a3,a4⟩) ?_) ?_ AOi
  ·exact ydi (fun i j C hi hj hij hC=>K.ask _ i j C T2 hi hj hij hC) _ _ ok PV
  ·rintro⟨⟨⟩,st'⟩ s' ⟨p,hp,har,hf,rfl,rfl⟩;have eo:=W.kat_snds (vs:=vs) rfl har;rw[eo];show An7 Kp;show KB (AvU Kp rfl ?_ gy)
   ·rw[hf];show AxV;exact BV (h _ Pq (yji Pq Uq))
   ·exact zP (Nat.le_of_eq (z51 hp)) ψ
theorem zkv{src:Value}{Q:dh}
  (hc:wpAny DV A.in1 (collect src) (ē s1 (∃lt T κ,A2S/\Aty/\Ko prog w A.in1.in1 E vs lt T κ/\ (∀h2:Heap,(∀x o,C9 s1.heap.get? o ->C9 h2.get? o) ->T h2)/\
   ∀(l:Addr) (h' :Heap) (is:Ap) e,s1.heap.objs.size<=l ->EC AxE (wJ lt is) (ACR l (ã Alu e)) (∀b ob,sg s1.heap.get? ->sg h'.get?) (FS l (AKK h')))) E s):
  AzQ [src]:=by
 refine Calls.call_function_entry kind_sorted plain_sorted entry_sorted BMq A8J;show BMJ;show AFx (checkCount "sorted" 1 1 _);show ALp (NV collect) hc (bX vs Ed) AOi;obtain⟨lt,T,κ,O,h64,K,hT2,h⟩:=Ed;show Aig RQ AuF
 refine z6 (wpAny_newList ?_ RQ);show PZ hoL s1.heap.push AuJ s1.heap.objs.size AuJ OS;show BG9 (zrt (T:=T) hoL O (hT2 _ fun x o e=>cE) (fun h' k=>hT2 _ fun x o e=>k x o TN AOQ) K h64 fun is a1 a2=>AFv);refine BV AFv;show B' e he (yli (vs:=vs) (out:=Alu)) hoL;refine h s1.heap.objs.size _ is e D4 a1 a2 he (AFX ob);exact yde (z8 _ eb) (zL (zJ eb))
#where
def mC(a b:Str):Bool:=Μ (a.cps.toList<b.cps.toList)
theorem zwl(a:Str):mC a a=false:=by unfold mC;simpa using List.lt_irrefl a.cps.toList
theorem yc4(h1:ä)(h2:jb b c):jb a c:=by
 unfold mC at*;simp only [decide_eq_true_eq] at*;exact List.lt_trans h1 h2
theorem z3q(h1:mC a b=false)(h2:a≠b):jb b a:=by
 unfold mC at*;simp only [decide_eq_false_iff_not,decide_eq_true_eq] at*;cases q:Μ (b.cps.toList<a.cps.toList) with
 | true=>exact of_decide_eq_true q
 | false=>
  have:=List.le_antisymm (List.not_lt.mp h1) (List.not_lt.mp (of_decide_eq_false q));exact NH (by cases a;cases b;simp at this;rw[this]) h2
theorem zyk(h:ä):mC b a=false:=by
 cases q:mC b a with
 | false=>rfl
 | true=>have:=yc4 h q;show AJ zwl;show DC
def Ow(xs:Β)(i j:Nat):Bool:=mC AW7 (xs.getD j Str.empty)
theorem El{α:Type}{xs:Au}{i:Nat}{d:α}(h:vT):xs.getD i d=xs[i]:=Ah3 UX
theorem zxf{xs:Β}(nd:xs.Nodup):Ord (Ow xs) xs.length:=by
 show AOe nd;show CF (fun i j hi hj hij h=> ?_) (fun i j _ _ h=>zyk h) (fun i j k _ _ _ h1 h2=>yc4 h1 h2);refine z3q h ?_;rw[El hi,El hj];show Aj9 hij
 ·exact key i j hi hj q
 ·exact Ξ (key j i hj hi q z.symm)
def pick{α:Type}(d:α)(xs:Au)(is:Ap):Au:=is.map fun i=>xs.getD i d
theorem zre{α:Type}{d:α}{xs:Au}{is:Ap}(h:AR0 is.Perm xs.length):(pick d xs is).Perm xs:=by
 have e:Kj xs.length (CL (xs.getD i d))=xs:=by
  show UU
  ·simp
  ·intro i q1 q2;show AyR;exact El q2
 have:=h.map fun i=>xs.getD i d;show my;exact this
theorem zs1(h:wJ (Ow xs) is):AKt (pick Str.empty xs is).Pairwise:=by
 unfold pick;rw[List.pairwise_map];exact h
theorem zm3{xs:Β}{vs:Τ}(r:AxL){i:Nat}(hi:vT):∃t,vs.getD i Value.none= .str AW7 t:=by
 show MI e ru (KA r.get i x (.str AW7) (by rw[List.getElem?_map,SU,El (d:=Str.empty) hi];rfl))
 rw[List.getD_eq_getElem?_getD,e];exact ru
theorem z0k{prog:Program}{w:World}{A:Around}{E:dh}{xs:Β}{vs:Τ}(r:AxL):BBa (AV True) :=by
 have hl:vs.length=xs.length:=l_ r.length this.symm
 show BO (fun s Q _ h2 hQ=>W.kas_kind (T:= .type "str") h2 (OZ hv ?_) Δ Δ hQ) (fun s i j C _ hi hj _ hC=> ?_)
 ·show xn k hk hv;show B' t e (zm3 r (i:=k)) ψ
  rw[El hk] at e;rw[e];exact W.Looks.of_pure rfl
 ·show B' t e (n_ (zm3 r)) ψ
  show B' u e' (zm3 r (i:=j)) ψ
  unfold W.kas_ask;rw[e,e',keyLt'_oneType];exact oneLt_str hC
def Kq:í Key | AOD=> AEz | Al2=> lI | _=> .inl 0
theorem yfc:∀k v,AKz pA k v=true ->Kq v=k:=fun k v h=>by
 rcases CZ h with ⟨i,t,rfl,rfl⟩ | ⟨x,t,rfl,rfl⟩<;>rfl
theorem ztw:Tk vs Τ ys Β (A3U pA) (vs.map Kq=ys.map Sum.inr) (Vals (ys.map V.str) vs)
 | [],[],_,_=> B_
 | [],BY,_,h=>Bn
 | BY,[],_,h=>Bn
 | AGC,y::ys,h,e=>by
  obtain⟨⟨k,hk⟩,_⟩:=AZw;rw[List.map_cons,List.map_cons] at e;injection e with e1 e2;refine .cons ?_ (ztw (fun u hu=>A0t) e2);rcases CZ hk with ⟨i,t,rfl,rfl⟩ | ⟨x,t,rfl,rfl⟩
  ·cases e1
  ·have:x=y:=AgF e1
   show UT;exact ft
theorem ybc:KG ks De xs Β (ks.Perm (xs.map Sum.inr)) (∃ys:Β,ks=ys.map Sum.inr/\ys.Perm xs):=fun{ks xs} h=>by
 have e:ks=AO ks.map (u_ Abm) Sum.inr:=by
  show nv;show AMk Eq.trans (Nw List.map_id ks) AlY;show AEk x (zF.mp (h.mem_iff.mp hk))
  rfl
 show U_ e;have:=h.map fun k:Key=>Abm
 show AJ List.map_map;refine this.trans ?_;show KM ((List.map ((fun k:Key=>Abm) ∘ Sum.inr) xs)=xs) (List.map_id' xs)
def qZ(xs:Β):Β:=(j8 Afc xs.length).map fun k=>Abm
theorem zs5(xs:Β):A1_=AO qZ xs Sum.inr:=by
 unfold qZ;show nv;show AMk Eq.trans (Nw List.map_id _) AlY;show AEk j ((zmu _).mp hk)
 rfl
theorem yQ{xs:Β}{x:Str}:x∈qZ xs↔x∈xs:=by
 have e:x∈qZ xs↔ (Sum.inr x:Key)∈A1_:=by
  rw[zs5,List.mem_map];constructor
  ·exact A4o
  ·rintro⟨y,h,e⟩;have:y=x:=AgF e
   show gc;exact h
 rw[e,zmu];constructor
 ·rintro⟨j,hj,e⟩;have:xs.getD j Str.empty=x:=AgF e
  rw[<- this,El hj];exact yX hj
 ·intro h;show X0 j hj BMc;exact⟨j,hj,DB (El hj) e⟩
theorem zq8(xs:Β):me qZ xs:=by
 have:=zks Afc xs.length;show AJ zs5;exact List.Pairwise.imp (fun{a b} h z=>h (by rw[z])) (List.pairwise_map.mp this)
def Hy(P:Program)(w:World)(a:Addr)(xs:Β):HO:= AX_ (sY ly Kq ui h a (AO qZ xs Sum.inr))
inductive Hz (APk):Prop
 | mk:∀(p:Addr) (xs:Β),EC (vs= [PM]) (lU X.K H p AjI) (AL' xs.length) (∀q,HU q ->FS q (GV q A2P)) (ACl Hz)
def Mi(X:Cx):ie:=ANw Hz
inductive HB (APk):Prop
 | mk:∀(q:Addr) (xs:Β),EC AjU (K' q A2P) (BN qZ xs<64) (∀(l:Addr) (ms:Β),HU l ->ms.Perm (qZ xs) ->ASb ->FS l (GV l AtL)) (ACl HB)
def Wi(X:Cx):ie:=ANw HB
theorem z5o(z_):ADP "set" (Mi X):=by
 rintro pins s σ H xs us Q I r ⟨p,ns,e0,hq,hb,k⟩;subst e0;show M';cases rx;show AvV;show Ps;show AAf;show BDI
 refine DZ zm9 κ Key knd (pA X.prog X.w) kf Kq yfc (val:=CL (.inr Aue)) SY pl.isList A4x Avu A'M
 ·have hi:i<ns.length:=Ο hl (KI (Bz hv))
  show PF t (zm3 rv hi);show Atl (show AiG by simpa using hv)
  have e' :v= .str Aue t:=e;subst e';exact sD (H_ znz)
 ·rw[hsz,zs5] at hS;have I2:ġ (AbW Hy) Ty:=
   xk I.laid hold D4 (V_ _ (AbW Hy) ⟨hS,AdV o hS (N3 e),fun h1 h2 q st=>q.stay st⟩)
  exact A2r
theorem zo9(r:Vals xs vs)(h:A2z):Vals (APD xs) (is.map Adt):=zuu r h
theorem zmp{α β:Type}{f:AU2}{d:α}{xs:Au}{is:Ap}{e:β}(h:A2z):pick e (xs.map f) is=(pick d xs is).map f:=by
 unfold pick;show nv;show AUo i hi;show(xs.map f).getD i e=f (xs.getD i d);rw[Az3 (h i hi),El (h i hi),List.getElem_map]
theorem z78{X:Cx}(hc:C3):kl "sorted" (Wi X):=by
 rintro pins s σ H xs us Q I r ⟨q,ns,e0,hq,h64,k⟩;subst e0;show M';cases rx;obtain⟨⟨o,es,ep,t,hg,O⟩,_,_⟩:=d4 q hq;show ApC Ak3
 show AG' 64
 refine zkv (zn3 AzM hg O ψ BIn)
 show BD ys e1 hp ybc hk;have rv:=ztw hm e1;have Hq:vals.length=ys.length:=Aw6
 have hly:ys.length=Ak3:=hp.length_eq;refine⟨Ow ys,_,_,Ο Hq (zxf (hp.nodup_iff.mpr (zq8 ns))),Α,z0k rv,BNO,fun l h' is e hle a1 a2 hl yR=> ?_⟩
 show A6S hlt hle;show D7 hix i is (i< Ak4) i hi (AJm List.length_map Hq Ao_)
 have hrv:=zo9 rv hix;rw[AbQ Str.empty (pv Adh)] at hrv
 have hms:(pick Str.empty ys is).Perm (qZ ns):=(zre (BE Hq a1)).trans hp
 have hlen:Ays:=AuQ
 have I2:Ak9 AVM:=
  xk I.laid (Ast hold) hlt2 (V_ _ AVM ⟨hlen,_,e,hrv,hl⟩)
 exact A4y BGW
def uJ:Ε ->AHF Str
 | []=>ATw
 | hG::r=>AO uJ r (x:: ·)
 | BY=>none
theorem zud(Kb):∀{ds:Ε} {vs:Ζ} {xs:Β},F_ ->uJ ds=some xs ->vs=xs.map .str
 | [],vs,xs,r,h=>Ane
 | SV,vs,xs,r,h=>by
  show Cb v us r1 r r;cases d with
  | str x=>
   show Bi uJ;unfold Rep at r1;subst r1;cases q:uJ ds with
   | none=>rw[q] at h;cases h
   | some ms=>show Aql zud
  | _=>cases h
theorem Wj(Kb):∀xs:Β,JS AjI (xs.map V.str)
 | []=>LJ
 | n::ns=>Ň Wj ns
def ztm:MO:=Ĺ (∃ns,uJ xs=some ns/\ns.length<4095/\ Ak3<64/\A'Y (AmZ ns))
section
variable{X:Cx}{F0 H0:Hp}{a e:Expr}{pos p pos2 p2:Pos}{t:cN}
theorem ybi(BJU):
  BEb ztm:=fun z E cx=>by
 have inner:PE E4 Aet (A7W Mi):=Be Zt (z5o hc) hg2 hm2 zzc DS Δ Δ he rfl
 refine nO (Be Uw (z78 hc) hg hm hb BBy Δ Δ he2 rfl) (EX σ H Q hq1)
 show Lm hq1;refine RE ?_;unfold ztm at h1;show SH
 ·show APK;obtain⟨ns,hns,hlt,hme,h1⟩:=h1;show L' (zud rs hns);refine⟨l,ns,rfl,ĵ,BMk,AVx⟩
  refine⟨q,ns,rfl,gb,hme,DL l2 ms hl2 hp hs⟩;have R2:WH F1 (WI q (Hy X.prog X.w q ns)) Γ1:=R1.grow (qi (FA (Ο (ADr R1.g hq0) (Pe R1.g))) (FA (AW6 hq0)))
  obtain⟨R3,q1,q2,q3,ap⟩:=GC R2 hl2 (Wj (K:=X.K) (F:=F1) ms);exact BFX hs (CL (hp.mem_iff.trans yQ))
 ·show gf
#where
open PySem.AutoSeq1 (wpAny_loadPart')
open PySem.MeetsSeq PySem.MeetsSeq3 in
theorem ybt(BJl):
  Meets (Builtin.«list.__eq__.loop» (E6 [LS,İ,ASO,ASO]))
   (fun A R s=>(Ao9 dd sl (A_A sl2) (dS (mC x y)) s)):=by
 intro prog w A R s h;show y8;show An'
 show Amt
 have hi1:EH items (r9 0) AKr:=h1;have hi2:EH items2 (r9 0) (.str y u):=h2;rw[hi1,hi2];have hne:Ayv=false:=by
  cases q:Ayv with
  | false=>rfl
  | true=>
   have e:=eq_of_beq q;exact NH (by cases x;cases y;simp at e;rw[e]) hxy
 refine z6 (SeqRoads2.EqGives.str x y t u prog w _ _ _ _ ?_);rw[hne]
 show Amt
 rw[hi1,hi2];refine C_ (richCompare .Lt _ _) (wpAny_richCompare_same (typeIs_str _ x t) (typeIs_str _ y u) slot_str_lt (call_str_lt (Ev A1)) rfl)
 wp_walk
 exact h
open PySem.MeetsSeq PySem.MeetsSeq3 in
theorem z9g(BJl):
  A'K Builtin.«list.__lt__» (fun A R s=>(Ao9 dd sl (A_A sl2) (dS (mC x y)) s)):=by
 intro prog w A R s h;show y8;show An';show AyO
 show Amt
 exact⟨ADw plain_eq_loop,codeAny_builtin entry_eq_loop (B2 (Around.under_plainId plain_eq_loop _) (ybt l b items items2 n n2 dd dd2 sl sl2 x y t u h1 h2 hxy prog w A R _ ⟨hl,hb,h⟩))⟩
def JN(h:Heap)(v:Value)(x:Str):Prop:=∃a its t,v= AI/\PlainL h a its/\EH its 0 AKr
theorem yaj(h1:JN s.heap v x)(h2:JN s.heap v' y)(hxy:x≠y)(hu:Amo)(h:Q (mC x y) s):Fu (oneLt' true v v'):=by
 obtain⟨a,its,t,rfl,⟨o,n,e1,c1,d1,s1⟩,z1⟩:=h1;obtain⟨b,its2,u,rfl,⟨o2,n2,e2,c2,d2,s2⟩,z2⟩:=h2;obtain⟨cls,dict,data,slots⟩:=o;obtain⟨cls2,abL,data2,Ox⟩:=o2;cases c1;cases d1;cases s1;cases c2;cases d2;cases s2;rw[oneLt'_eq];show IJ wpAny_cRoomFor_or (CY hu);refine z6 (wpAny_callSpecialIfBound?_slot (T:= "list") (G1 e1) F.slot_list_lt (call_meets F.slot_list_lt (G1 e1) F.entry_list_lt (F.args_list_lt_2 _ _) (z9g a b its its2 n n2 none none slots Ox x y t u z1 z2 hxy) ⟨e1,e2,?_⟩));exact wpAny_truthy_bool h
theorem JN.up(q:JN h v x)(k:cn h.get? sv):JN h' v x:=by
 obtain⟨a,its,t,e,p,z⟩:=q;exact⟨a,its,t,e,p.keeps k,z⟩
theorem JN.looks(q:JN h v x):W.Looks M h (typeOf v) (Kk "list"):=by
 obtain⟨a,its,t,rfl,⟨o,n,e,c,_,_⟩,_⟩:=q;intro A Q E s k hQ;exact wpAny_typeOf_ref (k _ _ e) (B2 c hQ)
theorem yek(hl:AS9 vs.length)(nd:xs.Nodup)(hu:Amo):
  BBa (LZ (∀i,vT ->JN h (vs.getD i Value.none) AW7)) :=by
 show BO (fun s Q hT h2 hQ=>W.kas_kind (T:= ABo) h2 (OZ hv ?_) Δ Δ hQ) (fun s i j C hT hi hj hij hC=> ?_)
 ·show xn k hk hv;have:=hT k ψ
  show AJ (El hk);exact this.looks
 ·unfold W.kas_ask;rw[keyLt'_oneType];refine yaj (hT i ψ) (hT j ψ) ?_ hu hC
  show AOe nd;rw[El ψ,El ψ]
  show Aj9 hij
  ·exact key i j ψ ψ q
  ·exact Ξ (key j i ψ ψ q z.symm)
def gl(g:Β):D:= .lst (g.map .str)
def hdS(g:Β):Str:=g.headD Str.empty
theorem yl0(I:Ι)(sF:g_)(r:Rep X.K F (gl g) v)(ru:LW)(hg:g≠ []):JN s.heap u (hdS g):=by
 show Cb a vs hq rs r;cases ru;show APZ;cases g with
 | nil=>show ŭ hg
 | cons x g=>
  show Cb w us rfl rs rs;cases rv with
  | cons r0 rr=>
   show L_ r0;exact⟨a,_,t,rfl,pl,BH hdS⟩
def z6i:MO:=Ĺ (∃gs:ID,xs=gs.map gl/\ (∀g∈gs,g≠ [])/\ me gs.map hdS/\gs.length<64/\
   ∀ms:ID,ms.Perm gs ->ms.Pairwise (se AqD) ->AKR gl)
theorem yki(hu:X.A.units+21<cLine):kl "sorted" (Eh X.K z6i):=by
 rintro pins s σ H xs us Q I r ⟨F,ds,P,sF,rs,h,k⟩;show Bi z6i;show C5
 ·show i4;obtain⟨gs,rfl,hne,nd,h64,h⟩:=h;show M';cases rx;show APZ;show Ps;have hl2:=jO rs;show ACQ hl2;show AG' 64
  have hT:∀i,i< Ay5 ->JN s.heap (its.getD i Value.none) (Acn (gs.map hdS).getD):=fun i hi=>by
   show ACQ hi;obtain⟨v,e1,r1⟩:=KA (wA rs) i d (gl gs[i]) (AF_ SU)
   show BD u e2 r2 rv.get e1;show AdS e2 (Az3 hi) List.getElem_map
   exact yl0 I sF r1 r2 (hne _ (yX hi))
  have hup:∀x o,AuH ->C9 ((s.heap.push (seqObj "list" #[] 0)).update s.heap.objs.size (Obj.mapSeq (· ++its.toArray))).get? o:=fun x o e=>by
   show AYp;exact Eq.trans (AFN (zL hlt)) (z8 _ e)
  refine zkv (collect_list (vs:=its) pl.isList ?_ ψ)
  refine⟨Ow (gs.map hdS),_,_,Ο (AlT (its.length=Ay5)) (zxf nd),Α,yek (by show EK;omega) nd (AeK (ABm (X.A.units+1))),fun h2 k2 i hi=>(hT i hi).up fun b o e=>k2 b o (W_ hup),fun l h' is e hle a1 a2 hl' yR=> ?_⟩
  have hsz:s.heap.objs.size<=l:=zP (Nat.le_succ _) (zP (Nat.le_of_eq (Nw (Heap.size_update ..).trans (size_push' ..))) hle);show D7 hix i is (i<its.length) i hi Ao_;have hrv:=zo9 rv (is:=is) (lS Aho)
  have hrs:aM X.K F (APD (gs.map gl)) (APD vs):=zvc rs (lS (by show EK;have:=hix i hi;omega))
  rw[AbQ [] Aho] at hrs
  have hpm:(pick [] gs is).Perm gs:=PH zre (GH gs.length its.length) a1
  have hlen:BM (pick V.non vs is).length:=by
   unfold pick;show Aji a1.length_eq;omega
  have I2:OY l (CO (APD vs)) (WF h' s.toks):=
   AiS (Ast hup) hsz (V_ _ (CO (APD vs)) ⟨hlen,_,e,hrv,hl'⟩)
  refine GE LS I2 (k _ _ l hrs (ARz hsz) (h _ hpm ?_));have hp:=zs1 a2;rw[AbQ [] Aho] at hp
  exact List.pairwise_map.mp hp
 ·show EO
#print L3
namespace L3
open PySem PySem.Spec PyProof.Rows L2
open PySem.AutoSeq1 (wpAny_loadPart')
theorem znv(l:Addr)(items:EL)(n:Nat)(b:Addr)(items2:EL)(n2:Nat)(sl:vz)(hc0:AyI items.isEmpty AyA)(hc1:Agg)(hs2:AyA<=sizeLine+1):
  A'K Builtin.«list.extend» (fun _ R s=>(Ao9 none #[] (AIx none (.seq items2 n2) sl) Value.none (WF (s.heap.update l (Obj.mapSeq (US (x++items2)))) s.toks))):=
 BHs (by
  show y8;show An';have f1:=AutoSeq1.idx_int;have f2:=AutoSeq1.sub_tuple_tuple;show AyO;have f4:=AutoSeq1.sub_tuple_list;have f5:=AutoSeq1.sub_list_tuple;have hz' :(items++items2).size<=sizeLine+1:=Ο Array.size_append hs2
  wp_walk using (wpAny_updateSeq hl rfl (hz:=hc1) (_hz' :=hz')),BKf,BKg;exact Of h)
theorem z4j:OwR X "list.extend" ztv:=by
 intro pins s σ F H l vs args xs ds us P Q I hl sF rs ra rv h k;show Bi ztv;show C5
 ·obtain⟨v,_,rfl,⟨b,zs,rfl,hq,rz⟩,rfl⟩:=ra;show BD u rfl ru vals1 rv;cases ru;obtain⟨z,its,n,r,hle,e⟩:=I.lstM hl;obtain⟨its2,r2,⟨o,n2,e2,c2,d2,s2⟩,hz2⟩:=BKE;obtain⟨cls,dict,data,slots⟩:=o;cases c2;cases d2;cases s2;have abQ:=r2.length;have l1:=jO rs;have l2:=jO rz;have hsz:BM AyB:=ATn List.size_toArray List.size_toArray
  have Wk:AyI its.toArray.isEmpty AyB:=XB (z84 hsz) Bool.and_false zK
  refine call_meets PySem.F.slot_list_extend (G1 e) PySem.F.entry_list_extend (PySem.F.args_list_extend_2 _ _)
   (znv l its.toArray n b its2.toArray n2 slots Wk AV8 ψ) ⟨e,e2,?_⟩
  refine GE AF (I.lset (its' :=its++its2) hl e Ψ (r.append r2) ?_) (k _ _ (Lj rs rz) h.2)
  rw[List.length_append];omega
 ·show EO
def zw0:MO:=ACI [.dic ks _] (P (ks.map nJ))
theorem zfw:∀{xs:Ζ} {us:Τ},Aus ->(∀(i:Nat) (x:V) (u:Value),TM ->B8 us u ->uj) ->Rc
 | [],[],_,_=> B_
 | [],BY,h,_=>Bn
 | BY,[],h,_=>Bn
 | Lu,u::us,h,k=> .cons (k 0 x u rfl rfl) (zfw AT0 fun i y w e1 e2=>k BS y w (Bz e1) (Bz e2))
theorem Oz:∀{kvs:XY} {ws:AJ1} {i:Nat} {p:κ×Value},Ain ->B8 ws p ->∃v,B8 kvs (A2,v)/\RelV v p.2
 | _,_,_,_,B_,e=>AMe
 | _,_,0,p,Nl (a:=q) h _,e=>by
  simp at e;subst e;show AOZ h;exact⟨q.2,by rw[<- h1];rfl,h2⟩
 | _,_,BQ,p,Nl _ r,e=>by
  show A4 v e1 e2 (n_ Oz) r ŝ
  exact⟨v,A0 e1,e2⟩
theorem RT:∀{ks:ZN} {vs:Ζ} {i:Nat} {k:κ} {v:V},B8 r_ (k,v) ->B8 ks k/\AGB:=fun{ks vs i k v} e=>by
 rw[List.getElem?_zip_eq_some] at e;exact e
theorem ygb(z_):Aja (Eh X.K zw0):=by
 rintro pins s σ H xs us Q I r ⟨F,ds,P,sF,rs,h,k⟩;show Bi zw0;show C5
 ·rename_i ks ds';obtain⟨v,_,rfl,⟨a,vs,rfl,hq,hkl,rs⟩,rfl⟩:=rs;show M';cases rx;obtain⟨hz,hsm,ws,kv,hd⟩:=Zv I.hok (sF _ _ hq);show MH ob es ep hd hd;have hm:AvA:=⟨ob,es,hd⟩;have RV:BN ks.zip vs=ws.length:=kv.length;have hlk:ks.length=ws.length:=by rw[<- RV,List.length_zip,<- hkl,Nat.min_self]
  rw[RV] at hz;refine W.kdl_call (Asw W.kdl_dict hsm) SY hm hz fun h' tk acc c hold hg hac=> ?_;have hv:Vals (ks.map kV) acc.toList:=by
   show AsM (by show å Array.length_toList;exact hlk.trans (hac.1).symm)
   obtain⟨k,w,e3,e4⟩:=hac.2 i u A0H
   obtain⟨v5,e5,_⟩:=Oz kv e3;have e5:=(RT e5).1;show AQY e5 e1;cases e1;rcases CZ e4 with ⟨j,t,rfl,rfl⟩ | ⟨x,t,rfl,rfl⟩
   ·exact ft
   ·exact ft
  have I2:ġ (CO Aiq) Ty:=
   xk I.laid hold D4 (V_ _ (CO Aiq) (A'G ALV))
  exact GE X2 I2 (k _ _ _ (U8 ks) ĺ h)
 ·show EO
#print L3
namespace L3
open PySem PySem.Spec PyProof.Rows L2
theorem z20(I:Ι)(e:AFf)(ho:Aij):OY a dL s:=by
 have ne:Th xB (Abb) He:=fun b u q n z=>by rw[z,e] at q;cases q;exact n _ rfl
 refine ApU s.toks ⟨fun _ _ q _ _ _=>q,A3k,DL b ob q n _,Aoa (Ĭ ob),AkD,A5d,LL ps (Ev #[])⟩ aS
 show JE (Ķ (by rw[z,e] at n;cases n)) n
 show JE Aob q
 show JE Aob q
 ·rw[Aob];simpa using q
 ·show N_
  ·subst hb;rw[gb] at q;cases q;show CS ho;exact(ABw H s.heap b Kt (d4 b e))
  ·rw[X9] at q;exact Ħ I.hok q (qk z z) (MV z A7q) (pk z A7q)
def Itw(BGq):It:=A__ (H' =H/\∃k,B8 kvs (k,x))
theorem zmx(I:Ι)(e:AdY)(OD:BLt):∃ws,Ain/\AvA:=by
 obtain⟨ho,_,_,ws,kv,o',es,ep',h1,h2,h3,h4⟩:=(ABw H s.heap a dL (d4 a e));rw[ho] at h1;cases h1;obtain⟨es',h5⟩:=OD;rw[h3] at h5;cases h5;exact⟨ws,kv,o,es,ho,h2,h3,h4⟩
theorem z4v(AEd){tg:Expr}(a it:Addr)(BI6):AOV AwB (h.IsValIter it a i kvs.length ep) where
 mem:=A1
 obj:=AHD (by
  show AGS
  show Abe;exact AM3)
 keep:=Aoi
 item:=by
  intro X hP hw hK hc i pins s σ H E I hf st hg;show NA;show AOz;show i6
  show AbT;show AMI;show Aaq;obtain⟨⟨k,u⟩,hw⟩:∃p,B8 ws p:=AyM
  show A4 v hv rv Oz kv hw;refine wpAny_pyNext_values_item st hd hw (SK hit' sb);have I1:AKI:=AZ8;show MH o' e c d hit';exact NL u (Uk (s:=MA) e c d Δ ⟨v,H,I1,rv,⟨rfl,k,hv⟩,Ο hl hit',ASg⟩)
 done:=by
  intro X hP hw hK hc i pins s σ H E I hf st hg;show NA;show AOz;show i6
  show AbT;show AMI;show Aaq;exact wpAny_pyNext_values_end SY st hd (List.getElem?_eq_none hx) AO5
 self:=AYj wpAny_pyIter_valiter
def Wl(te:TE):TI:=A1H (Axd (AIz ->∀o,R AwB Aik))
theorem z5m(he:VO)(hbase:YO "values":=by rfl)(hline:k_:=by rfl):
  nX ARB (Wl te):=by
 show oy;refine wpAny_Call_method0_late hbase hline (NJ iN v hq1);obtain⟨x,H1,I1,r1,a,kvs,ex,ea,q⟩:=hq1;subst ex;show kD v r1;show Asx (.inl ea);show BBf;obtain⟨hz,_,ws,kv,dd⟩:=AXY Zv;refine call_meetsIn PySem.F.slot_dict_values hT PySem.F.entry_dict_values (PySem.F.args_dict_values_1 _) (meets_dict_values ACh a hsm) (Ev ⟨ws,dd⟩);obtain⟨o,es,ep,h1,h2,h3,h4⟩:=id dd;have hm:AX4:=ArN h1;have I2:=z20 I1 ea h1;show A6m;have I3:OL Aik (Ð s1 (BLg "dict_values") s1.toks):=I2.kept di;refine wpAny_pyIter_values vw Agl ?_;refine⟨_,[A3e],_,_,_,rfl,AcN I3.kept di,z4v a _ o kvs ep ⟨es,h3⟩,?_,HG,q hz o⟩
 ·rw[kv.length];exact UO
 ·show Db (b=A3e) AII
  exact I3.fpOk D4 (I3.hok.fresh D4)
section
variable{K:W.Frag}{F0 H0 F H:Hp}{σ:St}{Γ:wn}
theorem SR.chg(R:ED)(h2:xD)(h3:Zp)(ap:yv):br F AGb:=by
 show CU ⟨R.gr.f,aS,aS,pM (R.gr.n b o q n)⟩ R.len A0P R.ap
 show JE (AIb h2) (R.g b u q)
 ·rw[AIb h3];exact R.gr.h b u q
 ·show Abu (R.sl j s' q) A9c He (ap j BFY) q'
#where
theorem ya8(BJQ):ANi (Itw a o r_) xs:=by
 have hl:=jO rs;show BHP vs.length
 show BO Α (fun i H2 F2 s2 s3 _=>(ß q Aa_ (AD d hd)))
 show AOK hd;show AiP (KI hv);show BO Aa_ (Κ y H' z)
 obtain⟨rfl,k,z⟩:=z;have:=(RT z).2;show AJ hv;show DC;exact ArL
def z0d(tn:qg):cN:=L8 tn t (i' t AXJ (P (lB ts) Γ1))
section
variable{X:Cx}{F0 H0:Hp}{e tg:Expr}{apos cpos:Pos}{tn:qg}
open Classical in
theorem z4d(he:AAn)(hbase:YO "values":=by rfl)(hline:k_:=by rfl):
  ACd QI ARB (z0d tn):=ASA (A9l z5m) (AfX (fun t Γ1 F1 H1 v as R1 s1 nd hn r h1=>by
  show SH
  ·rename_i ks ts;show AHy;refine aE a ea (AD hz o);have nab:a∉bs:=ļ;have sF:Wp (AQa AWa AYU):=FA (by
    show AHO AWa AYU;rw[F9 (Ξ (AV5 (ut List.mem_cons_self))),A'h hb]
    exact e)
   have R2:=BGS R1.chg (.frz o kR) sF (ER) Axp
   ·refine k _ Γ1 _ _ _ R2 AVB (ya8 ?_ hkl (eZ.rep sF ts vs bs (fun c hc u hu=> ?_) r) hz) h1
    ·show eC
    ·rw[F9 (show¬c=a from AEy nab hc),A_ hc];exact hu
   ·show Sc (AHO AWa AYU);show N_
    ·subst hb;rw[B4] at e';rw[gb];exact e'
    ·show BGm R1.g
   ·show Sc (AHO AWa AYU);show N_
    ·subst hb;exact(hn b zY).2
    ·show BGv
  ·show gf))
#where
theorem JQ{K:W.Frag}{F:Hp}{k:Key}{v:V}(h:Rep K F (nJ k) v):v=kV k:=by
 cases k with
 | inl i=>exact h
 | inr x=>exact h
theorem zxk(h:eJ)(k:Key):(nj r_ k).isSome=AXr:=by
 unfold nj mq;rw[Option.isSome_map];induction ks generalizing vs with
 | nil=>rfl
 | cons k' ks ih=>
  cases vs with
  | nil=>cases h
  | cons v vs=>
   rw[List.zip_cons_cons,List.find?_cons,List.any_cons];show Hc k' k
   ·simp [q]
   ·simp only [q,decide_false,Bool.false_or];exact ih (Bz h)
theorem ykb{ks:De}{vs:Ζ}{k:Key}{v:V}{q:Nat}(nd:ks.Nodup)(h1:dc ks k)(h2:dc vs v):BGs:=by
 unfold nj;induction ks generalizing vs q with
 | nil=>simp at h1
 | cons k' ks ih=>
  cases vs with
  | nil=>simp at h2
  | cons u vs=>
   show AvD;cases q with
   | zero=>
    have e1:k' =k:=A0 h1
    have e2:u=v:=A0 h2
    simp [e1,e2]
   | succ q=>
    have hm:AXR:=yZ w_
    have ne:k' ≠k:=Ξ (s_ ļ hm);simp only [ne,decide_false];exact ih AZc w_ AFI
def Wm(i:Nat)(tk:cg):TT2:=L8 tk kd (∃k as ks ts,kd=nJ k/\AoE/\DM (! AXr))
def Wn(i j:Nat)(tn:qg):aH:=XZ tn t (∃k as ks ts,AnZ/\AoE/\mq ks k=false/\tJ ks.length/\∀cs,ANa (.tr Ak0 (.dic (ks++ [k]) Aeq)))
def Wo(i j l:Nat)(tv:cg):aH:=XZ tv d (∃k k2 as ks ts q OJ xs,AnZ/\EH Γ1 l (.pu (nJ k2))/\AoE/\ks.Nodup/\dc ks k/\
 dc ts (.dic OJ AMd)/\tJ OJ.length/\ANa (Ad1 BDn))
section
variable{X:Cx}{F0 H0:Hp}{ke value:Expr}{pos npos yS Mj pos' pos2:Pos}{x y w:Str}{i j l:Nat}{tk tv:cg}{tn:qg}
theorem yiy(hu:SB)(hk:CA ke tk)(hN:E_)(hv:Nc)(hd:As x "__debug__":=by decide)(hcd:As x "__classdict__":=by decide)
  (hb:behindInMarks Ō IC=false:=by show AQM):
  Tu (.Compare ke [Ō] [.Name x npos] pos) (Wm i tk):=fun z E cx=>
 Rk (Be z7z (Be zu5 hu Agp VW) hb) (Do σ H Q hq1 P hq1 (JP (fun kd Γ1 F1 H1 v R1 s1 rk hq2=>by
  obtain⟨kk,as,ks,ts,e1,e2,h1⟩:=hq2;subst e1;have ev:=JQ rk;subst ev;show ApS;show AHy;refine⟨AI,e3,a,_,rfl,BCl,_,rfl,?_⟩;rw[zxk hkl];exact Os R1 s1 h1)))
theorem yja(hu:SB)(hN:E_)(hv:Nc)(Wq:AOo)(hv2:Ao7)(hval:Az4)(hs:ANL IC AeX:=by rfl)
  (hd:As x "__debug__":=by decide) (hcd:As x "__classdict__":=by decide) (hd2:As y "__debug__":=by decide) (HD:As y "__classdict__":=by decide):
  AKp (ACu IC AeX) (Wn i j tn):=fun z E cx=>
 ud (AOv Zw VW Asd hval hs) (Do Dn σ H Bx D2 Bx (JP (fun t Γ1 F1 H1 v cs R1 s1 ndc hnc rt xO=>by
  obtain⟨kk,as,ks,ts,e1,e2,hh,hl,q⟩:=xO;show ApS;obtain⟨o2,e4,w2,rfl,rk⟩:=R1.sl j _ e1;have ev:=JQ rk;subst ev;show AHy;refine⟨AI,e3,kV kk,e4,a,_,rfl,BAz,?_⟩
  show KS own (ASD A9_) ⟨_,_,e2,e3,hb⟩;have dis:ASD (b∉cs):=FF hb hc ((hnc b hc).2.2 i (own b hb));have nab:a∉bs:=ļ;rw[zs7 hkl];unfold jx fP;rw[F9 (AFm hh),F9 (AFm hh)]
  refine G_ (R1.wrT e2 e3 (Ch (gq (Slot.tr j_ (.dic ks ts)) kM a) zY) (t:= .tr (ø++cs) (.dic (ks++ [kk]) Aeq)) ⟨_,rfl,?_,HG,?_⟩ HG) s1 (q cs)
  ·exact List.nodup_append.mpr (A7K nd)
  ·show ABU
   ·exact AUY
   ·exact⟨K_ hnc,ADj hnc⟩
  ·show LU a (vs++ [v]) AY6 rfl rfl gb (BH hkl)
   have m:=ApD AzC (Aj5 (AEy nab hb))
   have l:=Adv TR.move AzC GA t v cs (Aj5 (Ξ (dis a List.mem_cons_self (z ▸ hb)))) rt
   exact Wc m (Wd l)
  ·show ABU
   ·show B3 hb
   ·show DJ (AE' hnc))))
theorem yik(hu:SB)(hN:E_)(hv:Nc)(Wq:AOo)(hv2:Ao7)(hN3:EH X.N l w)(hv3:qO X.env.scope w)(hval:AnC)
  (hs:ANL A9m (FE w Mj):=by rfl)
  (hd:As x "__debug__":=by decide) (hcd:As x "__classdict__":=by decide) (hd2:As y "__debug__":=by decide) (HD:As y "__classdict__":=by decide)
  (hd3:As w "__debug__":=by decide) (abu:As w "__classdict__":=by decide) (hns:J7 (.Name y yS):=by exact AUp):
  AKp (ACu A9m (FE w Mj)) (Wo i j l tv):=fun z E cx=>
 ud (AOv Zw (Be z26 hu VW Asd hns) (J_ tH i l hN3 hv3 hd3 abu) hval hs) (Do Dn σ H JF D2 JF (AWs N6 (by
  obtain⟨kk,k2,as,ks,ts,q,OJ,xs,e1,e1',e2,ndk,hq,ht,hl,hnx⟩:=N6;show ApS;obtain⟨o2,e4,w2,rfl,rk⟩:=R1.sl j _ e1;obtain⟨o3,e5,w3,rfl,rk2⟩:=R1.sl l _ e1';have ev:=JQ rk;subst ev;have ev:=JQ rk2;subst ev;show AHy;obtain⟨u,b1,bs',b2,hu',hbs,rc,back⟩:=ycy r ht;subst hbs;obtain⟨c,us,ds,rfl,rfl,ec,O1,rc⟩:=rc;show Aa0 rc;have nab:a∉AJd [c]:=ļ;have nd2:=AZc;have hac:a≠c:=Ξ (nab (Fs z))
  have hc1:IQ (b1++b2) (b≠c):=FF hb z (by
   subst z;show Ayj nd2;show ABU
   ·exact BGn
   ·have:=AIk p.2.1;exact this hb)
  have gd:pU H1 a (kV kk) (A9 (AG c)):=è BCl (ykb ndk hq hu')
  refine⟨AI,e3,kV kk,e4,a,ATa,rfl,gd,kV k2,e5,c,_,rfl,yG.k (k:=k2) ec (by show AJ6 O1;exact hl),?_⟩
  rw[zs7 O1];refine G_ (R1.wrT e2 e3 (Ch (gq (Slot.tr (a::(ŉ [c])) (.dic ks ts)) kM c) A8P) (t:= .tr (a::(ŉ [c])) (.dic ks BDn)) ⟨_,rfl,nd,hn,?_⟩ AUe) s1 hnx
  show LU a vs (AJd [c]) rfl rfl (ŵ hac ea) hkl
  refine back GA (Ĥ (Qr (bG (hc1 b hb)))) ?_
  exact A6i O1)))
#where
abbrev O2:=T ->Ε ->BI (BI T D) (BI T XV)
def jc(as:AR)(H:Hp):Hp:=UR (ARy Y2 (H b))
theorem z36:gu (jc as H):=FA (by
 show N4 jc;split at e
 ·cases e
 ·exact e)
theorem ztu(h:Y2):jc as H b=none:=Ŧ jc Œ
theorem z8a(h:b∉as):jc as H b=H b:=Ŧ jc wt
theorem TR.root(zD):∀{t:T} {v:V} {a:Addr} {cs:AR},Aa4 AJS ->eI
 | .leaf _,_,_,_,h=>dQ h.1
 | g6,_,_,_,h=>AsL
 | xh,_,_,_,h=>AsL
 | xi,_,_,_,h=>AsL
 | .ob _ _ _,_,_,_,h=>by obtain⟨b,_,_,_,rfl,e,_⟩:=h;cases (e);rfl
 | Š,_,_,_,h=>dQ h.1
inductive HF (Ao6 O2):Prop
 | mk:∀F a bs t ds rest P Ex,(vs=V.ref a::rest) ->Φ ADc (AiB) ((P8 ø kF)) (TR K F H t B9 j_) (EC (aM K F ds rest) (sp t ds P Ex) ((∀t' d v cs F' H',AZh AAu ->(AJS).Nodup ->Φ Azf A5T Y' (P t' d) l')) (∀x C dx t' cs F' H',AZh AAu ->(AJS).Nodup ->Φ Azf A5T (A0g AAu) (Ex t' x) APS) (AEZ HF))
def Dm(K:W.Frag)(sp:O2):Sp:=AOu (AEZ HF)
def startM(n:Nat)(s:Slot)(ds:Ε):G2:=s::(ds.map .pu++ALD (n - 1 - ds.length) B1)
theorem z72(A'l){a:Addr}{bs:AR}{t:T}{ds:Ε}{vs:Ζ}(h:gu F0)(nd:AiB)(hn:ASD (Ki F0))(rt:TR K F0 H t B9 j_)(r:A8G):
  SR K F0 AAu F0 H (L2.start N (AI::vs)) AmX:=by
 have hl:=jO r;have slot:∀(i:Nat) s,B8 AmX s ->∃o,B8 (L2.start N (V.ref a::vs)) o/\oZ K F0 H AAu s o/\ (i≠0 ->∀o c,¬gq s o c):=fun i s e=>by
  show N4 startM;unfold L2.start;cases i with
  | zero=>cases e;exact IN rfl ⟨_,rfl,nd,ċ AUY (ztu hb),rt⟩ (Ξ (NH rfl z))
  | succ i=>
   simp only [List.getElem?_cons_succ] at e;simp only [List.map_cons,List.cons_append,List.getElem?_cons_succ];show Ajc
   ·show AJZ List.getElem?_append_left List.getElem?_map
    cases q:ds[i]? with
    | none=>show ia
    | some d=>
     show QU;cases e;show A4 v e1 r1 wA r q;show CU Ğ ?_ (xl r1) (fun _ _ _ z=>z);rw[List.getElem?_append_left (by show ASS;exact hi),List.getElem?_map,e1];rfl
   ·show AWn List.getElem?_append_right
    split at e
    ·cases e;rename_i hlt;show AgB hlt;show CU none ?_ trivial (fun _ _ _ z=>z);show A4V (if_pos (by simp only [List.length_map,List.length_cons];omega))
    ·cases e
 show CU (qi h z36) (by simp [L2.start,startM,hl];omega) (Q3 i s) (DL i j c ⟨s,o,e,_,hs⟩ ⟨s',o',e',_,hs'⟩)
 ·obtain⟨o,h1,h2,_⟩:=slot i s e;exact⟨o,h1,h2⟩
 ·by_cases hi:i=0
  ·by_cases hj:j=0
   ·rw[hi,hj]
   ·obtain⟨_,_,_,h3⟩:=slot j s' e';exact(h3 hj _ _ hs').elim
  ·obtain⟨_,_,_,h3⟩:=slot i s e;exact(h3 hi _ _ hs).elim
abbrev O3(a:Addr)(Q:BI T D):pW:={nx:=fun Γ=>(Arm (Q t' AF)),rt:=XT,rm:=fun d Γ=>(Arm (Q t' d))}
abbrev O4(a:Addr)(Ex:BI T XV):XW:=fun Γ C=>(Arm (Ex t' C))
section
variable{P:Program}{w:World}{K:W.Frag}{mg:B7}{base:Heap}
theorem abv{x qual p0:Str}{st:Stmt}{f:Addr}{fd:FuncData}{N ps:Β}{k:Nat}{sp:O2}(Fn:Â)(S:AG_ (p0::ps))(len:∀t ds Q E,sp t ds Q E ->BKB)
  (hbody:AHz (∀F0 H0:Hp,
   ∃tt,qP S_ F0 H0 ú tt/\∀a bs t ds Q Ex,sp t ds Q Ex ->tt (O3 a Q) AmX AnX)):
  K0 fG NE FR f fd (p0::ps) (Dm K sp):=by
 show AAr;refine Q7 lk hcd S (fun vs H Q E hh=>by
  obtain⟨F,a,bs,t,ds,rest,P',Ex,ev,_,_,_,_,rs,hs,_⟩:=hh;show Apv ev (kT len hs)) fun A outer s H vs Q E hr hh=> ?_
 obtain⟨F0,a,bs,t,ds,rest,Pd,Ex,ev,sF,nd,hn,rt,rs,hsp,hQ,hE⟩:=hh;subst ev;obtain⟨tt,ht,hq⟩:=hbody cdv A outer s H E hr F0 AAu;have cx:Ctx BKG F0 AAu AnX:=by
  show AH0;show AH1;obtain⟨Γ',F',x,R',_,xr,_,⟨cs,t',e0,z1⟩⟩:=z;obtain⟨o,e1,v,rfl,nd',hn',Ml⟩:=Ap1;have hv:=Ml.root;subst hv;exact hE x C dx t' cs F' H' R'.gr nd' hn' Ml (xr.back R.gr.h) z1
 refine⟨_,ht _ _ cx,F0,startM N.length Ads ds,O3 a Pd,z72 sF nd hn rt rs,hq a bs t ds Pd Ex hsp,⟨fun Γ F' H' σ R' _ A9s=> ?_,x6,x6,BL_ q.elim,t7,BKd,fun d v Γ F' H' σ R' rv A9s=> ?_⟩⟩
 ·obtain⟨o,e1,v,rfl,nd',hn',Ml⟩:=Ap1;have hv:=Ml.root;subst hv;exact hQ t' AF AF cs F' H' R'.gr nd' hn' Ml IP q
 ·obtain⟨o,e1,u,rfl,nd',hn',Ml⟩:=Ap1;have hv:=Ml.root;subst hv;exact hQ t' d v cs F' H' R'.gr nd' hn' Ml rv q
#where
def qj(h:Heap)(d:Addr)(es:ALs)(ep:Nat):Prop:=∃o,xI d/\o.ExactDict/\AjT
theorem qj.at(x:AWF)(k:∀o,xI d ->tj d):AQL h':=let ⟨o,e,r⟩:=x;Sn (k o e) r
theorem qj.lt(x:AWF):d<h.objs.size:=let ⟨_,e,_⟩:=x;Iy
theorem qj.typeIs{s:Shared}{d:Addr}{es:ALs}{ep:Nat}(x:AM8):AlV (AG d) :=let ⟨o,e,c,_⟩:=x;Č c.1
section
variable{prog:Program}{w:World}{A:Around}{E:dh}{s:Shared}{d it:Addr}{es:ALs}{ep i:Nat}
theorem ybz{Q:dh}(hd:AcK d)(hm:AM8)
  (hQ:ANb (NN "dict_keyiterator" #[.ref d,vt,c_ es.size,c_ ep])):AVb d:=by
 show MH o ho hc hdat hm;have hT:=hm.typeIs;refine wpAny_pyIter_slot hT PySem.F.slot_dict_iter (ACr PySem.F.slot_dict_iter hT PySem.F.entry_dict_iter PySem.F.args_dict_iter_1);unfold Builtin.«dict.__iter__»;show KO;show IJ wpAny_notOrdered_dict hT;refine z7 ?_;show AGd (Builtin.Dict.showsAll d);unfold Builtin.Dict.showsAll;rw[F9 (BKM hd)]
 show iO;show MC wpAny_dictEntries ho hdat;show MC wpAny_dictEpoch ho hdat;show D3 wpAny_newObj_type (z7 ⟨_,rfl,"dict_keyiterator",_,AJt,PySem.F.slot_dict_keyiterator_next.lookup,?_⟩)
 simpa [rawInt] using hQ
theorem z90(hit:A3s)(hm:AM8)(hlt:Ac0)
  (hQ:tz (AwF h'.IsKeyIter) AwD (Q (some es[i].key) MA)):AAX it:=by
 show MH o ho hc hd hit;show MH od hod hcd hdd hm;show AUC (AlO hit.typeIs PySem.F.slot_dict_keyiterator_next PySem.F.slot_dict_keyiterator_next hit.typeIs PySem.F.entry_dict_keyiterator_next PySem.F.args_dict_keyiterator_next_1)
 show iO;show KO;show KO;show AaT;show MC wpAny_fieldsOf ho hd;have hown:Builtin.Dict_items.ownsTuple "dict_keyiterator" =false:=AQ
 show ACe (zh AXk);show AZ2 AXk;show iO;show AwJ;show AFR
 show iO;show AwK;show AFR
 refine z7 ?_;show BGD At9
 show KO;show AaT;show IJ wpAny_isOneOf_keyiter hit.typeIs;show AGd (ASp ua 1 (Ic+1));refine z6 (wpAny_setField ho hd Ψ ?_)
 have hit' :AwF (s.heap.update it (Obj.mapFields (·.setIfInBounds 1 (rawInt ((i:Int)+1))))).IsKeyIter:=
  Ape
 show KB wpAny_holding;refine z6 (wpAny_isOneOf_keyiter (s:={s with heap:=s.heap.update it (Obj.mapFields (·.setIfInBounds 1 (rawInt ((i:Int)+1))))}) hit'.typeIs ?_);exact z7 (z7 (Of (z7 (hQ _ hit' AeZ))))
theorem yhd(hh:JI)(hit:A3s)(hm:AM8)(hge:es.size<=i)
  (hQ:AW5 AwE):AAX it:=by
 show MH o ho hc hd hit;show MH od hod hcd hdd hm;show AUC (AlO hit.typeIs PySem.F.slot_dict_keyiterator_next PySem.F.slot_dict_keyiterator_next hit.typeIs PySem.F.entry_dict_keyiterator_next PySem.F.args_dict_keyiterator_next_1)
 show iO;show KO;show KO;show AaT;show MC wpAny_fieldsOf ho hd;have hown:Builtin.Dict_items.ownsTuple "dict_keyiterator" =false:=AQ
 show ACe (zh AXk);show AZ2 AXk;show iO;show AwJ;show AFR
 show iO;show AwK;show AFR
 refine z7 ?_;show BGD (Array.getElem?_eq_none hge)
 show KO;show AaT;show AGd (setField ua 0 Ω);refine z6 (wpAny_setField ho hd Ψ ?_)
 show KO;show AXB AEn
 show Arv
 show AXc AEn
 show Ahl;show KM AUb hh;show tq z7 wpAny_throw;show MC Arw AJt isSubtype_stop;exact z7 (hQ _ A6H)
theorem z8u(hh:JI)(I d:Addr)(hne:d≠I)(es:ALs)(ep:Nat):
  Walks prog w A I [I,d] [I] es.size Afg (NS h (h.IsKeyIter I d i es.size ep/\AWF)) where
 sub:=A8X
 frame:=fun _ _ _ st hk=>⟨A5c,eL (st.2).at (hk d Ψ o e)⟩
 item:=BIO (z90 fI st.2 hi fun h' hit' hs' =>hQ _ h' s.toks (sD hi) ⟨hit',eL (st.2).at (hs'.extBut d o hne e)⟩ (A3j hs'.extBut))
 done:=fun s Q E st hQ=>yhd hh fI st.2 D4 fun h' he' =>hQ h' s.toks (A3j he')
 self:=fun _ _ _ _ st hQ=>wpAny_pyIter_keyiter fI hQ
theorem zwf{Q:Dx Τ}(hh:JI)(hsm:AcK d)(hm:AM8)(hb:Agi)
  (h:∀(vals:Τ) (h' :Heap) tk,vals=es.toList.map (·.key) ->AyL ->(AYl) ->Q vals Ty):
  ABy collect d:=by
 have K:W.KdlSrc prog w "dict" d d es.size Afg (LZ AWF):={
  type:=GT hm hm.typeIs
  there:=GT hm ⟨hm.lt,hm.lt⟩
  keep:=fun _ _ hm hk=>(eL hm.at (hk d NR o e))
  notList:=AQ
  notTuple:=AQ
  hint:=fun _ _ _ _ hm hq=>W.kdl_hint_dict hm.typeIs hq
  iter:=fun _ _ hh hm=>⟨_,_,(fun _ _ hq=>ybz hsm hm hq),z8u hh _ d (zL hm.lt) es ep,⟨UO,eL hm.at cE⟩⟩}
 have key:AxP "proto.collect" (E6 [.ref d]) (ACZ BJn):=by
  refine codeAny_builtin PySem.F.entry_proto_collect ?_;show Aup;show A8x;show A6M;show Auq;have hm1:AQL (s.heap.push jw):=eL hm.at cE;have hSl:=hm.lt;show Aqr jw jw;exact W.kdl_extend (s:=AJA jw) (R:=fun r s' =>BJn) K hh hm1 s.heap.objs.size (wc hSl) (wc hSl) fN 0 hS (fun h' tk acc c' hold hS' hacc=>⟨h',tk,acc,c',rfl,rfl,hold,hS',hacc⟩) hb
 show A4u (codeAny_mono key (AJE hq1));obtain⟨h',tk,acc,c',er,es',hold,hS',hacc⟩:=hq1;subst er es';refine NV load (wpAny_load hS' ?_);show ţ;refine h acc.toList h' tk ?_ (zJ hS') (FF ob e (hold b ob AOQ TN));show UU
 ·rw[Array.length_toList,List.length_map,Array.length_toList];exact AK'
 ·intro j q1 q2;have hj:j<acc.size:=A0 q1
  obtain⟨hlt,e⟩:=hacc.2 j acc[j] (Fs hj)
  simp [e]
#where
def wK:Β ->E9 ->Str ->GL T
 | VU,M_,g=>AOj (some t) (wK fs ts g)
 | _,_,_=>none
def uK :Φ Β E9 Str T E9
 | VU,M_,g,t' =>AOj (t' ::ts) (t::uK fs ts g t')
 | _,ts,_,_=>ts
theorem zsa(zD){g:Str}{t:T}:∀{fs:Β} {ts:E9} {vs:Ζ} {bs:AR},A5n ->wK fs ts g=some t ->∃v b1 cs b2,ANz g=some v/\bs=AWp/\Aa4 cs/\
  ∀{F' H' :Hp} {t' :T} {ds:AR},Ct ->Azc ->t_ t' v ds ->AZt (uK fs ts g t') (ŉ ds)
 | [],_,_,_,_,e=>ALE
 | BY,[],_,_,_,e=>ALE
 | VU,t0::ts,_,_,h,e=>by
  show As8;show N4 wK;show Akr;by_cases hg:g=f
  ·rw[A_ hg] at e;cases e;subst hg;refine⟨v,[],a1,a2,A1,rfl,q1,fun{F' H' t' ds} s k r=> ?_⟩
   unfold uK;show eC;exact AXi ds a2 rfl r (eZ.move s ts vs' a2 Au' q2)
  ·rw[AK hg] at e;obtain⟨w,b1,cs,b2,g1,rfl,g3,g4⟩:=zsa q2 e;refine⟨w,a1++b1,cs,b2,BNV hg g1,A1,g3,fun{F' H' t' ds} s k r=> ?_⟩
   unfold uK;show BF hg;exact AXi a1 (AJd ds) A1 (BGg s) (g4 s BG_ r)
section
variable{X:Cx}{F0 H0:Hp}{ke value e:Expr}{es:A5}{pos npos O5 apos cpos pos' x1:Pos}{x f:Str}{C:Addr}{i:Nat}{tk tv:cg}{tf:cN}
theorem yh0(A'k){Γ:G2}{as:AR}{fs:Β}{ts:E9}{t:T}(R:ED)(e0:tP AfL)(hl:AmS t):
  ∃a dx vs v bs b1 cs b2,AVf/\as=ALt/\IM Ah7/\ ANz f=some v/\bs=AWp/\as.Nodup/\ Aez/\Aa4 cs/\
  ∀{F' H' :Hp} {t' :T} {ds:AR},Ct ->(∀c∈a::dx::(b1++b2),∀u,K' c u ->H' c=some u) ->t_ t' v ds ->t_ (.ob C fs (uK fs ts f t')) B9 (a::dx::(ŉ ds)):=by
 obtain⟨o,e1,v,rfl,nd,hn,r⟩:=ANK;obtain⟨a,dx,vs,bs,rfl,rfl,ea,ed,Kr,Wr,r⟩:=r;obtain⟨v,b1,cs,b2,g1,g2,g3,g4⟩:=zsa r hl;refine⟨a,dx,vs,v,bs,b1,cs,b2,e1,rfl,ea,g1,g2,nd,hn,g3,fun{F' H' t' ds} s k rt=> ?_⟩;exact⟨a,dx,vs,_,rfl,rfl,xx a ea,xx dx ed,Kr,Wr,g4 s (MV hc (k c (by simp at hc⊢;exact sq hc))) rt⟩
#where
theorem zrl:Tk fs Β vs Ζ AMS (f∉fs) (nG f y (fs.zip vs)=(AQi).zip (vs++ [y]))
 | [],[],_,_=>rfl
 | [],BY,h,_=>Bn
 | BY,[],h,_=>Bn
 | g::fs,AGC,h,hf=>by
  have hg:g≠f:=fun e=>hf (Fs e)
  rw[List.zip_cons_cons];unfold nG;rw[AK hg,zrl AT0 fun e=>(AtJ hf e)]
  rfl
def wL(C:Addr)(i:Nat)(f:Str)(te:cg):aH:=AXH (BI2 (APQ as Av1))
def BR(C:Addr)(i:Nat)(f:Str)(tn:qg):aH:=XZ tn t (BI2 (∀cs,APQ Ak0 Av0))
section
variable{X:Cx}{F0 H0:Hp}{value e:Expr}{es:A5}{pos npos pos' p:Pos}{x f:Str}{C fa:Addr}{fd:FuncData}{ps:Β}{i k:Nat}{te:cg}{tn:qg}{sp:O2}{t:cN}
theorem z01(hc:vi)(hn:RR)(he:Az4)(hN:E_)(hv:Nc)(hd:As x "__debug__":=by decide)(hcd:As x "__classdict__":=by decide)
  (hs:ASx IC:=by rfl):A_e BR tn:=OI ud (Be z6r VW Lc hs) Dn hq2 hq2 (JP (fun t Γ1 F1 H1 v cs R1 s1 ndc hnc rt Bx=>by
  obtain⟨as,fs,ts,e0,hf,hl,Wr,q⟩:=Bx;obtain⟨o,e1,w,rfl,nd,hn',r⟩:=AWV;obtain⟨a,dx,vs,bs,rfl,rfl,ea,ed,Kr,_,r⟩:=r;refine⟨AI,e1,a,C,dx,_,rfl,ea,hc,hn,A7b,?_⟩
  show KS own (IQ ALt A9_) ⟨_,_,e0,e1,hb⟩;have dis:IQ ALt (b∉cs):=FF hb hc ((hnc b hc).2.2 i (own b hb));show AmF;show ArW;rw[zrl Kr hf];refine G_ (R1.wrT e0 e1 (Ch (Art AhA a) zY) (t:= .tr (ALt++cs) Av0) ⟨_,rfl,?_,HG,?_⟩ HG) s1 (q cs)
  ·exact List.nodup_append.mpr (A7K (Ahf n1 (Ahf n2 n3)))
  ·show ABU
   ·exact hn' b hb
   ·exact⟨K_ hnc,ADj hnc⟩
  ·have na:E5 AQO He:=FF hb z (s_ n1 (zX _ hb));refine⟨a,dx,vs++ [v],AY6,rfl,rfl,gb,?_,BH Kr,Wr,?_⟩
   ·rw[A1V];exact ed
   ·have m:=ApD AZo (Ĥ (Qr (bG (na b hb))))
    have l:=Adv TR.move AZo GA t v cs (Aj5 (Ξ (dis a List.mem_cons_self (z ▸ hb)))) rt
    exact Wc m (Wd l)
  ·show ABU
   ·show B3 hb
   ·show DJ (AE' hnc)))
theorem Ws(hc:vi)(hn:RR)(he:AIA value)(hN:E_)(hv:Nc)(hd:As x "__debug__":=by decide)(hcd:As x "__classdict__":=by decide)
  (hs:ASx IC:=by rfl):A_e wL te:=OI ud (Be z6r VW Lc hs) Dn xO xO (AWs JF (by
  obtain⟨as,fs,ts,e0,hf,hl,Wr,q⟩:=JF;obtain⟨o,e1,w,rfl,nd,hn',r⟩:=AWV;obtain⟨a,dx,vs,bs,rfl,rfl,ea,ed,Kr,_,r⟩:=r;refine⟨AI,e1,a,C,dx,_,rfl,ea,hc,hn,A7b,?_⟩
  have nd0:=nd;show AmF;show ArW;rw[zrl Kr hf];refine G_ (R1.wrT e0 e1 (Ch (Art AhA a) zY) (t:= .tr AhA Av1) ⟨_,rfl,nd0,hn',?_⟩ AUe) s1 q;have na:E5 AQO He:=FF hb z (s_ n1 (zX _ hb));refine⟨a,dx,vs++ [v],bs,rfl,rfl,gb,?_,BH Kr,Wr,?_⟩
  ·rw[A1V];exact ed
  ·have m:=ApD AZo (Ĥ (Qr (bG (na b hb))))
   have l:eZ X.K F1 (WI a AZo) [PY] [v] []:=Wd (A7 (E7 rd))
   have:=Wc m l
   rwa [List.append_nil] at this))
def HJ(C:Addr)(sp:O2)(t:cN):qg:=P4 A'w
structure O6 (Ab1) (base:Heap) (x:Str) (C:Addr) (k:Nat) (ps:Β) (sp:O2):Prop where
 ex:A4J (AGs Dm)
 non:∀ds Q Ex,AwQ Q ->AwQ (fun t d=>d= AF/\Q t d)
theorem yf4(G:O6 X.prog X.w X.K X.mg X.base x C k ps sp)(hr:AAq)(hg:Hk)
  (ha:LX) (hdb:As x "__debug__":=by decide) (YI):
  dE YE (HJ C sp t):=by
 obtain⟨f,fd,Fn,M,hm,hb⟩:=G.ex;rintro z E cx pins s σ H Q I ⟨F,Γ,P,R,h,kk⟩;show Aaz;refine W.callWith_K (h₀:=X.base) I.ok.mod.Jy M.kp (NJ (Abr A'w) us Ed) he hpl;obtain⟨vs,H1,I1,r,F1,Γ1,ds,R1,sF,rs,q⟩:=Ed;show AUh;have I2:=Inv.made (C:=C) I1;have n1:H1 (MB)=none:=AWk;have n2:lr s1.heap.objs.size:=AWj;have ne:s1.heap.objs.size≠MB:=AZj;have kp:xw s1.heap.get? Aze:=GW ALx;show Anr ABO (AmQ n1 n2)
 have hid:jc AyF ABO=H1:=by
  funext b
  by_cases hb1:b=MB
  ·subst hb1;rw[ztu Ψ,n1]
  ·by_cases hb2:b=s1.heap.objs.size
   ·subst hb2;rw[ztu Ψ,n2]
   ·rw[z8a (by simp [hb1,hb2]),bG hb1,AVA]
 have hs:Dm X.K sp A1k ABO AxA (fun C' Mf H' =>∃Γ' F' x,AqA /\Wp F' /\BL2/\ (x.bare=x\/E5 ALm (ABq Γ' b))/\E Γ' x):=by
  refine⟨F1,MB,AEg,.ob C [] [],ds,vs,_,_,rfl,Ajh,BH ne.symm,HG,?_,rs,G.non _ _ _ q,?_,?_⟩
  ·have:ALm:=by
    show ip
    ·exact n1
    ·show UZ hb;exact n2
   exact R1.g.free this
  ·exact⟨_,_,[],[],rfl,rfl,gb,Ajr,rfl,rfl,Ag7⟩
  ·rintro t' d v cs F' H' gr nd hn rt rv ⟨ed,hp⟩;rw[hid] at gr hn;subst ed;exact⟨rv,kk t' Γ1 F' H' _ _ AKm Aeo nd (L9 (AfA ĳ pd pd)) rt hp⟩
  ·intro x C' Mf t' cs F' H' gr nd hn rt xr hE;rw[hid] at gr xr;exact⟨Γ1,F',x,R1.grow gr,gr.f,xr,Am_ R1.apart,hE⟩
 show AJ9 AGH (by
  have e:=AJ7;show Apw AeV e)
 have hbs:=hb (AKK (ARd (W.instObj C s1.heap.objs.size))) AGH I2.kIn AZT
 show z0;show BJR;show ATv (Fn.run _ X.stack _ _ (ALw Acj) AGH _ _ _ AWv Ajf hbs A3_ hs) (AJE hq');cases r with
 | error e=>
  refine cx.pX pins σ Γ1 F1 H1 s1 e s' I1 R1 (Aqa ?_);have u1:Un ic [] H1 AIs s1.heap AZA:=Un.laid AHE D4 n2;have u2:Un ic [] AIs ABO AZA BCS:=Un.laid AHE ApV (by rw[bG ne.symm];exact n1)
  exact u1.trans u2
 | ok V1 =>
  cases V1 with
  | ret u=>
   obtain⟨v,H',I3,rv,ev,q3⟩:=Ax3;subst ev;exact⟨rv,A5m⟩
  | next=>show o5
  | brk=>show o5
  | cont=>show o5
#where
theorem zs3:ASs "proto.unchain" Builtin.«proto.unchain»:=entryFor_of_fast (by kernel_rfl)
section
variable{prog:Program}{w:World}{A:Around}{E:dh}{s:Shared}
theorem zt5(hh:Am1)(ho:Aij)(hd:AOF)(h2:AJ_)(ne:a≠e)(he:s.heap.get? e=some oe)(hde:AJY ws)(hz:2<ws.size)
  (h:ASh (OR (s.heap.update e (Obj.mapFields (·.setIfInBounds 2 (.ref a)))))):ABy (raiseNew (α:=α)) e:=by
 simp only [raiseNew];show Ahl;rw[hh];have hne:(ACT !=Value.ref e)=true:=BH ne
 simp only [hne,if_true];show AFS (wpAny_runValue (codeAny_builtin zs3 ?_));unfold Builtin.«proto.unchain»;show AXv ho h2;show DF Δ
 refine z7 ?_;show D3 z6 (wpAny_load he ?_);rw[hde];show gE (zh (2<ws.size));show DF hz;exact wpAny_update he (wpAny_throw h)
#where
def Mp(i:Nat)(t:qg):aH:=XZ t tr ((BCm tr tr)/\∀a bs,APQ j_ tr)
theorem TR.cons(zD):∀{t:T} {v:V} {as:AR},Ě ->(BCm t t) ->∃a bs,as=ø
 | PY,_,_,_,n=>NG rfl n.1 d
 | .kt d,_,_,_,n=>NG rfl n.2 d
 | g6,_,_,h,_=>Aqz
 | xh,_,_,h,_=>Aqz
 | xi,_,_,h,_=>Aqz
 | .ob _ _ _,_,_,h,_=>by obtain⟨b,_,_,_,_,e,_⟩:=h;exact B5 _ e
theorem yfu{X:Cx}{F0 H0:Hp}{e:Expr}{pos:Pos}{tn:qg}{i:Nat}{x:Str}{pos' :Pos}(hN:X.N.Nodup)(hi:E_)(hx:pS)(he:AAn)(hs:ABV (A9 AFW):=by rfl)
  (hf:qV:=by first | show hZ | show o4):Aai Mp tn:=OI ud (J_ Zk i i hN hi hx Lc hs hf) D hq2 hq2 (AlQ (by
  show BD a bs rfl r1.cons lj;exact G_ (R1.put i (s:= .tr j_ t) BEp fun a ha=>(hn a ha).2.2) s1 (h1.2 a bs)))
structure HN (Ab1) (base:Heap) (C:Addr) (m:Str) (k:Nat) (ps:Β) (sp:tU):Prop where
 ex:BCz (AGs wH)
def BX(C:Addr)(m:Str)(sp:tU)(te:cg):qg:=fh (AAR (C' =C/\AGI/\A9j (Υ t (DM t))))
section
variable{X:Cx}{F0 H0:Hp}{o:Expr}{pos apos:Pos}{m:Str}{C:Addr}{ps:Β}{k:Nat}{sp:tU}{te:cg}
theorem zzt(G:Apg HN)(hc:vi)(hr:t9)(ho:AMP)
  (ht:eval AzP X.env=(do
   let ov<- CH o
   AAj
   let (f,first)<- ABR m pl
   ABX (Ŭ []) AGl):=by rfl):
  dE AzP (BX C m sp te):=by
 obtain⟨fa,fd,Fn,hm,hb⟩:=G.ex;rintro z E cx pins s σ H Q I ⟨F,Γ,P,R,h,kk⟩;refine Aao (NJ (A6p (AAR (C' =C/\AGI/\A9j (QY (DM r)))) (VX (AdK d))) u ⟨x,H1,I1,rx,F1,Γ1,d,R1,sF,rd,q⟩) ht
 cases d with
 | obj C' fs ds=>
  show ApE;have V0:=rd;show Amb;show af;show A6n;refine W.callWith_K0 (first:= LP) I1.kIn hm.kp ?_;have hs:wH X.K sp LP H1 Q BFU:=⟨F1,_,_,_,R1.g,qK V0 IP,q,BHl,fun x C dx F' H' hE gr xr=>⟨x,F',hE,gr,xr⟩⟩
  show AJ9 ([ACT]++ []) (Ο List.append_nil AJ7)
  have hbs:=hb s1 LP I1.kIn hl;show z0;show AG9 (Fn.run X.A X.stack s1 H1 AR' LP LP Q _ hr I1.env0 hbs (AM0 rfl) hs) ANR;cases r with
  | error e=>exact AYu H1 I1 R1 hq
  | ok fl=>
   cases fl with
   | ret u=>exact I1.after hq
   | next=>show VA
   | brk=>show VA
   | cont=>show VA
 | _=>show JY q
#where
def Em:D ->Option (De×Ε)
 | .dic ks xs=>some (ks,xs)
 | AkH=>some (ks,xs)
 | _=>none
def gH:De ->Ε ->Key ->Ř
 | AVj,Lu,k=>GU k' k (some x) (gH ks xs k)
 | _,_,_=>none
theorem Mr(Kb){d:D}{v:V}{ks:De}{xs:Ε}(h:ARZ d)(r:LO):∃a vs,v= AI/\Rd F a kR/\eJ/\Ė:=by
 cases d with
 | dic ks' xs' =>
  cases (h);show js a vs e l rs r;exact gI a vs (.inl e) l rs
 | dik ks' xs' =>
  cases (h);obtain⟨a,o,vs,rfl,e,l,rs⟩:=r;exact gI a vs (.inr (N3 e)) l rs
 | _=>cases h
theorem zo7{K:W.Frag}{F:Hp}{k:Key}:BIl ((∀d,AmJ xs ->AMt BGs)/\ (gH ks xs k=none ->nj r_ k=none))
 | [],xs,vs,_=>by
  show BO (AD d h) AEx;cases h
 | BY,[],vs,r=>by
  subst r;show BO (AD d h) AEx;cases h
 | AVj,Lu,vs,r=>by
  show AON;have ih:=BAO k r2;unfold nj at ih⊢;show AvD;unfold gH;show Hc k' k
  ·show BO (AD d h) AL4
   ·rw[D'] at h;cases h;exact⟨v,AUD,r1⟩
   ·rw[D'] at h;cases h
  ·show BF q;simp only [q,decide_false];exact ih
def Ks:EG:=f_ (∃ks xs k d,C9 Em (ks,xs)/\y=nJ k/\AmJ xs/\P d)
def Ku(neg:Bool):EG:=f_ (∃ks xs k,ARZ y/\x=nJ k/\PP (AY neg (! AXr) AXr))
def Ms(td ty tx:cg):cg:=L8 td d (AqB (mS ty kd (tx Γ2 (fun df Γ3=>∃k,kd=nJ k/\P ((gH ks xs k).getD df) Γ3) E)))
def z0v:M3:=ACI [d] (AqB (NY ks.length))
section
variable{X:Cx}{F0 H0:Hp}{a b o e f:Expr}{pos apos cpos:Pos}{ta tb td ty tx:cg}
theorem z8c(hu:SB)(ha:SD)(hb:ng)(hs:J7 b:=by exact AUp):AVy a b (cB Ks ta tb):=fun z E cx=>
 nO (Be z26 hu DS LT hs) (Do σ H Q DW P DW (APA (by
  obtain⟨ks,xs,kk,d,e1,rfl,hl,hp⟩:=h2;show js c vs ec hkl rs (Mr e1 (r1.up s2));have ev:=JQ r2;subst ev;show A4 v hv rv (zo7 rs).1 d hl;exact IB c v (Afh R2.g hv.symm) (BK9 rv hp))))
theorem ykk(hu:SB)(ha:SD)(hb:ng)(hm:Acl .In):A5J .In false:=fun z E cx=>
 Rk (Be z7z (Be yjg hu DS LT) hm) (Do σ H Q DW P DW (APA (by
  obtain⟨ks,xs,kk,e1,rfl,hp⟩:=h2;show AAw r2;have ev:=JQ r1;subst ev;show Pp c _ rfl AxS _ rfl;rw[zxk hkl];exact BI9)))
theorem yhm(hu:SB)(ho:CA o td)(he:CA e ty)(hf:CA f tx)(m:BI_):CA (jv (jI o "get") [e,f]) (Ms td ty tx):=fun z E cx=>
 nO (AOv z9a (JO ho) Lc hf ⟨m.base,m.few,m.line,m.trees⟩) (Do σ H Q DW P DW (ABg d1 v1 (by
  obtain⟨ks,xs,e1,h1⟩:=h1;show AAw r1;exact⟨c,rfl,.inl (CI AWt),F1,Γ1,_,R1,h1,AJL d2 v2 (AmU (fun d3 Γ3 F3 H3 v3 R3 s3 r3 h3=>by
   show gL kk hp h3;have ev:=JQ r2;subst ev;have q:=BAO kk (rs.up (s2.trans s3));show U_ (Afh (AZI R3.g) rfl);cases el:gH ks xs kk with
   | none=>
    rw[q.2 el];rw[el] at hp;exact k d3 Γ3 F3 H3 v3 R3 AWu r3 hp
   | some d=>
    show A4 v hv rv q.1 d el;rw[hv];rw[el] at hp;exact k d Γ3 F3 H3 v R3 AWu rv hp))⟩)))
theorem ydz:AGK "len" z0v:=by
 rintro pins s σ H xs us Q I r ⟨F,ds,P,sF,rs,h,k⟩;show Bi z0v;show C5
 ·show AJj rd rs;show QP ks xs e1 h;show AAw rd;show M';cases rx;refine ylv I (JD sF ec) fun t s' I' =>⟨.int ks.length,H,I',Ev t,mI⟩
  show AJ6 hkl
 ·show EO
#where
section
variable{X:Cx}
theorem zvb(he:VO)(I:Ι)
  (h0:te σ H Q0) (h:∀v H1,Q0 v H1 ->∃a kvs,v= AI/\Rd H1 a Kt/\∀(s1:Shared) (ws:Ai1) (ep:Nat) (r:Addr),ŗ s1 ->AQe ->Φ AIz Ain AX4 (s1.heap.IsValuesView r a) (FS r s1))
  (hbase:YO "values") (hline:k_):
  Ô (WG ARB) Q:=by
 refine wpAny_Call_method0_late hbase hline (NJ (ON he _ I h0) v hq1);obtain⟨x,H1,I1,r1,q0⟩:=hq1;obtain⟨a,kvs,ex,ea,q⟩:=h x H1 q0;subst ex;show kD v r1;show Asx ea;show BBf;obtain⟨hz,_,ws,kv,dd⟩:=AXY JC;refine call_meetsIn PySem.F.slot_dict_values hT PySem.F.entry_dict_values (PySem.F.args_dict_values_1 _) (meets_dict_values ACh a hsm) (Ev ⟨ws,dd⟩);obtain⟨o,es,ep,h1,h2,h3,h4⟩:=id dd;have hm:AX4:=ArN h1;show A6m;exact q _ ws ep _ (I1.kept di) hsm hz kv Agl vw
theorem z2r{ks:De}{vs:Ζ}{ws:Ai1}{acc:EL}(hkl:eJ)(kv:KV (ks.zip vs) ws)(h1:acc.size=ws.length)(h2:∀(i:Nat) (u:Value),B8 acc u ->∃k,B8 ws (k,u)):Vals vs acc.toList:=by
 show AMI;show A7S hl;show AsM (by show KM (acc.toList.length=acc.size) Array.length_toList;omega)
 obtain⟨k,e3⟩:=h2 i u A0H
 show A4 v e4 r Oz kv e3;have:=(RT e4).2;show AJ e1;show DC;exact r
theorem ybd{e:Expr}{te:TE}{apos cpos pos p:Pos}(hc:C3)(hg:AU0)(hm:AUt)(he:VO)(hb:AGf "list" "list":=by show OM)
  (hbase:YO "values":=by rfl) (Abp):
  PE X A'b (IU te v (∃(a:Addr) (ks:De) (vs:Ζ),v= AI/\Rd H1 a kR/\eJ/\BFG OU)):=by
 show EQ;show Aq9
 show Alc ?_ he2;rw[he2];show Ag9;show BIv;obtain⟨a,ks,vs,ev,ea,hkl,q⟩:=hq;refine⟨a,ks.zip vs,ev,ea,fun s1 ws ep r I1 hsm hz kv hd vw=> ?_⟩;show Ag8;show Amr;refine W.kdl_call (Asw W.kdl_values) (I1.ok.hd hc) Amq ψ fun h' tk acc c hold hg hac=> ?_
 have hv:=z2r hkl kv hac.1 hac.2;have Hq:=hv.length;show A7S hz;have I2:A4h (BJe OU):=
  xk I1.laid hold D4 (V_ _ OU (A'G Α))
 exact A9y AgQ
theorem ygc(hc:C3)(hg:Gl X "sum")(hm:WJ "sum")(he:VO)(hb:bootBuiltins "sum" =some (L7 "sum"):=by show OM)
  (hbase:YO "values":=by rfl) (Abp):
  PE X BEK (IU te v (∃(a:Addr) (ks:De) (ns:An),v= AI/\Rd H1 a (.dK (ks.zip (ns.map T_)))/\ks.length=ns.length/\Q BMd H1)):=by
 show EQ;show Aq9
 refine PyProof.Rows.callWith_builtin1 ?_ he2 rfl;rw[he2];show Ag9;show BIv;obtain⟨a,ks,ns,ev,ea,hkl,q⟩:=hq;refine⟨a,ks.zip (ns.map T_),ev,ea,fun s1 ws ep r I1 hsm hz kv hd vw=> ?_⟩;show Ag8;show Amr;have hlk:ws.length=ns.length:=by rw[<- RV,List.length_zip,List.length_map,<- hkl,Nat.min_self]
 have K:=Asw (P9 W.kdl_values prog X.prog w X.w r r d a);refine call_sum_walkAnyS ?_;obtain⟨oI,St,hit,W,st⟩:=K.iter X.A.in1 s1 (I1.ok.hd hc) Amq;refine hit _ _ ⟨s1.heap.objs.size,_,_,_,_,_,_,Azz,rfl,W.toS,st,HG,Κ i u hu,Κ s' t' hm'⟩
 ·show Af2;show An9
  ·rw[e];exact ALS
  ·show UZ hb;exact Nat.lt_succ_of_lt (K.there _ Amq).2
 ·obtain⟨k,e3⟩:=hu;show A4 v e4 rv Oz kv e3;have e5:=(RT e4).2;show ATE e5;cases en:ns[i]? with
  | none=>show GG en e5 e5
  | some n=>
   rw[en] at e5;cases e5;show uA (Value.int Ak1 t);rw[List.getD_eq_getElem?_getD,en];exact rv
 ·have hk:xw s1.heap.get? s'.heap.get?:=GW (hm'.heap b o (Υ hI (oB zJ e (by show UZ hI;exact yV _))) TN)
  rw[hlk,z4c ns _ (NS _ rfl),Moved.eq_with hm'];exact zm6 (s:=s1) (v:= .int ns.sum) I1 hk D5 q
#where
def BZ(ii):cN:=fh (AqB (DM xs))
def Mt(ii):cg:=fh (∃ks xs ns,ARZ d/\AYS/\DM BMd)
section
variable{X:Cx}{F0 H0:Hp}{e:Expr}{apos cpos pos p:Pos}{te:cg}
theorem zz7(hc:C3)(hg:AU0)(hm:AUt)(he:Pi)
  (hbase:YO "values":=by rfl) (Abp):
  kK A'b (BZ te):=fun z E cx=>
 nO (Be ybd hc hg hm Lc IY hbase hline he2) (yz xO (by
 show Lm xO;refine VX ?_;obtain⟨ks,xs,e1,h1⟩:=h1;show AAw r1;refine⟨c,ks,vs,rfl,AWt,hkl,AVx⟩;obtain⟨R2,q1,q2,q3,ap⟩:=GC R1 hq0 rs;exact A'6 rs))
theorem ygw(hc:C3)(hg:Gl X "sum")(hm:WJ "sum")(he:Pi)
  (hbase:YO "values":=by rfl) (Abp):
  CA BEK (Mt te):=fun z E cx=>
 nO (Be ygc hc hg hm Lc IY hbase hline he2) (yz xO (by
 show Lm xO;refine VX ?_;obtain⟨ks,xs,ns,e1,hns,h1⟩:=h1;show AAw r1;show AmB;exact⟨c,ks,ns,rfl,AWt,BNF hkl,AKx IP⟩))
#where
theorem yj2{K:W.Frag}{F:Hp}(k:Key):Rep K F (nJ k) (kV k):=by
 cases k with
 | inl i=>rfl
 | inr x=>rfl
def Mu(tn:qg):cg:=L8 tn t (i' t pj (DM A7m))
section
variable{K:W.Frag}{F0 H0 F H:Hp}{σ:St}{Γ:wn}
open Classical in
theorem SR.nailU{w:HO}(R:ED)(hn:A_y):
  ∃F',Ct /\br F' (ACX w)/\EE F' w/\ (P8 bs (He ->∀u,xB ->FI F'))/\A8m:=by
 have sF:WA (AQa ALY AYR):=FA (by
  show AHO ALY AYR;rw[F9 (Ξ (AV5 (ut List.mem_cons_self))),A'h hb]
  exact e)
 refine⟨_,sF,BGS R.chg w sF (ER) Axp,B4,DL b hb z u hu,HG⟩
 ·show Sc (AHO ALY AYR);show N_
  ·subst hb;rw[B4] at e';rw[gb];exact e'
  ·show BGm R.g
 ·show Sc (AHO ALY AYR);show N_
  ·subst hb;exact(hn b zY).2
  ·show BGv
 ·exact Iq if_neg z (Iq if_pos hb hu)
 ·rw[List.mem_cons,not_or] at hb;exact Iq if_neg hb.1 (if_neg hb.2)
theorem SR.nail(R:ED)(nd:AiB)(hn:A_y)(ea:IM kR)(hkl:eJ)(r:A5n):
  ∃F',Ct /\br F' (ACX AeO)/\ABt A7m B9/\A8m:=by
 obtain⟨F',sF,R',e,k,k2⟩:=R.nailU (w:= .frz o kR) hn;exact⟨F',sF,R',⟨a,o,vs,rfl,e,hkl,eZ.rep sF ts vs bs (MV hc (k c hc (AEy ļ hc))) r⟩,k2⟩
#where
section
variable{X:Cx}{F0 H0:Hp}{e:Expr}{st:Stmt}{tn:qg}{ts:aH}
theorem yf5(he:AAn):CA e (Mu tn):=Axz (by
 show Lm hq;show Ű (he z E cx pins s σ H (OZ H1 (Axd (∀o,Q B9 Aik))) I A2u) u hq1
 ·show SH
  ·rename_i ks ts;show AHy;refine aE a ea (EM o);obtain⟨F',sF,R2,rp,_⟩:=R1.nail (o:=o) nd hn ea hkl r;exact k _ Γ1 F' _ _ R2 AVB rp h1
  ·exact h1.elim
 ·obtain⟨x,H1,I1,r1,a,kvs,ex,ea,q⟩:=hq1;subst ex;show kD u r1;obtain⟨_,_,ws,kv,o,es,ep,h1,_⟩:=AXY Zv;exact GE AI (z20 I1 ea h1) (q o))
#where
def Wt(i:Nat)(tk tv:cg):aH:=XZ tv d ((∃as t,AJP (.tr as t))/\mS tk kd (∃k as ks xs,kd=nJ k/\B8 Γ2 (Ad1 AMd)/\tJ ks.length/\D.nx (Γ2.set i (.tr as (.dic (jx ks k) (Ac' ks k))))))
section
variable{X:Cx}{F0 H0:Hp}{ke value:Expr}{pos npos pos' :Pos}{x:Str}{i:Nat}{tk tv:cg}
theorem ycp(hu:SB)(hN:E_)(hv:Nc)(hk:CA ke tk)(hval:AnC)(hs:ANL IC ke:=by rfl)
  (ARp):AKp (ACu IC ke) (Wt i tk tv):=fun z E cx=>
 ud (AOv Zw VW Agp hval hs) (Do Dn σ H hq1 D2 hq1 (AWs hq2 (by
  obtain⟨⟨as,t,e0⟩,q⟩:=hq2;obtain⟨o,e1,w,rfl,_⟩:=AWV;refine⟨w,e1,F1,Γ1,_,R1,q,fun kd Γ2 F2 H2 y R2 s2 rk q2=> ?_⟩;obtain⟨kk,as',ks,xs,rfl,e2,hl,q2⟩:=q2;obtain⟨o,e3,w',rfl,nd,hn,r⟩:=Azo;rw[e1] at e3;cases e3;show AHy;show Aa0 r;have ev:=JQ rk;subst ev;refine aE a BAz ?_
  rw[zs7 hkl];refine G_ (R2.wrT e2 e1 (Ch (gq (Slot.tr [a] (.dic ks AMd)) kM a) zY) (t:= .tr [a] (BLd kk kk)) ⟨_,rfl,nd,hn,?_⟩ AUe) d_ q2;exact⟨a,_,[],rfl,rfl,gb,zwz hkl,RL (zna rs (rd.up s2))⟩)))
#where
def zrh:MO:=ACI [d] (∃xs:Β,∃ys,Em d=some (xs.map .inr,ys)/\xs.Nodup/\Atx/\∀ms:Β,ms.Perm xs ->ASb ->AKR .str)
inductive Dp (APk):Prop
 | mk:∀(q:Addr) (kvs:ei) (xs:Β),AjU ->(Rd H q Kt) ->EC (kvs.map (·.1)=xs.map .inr) (xs.Nodup) (Atx) (∀(l:Addr) (ms:Β),HU l ->ms.Perm xs ->ASb ->FS l (GV l AtL)) (ACl Dp)
def O7(X:Cx):ie:=ANw Dp
theorem z2f(z_):kl "sorted" (O7 X):=by
 rintro pins s σ H xs us Q I r ⟨q,kvs,ys,e0,hq,hk,nd,h64,k⟩;subst e0;show M';cases rx;obtain⟨hz,hsm,ws,kv,ob,es,ep,hd⟩:=JC I.hok hq;obtain⟨ho,hec,hdt,hko,hpr,_⟩:=hd;show Amr;have hlk:kvs.length=ys.length:=A0 (congrArg List.length hk)
 have hls:es.size=ws.length:=by rw[<- hpr.length,Array.length_toList]
 show AG' 64
 refine zkv (zwf AzM hsm ⟨ob,ho,hec,hdt⟩ ψ fun vals h1 tk hv hlt hold=> ?_)
 have rv:Vals (ys.map V.str) vals:=by
  have l1:Ak4=ys.length:=List.length_map ..;have l2:vals.length=es.size:=by rw[hv,List.length_map,Array.length_toList]
  show AsM ψ
  show ALB hv e2;cases ee:es.toList[i]? with
  | none=>show GG ee e2 e2
  | some e=>
   rw[ee] at e2;cases e2;have hi:i<ws.length:=Aw' (KI ee)
   have e3:B8 ws R_:=zZ hi;have e4:=(hpr.get? ee e3).1;obtain⟨v5,e5,_⟩:=Oz kv e3;have e6:B8 (kvs.map (·.1)) R_.1:=AF_ e5
   show ALB hk e6;rw[List.getElem?_map] at e1;cases ey:ys[i]? with
   | none=>show GG ey e1 e1
   | some y=>
    rw[ey] at e1 e6;cases e1;have e7:R_.1= .inr y:=A0 e6.symm
    have e8:tY R_.1 e.key=true:=e4;rcases CZ e8 with ⟨j,t,z,_⟩ | ⟨x,t,z,zz⟩
    ·rw[e7] at z;cases z
    ·rw[e7] at z;cases z;show RelV (V.str y) e.key;rw[zz];exact ft
 have Hq:vals.length=ys.length:=Aw6
 refine⟨Ow ys,_,_,Ο Hq (zxf nd),Α,z0k rv,BNO,fun l h' is e hle a1 a2 hl yR=> ?_⟩
 show A6S hlt hle;show D7 hix i is (i< Ak4) i hi (AJm List.length_map Hq Ao_)
 have hrv:=zo9 rv hix;rw[AbQ Str.empty (pv Adh)] at hrv
 have hms:(pick Str.empty ys is).Perm ys:=zre (BE Hq a1)
 have hlen:Ays:=AuQ
 have I2:Ak9 AVM:=
  xk I.laid (Ast hold) hlt2 (V_ _ AVM ⟨hlen,_,e,hrv,hl⟩)
 exact GE LS I2 BGW
section
variable{X:Cx}{F0 H0:Hp}{a:Expr}{pos p:Pos}{t:cN}
theorem zzd(hc:C3)(hg:BLE)(hm:BLD)(ha:ADs)(hb:bootBuiltins "sorted" =some (L7 "sorted"):=by show OM)
  (he:starEach [a] X.env=EW (CH a) (EV []):=by rfl):AKb (AKa "sorted") zrh:=fun z E cx=>by
 refine nO (Be Uw (z2f hc) hg hm hb DS Δ Δ he rfl) (EX σ H Q hq1)
 show Lm hq1;refine RE ?_;unfold zrh at h1;show SH
 ·show AJj r1 r1;obtain⟨xs,ys,e1,nd,h64,h1⟩:=h1;show AAw r1;refine⟨c,_,xs,rfl,AWt,?_,nd,h64,DL l2 ms hl2 pm pw⟩
  ·rw[List.map_fst_zip ψ]
  ·obtain⟨R3,q1,q2,q3,ap⟩:=GC R1 hl2 (Wj (K:=X.K) (F:=F1) ms);exact BFX pm pw
 ·show gf
#where
theorem hu1(h:n+21<cLine):ABm n:=zM (Nat.add_le_add_left (AFe (1<=21)) _) h
theorem qv(i:Nat)(hN:E_:=by exact rfl)(hv:Nc:=by first | exact Or.inl rfl | exact Or.inr (Or.inl rfl) | exact Or.inr (Or.inr rfl))(ARp):CA hV (cV i):=yj4 hN hv hd hcd
#print L3
namespace Hd
open PySem PySem.W PySem.Calls PyProof.Rows
theorem yaf{l:AgG}{i a:Nat}(e:lL (Gk i l).lookup):∃k,a=i+k/\EH l k o/\GN o.isFreed:=by
 induction l generalizing i with
 | nil=>cases e
 | cons b r ih=>
  show N4 Gk;split at e
  ·show BD k hk hr ih e;exact⟨k+1,Α,hr⟩
  ·rename_i hf;rw[List.lookup_cons] at e;split at e
   ·show HQ;cases e;exact MQ 0 (beq_iff_eq.mp q) hf
   ·show BD k hk hr ih e;exact⟨k+1,Α,hr⟩
theorem ylp(h:Heap)(n:Nat):(cut h n).In h:=Fm e (by
 obtain⟨k,hk,hr,hf⟩:=yaf e;rw[hk,Nat.zero_add];exact Heap.get?_some_iff.mpr ⟨BE Array.getElem?_toList hr,hf⟩)
noncomputable section
theorem size(AOd):((boot_heap w.params).isNs mainGlobals&&(Array.mk []:hW).size==0,Ò boot_heap w.params,(boot_heap w.params).nsMap mainGlobals "__annotations__")=(true,11,ann):=UV
theorem left
  (e:opening p=plainProg p.main.scope.names) (f:∀s,fenceModules? p s=some s)
  (hA:∀w os,topGo treeTable p w 11 ann 12 AlJ AiF=some (fore treeTable topGo p w os,⟨denote treeTable (cB p),cB p,z,AN8⟩))
  (hB:∀w os,segRun treeTable p w 11 ann 1 1 ArA (blockOf Atc (env p) (cB p) z AN8)=some (u7,fore treeTable topGo p w os,cB p,z))
  (hC:∀w os,(Ta ArA).abs=fore treeTable topGo p w os)
  (hD:∀w os,shot treeTable topGo segRunT topRun execs p (rest openSeen p q loose Xt obs n w) w os=some (A4S (cB p) (openGood q loose))):
  LeftO p q loose Xt (Υ s AbR) good 40000:=HZ (by
 obtain⟨⟨h,gs,d,k,os⟩,e1,e2⟩:=zG.mp (boot_open (N:=40000) e Δ f w)
 obtain⟨rfl,rfl,rfl,rfl⟩:h=boot_heap w.params/\gs=Array.mk []/\d=boot_drawn/\k=boot_toks:=A0 e2
 obtain⟨z1,z2,z3⟩:_/\_/\_:=by simpa only [Prod.mk.injEq] using size w
 obtain⟨⟨fl,S,c,ps⟩,r1,r2⟩:=Option.bind_eq_some_iff.mp (hD w os);show BD s t1 t2 zG.mp r2;show ATt u1 u2 t2;show ATt v1 v2 u1;show ATt y1 y2 u2;show ATt y3 y4 y2;subst v1 v2;have g1:Axm (30000+2) ArA (restOf (behindTheImports p++ []) (env p) (cB p) z AN8)=some s:=
  piece_app (by have:=segRun_of r1;show AJ (hC w os);exact this) (piece_nil t1)
 rw[List.append_nil] at g1;have g2:=go_top (hA w os) (piece_block (hB w os) g1);have g3:=topRun_mono (40000 - (12+ (1+ (30000+2)))) _ _ _ _ g2;unfold openEnds;rw[e1];show AO (topFrom treeTable p w 40000) AlJ _=_;unfold topFrom S0;dsimp only;rw[z1,z2,z3];have g4:Axm 40000 BGY AiF=some s:=g3;rw[g4];show(AEa BJV (some s) none).map _=_
 rw[y1];show some (BHd openSeen,AbR)=_;rw[y3,y4])
#where
open L2 L3
theorem adr_of(h:isRef x=true):x=some (A9 (AG (adr x))):=by
 show Bi isRef;show C5
 ·rfl
 ·cases h
theorem ix{_:Decidable p}(h:allB l=true)(i:Nat)(e:nth l i=decide p):p:=by
 refine of_decide_eq_true (e.symm.trans ?_);clear e;induction l generalizing i with
 | nil=>rfl
 | cons b l ih=>cases b with
  | false=>cases h
  | true=>cases i with
   | zero=>rfl
   | succ i=>exact ih h i
theorem zun{K:Frag}{f:Addr}{qual:Str}{g:FuncData}(h:fnO K f qual=some g):∃oc od fd sl,AfB (.func fd) sl/\codeIn K fd.code qual=true/\keepIn K Fk=true/\bare fd=g:=by
 show Bi fnO;show C5
 ·rename_i oc od fd sl e;show C5
  ·show HQ;show Axo;exact⟨oc,od,fd,sl,e,q1,q2,zH h⟩
  ·cases h
 ·cases h
theorem z82{fd:FuncData}(Ar6){dV:Value}(h:bare fd=AfW dV Ω none Ω Ω):
  fd=BKQ dV fd.kwdefaults fd.doc fd.pyModule fd.annotations fd.code fd.closureTuple:=by
 obtain⟨⟩:=fd;injection h with h1 h2 h3 h4 h5 h6 h7 h8 h9 _ _ _ _ _ h10;subst h1 h2 h3 h4 h5 h6 h7 h8 h10
 rfl
theorem fun_of(BIg fnO):∃fd,Â:=by
 obtain⟨oc,od,fd,sl,e,c,k,b⟩:=zun h;exact⟨fd,BJp (z82 b)⟩
theorem yhs(BIg fnD):
  ∃fd T O8 dn O9,A'm qual/\K.lookup T=some (AsC #[Ω]):=by
 obtain⟨g,h1,h2⟩:=Option.bind_eq_some_iff.mp h;obtain⟨oc,od,fd,sl,e,c,k,b⟩:=zun h1;split at h2
 ·show HQ;subst b;unfold TQ at q;show ZI
  ·rename_i T hT;split at q
   ·rename_i t O8 xs dn O9 eT;show Axo;show L' (beq_iff_eq.mp q1);have q3:xs= #[Ω]:=by
     split at q2
     ·rename_i ex;exact Array.toList_inj.mp ex
     ·cases q2
    subst q3;refine⟨fd,T,O8,dn,O9,BJp (z82 (dV:= .ref T) ?_),eT⟩;have h3:=zH h2;have h4:(bare fd).defaults= .ref T:=hT;generalize bare fd=g at h3 h4⊢;obtain⟨⟩:=g;injection h3 with a1 a2 a3 a4 a5 a6 a7 _ a9 a10 a11 a12 a13 a14 a15;subst a1 a2 a3 a4 a5 a6 a7 a9 a10 a11 a12 a13 a14 a15 h4
    rfl
   ·cases q
  ·cases q
 ·cases h2
theorem z8g(A'y TV):A7y fnO:=by
 show Bi TV;show C5
 ·rename_i e;exact B5 e h
 ·cases h
theorem z4r(A'y fnM):A7y fnD:=by
 show Bi fnM;show C5
 ·rename_i e;exact B5 e h
 ·cases h
theorem fun_at(A'x TV):∃f fd,Afd/\AB x x st:=
 let ⟨f,e,h⟩:=z8g h;let ⟨fd,F⟩:=fun_of h;⟨f,fd,e,F⟩
theorem funM_at(A'x fnM):∃f fd T O8 dn O9,Afd/\A'm x/\K.lookup T=some (AsC #[Ω]):=
 let ⟨f,e,h⟩:=z4r h;let ⟨fd,T,a,b,c,F,d⟩:=yhs h;⟨f,fd,T,a,b,c,e,F,d⟩
theorem seen_cons{K:Frag}{d:Str×Stmt}{ds:AUc}(h:seen K AU_=due AU_):TV K d.1=BBv/\seen K ds=due ds:=zA h
def Mv:Sum Int Str ->D
 | AEz=> Co
 | lI=> hG
theorem zki{K:Frag}:BFf (∃vs,Vals vs xs/\∀F,JS (as.map Mv) vs)
 | [],as,h=>by cases h;exact⟨[],B_,fun F=>LJ⟩
 | v::r,as,h=>by
  show AyW
  case int i t=>
   show Aqs;show BD vs q1 q2 (zki (K:=K)) e;exact⟨Co::vs,.cons D5 q1,A4U⟩
  case str x t=>
   show Aqs;show BD vs q1 q2 (zki (K:=K)) e;exact⟨hG::vs,.cons D5 q1,A4U⟩
theorem zu0:BFf (AKE as.length)
 | [],as,h=>by cases h;rfl
 | v::r,as,h=>by
  show AyW
  all_goals (show Aqs;simp [zu0 e])
theorem glb_tup{K:Frag}{h:Heap}{mg:B7}{x:Str}{as:List AS2}(X:Ll)(G:Aje)(q:isRef (nsIn K mainGlobals x)=true)(l:tupO K (adr (AcV nsIn x))=some as)(hz:BM as.length):Oj K mg x (.tup (as.map Mv)):=by
 unfold tupO at l;split at l
 ·rename_i t od xs n sl e;split at l
  ·rename_i et;subst et;exact L3.glb_tup (mg_of X G (adr_of q)) e (Aw' (zu0 l)) (zki l)
  ·cases l
 ·cases l
theorem walk_ex{l:OpenLaw}{n k:Nat}{q:Program}{loose:Β}{XP:A3P}{YP:Awj}{d:DefRec}{Fx:BI World Frag}{CX:World ->JB}{sp:Frag ->Sp}{x:Str}
  (hn:Am2) (hn2:BM n) (hdf:At4) (hr:AtS)
  (hY:∀(w:World) (h:Heap),YP w h ->∃K:Frag,Ll/\Fx w K)
  (F:∀(w:World) (K:Frag) (mg:B7) (fa:Addr) (h:Heap),Φ (Fx w K) Ll Aje Awy (∃fd:FuncData,(A5x)/\∀b:Heap,K.In b ->AQw b.Ns ->fG l.prog w K mg b (CX w) k fa fd [x] (sp K)))
  (hsp:∀(K:Frag) (H:Hp) (a:Addr) (ns:An),AhS ->Only H ->Aaf ->sp K LP H AnY mB)
  (hCX:∀(w:World) (H:Hp) (s:Shared) (e:Value) (s' :Shared),CX w [] H s (mB) e s' ->False):
  A6k:=by
 refine Att.yI hn hdf fun w s₀ s₁ mg mb fa o pm cd doc a vs ns G Y ho hd hcd hmg hobj hints hlen hg=> ?_;obtain⟨K,KX,fx⟩:=hY w _ Y;obtain⟨fd,hb,hF⟩:=F w K mg fa _ fx KX G.T.g hmg;exact ycl KX G.T.g G.T.b G.T.builtins G.T.nolimit hg hobj hints (zP hlen hn2) hr hF hb (fun H hO hS=>hsp K H a ns hlen hO hS) fun H e s' =>hCX w H s₁ e s'
theorem start_binds{K:Frag}{fd:FuncData}{x:Str}{st:Stmt}{f:Addr}(F:AB "law" "law" st)
  (h:BJX u Value (bindArgs (Afi (fnOf "law" "law" (Jx st) ú ABf Ω kV doc)) (E6 [u])=pure [(x,u)])) (s:Shared) (u:Value):BLr:=by
 show Acd F.ex;exact .of_eq (h kV doc pm an cdv ct u)
theorem holds{l:OpenLaw}{q:Program}{loose:Β}{β:Type}{obs:Frag ->β}{good:World ->β}{n:Nat}{d:DefRec}(said:l.wellSaid=true)
  (L:LeftO l.row.prog q loose (AV true) (Υ s AbR) good 40000)
  (hd:defOf q l.row.name=some (d,[])) (hp:l.row.prog.theDef l.row.name=some (d.params,d.body,d.scope)) (hk:kwWritten? d.params.kwonlyargs d.params.kw_defaults=some [])
  (ok:Op (chainsOk q&&opensWell l.row.prog) (frees l.row.toRowW&&l.row.within.isEmpty)) (hb:l.row.prog.bare) (hw:l.row.toRowW.promised) (wr:GN l.row.writes)
  (walk:WalkO q loose BMu (fun w h=>∃K:Frag,Ll/\APf) l.row.toRowW d [] (fun f vs=>Ae8)):l.Holds:=
 holds_law said fun k1=>holds_open (XP:=GT _ True) (YP:=fun w h=>∃K:Frag,Ll/\APf) L (fun _ s e=>(B5 (ylp s.heap n) e)) (fun _ _ _ hz k=>by show X0 K x hz;exact⟨K,x.keeps k,e⟩)
  (Ff _ trivial) (fun _ _ _ _ _=>trivial) hd hp hk (N0 s (recFacts_of rfl)) (Gc wr) k1 ok hb hw walk
#print Hd
namespace L3
open PySem PySem.Spec PyProof.Rows L2
def Pa(g:tO)(tc:TT2)(t:cN)(Γ0:G2)(x:D)(P:ATk):Prop:=BG4 (t Γ2 (N0 ds (P [ds])) jN)
def uL(one:i8 D (WB D)):i8 Ε (WB D)
 | [],P=>mv
 | Lu,P=>one x fun ys=>uL one xs fun zs=>AfV
def Pb(ds:Ε):T:= .lst (ds.map .leaf)
def HS(own:Nat)(caps:Ap)(ti:cN)(g:tO)(tc:TT2)(t:cN):qg:=L8 ti ds (uL (Pa g tc t (pC own caps Γ1)) ds fun ys=>(DM (CO Amy)))
def fX(K:W.Frag)(t:cN):TE:=AqQ upF
theorem yfh(gr:eP)(h:xD)(e:ó)(ld:VM):UA:=by
 cases q:F' a with
 | none=>rfl
 | some w=>
  show ŏ (gr.n a w q h) z e' z
  ·rw[e] at z;cases z
  ·rw[e] at z;cases z;subst e';exact ld.tup.elim
section
variable{F0 H0:Hp}{own:Β}{caps:Ap}{g:tO}{tc:TT2}{t:cN}
theorem z11(zD){σ:St}{Γ:G2}{J:It}{Hx:Hp}{ds:Ε}{acc:Addr}{P:ATk}{Q:AFb}(R:ED)(hJ:AoI J)(hx:gu Hx)(ha:HU acc)
  (h:uL (AaZ Pa t) ds P)
  (fin:∀ys F' H' as,ANu ->Ct ->Φ (Am5).Nodup (∀a∈acc::as,UA/\eh) (t_ (CO Amy) ny Am5) (P ys) AkF):
  BHn fX t:=by
 obtain⟨R1,e1,e2,e3,ap⟩:=GC (ds:= []) (vs:= []) R ha IP
 have hx1:Same Hx Ae7:=FA A_'
 have xa:∀u,Hx acc≠ALZ:=fun u e=>A'A
 show BA (fun i m vs H' =>m=ds.length - i/\Ahy/\∃F' ys as,ANu/\Ct /\AGA /\á Hx /\AoZ/\Aky/\ (Am5).Nodup/\ Alz/\AZt Amy as/\Aha/\uL (AaZ Pa t) (ds.drop i) Ayf) ⟨ds.length,A1,FC,F,[],[],R1,c0,FA (by(show xC ha e)),hx1,e1,e2,A1,fun a h=>by(cases h),Ag7,HC,A0 h⟩
 rintro i m vs H' ⟨rfl,hi,F',ys,as,R',sF,sH,hx',ha',Og,nd,hn,rs,lv,hc⟩;have hz:=hJ.1;show BA ha' Α
 obtain⟨hstop,hgo⟩:=hJ.2 i H' F' sF R'.g hx';have Wu:acc∉as:=ļ;show AlC
 ·show As2;show MY ⟨go,Α,A3M⟩
  obtain⟨F2,gr,rx⟩:=yl x H2 y;rw[List.drop_eq_getElem_cons hlt] at hc;have R2:=R'.grow gr;refine⟨F2,H2,F2,AOc pC Γ,_,ds[i],AOc z0n R2,rx,hc,BIy⟩;refine⟨F2,H2,F3,Γ3,_,R3,q3,fun b Γ4 F4 H4 R4 s4 q4=> ?_⟩;show BFS;have keep:∀{F5 H5},Gr F' H' F5 H5 ->∀a∈as,Fr F5/\eh:=fun g5 a h=>by
   show MI e ld (A_I h);exact⟨yfh g5 (ut h) e ld,AkN⟩
  cases b with
  | false=>
   show BCU ⟨ANM,Α,rfl,hlt,F4,ys,as,R'.grow qd,Avc,sH.trans qd.h,A6V,Avs,BBw,nd,keep qd,eZ.move qd.f _ _ _ (fun a _ u e=>qd.h a u e) rs,Α,?_⟩
  | true=>
   rw[B4] at q4;refine⟨F2,H2,F4,Γ4,_,R4,q4,fun es Γ5 F5 H5 a us R5 s5 p1 p2 p3 rv apa q5=> ?_⟩;show BFT;have a5:=Avt;have f5:=Z9 Bk Og ha';have Wv :Fr H':=gr.h.free p3;show AYF Ww (a≠acc) ha' Wv Wv
   have aas:a∉as:=Ξ (by
    obtain⟨u,e,_⟩:=A_I z;rw[e] at Wv;cases Wv)
   have a0:eh:=sH.free Wv;refine⟨a5,ANM,Α,rfl,hlt,F5,ys++ [es],as++ [a],?_,Avd,FA (by(show xC ha (Bk.h b u (sH b u e)))),ER,gb,f5,?_,HG,?_,ALU,?_⟩
   ·have R6:=R'.grow Bk;show CU ⟨R6.gr.f,ER,ER,R6.gr.n⟩ R6.len (Q3 j sl) R6.ap
    show JE (jp f5) (Pe R6.g)
    ·show xC e3 Atf
    ·show Abu (R6.sl j sl e) (zo ⟨(FZ p2 hc).1,AD u q⟩) (c≠acc) (ap j A_4) q
   show JE (Ķ A2R) (Bk.h b u Aea)
   ·rw[<- List.cons_append];exact List.nodup_append.mpr ⟨nd,A1,fun x hx y hy e=>by
     rw[List.mem_singleton.mp hy] at e;show OQ hx z z
     ·exact Ww (e.symm.trans z)
     ·exact aas (e ▸ z)⟩
   ·show ABU
    ·exact keep Bk b hb
    ·show UZ hb;exact⟨p2,a0⟩
   ·show Af5;refine Wc (eZ.move Bk.f _ _ _ (AVu ?_) rs) (Wd ?_)
    ·rw[Ķ (Wu (BE z hb))];exact Pe Bk.h
    ·exact⟨a,us,[],rfl,rfl,ŵ Ww p1,RL rv⟩
   ·simpa [List.append_assoc] using q5
 ·show Ajw
  refine AjH (fin ys F' H' as R' sF nd (fun a h=> ?_) (A7 ⟨acc,vs,as,rfl,rfl,ha',rs⟩) ?_)
  ·show AVK rfl
   ·exact⟨Og,ha⟩
   ·exact hn a h
  ·rw[List.drop_length] at hc
   simpa [uL] using hc
theorem ybf{X:Cx}{elt tg iter:Expr}{ifs:A5}{sc:Scope}{N' :Β}{pos:Pos}{ti:cN}(S:AHV)(hc:C3)(hi:AHY Rq)
  (hg:APM) (ht:APN) (he:AP7 QF elt t)
  (hn:AMc:=by rfl) (hs:ax iter:=by show Mo):dE UP (HS n caps ti g tc t):=by
 subst hn;rintro z E cx pins s σ H Q I ⟨F,Γ,P,R,h,k⟩;show KM (eval UP AuL=comprehension UP sc X.env _ Amw false AME) BMM;refine DZ (J_ Z8 g AZX) tc AZY te (fX X.K t) Q Q AX9 (Z7 hc AFH) ?_ ?_ ?_ rfl hs I ?_ ?_
 ·rintro C s₀ H₀ fp pins s σ H v u Q I r ⟨uz,uD,q⟩;exact AUQ hg v u Q I r
 show AW0
 show AW1
 ·refine JP (fun ds Γ1 F1 H1 J Hx R1 s1 hx hJ h1 acc ha=>z11 R1 hJ hx ha h1 fun ys F' H' as R' sF nd hn tr hp=>k _ Γ1 F' H' _ _ R' AVB nd (fun a h=>(AfA (ut h) AkN AkN)) tr hp)
 ·rintro acc C H' s5 I5 q5 ⟨m,hn⟩ c1 c2 c3 c4 c5 c6;exact⟨m,hn,AVk (IL ATb H' A4P q5)⟩
#where
inductive wM (A6W tU):Prop
 | mk:∀x rest F ds Pd Ex,EC A9r (A3') ADc (F x=none) (A'5 (∀t as F' H3 v dx H',Gr F H F' H3 ->as.Nodup ->Φ Alz (TR K F' H3 t v as) (Pd t) (H3 dx=none) (BH3 (.xd AWi) H3)) wM)
def Wx(A6X tU):Sp:=AOu (Afu wM)
section
variable{P:Program}{w:World}{K:W.Frag}{mg:B7}{base:Heap}
theorem z57(AaE){st:Stmt}{f:Addr}{fd:FuncData}{N ps:Β}{k:Nat}{sp:tU}{C B:Addr}{fl bn:Str}{value:Expr}{p1 p2 p3 p4 p5 p6 p7 p8 p9 p10:Pos}(Fn:Â)
  (hbd:xH st= [.Assign [.Attribute AV6 fl p2] value p3,.Expr (qo (rL (FE bn p4) "__init__" p5) BHj p9) p10]) (S:AG_ Aep)
  (hc:ADu) (hB:Hs K B) (hmB:TD bn B) (hn:ue fl) (hN:EH N 0 AcB) (Oq:AlM) (len:APh)
  (hdb:As bn "__debug__")
  (hbody:AHz (∀F0:Hp,
   Gl S_ bn/\
   Ó (swapsWith value (A9 (rL AV6 fl p2)) p3.line (S_).env)/\
   (∃pl,ya0 bn p4 p5 p9 BHj (S_).env pl)/\
   ∃tn,QN S_ F0 H value tn/\
    BEa (tn (gB N AFu) A3L P6))):
  A4N Wx:=by
 show AAr;show APq
 ·obtain⟨x,rest,F,ds,Pd,Ex,e,_,_,_,rs,hs,_⟩:=hq1;show Apv e AOh
 obtain⟨a,rest,F0,ds,Pd,Ex,ev,hx,sF,fx,rs,hsp,hQ,hE⟩:=hq2;subst ev;obtain⟨hgB,hsw,⟨pl,hpl⟩,tn,hte,hq⟩:=Ad9;show APi (by
  show AH0;show AH1;obtain⟨Γ',F',x,R',_,xr,_,z1⟩:=z;exact APo)
 rw[hbd];have HW:∀q,PE S_ (Ĉ q) (Nk 0):=fun q=>tH (i:=0) hN Oq;show U_ (Zi (z6g hc hn (HW p1) Awt hsw) (Zj (zxw (z9v hc hB hgB hmB (Uu (HW p6) (Uu (yg3 hc hn (HW p7) rfl) Zr)) hdb rfl rfl hpl))));refine⟨F0,gB N AFu,_,Vm sF (qK IP rs),BGz,fun t Γ1 F1 H1 v as R1 s1 nd hn tr hp=> ?_⟩
 obtain⟨h0,hp⟩:=hp;show Ts eo ro (R1.sl 0 _ h0);show MI rfl ru ro;subst ru;refine⟨AI,eo,a,rfl,ATr hx,Κ dx n1 n2⟩;refine⟨AI,eo,AI,eo,a,dx,_,v,rfl,Ajs,gb,BH List.lookup,?_⟩
 show SW a (some dx) v rfl Ajs
 refine hQ t as F1 H1 v dx _ R1.gr nd (L9 ⟨ĳ,ADj hn⟩) tr hp n1 n2 gb (md (bG n2) gb) (A7v (bG q1))
#where
def zxg(C:Addr)(fl:Str)(sp:tU)(t:cN):aH:=AlH (AM' BES)
section
variable{X:Cx}{F0 H0:Hp}{e:Expr}{es:A5}{pos np cpos:Pos}{t:cN}{x fl:Str}{C f:Addr}{fd:FuncData}{ps:Β}{k:Nat}{sp:tU}
theorem z1d(hh:C3)(BHm)(hf:AxY)
  (Fn:A_9 Wx) (hr:AAq) (hb:AEX) (ha:LX)
  (hd:As x "__debug__":=by decide) (AVV):
  BAg:=by
 rintro z E cx pins s σ H D I ⟨F,Γ,D2,R,h,k'⟩;refine DZ z81 K X.K C C f f hC.cls AyZ ?_ hi AvG (Be DR I hg hm AL3 hd)
 ·rw[he];show(false || (backTo cpos (starEach es X.env)).any (·.1))=false
  rw[hpl];rfl
 ·have key:=AdI cpos (ē H1 (∃F1 Γ1 ds,AJI/\Ac9/\BM ds.length/\BES)) I (RE ⟨F1,Γ1,ds,R1,r1,h1⟩);rw[he] at key⊢;show ALp Calls.evalArgs_plain key (fun us s2 ⟨vs,H1,I1,r,F1,Γ1,ds,R1,rs,hlen,q⟩=>⟨rfl,by show BM us.length;rw[<- r.length,<- UB];exact hlen,I1.kIn,?_⟩) AOi
  show PZ ge (TK s2.heap.push xo) yY BMf A5V (by
   have:=z9 (s2.heap.push xo) (o:=yY) rfl;show AJ Heap.size_push;exact this)
  have kp:xw s2.heap.get? (TK s2.heap.push xo yY).get?:=GW ALx;generalize Wy:(s2.heap.push xo).push yY=h2 at ge kp⊢;have n1:H1 (ALH)=none:=AWk;generalize hea:ALH=a at ge n1⊢;have hle:s2.heap.objs.size<=a:=Α
  have I2:ACt AAh (AZa h2):=I1.laid kp hle (yan ge);show Anr AAh (AW6 n1)
  have f1:Fr F1:=by
   cases q:F1 a with
   | none=>rfl
   | some o=>show ApW
  have u1:Un ic [] H1 AAh s2.heap h2:=Un.laid kp hle n1;have hs:Wx X.K C fl sp (AI::vs) AAh (OZ H' (v= AF/\ARS /\∃p u F' as tr,EE H' (AQd p)/\H' p=some (.xd [(fl,u)])/\p≠a/\lr p/\F' p=none/\UA/\Wp F' /\á F' /\ (Oy (FH F') (Ki F1) (vU H1 b o))/\as.Nodup/\ (P8 as (Ki F'/\ALm))/\a∉as/\TR X.K F' H' tr u as/\BLm)) BFx:=by
   refine⟨a,vs,F1,ds,_,_,rfl,gb,Ajh,f1,rs,q,?_,BEf⟩;intro t as F' H3 v dx H' gr nd hn tr hp n3 n4 e1 e2 e3;have fa:UA:=by
    cases q:F' a with
    | none=>rfl
    | some o=>
     show ŏ (gr.n a o q f1) z e' z
     ·rw[gb] at z;cases z
     ·rw[gb] at z;cases z;cases e'
   show KS Pg (IQ as (He/\b≠dx/\ALm)) (by
    have h0:=pd;show AYF ba He gb h0 h0
    rw[bG ba] at h0;obtain⟨u,e,_⟩:=TR.there _ _ _ tr b hb;exact⟨ba,gj e n3,h0⟩)
   have HX:Oy He (FH H3) (FH H'):=P7 ba e (Ο (e3 b ba (gj e n3)) e)
   refine⟨rfl,FF o eb (HX b o AQf (gr.h _ _ (sH _ _ eb))),dx,v,F',as,t,e1,e2,n4,(sH.trans gr.h).free n3,gr.g.free n3,fa,gr.f,GW (HX b o (gj e fa) (W_ gr.g)),XA (vU.back sH (gr.n b o e n)),nd,ċ ĳ (AE' Pg),fun hb=>(Pg a hb).1 rfl,TR.move GA t v as (AVu (HX b u (K_ Pg) e)) tr,hp⟩
  show AJ9 AGG (by
   have e:=AJ7;show Apw (V.ref a) e)
  have hbs:=hb (bE s2 h2) AGG I2.kIn AZT
  show z0;show AG9 (Fn.run _ X.stack _ _ (ALw ACT) AGG _ _ _ AWv Ajf hbs (AfO B9 a) hs) A0Q;cases r' with
  | error e' =>exact BGx e' I1 R1 (Aqa u1)
  | ok V1 =>
   cases V1 with
   | ret u=>
    obtain⟨v,H',os,bare,un,hok,rv,ev,sS,p,pu,F',as,tr,ea,ep,pa,p1,fp,fa,sF,sFH,nT,nd,oL,aas,rG,hE⟩:=hq';subst ev;show CS rv;have I3:ACt H' s' :=I2.call' (s' :=s') os un hok bare ANt
    obtain⟨t0,gx⟩:=RK hok ea;show Pp _ t0 I3.kIn gx rfl rfl;have yU:=u1.trans un;have nH:Azs:=FF u eb (by
     show N_
     ·simp [hb] at eb
     ·exact⟨hb,AEm hb eb⟩)
    have yH:Th He (FI H') (FI AK7):=MM hb eb (O_ hb eb)
    have nfr:Q4 H' (b∉SC):=MM eb hm (by
     have:=I3.stkFree b hm;show AJ eb;show DC)
    refine BGx B9 I1 R1 ⟨a,ET,AK7,A7T,some p,rfl,os,bare,?_,?_,?_,?_,?_,.pay C [fl] [tr],F',hE,⟨sF,?_,?_,nT⟩,rfl,p,[pu],as,rfl,BCL,rfl,fp,p1,nd,oL,Wd (TR.move GA tr pu as (AVu (yH b u (Hb (s_ aas hb)) e)) rG)⟩
    ·refine⟨yU.keep,yU.slot,DL b o eb n hx,yU.there,AFX xs,tT u eb,AFX ps⟩
     ·have:=yU.free b o eb n hx;simp [this]
     ·exact AK5 (yU.tups b xs eb)
     ·exact A_r
     ·obtain⟨more,q⟩:=yU.m9 b ps eb;exact⟨more,AK5 q⟩
    ·intro b u eb;show Abh;refine Ħ hok eb (qk q q) (MV q Aa9) (pk q Aa9)
     ·show AaX
     ·show AaX
    ·show CU (LL o AuE) (zif _ zY) ?_ (Ap4 gx AE_);exact W.funFrames_hide (as:=a::SC) I3.stack BA'
    ·intro b o eb n;show č (AnE Ψ)
     show BO o' (Ū e' AUq);show K2 hm hm
     ·exact A8f eb
     ·exact n hm
    ·intro b u eb;show Abh;show B' o eo zux (hok b u eb);show BO o (Ū eo AUq);show OQ hm hm hm
     ·exact hb hm
     ·exact nfr b u eb hm
    ·exact AYg (gj eb fa) (sFH b u eb)
    ·exact AYg AQf (sS b u eb)
   | next=>show o5
   | brk=>show o5
   | cont=>show o5
structure Ph (BBW tU):Prop where
 ex:BFu (A4M Wx) ę
theorem z3j(hh:C3)(G:BAs Ph)(hr:AAq)(hg:Hk)(ha:LX)
  (hd:As x "__debug__":=by decide) (AVV):
  BAg:=by
 obtain⟨f,fd,h1,h2,h3,h4,h5,h6⟩:=G.ex;exact z1d hh hg h5 h4 h2 h3 h1 hr h6 ha hd he hpl
#where
section
variable{X:Cx}{pins:dD}{σ:St}{H:Hp}{s:Shared}{A:Around}{E:dh}{a C dx:Addr}{f:Str}{y v:V}{u:Value}{fs:aI}{oe:Obj}
theorem z9u(I:Ι)(e:IM Ø)(eo:Ajk)(ed:K' dx AeT)(c:k7)(n:RR)(l:AGz)
  (h:Aq'):Aq7:=by
 obtain⟨hx,⟨o,vs,ho,hc,hd,_⟩,_⟩:=(ABw H s.heap a Ø (d4 a e));rw[hx] at ho;cases ho;show Aqk;show Aqm
 show y8;exact z3c I.kIn c n hx hc (Ŧ W.notCls hd) eo ns hu (zn5 ru) ApT
def Pj(C:Addr)(f:Str)(ta:TE):TE:=vx (∃a oe dx fs v,x= AI/\ADm Ø/\Ajk/\A3G/\AGz/\Q v H1)
theorem z0s{e:Expr}{pos:Pos}{ta:TE}(BI4):ApF (Pj C f ta):=by
 show EQ;refine zwp hb (bW iN (bX u hq1));obtain⟨x,H1,I1,rx,a,oe,dx,fs,v,ex,ea,eo,ed,l,q⟩:=hq1;subst ex;show af;exact z9u I1 ea eo ed c n l AsP
#where
inductive RN where
 | pl (d:D) | nt (c:Str) (t:T)
abbrev SpW:=Anw (C7 RN)
abbrev TRN:=AHl RN
def abw(K:W.Frag)(F0 H0:Hp)(t:TRN)(E:XW):TE:=AIe (∃F Γ P,ED/\t Γ P E/\ (ARl d v Y' (.pl d) l')/\
 ∀c t Γ' F' H' p v as,ā ->Ct ->F' p=some (TZ (.str c) v) ->AIy as.Nodup (ù (UA/\Zp/\Ak')) Al_ (.nt c t) (FS p H'))
def QRN(X:Cx)(F0 H0:Hp)(e:Expr)(t:TRN):Prop:=ANf abw
theorem isV_of{o:BMg}{s:String}(h:isV o s=true):o=some (.val (L7 s)):=by
 show Bi isV;show C5
 ·rw[beq_iff_eq.mp h]
 ·cases h
def uM:aH:=mB
theorem ztl{X:Cx}{F0 H0:Hp}{st:Stmt}:NI st uM:=fun _ _ _ _ _ _ _ _ _ h=>by obtain⟨_,_,_,_,h,_⟩:=h;exact h.elim
mutual
def szT:T ->Nat
 | .leaf _=>0
 | ZU=>HY ts+1
 | AXJ=>HY ts+1
 | Aj1=>HY ts+1
 | AmG=>HY ts+2
 | Š=>0
def HY:E9 ->Nat
 | []=>0
 | M_=>szT t+HY ts
end
#print L3
namespace Hd
open PySem PySem.W PySem.Calls PyProof.Rows L2 L3
#print Hd
namespace L3
open PySem PySem.Spec PyProof.Rows L2
def Itm(BGq):It:=
 A__ (∃c k v,x= ATa/\HU c/\H' =upd H c Awz/\B8 kvs (k,v))
theorem z35:Ava "dict_itemiterator.__iter__":=
 Axu
theorem zru{it d:Addr}{i n ep:Nat}{ok ov:Value}{Q:dh}{s:Shared}{P:Program}{w:World}{A:Around}{E:dh}(hit:IsItemIter s.heap it d i n ep ok ov)(h:FS it s):BLW:=by
 have hT:s.TypeIs ua "dict_itemiterator" :=G1 hit;refine wpAny_pyIter_slot hT PySem.F.slot_dict_itemiterator_iter (ACr PySem.F.slot_dict_itemiterator_iter hT z35 PySem.F.args_dict_itemiterator_iter_1);exact z7 ⟨_,rfl,"dict_itemiterator",_,hT,PySem.F.slot_dict_itemiterator_next.lookup,h⟩
theorem z06(AEd)(Aau){pos:Pos}(a it:Addr)(BI6):Turn P w K Aon AwC [it] it (NS h (∃ok ov,IsItemIter h it a i kvs.length ep ok ov)) where
 mem:=A1
 obj:=AHD (by
  show AGS
  show AqR;exact AOC e)
 keep:=ARi (by
  show AqR;exact⟨ok,ov,xx it e⟩)
 item:=by
  intro X hP hw hK hc i pins s σ H E I hf st hg;show NA;show AOz;obtain⟨ok,ov,st⟩:=st;show AbT;show AMI;show Aaq;obtain⟨⟨k,u⟩,hw⟩:∃p,B8 ws p:=AyM
  show A4 v hv rv Oz kv hw;show D7 hlt c [it] AjD c hc (by
   show Db (c=it) (A0 hc)
   exact zJ st)
  refine wpAny_pyNext_items_item st hd hw fun key h1 hkey hit ht hsz k1=>(Of (wpAny_letOwnedTupleGo_items hit (Κ h2 e2 sb)));show Asf it;have rk:RelV (kV k) key:=by
   rcases CZ hkey with ⟨j,t,rfl,rfl⟩ | ⟨x,t,rfl,rfl⟩
   ·exact ft
   ·exact ft
  have I2:AjL Awz s.toks:=
   zxc (fp:= [it]) (its:= [key,u]) I (Axq (k1 c o RS e))
    hlt (Am0 (Nat.ne_of_gt (hlt it Ψ)) ht) (AqI rk rv) AYG hf
  exact⟨X2,_,I2,rfl,⟨_,k,v,rfl,I.fresh,rfl,hv⟩,B5 _ (Ο hl e2),zo (BAY hlt)⟩
 done:=by
  intro X hP hw hK hc i pins s σ H E I hf st hg;show NA;show AOz;obtain⟨ok,ov,st⟩:=st;show AbT;show AMI;show Aaq;exact wpAny_pyNext_items_end SY st hd (Bz hx) (Aun [it] (sf (eb b o RS e)))
 self:=AdA (by
  show AqR;exact zru e h)
def Pk(te:TE):TI:=A1H (∃a o kvs,v= AI/\ADm dL/\ (AIz ->R AwC H1))
theorem ycq{X:Cx}{e:Expr}{te:TE}{apos cpos:Pos}(Aau){pt:Pos}(he:VO)(AwI):
  PI X ARu AuI (Pk te):=by
 show oy;refine wpAny_Call_method0_late hbase hline (NJ iN v hq1);obtain⟨x,H1,I1,r1,a,o,kvs,ex,ea,q⟩:=hq1;subst ex;show kD v r1;have ea' :Rd H1 a Kt:= .inr (N3 ea);show Asx ea';refine⟨"dict","dict.items",PySem.F.plainAttrs_dict,PySem.F.slot_dict_items,PySem.F.type_dict_items,hT,hN,BL1⟩;obtain⟨ho,hz,_,ws,kv,o',es,ep,h1,h2,h3,h4⟩:=(ABw H1 s1.heap a dL (I1.hok a _ ea));rw[ho] at h1;cases h1;have hm:AX4:=ArN ho;refine call_meetsIn PySem.F.slot_dict_items hT PySem.F.entry_dict_items (PySem.F.args_dict_items_1 _) (meets_dict_items ACh a hsm) (Ev ⟨ws,o,es,ep,ho,h2,h3,h4⟩);have vw:(s1.heap.push (NN "dict_items" #[AI])).IsItemsView s1.heap.objs.size a:=UO;have I2:ŗ A2J:=AAp;refine wpAny_pyIter_items (s:=A2J) vw Agl ?_;refine⟨_,[_],_,_,_,rfl,AcN I2.kept di,z06 a _ o kvs ep ⟨es,h3⟩,?_,HG,q hz⟩
 ·rw[kv.length];exact B5 _ OS
 ·show L' (zT.mp hb);exact I2.fpOk D4 (I2.hok.fresh D4)
def pH:De ->Ε ->Ε:=List.zipWith fun k x=> (UH (nJ k) x)
theorem z40(BJQ):ANi (Itm a o r_) (pH ks xs):=by
 show BHP ks.length
 have l1:=jO rs;have lp:IF pH ks xs=min ks.length xs.length:=List.length_zipWith;show BO Α (fun i H2 F2 s2 s3 _=>(ß q Aa_ (AD d hd)))
 unfold pH at hd;show Auv;cases e1:ks[i]? with
 | none=>show GG e1 hd hd
 | some k=>
  cases e2:xs[i]? with
  | none=>show AYd;cases hd
  | some x=>
   show AYd;cases hd;show AOK e2;have hik:i<ks.length:=KI e1;show BO Aa_ (Κ y H' z)
   obtain⟨c,k2,v2,rfl,hc,rfl,z⟩:=z;have z1:=(RT z).1;have z2:=(RT z).2;rw[e1] at z1;cases z1;rw[hv] at z2;cases z2;have gr:=Gr.laid (o:=HO.tup [kV k,v]) s3 hc;show U_ gr;exact aE c x_ (qK (yj2 k) (qK (Al8 gr.f) IP))
def z7c(ii):cN:=fh (kG AkH (DM (pH ks xs)))
section
variable{X:Cx}{F0 H0:Hp}{e:Expr}{te:cg}{elts:A5}{apos cpos pt:Pos}
theorem yb1{x1}(he:Pi)(AwI):Anq AuI (z7c te):=ASA (A9l ycq) (fun σ H R hq2=>by
 obtain⟨F,Γ,P,S,q,k⟩:=hq2;refine AdF (fun d Γ1 F1 H1 v R1 s1 r h1=> ?_);show SH
 ·obtain⟨a,o,vs,rfl,ea,hkl,rs⟩:=r;exact⟨a,o,_,rfl,R1.g _ _ ea,fun hz=>(AKx (z40 ea hkl rs hz))⟩
 ·show gf)
#where
def Ia(C:Addr)(i:Nat)(f:Str)(j:Nat)(tv:cg):aH:=XZ tv d (∃k as fs ts ks xs,AnZ/\AJP AfL/\AmS (.dic ks AMd)/\tJ ks.length/\
 APQ as (Axc k k))
section
variable{X:Cx}{F0 H0:Hp}{value:Expr}{pos npos O5 pos' :Pos}{x f:Str}{C:Addr}{i:Nat}{tv:cg}
theorem ya7{y:Str}{j:Nat}{yp:Pos}(hu:SB)(hc:vi)(hn:RR)(hval:AnC)(hN:E_)(hv:Nc)(Wq:AOo)(hv2:Ao7)
  (hd:As x "__debug__":=by decide) (hcd:As x "__classdict__":=by decide) (hd2:As y "__debug__":=by decide) (HD:As y "__classdict__":=by decide)
  (hb:ARJ IC f IC IC:=by rfl)
  (hs:ANL A1r (FE y yp):=by rfl):
  AKp (ACu A1r (FE y yp)) (Ia C i f j tv):=fun z E cx=>
 ud (AOv Zw (Be yd5 VW hb) Asd hval hs) (Do Dn σ H Nm D2 Nm (AWs Gs (by
  obtain⟨k1,as,fs,ts,ks,xs,g1,e0,hl,hsz,hnx⟩:=Gs;obtain⟨o2,e2,v2,rfl,r2⟩:=R1.sl j _ g1;have ev2:=JQ r2;subst ev2;obtain⟨a,dx,vs,v0,bs,b1,cs,b2,e1,rfl,ea,hv0,rfl,nd,hn',rt,back⟩:=yh0 R1 e0 hl;obtain⟨c,ws,ds,rfl,rfl,ec,hkl,rl⟩:=rt;show Aa0 rl;refine⟨AI,e1,a,C,dx,_,ATa,rfl,ea,hc,hn,hv0,kV k1,e2,c,_,rfl,yG.k (k:=k1) ec (by show AJ6 hkl;exact hsz),?_⟩
  rw[zs7 hkl];refine G_ (R1.wrT e0 e1 (Ch (Art Awr c) A8P) (t:= .tr Awr (Axc k1 k1)) ⟨_,rfl,nd,hn',?_⟩ AUe) s1 hnx
  refine back GA (Ĥ ?_) ?_
  ·have hbc:b≠c:=Ξ (by
    subst z;show AmF;show ArW;show ip
    ·exact n1 Ψ
    ·show ip
     ·exact n2 Ψ
     ·show Ayj n3;show ABU
      ·exact BGn
      ·exact AIk p.2.1 hb)
   rw[bG hbc];exact q
  ·exact A6i hkl)))
#where
theorem ycm{H1:Hp}(S:ATj)(I:Ι)(hS:AR_ (∃kvs o,ASL/\Tm/\HH H1 dL))(hN:OX (¬S b) H1 H):ŗ s:=by
 have ne:Th xB (Abb) (FI H1):=MM q n (Qr (ANP (by show AY9;rw[e] at q;cases q;exact n _ rfl)))
 refine ApU s.toks ⟨fun _ _ q _ _ _=>q,A3k,DL b ob q n _,Aoa (Ĭ ob),AkD,A5d,LL ps (Ev #[])⟩ aS
 show JE (ANP (by show AY9;rw[e] at n;cases n)) n
 ·exact Ant
 ·exact Ant
 ·rw[Ant];simp
 ·have st:KG u HO b Addr (Aag H) (Aag H1):=fun k=>k.stay (qk z z) (MV z AfK) (pk z AfK)
  show AWH
  ·obtain⟨kvs,o,e1,e2,e3⟩:=h_;rw[e3] at q;cases q;exact⟨e2,st (I.hok b _ e1)⟩
  ·rw[AUZ] at q;exact st (I.hok b u q)
theorem z6v{H2:Hp}(S:ATj)(I:Ι)(hS:A_x)(hN:OX (¬S b) H2 H)(n0:AR_ BKY):OL H2 s:=by
 have ne:Th xB (A0y) (FI H2):=MM q n (Qr (ANP (by show AY9;rw[e] at q;cases q;exact n _ _ rfl)))
 have nn:E5 FX (Ki H2):=fun b q=>(Qr (ANP (by show AY9;rw[e] at q;cases q)))
 have st:KG u HO b Addr (Aag H) (Aag H2):=fun k=>k.stay (qk z z) (MV z AaH) (pk z AaH)
 refine⟨I.ok,I.os,I.bare,⟨I.base.keep,I.base.slot,fun b u q n hx=>nn b (I.base.free b u q n hx),I.base.there,LL xs (ne b _ (I.base.tups b xs q) (Fm z ABl)),Ź w q,IA ps q⟩,I.loc,I.cell,nn _ I.free,fun x c q=>nn c (I.freeC x c q),ZA,aS,I.len⟩
 show JE (ANP (n0 b z _ _ q)) (I.base.j6 b u w q)
 ·obtain⟨m,k⟩:=I.base.m9 b ps q;exact⟨m,ne b _ k (Fm z ABl)⟩
 ·show A4 h1 h2 h3 I.pin p hp;exact⟨h1,nn _ h2,h3⟩
 ·show AWH
  ·show ApK h_;rw[e2] at q;cases q;exact st (I.hok b _ e1).2
  ·rw[AUZ] at q;exact st (I.hok b u q)
mutual
def jy:T ->D
 | PY=>d
 | ZU=> .lst (ql ts)
 | pj=> .dik ks (ql ts)
 | yT=> .qJ ks (ql ts)
 | zw=> .obj C fs (ql ts)
 | .kt k=> AzD
def ql:E9 ->Ε
 | []=> []
 | M_=>jy t::ql ts
end
section
variable{K:W.Frag}{F H F' :Hp}
def pI(H F' :Hp)(a:Addr):Prop:=AQv ((∃o kvs,u= .dK kvs/\EE F' ADK)\/ (Abb)/\AVq)
theorem pI.d(h:Aae)(e:AFf):∃o,EE F' dL:=by
 rcases h _ e with ⟨o,_,_,q⟩ | ⟨n,_⟩
 ·exact N3 q
 ·exact(n _ rfl).elim
theorem pI.o(h:Aae)(e:ó)(n:Abb):AVq:=by
 rcases h _ e with ⟨o,_,q,_⟩ | ⟨_,q⟩
 ·exact(n _ q).elim
 ·exact q
mutual
theorem TR.repN(f:Ct):Asi Aae (ABt (jy t) v)
 | PY,v,as,k,h=>CC ((h.2).up f)
 | ZU,v,as,k,h=>by
  show Ama;exact⟨a,vs,e1,sK ((k a zY).o e3 AQx),AjO⟩
 | pj,v,as,k,h=>by
  show AG5;show B' o e (k a zY).d e3;exact⟨a,o,vs,e1,e,e4,AjO⟩
 | yT,v,as,k,h=>by
  show AG5;exact⟨a,vs,e1,.inl ((k a zY).o e3 ADZ),e4,AjO⟩
 | zw,v,as,k,h=>by
  show AmN;exact⟨a,dx,vs,e1,(k a zY).o e3 ADZ,e5,AqV eZ.repN⟩
 | .kt k,v,as,_,h=>by
  obtain⟨_,a,e1,e2⟩:=h;exact⟨a,_,e1,AVP f,U8 k⟩
theorem eZ.repN(f:Ct):Asj Aae (AIg (ql ts))
 | [],vs,as,k,h=>CC h.1
 | M_,vs,as,k,h=>by
  show AYv;exact⟨v,us,e1,TR.repN f t v bs Akh h1,AsK eZ.repN⟩
end
#where
def Wz:Slot ->Slot | .ow ds=> NX ds | .tr _ t=> .pu (jy t) | .nt _ c t=> Ayk jy | .xe _ C _ _=> Ayl | s=>s
def mV(Γ:G2):G2:=Γ.map Wz
def LDn(u:HO):Prop:=VM\/∃o kvs,u= .frz o Kt
def cJ(Γ:G2)(σ:St)(H:Hp)(b:Addr):Prop:=LA/\∃kvs,ASL
open Classical in
theorem ybw{K:W.Frag}{F0 H0 F H:Hp}{σ:St}{Γ:G2}(R:ED)(ob:Addr ->Obj):∃F1 H1,ky/\A'0/\ (A_W)/\ (A2o)/\
  (A_F)/\AoG:=by
 let H1:Hp:=UR (if OW then A9U else H b)
 show KS hS A_F (by
  show PF kvs hb.2;show BA kvs e;show(AY OW A9U (H b))=_;rw[A_ hb,e];rfl)
 show KS hN AoG Ĕ
 let F1:Hp:=UR (WP ADb F AfH)
 show KS fo (ASr (∃u,xB/\VM)) (by
  obtain⟨j,s,o,e1,e2,hs⟩:=id hb;obtain⟨o',e3,r⟩:=R.sl j _ e1;rw[e2] at e3;cases e3;obtain⟨h1,_,u,h2,ld⟩:=FZ r hs;exact u8 h1 u ld)
 have s1:ky:=FA (by show(zh _)=_;rw[AEo Aga];exact e)
 have at1:OX LA F1 H1:=fun b h2=>by
  show AwH=_;rw[AUr (fo b h2).1,A_ h2]
 have s2:Wp H1:=FA (by
  by_cases ho:LA
  ·rw[at1 b ho] at e;exact e
  ·show Sc (RY ADb (F b) AfH);split at e'
   ·rw[hN b (Ξ (ho z.1))];exact R.g b u e'
   ·first | cases e' | (show GG (AK ho) e' e'))
 have G9:∀(i:Nat) s o a,B8 (mV Γ) s ->¬ai:=fun i s o a e=>by
  show N4 mV;show AT';cases q:Γ[i]? with
  | none=>show ia
  | some t=>
   show Ayb
 show KS own A2o (by
  obtain⟨h1,u,h2,ld⟩:=fo b hb;show CS h1;rw[at1 b hb];by_cases hn:OW
  ·obtain⟨kvs,_,e⟩:=hS b hn;exact B5 e (.inr (G1 _))
  ·show Md u (Ο (hN b hn) h2) (.inl ld))
 refine⟨F1,H1,s1,BJc mV,IA hb hn,own,hS,hN⟩
 ·show N4 mV;show AT';cases q:Γ[i]? with
  | none=>show ia
  | some sl=>
   show QU;show Ts e1 r (R.sl i sl q);show BA o e1;have mine:E5 (gq sl o b) (pI H F1 b):=fun b hb u hu=>by
    have ho:LA:=BHr;rw[at1 b ho];by_cases hn:OW
    ·obtain⟨kvs,e,e'⟩:=hS b hn;rw[e] at hu;cases hu;exact .inl (xt e')
    ·show MY ⟨fun kvs z=>hn ⟨ho,kvs,DB hu z⟩,Ο (hN b hn) hu⟩
   cases sl with
   | no=>cases e;trivial
   | pu d=>cases e;show gL v rv r;exact xl Aip
   | ow ds=>
    cases e;obtain⟨a,vs,rfl,h1,h2,h3,rs⟩:=r;show oa AI;exact No a (sK ((mine a rfl).o h1 AQx)) (rs.up s1)
   | tr as t=>
    cases e;obtain⟨v,rfl,nd,h1,rv⟩:=r;exact xl (TR.repN s1 t v as A1W rv)
   | nt as c t=>
    cases e;obtain⟨p,v,rfl,e2,nd,h1,rv⟩:=r;show oa PM;exact IB p [.str c,v] (AVP s1) (Ň J8 (TR.repN s1 t v as A1W rv))
   | xe as C fs ts=>
    cases e;obtain⟨a,oe,dx,vs,rfl,e2,_⟩:=r;show oa AI;exact A5G
 ·show AwH=none;rw[AUr hb,AK hn]
section
variable{K:W.Frag}{F F' :Hp}
mutual
theorem ybe(hA:Q4 F (LDn u\/FI F')):BI0
 | AF,_,_,h=>IG
 | XE,_,_,h=>IG
 | UE,_,_,h=>IG
 | U2,_,_,h=>IG
 | Ţ,_,_,h=>IG
 | Ť,_,n,h=>by
  show AaO;refine⟨a,vs,h0,?_,zjq hA ds vs n h2⟩;show ATI h1 h1 h1 h1
  ·show Arc
   ·exact z.tup.elim
   ·cases z
   ·show B3 (D1 z)
  ·show Arc
   ·exact z.frz.elim
   ·cases z
   ·show B3 (CY (N3 z))
  ·show DJ h1
 | AVN,_,n,h=>by
  show Ash;refine⟨a,dx,vs,h0,?_,h3,zjq hA ds vs n.2 h4⟩;show Arc
  ·have:=z.ins;show YR (Zz h3) n.1;show DC
  ·cases z
  ·exact z
 | g6,_,n,_=>Zl
 | š,_,n,_=>Zl
 | xh,_,n,_=>Zl
 | xi,_,n,_=>Zl
 | AFo,_,n,_=>Zl
theorem zjq(hA:Q4 F (LDn u\/FI F')):BI1
 | [],_,_,h=>IG
 | SV,_,n,h=>by
  obtain⟨v,r,h0,h1,h2⟩:=h;exact⟨v,r,h0,ybe hA d v n.1 h1,zjq hA ds r n.2 h2⟩
end
#where
structure Ib (YN) (F0 H0 F H:Hp) (σ:St) (Γ:G2) (F1 H1:Hp):Prop where
 R:A'0
 back:∀{F' H' :Hp} {Γ' :G2},SR K F1 H1 F' H' σ Γ' ->Wp F' ->∃F2 H2,br F2 H2/\WA F2/\ (∀ds vs,ADR ->ĥ ->aM K F2 ds vs)/\ (∀a u,Fr H1 ->Acq ->EE H2 u/\Zp/\yv/\ (UA ->Fr F2))/\
  (Ad3)/\Ad0
 hS:E5 OW (∃o kvs,ASL/\HH H1 dL)
 hN:AoG
section
variable{X:Cx}{F0 H0:Hp}{e:Expr}{te:cg}{tf:cN}
open Classical in
theorem lent(NW)(I:Ι)(R:ED):∃F1 H1,ŗ s/\BId/\AW_:=by
 obtain⟨F1,H1,s1,R1,n1,o1,hS,hN⟩:=ybw R (UR ((s.heap.get? b).getD default));refine⟨F1,H1,ycm AqS I AL8 hN,⟨R1,fun{F' H' Γ'} R' s' => ?_,HG,hN⟩,DL b hb o u w⟩
 ·obtain⟨kvs,e1,e2⟩:=h_;obtain⟨_,_,_,_,o,_,_,e,_⟩:=(ABw H s.heap b Kt (d4 b e1));exact⟨kvs,o,e1,e,kC e2 e⟩
 ·have gr:Azp mr (j' (WP OW H (H' b))):=by
   show CU ER ER ER (XA ?_)
   show JE (AK4 (AKq (K_ o1))) A1u
   ·show Sc (RY LA none mr);split at e'
    ·cases e'
    ·show Ŏ;show BF (HZ (hb w.1));exact R'.g _ _ e'
   ·split
    ·exact e
    ·show Ŏ;exact R'.gr.h _ _ (B2 AUZ e)
   ·show Sc ((AY LA none mr)=some o);split at e'
    ·cases e'
    ·show Ŏ;have:=BCO R'.gr.n;unfold vU at this⊢;show AJ (hN b (HZ (hb w.1)));exact this
  refine⟨_,_,R.grow gr,gr.f,fun ds vs hd hr=>zjq (ER) ds vs hd hr,EX a u h1 h2,FM ATq,FM Ĕ⟩
  ·by_cases hb:LA
   ·obtain⟨_,w,ev,ld⟩:=o1 b hb;have:=s' _ _ ev;show my;show DC;exact .inl ld
   ·show DJ (by show RY LA none mr;show BF hb;exact e)
  ·have nn:¬cJ Γ σ H a:=fun w=>by obtain⟨_,_,e⟩:=hS a w;rw[e] at h1;cases h1
   have hH:eh:=BE (hN a nn) h1
   show CU (by show(AY (cJ Γ σ H a) (H a) (H' a))=_;show BF nn;exact h2) ?_ (R.apart hH) (EM hF)
   ·cases q:H0 a with
    | none=>rfl
    | some w=>have:=R.gr.h _ _ q;show AJ hH;show DC
   ·split
    ·rfl
    ·exact hF
 ·obtain⟨kvs,e1,e2⟩:=h_;exact IN kvs e1 e2
 ·obtain⟨kvs,e1,_⟩:=h_;have:=I.base.j6 b o u w;show AJ e1;show DC
theorem Ib.thaw{K:W.Frag}{H2:Hp}(L:BId)(n0:AW_)(I' :à s)(sm:ARS)(h1:Ad3)(h2:Ad0):OL H2 s:=by
 refine z6v AqS I' AL8 h2 n0;show ApK AhM;exact⟨o,kvs,sm _ _ e2,Ο (h1 b hb) e1⟩
def Ca(tf:cN):cN:=fun Γ P _=>tf (mV Γ) (N0 ds (ADR/\P ds Γ)) jN
theorem zzg(h:Ã Alv):kK e (Ca tf):=fun z E cx=>by
 show AtF;show Arl;show iX (As_ H1 H1 Ar7 I1 ⟨F1,mV Γ,_,L.R,q,fun ds Γ' F' H' a vs R' s' ea fa ha rs ap hp=> ?_⟩) u hq
 ·obtain⟨F2,H2,R2,sF,rc,at2,e1,e2⟩:=A4W;obtain⟨q1,q2,q3,q4⟩:=at2 a _ ha ea;exact Axe (k ds Γ F2 H2 a vs R2 sF q1 (q4 fa) q2 (rc ds vs hp.1 rs) q3 hp.2)
 ·show A6q
#where
#print L3
namespace L3
open PySem PySem.Spec PyProof.Rows L2
section
variable{X:Cx}{F0 H0:Hp}{pos:Pos}{body:Mc}{hs:List ExceptHandler}{h0:ExceptHandler}{tb:aH}
theorem z8o{a b:Expr}{ta tb:cg}(hu:SB)(ha:SD)(hb:ng)(hm:Acl Ō):A5J Ō true:=fun z E cx=>
 Rk (Be z7z (Be zu5 hu DS LT) hm) (Do σ H Q DW P DW (APA (by
  obtain⟨ks,xs,kk,e1,rfl,hp⟩:=h2;show AAw r2;have ev:=JQ r1;subst ev;show Pp c _ rfl AxS _ rfl;rw[zxk hkl];exact BI9)))
#where
section
variable{prog:Program}{w:World}{A:Around}{E:dh}{K:W.Frag}{h:Heap}{g:hW}{d:Drawn}{t:Nat}{os:OsState}{x C dx:Addr}{o:Obj}{name:Str}{v:Value}
theorem z1u{Q:AL9}{m:B7}{ns:Β}(X:Ll)(c:ADu)(hn:Ai8)(hx:AjJ)(hc:AWG)(hnc:AnD)(hd:Aub)(hns:h.Ns1 dx m)(hw:Within m ns)(hz:BM (ns.length+1))
  (hq:∀h' tk',h'.Ns1 dx (AqL (m y)) ->Heap.SameBut dx h h' ->A3S):
  AGY Aov:=by
 show AyP;obtain⟨od0,es0,ep0,hod,_⟩:=id hns;have J:W.InstAt h x o C (A9 od0):=⟨hx,hc,hnc,Ο hd hod⟩
 show BGc;obtain⟨bm,N,nm,qn,bs,hdct,sn,sub,ab,col,dd,k0,k1,k2,k3,k5,e1,T,ht,cd,hcd,hmro⟩:=Ea X c.cls;have sub:W.Looks DV h (isInstance RI ALv) true:=BB';refine codeAny_call_builtin SF.slot.plain SF.entry (BMG DV _ _ AId "object.__setattr__" "object" "__setattr__" RI [.str name t,v] [] _ SF.kind SF.split sub A2h ?_);have hm:W.Looks DV h (mroOf EU) cd.mro:=BCG .now;rw[W.osa_eq,refuse_eq];show D3 z6 (AaW hm ?_);rw[hmro,refuseLoop_ref,zix _ ht];refine z7 (z6 (AaW (AjW hn) AXt));show BBG;obtain⟨oc,od,oda,osl⟩:=o;subst hc hd;show D3 z7 (z6 (z6 (wpAny_loadPart hx (z6 (AQV (AjV hc') ?_)))));rw[hd'];show ZY
 refine z7 ?_;show D3 z7 (z6 (wpAny_nsSet1 hns (SK hn' hs)));show A6o hw;show AqE (B2 List.length_cons (AS7 hz))
 exact z7 (hq h' _ hn' hs)
#where
section
variable{prog:Program}{w:World}{A:Around}{E:dh}{K:W.Frag}{s:Shared}{C a:Addr}{env:Env}{Q:AhT}
theorem z2q{m c:AIq}(hC:iS)(hh:Am1)(hc:BEj (AFy c P))
  (hm:AJR m (OZ s₁ (∃e oe fv o vs,v= .ref e/\AiA/\AxD/\AOX/\AWl/\
   lL s₁.heap.get?/\AOF/\AJ_/\a≠e/\
   tz (ACR e BBk) (AEV e s₁.heap.get?) (ASh (bE s₁ h'))))):Fu (raiseStmt env (A9 m) (some c)):=by
 show iE hm (AOk v) VZ;obtain⟨e,oe,fv,o,vs,rfl,X,he,hc',hda,ha,hd,h2,ne,hE⟩:=h₁;obtain⟨bm,N,nm,qn,bs,hdct,sn,sub,ab,col,dd,k0,k1,k2,k3,k5,hC,T,ht,cd,hcd,hmro⟩:=AAm;show Anb hcB AHm (T.hasType PySem.F.excBase_ValueError.hasBase)
 show ACP s₁;obtain⟨oc,od,oda,osl⟩:=oe;subst hc' hda;show AFS (hc _ _ AXt)
 show BGr
 have hCe:e≠C:=Ξ (by rw[<- z] at hC;rw[show hp.get? e=_ from hC] at he;cases he)
 have g1:∀(h:Heap) f b u,b≠e ->FI h.get? ->FI (h.update e f).get?:=fun h f b u n q=>ANx n q;have he3:(hp.update e (Obj.mapFields (·.setIfInBounds 3 Value.none))).get? e=some (AJ2 fv osl):=AZZ he;have he4:((hp.update e (Obj.mapFields (·.setIfInBounds 3 Value.none))).update e (Obj.mapFields (·.setIfInBounds 4 (Value.bool true)))).get? e=some (î od (b_ (BEu fv AKQ)) osl):=AZZ he3;have hC4:=g1 _ (Obj.mapFields (·.setIfInBounds 4 (Value.bool true))) C _ (sB hCe) (g1 hp (Obj.mapFields (·.setIfInBounds 3 Value.none)) C _ (Ne.symm hCe) hC);have ha4:=g1 _ (Obj.mapFields (·.setIfInBounds 4 (Value.bool true))) a _ ne (g1 hp (Obj.mapFields (·.setIfInBounds 3 Value.none)) a _ ne ha)
 repeat (first | show uu he4 | show uu hC4 | wp_step)
 refine zt5 hh ha4 hd h2 ne he4 rfl (AFe (2<6)) (hE _ (BMn he4 rfl) (MM n q (g1 _ _ b u n (g1 _ _ b u n (g1 _ _ b u n q)))))
theorem z15(BIS){args:A5}{cause:Expr}{Q:Dx Flow}(hC:iS)(hh:Am1)(hplain:Azd)
  (hi:Ł) (hf:APP) (hca:BEj (AFy (tw cause) P))
  (h:AaD AeW fv (fv= ET/\AFy (evalArgs EU true Ae3 []) (fun ar s₂=>ar.kw= []/\BM ar.pos.length/\AtU/\
    wpAny DV (AN_ (E6 (ET::ar.pos))) (AXn ADk ar.pos) (AV9 (∃oe fv o vs,AtT/\A2T/\AOX/\AWl/\
      lL s'.heap.get?/\AOF/\AJ_/\a≠BMZ/\
      tz (ACR ADk BBk) (AEV BMZ s'.heap.get?) (E (AG ADk) (ABv h')))) E
     (Ay8 (WO ar.pos.toArray) Atg)))):
  A8b (A9 cause):=by
 rw[arm_exec_Raise];show Ag6 (z2q hC hh (fun s₁ P hP=>z6 (hca _ _ (z6 (wpAny_standAt (z7 hP))))) ?_);show iE (wpAny_Call_ofName (ĭ h (AOk fv) VZ)) A6e VZ;show To h₁ h₁;show AFS (ĭ h₁ (fun ar s₂ h₂=>A1') VZ);obtain⟨apos,akw⟩:=ar;obtain⟨hkw,hlen,X,h₂⟩:=h₂;show Db (akw= []) hkw;show ACP s₂;obtain⟨bm,N,nm,qn,bs,hdct,sn,sub,ab,col,dd,k0,k1,k2,k3,k5,hC',T,ht,cd,hcd,hmro⟩:=AAm;simp only [hplain];show IJ wpAny_keeperOf_exc hC';show BJI;obtain⟨_,oe,fv,o,vs,X',he,hc,hda,ho,hdo,h2,ne,hE⟩:=hr;exact⟨_,oe,fv,o,vs,rfl,X',he,hc,hda,ho,hdo,h2,ne,hE⟩
#where
section
variable{X:Cx}{pins:dD}{σ:St}{H:Hp}{s:Shared}{A:Around}{E:dh}{a C dx:Addr}{f f1:Str}{y v1:V}{u:Value}
theorem yah(I:Ι)(e:IM AGo)(ed:K' dx A3h)(c:k7)(n:RR)(nf:f≠f1)(ry:KL)
  (h:ANq (OY dx A4G s')):AqT:=by
 show An8;show Aqk;have hw:Within mA [f1]:=fun g hg=>by
  show Hc g f1
  ·rw[q];exact AU6
  ·have:=r g;show AAi f1 AhO;simp only [List.lookup,hb] at this;cases z:mA g with
   | none=>show F6 z hg
   | some w=>show AJ z;exact this.elim
 obtain⟨hp,gg,d,tk,os⟩:=s;refine BIj z1u hw (by rw[List.length_singleton,sizeLine_eq];omega) fun h' tk' ns' sb=>h _ ?_
 obtain⟨o',es,ep,ho',_⟩:=id ns';refine DZ I.write t' tk' x dx e dx (Ac2 ed) NR (cK u z Ayq) (CI ho') (B5 ns' (EM g))
 have rg:=r g;show Hc g f
 ·show AAi f1 (beq_eq_false_iff_ne.mpr (q ▸ nf));have hb2:(g==f)=true:=BM';simp only [List.lookup,hb,hb2,D'];exact ry
 ·have hb2:(g==f)=false:=AhO;show BF q;by_cases q1:g=f1
  ·show AMx f1 (beq_iff_eq.mpr q1);simp only [List.lookup,hb] at rg⊢;exact rg
  ·show AAi f1 (beq_eq_false_iff_ne.mpr q1);simp only [List.lookup,hb,hb2] at rg⊢;exact rg
#where
def Pn(BFr):TS:=ApY (∃a dx f1 v1,x= AI/\EE H2 AGo/\H2 dx=some A3h/\f≠f1/\AGx (upd H2 dx A4G))
section
variable{X:Cx}{o value:Expr}{f:Str}{pos pos' :Pos}{ta tv:TE}{C:Addr}
theorem yct(BJf):BAx Pn:=by
 show Po;refine plainObj_wpAny_Assign_Attribute (NJ AeL u hq1) hs;obtain⟨y,H1,I1,ry,q⟩:=hq1;show iX Anv ov hq2;obtain⟨x,H2,I2,rx,a,dx,f1,v1,ex,ea,ed,nf,q2⟩:=hq2;subst ex;show kD ov rx;exact yah I2 ea ed c n nf ry A1b
#where
structure Pr (Ab1) (base:Heap) (k:Nat) (f:Addr) (fd:FuncData) (C:Addr) (f1 f2 a1 a2:Str):Prop where
 run:∀(b0:Addr) (A:Around) (outer:GB) (s:Shared) (H:Hp) (args:Args) (us:Τ) (x:Addr) (v1 v2:V) (Q:VK),ASM ->AYy ->EC (A6h (eQ).zip) (Ċ [.ref x,v1,v2]) A3' (∀dx H',HU dx ->BH3 A4H H) (ĸ sw (A.mark (some (AG b0))) Fk args (ACZ (∃u,r= .ok (.ret u)/\As6)) s)
section
variable{P:Program}{w:World}{K:W.Frag}{mg:B7}{base:Heap}
theorem z7u(Ar6){f:Addr}{fd:FuncData}{k:Nat}{C:Addr}{f1 f2 a1 a2:Str}{p1 p2 p3 p4 p5 p6 p7 p8:Pos}(Fn:Â)
  (hbd:xH st= [.Assign [.Attribute AV6 f1 p2] (FE a1 p3) p4,.Assign [.Attribute (Ĉ p5) f2 p6] (FE a2 p7) p8]) (S:FK eQ eQ st)
  (hc:ADu) (hn1:ue f1) (hn2:ue f2) (nf:f2≠f1) (hv0:AlM) (hv1:qO (aV st) a1) (hv2:qO (aV st) a2)
  (hs1:∀env:Env,Ó (swapsWith (FE a1 p3) (A9 (rL AV6 f1 p2)) p4.line env)) (hs2:∀env:Env,Ó (swapsWith (FE a2 p7) (A9 (rL (Ĉ p5) f2 p6)) p8.line env))
  (hd1:As a1 "__debug__":=by decide) (hc1:As a1 "__classdict__":=by decide) (hd2:As a2 "__debug__":=by decide) (hc2:As a2 "__classdict__":=by decide):
  BBd FR:=by
 show AAr;refine⟨fun b0 A outer s H args us a v1 v2 Q hr e0 hb r hx hQ=> ?_⟩;show A'p;show A'q;show D7 hkind y ((eQ).zip us) (AxW y.1=some đ\/ (AxW y.1=some ci/\ (AXe Uf (aV st).names [] y.1).isSome=true)) y hy (by
  obtain⟨n,v⟩:=y;show SG (S.par n (AeF hy)) q
  ·show B3 q
  ·show DJ A2w)
 refine codeAny_call_function (A:=A.mark (some (AG b0))) hr.depth (KX _ _ lk) rfl S.co S.gen rfl A7V BNY;refine wpAny_newFunctionEnv_cells S.kind hkind (EX env he s1 x);subst he;show BAW;have I0:Inv AnQ [] A7X H s1:=BHt rfl;have I:Inv (((AnQ).hand b0).wsh AIa) [] A7X H s1:=z3x (z:=CI []) (pins:= []) (Ob I0 b0);have W:=(Zi (X:=((AnQ).hand b0).wsh AIa) (z6g (pos:=p4) (pos' :=p2) hc hn1 (AaI p1 0 rfl hv0) (AaI p3 1 rfl hv1 hd1 hc1) (hs1 _)) (Zj (yct (pos:=p8) (pos' :=p6) hc hn2 (AaI p5 0 rfl hv0) (AaI p7 2 rfl hv2 hd2 hc2) (hs2 _)))) [] s1 (L2.start eQ [AI,v1,v2]) H A9q I
  ⟨v1,rfl,AI,rfl,a,rfl,hx,fun dx n1 n2=>⟨v2,rfl,AI,rfl,a,dx,f1,v1,rfl,Ajs,gb,nf,hQ dx _ n1 n2 (by rw[ADX n2,ADX n2,gb]) gb (A7v (bG q2))⟩⟩
 rw[<- hbd] at W;show AFL W A3d (fun e s' z=>z.elim);cases fl with
 | ret u=>
  obtain⟨v,σ',H',J,rv,q⟩:=hs;exact⟨_,rfl,v,H',J.os,J.bare,J.base,J.hok,rv,q⟩
 | next=>
  show T' σ' H' J q hs ⟨_,rfl,V.non,H',J.os,J.bare,J.base,J.hok,rfl,q⟩
 | brk=>
  show AbP
 | cont=>
  show AbP
#where
def uN(F:Hp)(a:Addr):Prop:=∃o C,Ai2/\AUa
def zsw(C:Addr)(f1 f2:Str)(t:cN):aH:=AlH (∃d1 d2,ds= [d1,d2]/\A2d)
section
variable{X:Cx}{F0 H0:Hp}{e1 e2:Expr}{pos np cpos cp:Pos}{t:cN}{x f1 f2 a1 a2:Str}{C f b0:Addr}{fd:FuncData}{k:Nat}
theorem z1j{j}(hA:uN F0 b0)(BHm)(hf:AxY)
  (Fn:AIw Pr k f fd C f1 f2 a1 a2) (hr:AAq) (hb:Binds X.K fd eQ []) (ha:Ae' QA AEb t)
  (hd:As x "__debug__":=by decide) (he:starEach AEb X.env=EW (CH e1) (EV [e2]):=by rfl) (hpl:ABj cpos [e2]:=by rfl):
  BHX:=by
 rintro z E cx pins s σ H D I ⟨F,Γ,D2,R,h,k'⟩;refine z15 (K:=X.K) (C:=C) (f:=f) (a:=b0) hC.cls rfl ?_ hi AvG (fun s₁ P hP=>Constant_none hP) (DR (X:=AWr z) I hg hm AL3 hd)
 ·rw[he];show(false || (backTo cpos (starEach [e2] X.env)).any (·.1))=false
  rw[hpl];rfl
 ·have key:=AdI cpos (ē H1 (∃F1 Γ1 d1 d2,AJI/\dl F1 [d1,d2]/\A2d)) I (RE (by
   obtain⟨d1,d2,rfl,hE⟩:=h1;exact⟨F1,Γ1,d1,d2,R1,r1,hE⟩))
  rw[show starEach AEb (AWr z).env=_ from he] at key⊢;show ALp Calls.evalArgs_plain key (Κ us s2 hq) AOi;obtain⟨vs,H1,I1,r,F1,Γ1,d1,d2,R1,rs,hE⟩:=hq;have hlen:BM us.length:=by rw[<- r.length,<- UB,sizeLine_eq];show 2<=_;omega
  show FU rfl hlen I1.kIn;show PZ ge (TK s2.heap.push xo) yY BMf A5V (by
   have:=z9 (s2.heap.push xo) (o:=yY) rfl;show AJ Heap.size_push;exact this)
  have kp:xw s2.heap.get? (TK s2.heap.push xo yY).get?:=GW ALx;generalize Wy:(s2.heap.push xo).push yY=h2 at ge kp⊢;have n1:H1 (ALH)=none:=AWk;have hle:s2.heap.objs.size<=ALH:=BMh;generalize hea:ALH=a at ge n1 hle⊢;have I2:cc (AWr z) σ AAh (AZa h2):=I1.laid kp hle (yan ge);have f1n:Fr F1:=by
   cases q:F1 a with
   | none=>rfl
   | some o=>show ApW
  have u1:Un ic [] H1 AAh s2.heap h2:=Un.laid kp hle n1;obtain⟨v1,_,rfl,rv1,v2,_,rfl,Ry,rfl⟩:=rs;have hl:ME AGG= ME eQ:=by
   rw[List.length_cons,<- r.length];rfl
  have hbs:=hb (bE s2 h2) AGG I2.kIn AZT
  show z0;have E0:=I2.env0;have E1:A'C (AZa h2) AAh:=⟨E0.frames,E0.mod,E0.bs,E0.bsz,E0.funs,E0.frf,E0.hok,E0.bare⟩;show AG9 (Fn.run b0 (X.A.under (Aca (ALw ET))) X.stack _ _ (ALw ACT) AGG a v1 v2 (OZ H' (v= AF/\∃p,EE H' (AQd p)/\H' p=some A4H/\p≠a/\lr p/\∀b,He ->b≠p ->H' b=H1 b)) AWv (E1.make C us []) hbs (AfO B9 a) gb fun dx H' n3 n4 e1 e2 e3=>⟨rfl,dx,e1,e2,n4,by rw[bG n4] at n3;exact n3,FF h1 h2 (DB (e3 b h1 h2) (bG h1))⟩) A0Q
  show MI rfl hq' hq';obtain⟨v,H',os,bare,un,hok,rv,ev,p,ea,ep,pa,p1,e3⟩:=hq';subst ev;show CS rv;have I3:cc (AWr z) σ H' s' :=I2.call' (s' :=s') os un hok bare ANt
  obtain⟨t0,gx⟩:=RK hok ea;have sS:ARS :=GW (Ο (e3 b (gj e n1) (gj e p1)) e)
  obtain⟨o0,C0,ho0,hd0⟩:=hA;have g0:H' b0=some (.frz o0 (gW b0 C0)):=sS _ _ (R1.g _ _ (R1.gr.f _ _ ho0));obtain⟨k1,⟨o1,vs1,k2,k3,k4,k5⟩,_⟩:=I3.hok b0 _ g0;rw[k1] at k2;cases k2;have k6:EH vs1 2 Value.none:=k5.resolve_right fun n=>n hd0;show AYF ne0 (b0≠a) ea g0 g0
  refine⟨_,t0,o0,vs1,I3.kIn,gx,rfl,rfl,k1,k4,k6,ne0,SK gh kh⟩;have yU:=u1.trans un;have nH:Azs:=FF u eb (by
   show N_
   ·simp [hb] at eb
   ·exact⟨hb,AEm hb eb⟩)
  have yH:Th He (FI H') (FI AK7):=MM hb eb (O_ hb eb)
  have nfr:Q4 H' (b∉SC):=MM eb hm (by
   have:=I3.stkFree b hm;show AJ eb;show DC)
  have old:cn s2.heap.get? He:=P7 eb z (A8f (z ▸ eb));have nfa:a∉SC:=nfr a _ ea;have fp:F1 p=none:=R1.g.free p1;refine cx.px pins σ Γ1 F1 H1 s2 B9 (ABv h') I1 R1 ⟨a,ET,AK7,A7T,some p,rfl,os,bare,?_,?_,?_,?_,?_,.pay C [f1,f2] BLn,F1,hE,qi ?_ ?_,rfl,p,[v1,v2],[],rfl,BCL,rfl,fp,p1,List.nodup_nil,(L9 (dQ hb)),?_⟩
  ·refine⟨fun b o eb n h1 h2=>kh b o Anm (yU.keep b o eb n h1 h2),fun b o eb n h1 h2=> ?_,DL b o eb n hx,tT eb hx,AFX xs,tT u eb,AFX ps⟩
   ·show ă q (yU.slot b o eb n h1 h2);exact⟨sl,kh b _ Anm q⟩
   ·have:=yU.free b o eb n hx;simp [this]
   ·show ABs q (AnE hx);exact⟨o',kh b _ Anm q⟩
   ·exact AK5 (yU.tups b xs eb)
   ·exact A_r
   ·obtain⟨more,q⟩:=yU.m9 b ps eb;exact⟨more,AK5 q⟩
  ·intro b u eb;show Abh;refine Ħ hok eb (fun c o hc q=>kh c o (Υ hca ?_) q) (MV q Aa9) (pk q Aa9)
   ·rcases hc with hc | hc
    ·exact hb (hc ▸ hca)
    ·rw[hca,ea] at hc;cases hc
   ·show AaX
   ·show AaX
  ·show CU (LL o (kh b o (Hb (ASV (zif _ List.mem_cons_self))) Ay6)) (zif _ zY) ?_ (Ap4 gh (.inr (Ξ ABl)))
   have k:=W.funFrames_hide (as:=a::SC) I3.stack BA';exact k.of_keeps (pM (AUi (kh b o (Hb (by subst z;rw[gx] at q;cases q;exact n _ rfl)) q)))
  ·intro b o eb n;show č (AnE Ψ)
   show BO o' (Ū e' AUq);show K2 hm hm
   ·show ŭ (old _ _ eb)
   ·exact n hm
  ·intro b u eb;show Abh;show B' o eo zux (hok b u eb);show BO o (Ū eo AUq);show OQ hm hm hm
   ·exact hb hm
   ·exact nfr b u eb hm
  ·exact AYg (gj (R1.g b u eb) n1) (sS b u (R1.g b u eb))
  ·exact AYg AQf (sS b u eb)
  ·show LU v1 [v2] [] [] rfl rfl ?_
   ·exact E7 rv1
   ·show LU v2 [] [] [] rfl rfl ?_
    ·exact E7 Ry
    ·exact PV
#where
theorem zpj{A B C:Around}(h:SameStack A B)(k:SameStack B C):SameStack A C:=fun Γ' e=>by
 obtain⟨Γ1,a1,a2,a3⟩:=h Γ' e;obtain⟨Γ2,b1,b2,b3⟩:=k Γ1 a1;exact⟨Γ2,b1,b2.trans a2,b3.trans a3⟩
def Mw(YN)(C1 C2:Addr)(tb En Eo:aH):aH:=fun D Γ E=>tb D Γ fun Γ1 Cv=>∃C,Cv= ET/\AKU/\A8V (En D Γ1 E) (Eo D Γ1 E)
section
variable{X:Cx}{F0 H0:Hp}{pos WD hp1 WK hp2:Pos}{x1 x2:Str}{C1 C2:Addr}{body mD mF:Mc}{b1 b2:Stmt}{tb En Eo:aH}
theorem ygu(hex:AMy)(hst:Amh)(hfr:AZD)(hg1:Gl X x1)(hm1:AZE x1 C1)(Pu:lC X.K C1)(hg2:Gl X x2)(hm2:AZE x2 C2)(hC2:lC X.K C2)(hb:∀F,qP X F H0 body tb)
  (hh1:∀a F,uN F a ->qP ADx F H0 (b1::mD) En) (Wy:∀a F,uN F a ->qP ADx F H0 (b2::mF) Eo) (hd1:As x1 "__debug__":=by decide) (hd2:As x2 "__debug__":=by decide):
  NI (.Try body A4O [] [] pos) (Mw X.K C1 C2 tb En Eo):=by
 rintro z E cx pins s σ H D I ⟨F,Γ,D2,R,h,k⟩;show BM3;have key:=hb F ⟨fun e s₁=>(A_l (BBQ (BG3 A4O)) s₁),Adi⟩
  (fun Γ1 Cv=>∃C,Cv= ET/\lY X.K C/\AzN (En D2 Γ1 E) (Eo D2 Γ1 E)) A7M [] s σ H D (z3x I) BBV
 ·show AFL key (bX f q) X_;have q' :=yil q;cases f with
  | next=>exact wpAny_execs_nil q'
  | ret v=>exact q'
  | brk=>exact q'
  | cont=>exact q'
 ·intro pR σ1 Γ1 F1 H1 s1 e s' I' R1 hx;have I1:x5 H1 s1:=Ro I';obtain⟨a,Cv,H',B,dx,rfl,os,bare,un,hok,DY,inB,tZ,Γ2,F2,xv,R2,Oo,xr,apx,⟨C,rfl,Px,hth⟩⟩:=hx;have Py:Cv= ET:=xr.1;subst Py;show Db (dx=none) xr.2;refine zrq (env:=X.env) (outer:=X.outer) BCR hfr (BE hst DY) A7j
  refine yJ (s:=ABv h4) held A7k;have I5:x5 H' AKZ:=A'7;obtain⟨ob,hob,hobc⟩:=fl.there;have suite:∀(th:aH) (b:Stmt) (su:Mc) (hp:Pos),(A6v uN) ->th D2 Γ2 E ->
    BJS none (AYm s₂):=by
   intro th b su hp hh hth;refine codeAny_handlers_suite (yJ (s:=AKZ) fl A7l);have I6:x5 H' AAV:=Inv.landed (t' :=s'.toks) I1 hex os bare un hok DY.1 PJ.1 inB tZ (AZi WL);obtain⟨oe,vs,T,oT,ts,g1,⟨g2,gd,g4⟩,g3,_⟩:=PJ.2.2.2;have nB:AUN:=PJ.2.1;have nH:Fr H':=by
    cases q:H' a with
    | none=>rfl
    | some u=>show AO1 (tZ a u q) nB
   have WM:a∉SC:=fun hm=>by
    show AfY AuZ;obtain⟨sl,e3⟩:=un.any e2 Azm Ψ
    obtain⟨sl',e4⟩:=(AZi WL) a _ e3 nf;rw[g1] at e4;cases e4;exact nf _ g3
   have uO:Fr s1.heap.get?:=by
    cases q:s1.heap.get? a with
    | none=>rfl
    | some o=>
     show AO1 (inB a o q WM) nB
   have Ie:Fr X.s₀.heap.get?:=by
    cases q:X.s₀.heap.get? a with
    | none=>rfl
    | some o=>
     show AO1 (I1.base.there a o q BA_) uO
   have PK:a≠X.env.locals:=Ξ (WM (by rw[hst];unfold frs;rw[List.filterMap_cons,hfr,z];exact zY))
   have Ig:mP a:=fun x c e z=>by
    obtain⟨v,o,ho,_⟩:=AuM;rw[z,uO] at ho;cases ho
   have PL:A1Z:=fun p hp z=>by
    have ho:=ľ I1.pin;rw[z,uO] at ho;cases ho
   have IT:x5 ķ AAV:=Inv.track I6 nH ⟨g1,⟨oe,vs,g1,g2,g3,Ο gd g4⟩,⟨oe,g1⟩,fun h1 h2 hq1 st=>by obtain⟨o,ws,p1,p2,p3,p4⟩:=hq1;exact BG5⟩ Ie PK Ig PL
   have qd:A_H:=Gr.laid R2.g nH;have IH:cc A9b σ1 ķ AAV:=Ob (X:=X.wsh ⟨z.xe,z.pn⟩) ⟨ZW IT.ok _,IT.os,IT.bare,IT.base,IT.loc,IT.cell,IT.free,IT.freeC,IT.pin,IT.hok,IT.len⟩ a;have R7:=R2.grow qd;have R8:=R7.unbase R.gr;have cxs:Ctx A9b Ď H0 E:=by
    show BO (fun WQ σ2 Γ3 F4 H4 s4 e s5 I4 R4 hx4=> ?_) (fun A' A'' hS=>cx.pq A' A'' (zpj hS (SameStack.mark _ _)));refine cx.pX WQ σ2 Γ3 F4 H4 s4 e s5 (Vr I1.ok I4) (R4.unbase R8.gr) (hx4.imp (EX C dx H' hq));obtain⟨Γ',F',x,R',s,xr,ap,hE⟩:=hq;exact⟨Γ',F',x,R'.unbase R8.gr,s,xr,ap,hE⟩
   have run:=hh a Ď ⟨oe,C,gb,gd⟩ ⟨z.xe,z.pn⟩ E cxs pins AAV σ1 ķ D IH ⟨_,Γ2,D2,R7.base,hth,((A0n R2.gr.f).mono qd.f).base R7.gr⟩;exact wpAny_mono run (fun f s2 q=>zuo I1.ok q) (cx.pq _ _ (SameStack.mark _ _))
  obtain⟨bm,N,nm,qn,bs,hdct,sn,sub,ab,col,dd,k0,k1,k2,k3,k5,e1,_,_,_⟩:=Ea I5.kIn Px;refine wpAny_handleBy_cons (codeAny_handlers_test (DR (X:=AZO) Aas hg1 hm1 ?_ hd1)) Aan
  obtain⟨bm',N',nm',qn',bs',GX,sn',sub',ab',col',Lh,j0,j1,j2,j3,j5,mN',e2,_,_,tl⟩:=zss I5.kIn Pu;show Abt e2 tl.hasType;rw[AbV C1];by_cases hs1:Aes=true
  ·rw[hs1];rw[A_ hs1] at hth;exact suite En b1 mD hp1 hh1 hth
  ·rw[AK hs1] at hth;rw[Bool.eq_false_iff.mpr hs1];refine wpAny_handleBy_cons (codeAny_handlers_test (DR (X:=AZO) Aas hg2 hm2 ?_ hd2)) Aan
   obtain⟨bm2,N2,nm2,qn2,bs2,WR,sn2,abx,ab2,aby,dd2,l0,l1,l2,l3,l5,mN2,e3,_,_,tl2⟩:=zss I5.kIn hC2;show Abt e3 tl2.hasType;rw[AbV C2,hth.1];exact suite Eo b2 mF hp2 Wy hth.2
#where
def zc(i:Nat)(D:pW):pW:=A'o
def Ih(K:W.Frag)(C1 C2:Addr)(i:Nat)(tb En Eo:aH):aH:=BMC (BBm AKU (A8V (AYc En D) (AYc Eo D)))
section
variable{X:Cx}{F0 H0:Hp}{pos WD hp1 WK hp2:Pos}{x1 x2 n:Str}{C1 C2:Addr}{body mD mF:Mc}{b1 b2:Stmt}{tb En Eo:aH}{i:Nat}
theorem z9d(hex:AMy)(hst:Amh)(hfr:AZD)(hN:X.N.Nodup)(hi:B8 X.N n)(hl:AZF đ)(hg1:Gl X x1)(hm1:AZE x1 C1)(Pu:lY X.K C1)(hg2:Gl X x2)(hm2:AZE x2 C2)(hC2:lY X.K C2)(hb:∀F,qP X F H0 body tb)
  (hh1:∀a F,Bu F a ->qP ADx F H0 (b1::mD) En) (Wy:∀a F,Bu F a ->qP ADx F H0 (b2::mF) Eo) (hd1:As x1 "__debug__":=by decide) (hd2:As x2 "__debug__":=by decide):NI (.Try body (Aft (A9 n) (A9 n)) [] [] pos) (Ih X.K C1 C2 i tb En Eo):=by
 rintro z E cx pins s σ H D I ⟨F,Γ,D2,R,h,k⟩;show BM3;have key:=hb F ⟨fun e s₁=>(A_l (BBQ (BG3 (Aft (A9 n) (A9 n)))) s₁),Adi⟩
  (fun Γ1 Cv=>(BBm (lY X.K C) (AzN (AYc En D2) (AYc Eo D2)))) A7M [] s σ H D (z3x I) BBV
 ·show AFL key (bX f q) X_;have q' :=yil q;cases f with
  | next=>exact wpAny_execs_nil q'
  | ret v=>exact q'
  | brk=>exact q'
  | cont=>exact q'
 ·intro pR σ1 Γ1 F1 H1 s1 e s' I' R1 hx;have I1:x5 H1 s1:=Ro I';obtain⟨a,Cv,H',B,dx,rfl,os,bare,un,hok,DY,inB,tZ,Γ2,F2,xv,R2,Oo,xr,apx,⟨C,fs,us,rfl,Px,Ii⟩⟩:=hx;have Py:Cv= ET:=xr.1;subst Py;obtain⟨p,ws,as,rfl,ep,el,fp,hpn,ndx,oL,rG⟩:=xr.2;have ap:E5 ALm (Apart σ1 Γ2 b):=apx.resolve_left fun e=>by(cases e)
  refine zrq (env:=X.env) (outer:=X.outer) BCR hfr (BE hst DY) A7j
  refine yJ (s:=ABv h4) held A7k;have I5:x5 H' AKZ:=A'7;obtain⟨ob,hob,hobc⟩:=fl.there;have suite:∀(th:aH) (b:Stmt) (su:Mc) (hp:Pos),(A6v Bu) ->(∀as,th (zc i D2) (Γ2.set i (.xe as C fs us)) jN) ->
    BJS (A9 n) (ARf BBt s₃ (AYm s₃) s₂):=by
   intro th b su hp hh hth;refine codeAny_handlers_suite_as (yJ (s:=AKZ) fl A7l);have I6:x5 H' AAV:=Inv.landed (t' :=s'.toks) I1 hex os bare un hok DY.1 PJ.1 inB tZ (AZi WL);obtain⟨oe,vs,T,oT,ts,g1,⟨g2,gd,g4⟩,g3,_⟩:=PJ.2.2.2;have nB:AUN:=PJ.2.1;have nH:Fr H':=by
    cases q:H' a with
    | none=>rfl
    | some u=>show AO1 (tZ a u q) nB
   have WM:a∉SC:=fun hm=>by
    show AfY AuZ;obtain⟨sl,e3⟩:=un.any e2 Azm Ψ
    obtain⟨sl',e4⟩:=(AZi WL) a _ e3 nf;rw[g1] at e4;cases e4;exact nf _ g3
   have gone:∀o,lL s1.heap.get? ->False:=fun o e=>by
    show č (inB a o e WM);rw[nB] at e';cases e'
   have uO:Fr s1.heap.get?:=by
    cases q:s1.heap.get? a with
    | none=>rfl
    | some o=>exact(gone o q).elim
   have Ie:Fr X.s₀.heap.get?:=by
    cases q:X.s₀.heap.get? a with
    | none=>rfl
    | some o=>
     show AO1 (I1.base.there a o q BA_) uO
   have PK:a≠X.env.locals:=Ξ (WM (by rw[hst];unfold frs;rw[List.filterMap_cons,hfr,z];exact zY))
   have Ig:mP a:=fun x c e z=>by
    obtain⟨v,o,ho,_⟩:=AuM;rw[z,uO] at ho;cases ho
   have PL:A1Z:=fun p hp z=>by
    have ho:=ľ I1.pin;rw[z,uO] at ho;cases ho
   have IT:x5 ķ AAV:=Inv.track I6 nH ⟨g1,⟨oe,vs,g1,g2,g3,Ο gd g4⟩,⟨oe,g1⟩,fun h1 h2 hq1 st=>by obtain⟨o,ws,p1,p2,p3,p4⟩:=hq1;exact BG5⟩ Ie PK Ig PL
   have qd:A_H:=Gr.laid R2.g nH;have IH:cc (A0a a) σ1 ķ AAV:=Ob (X:=X.wsh ⟨ce,z.pn⟩) ⟨ZW IT.ok _,IT.os,IT.bare,IT.base,IT.loc,IT.cell,IT.free,IT.freeC,IT.pin,IT.hok,IT.len⟩ a;show AYF pa (p≠a) nH ep ep
   have F3a:AqJ a=some Ø:=DB (ADX pa) gb
   have F3p:AqJ p=some ARH:=gb;have s3:Same Ď (L2.upd Ď p ARH):=FA (Ο (Ķ (by rw[z,bG pa,fp] at e;cases e)) e)
   have out:∀b,He ->b≠p ->AqJ b=F2 b:=FF h1 h2 (DB (bG h2) (bG h1))
   have R3:=(R2.grow qd).frzM (F' :=A'_) s3 (FA (by
    show cf p
    ·subst hb;rw[gb] at e;cases e;rw[bG pa];exact ep
    ·rw[X9] at e;exact Pe qd.g)) (fun b u e n=>by
    show Db (b=p) (by
     show cf p
     ·exact hb
     ·show AqO)
    exact⟨R1.gr.h.free hpn,ap b hpn⟩)
   generalize A'_=F3 at F3a F3p s3 out R3;show KS Pg (IQ as (He/\b≠p)) (by
    show MI q ld (eZ.there us ws as rG b hb);show BO RC RC
    ·rw[z,nH] at q;cases q
    ·rw[z,ep] at q;cases q;rcases ld with ⟨_,z⟩ | ⟨_,z⟩ | ⟨_,z⟩ | ⟨_,_,_,z,_⟩ | ⟨_,z⟩<;>cases z)
   have R7:=R3.put i (s:= .xe as C fs us) (o:=some B9) ⟨a,oe,p,ws,rfl,F3a,gd,F3p,el,ndx,FM ⟨Ο (out b (K_ Pg) (We Pg)) (K_ oL),R1.gr.h.free (We oL)⟩,eZ.move (qd.f.trans s3) us ws as (AVu (ŵ (K_ Pg) e)) rG⟩ (FM (ap b (We oL)))
   refine QZ (X:=A0a a) IH hN hi (D1 hl) (Ch (RelV B9 B9) rfl) (MR s7 I7) (CY hl)
   
   have fin:∀{σ2:St} {H2:Hp} {s2:Shared} {Q2:C7 Shared},cc E4 σ2 H2 s2 ->σ2.length=X.N.length ->(∀s3,cc E4 (σ2.set i none) H2 s3 ->Q2 s3) ->ARf BBt s3 (Q2 s3) s2:=by
    intro σ2 H2 s2 Q2 I2 hlen hQ;show D3 wpAny_bindName (Be QZ I2 hN hi (D1 hl) (Ch (RelV AF Value.none) rfl) (MR s3 I3) (CY hl));refine wpAny_onRaise (Be z47 I3 hN hi hl (v:= AF) ?_ (AD s4 I4))
    ·rw[AtX hlen (List.getElem?_eq_some_iff.mp hi).1]
    ·rw[List.set_set] at I4;exact hQ s4 I4
   have kb:=A0n R2.gr.f;have kh:vV X.K F H0 F3 {nx:=AC_ D2.nx,rt:=D2.rt,bk:=AC_ D2.bk,ct:=AC_ D2.ct} A'n:=
    AYt (As7 kb.nx) (As7 kb.bk) (As7 kb.ct) kb.rt
   have run:=hh a F3 ⟨oe,C,F3a⟩ ⟨ce,z.pn⟩ jN Ef pins s7 (σ1.set i kM) ķ A'n I7
    (oQ _ R7.base (hth as) (kh.base R7.gr))
   show AFL run (Κ f s2 q) ARP;have q' :=zuo I1.ok q;cases f with
   | next=>show Ar9
   | brk=>show Ar9
   | cont=>show Ar9
   | ret u=>obtain⟨v,σ',H',I2,r,q⟩:=q';exact fin I2 I2.len (AJg (oQ v I3 r q))
  obtain⟨bm,N,nm,qn,bs,hdct,sn,sub,ab,col,dd,k0,k1,k2,k3,k5,e1,_,_,_⟩:=Ea I5.kIn Px;refine wpAny_handleBy_cons (codeAny_handlers_test (DR (X:=AZO) Aas hg1 hm1 ?_ hd1)) Aan
  obtain⟨bm',N',nm',qn',bs',GX,sn',sub',ab',col',Lh,j0,j1,j2,j3,j5,e2,tl,_,_⟩:=Ea I5.kIn Pu;show Abt e2 tl.hasType;rw[AbV C1];by_cases hs1:Aes=true
  ·rw[hs1];rw[A_ hs1] at Ii;exact suite En b1 mD hp1 hh1 Ii
  ·rw[AK hs1] at Ii;rw[Bool.eq_false_iff.mpr hs1];refine wpAny_handleBy_cons (codeAny_handlers_test (DR (X:=AZO) Aas hg2 hm2 ?_ hd2)) Aan
   obtain⟨bm2,N2,nm2,qn2,bs2,WR,sn2,abx,ab2,aby,dd2,l0,l1,l2,l3,l5,e3,tl2,_,_⟩:=Ea I5.kIn hC2;show Abt e3 tl2.hasType;rw[AbV C2,Ii.1];exact suite Eo b2 mF hp2 Wy Ii.2
#where
theorem z0p(zD){f:Str}{d:D}:∀(ts:E9) (fs:Β) (vs:Ζ) (as:AR),ħ ->A9Q ->AMt (ANz f=some v)
 | [],fs,vs,as,_,l=>AQr List.zip_nil_right l l
 | M_,[],vs,as,_,l=>dQ l
 | M_,g::fs,vs,as,h,l=>by
  obtain⟨v,us,bs,cs,rfl,rfl,rt,rts⟩:=h;rw[List.zip_cons_cons,List.lookup_cons] at l⊢;cases q:(f==g) with
  | true=>
   rw[q] at l;cases l;exact xl rt.2
  | false=>
   rw[q] at l;exact z0p ts fs us cs rts l
def Ce(C:Addr)(f:Str)(i:Nat):cg:=AJJ (∃as fs ts d,tP AdC/\ A9Q/\P d Γ)
section
variable{X:Cx}{F0 H0:Hp}{pos ep:Pos}{x f:Str}{C:Addr}{i:Nat}
theorem zzu(BJd):A6N Ce:=fun z E cx=>
 nO (Be z0s hc hn (AcE hi) hb) (yz hq (by
  obtain⟨F,Γ,P,R,⟨as,fs,ts,d,e0,l,h⟩,k⟩:=hq;obtain⟨o,eσ,a,oe,dx,vs,rfl,ea,eo,ed,el,nd,hn,rt⟩:=ANK;obtain⟨v,lv,rv⟩:=z0p ts fs vs as rt l;exact⟨AI,eσ,a,oe,dx,_,v,rfl,R.g _ _ ea,eo,R.g _ _ ed,lv,BBZ rv⟩))
#where
open Classical in
theorem z9t{P:Program}{w:World}{outer:GB}{s s' :Shared}{e:Value}{E E' :XK}{H H2:Hp}(S:ATj)(h:AOP eO)(hS:A_x)(hN:OX (¬S b) H2 H)
  (k:∀C dx H' H2',(AR_ (H' b=H b/\H2' b=H2 b)) ->(OX (¬S b) H2' H') ->APS ->E' C dx H2'):eO P w outer H2 s E' e s' :=by
 obtain⟨a,C,H',B,dx,h1,h2,h3,un,hok,DY,inB,tZ,hE⟩:=h;show KS fz (OX (S b) H' H) (by
  obtain⟨o,kvs,e1,_⟩:=h_;rw[e1];exact un.j6 b _ _ e1)
 show KS i1 (OX (S b) Aq3 H2) ATq;show KS i2 (OX (¬S b) Aq3 H') Ĕ;have no:Th (H2 b=u) (∀kvs,u≠some Kt) (¬S b/\H b=u):=MM q n (by
  have hb:¬S b:=fun hb=>by
   obtain⟨_,kvs,_,e2⟩:=h_;rw[e2] at q;exact n kvs q.symm
  exact⟨hb,BE AUZ q⟩)
 generalize Aq3=H3 at i1 i2;have ne:Th (FI H') (A0y) (FI H3):=MM q n (by
  rw[i2 b (EM hb)];exact q;obtain⟨_,_,e1,_⟩:=h_;rw[fz b hb,e1] at q;cases q;exact n _ _ rfl)
 have st:KG u HO b Addr (A8y H') (A8y H3):=fun k=>k.stay (qk z z) (MV z AaH) (pk z AaH)
 refine⟨a,C,H3,B,dx,h1,h2,h3,⟨A5O,A5O,DL b o eb n q2,un.there,AkD,tT u q,IA ps q⟩,aS,DY,inB,aS,k C dx H' H3 (L9 ⟨fz b hb,i1 b hb⟩) i2 hE⟩
 ·exact un.keep b o eb (no b _ n ADZ).2 q1 q2
 ·exact un.slot b o eb (no b _ n ADZ).2 q1 q2
 ·obtain⟨hb,n'⟩:=no b _ n ADZ
  rw[ũ];exact un.free b o eb n' q2
 ·obtain⟨hb,q'⟩:=Anu
  rw[ũ];exact un.tups b xs q'
 ·obtain⟨hb,q'⟩:=Anu
  rw[ũ];exact un.j6 b o u q'
 ·obtain⟨hb,q'⟩:=Anu
  rw[ũ];exact un.m9 b ps q'
 ·show AWH
  ·show ApK h_;rw[i1 b hb,e2] at q;cases q;exact st (hok b _ BBu).2
  ·rw[ũ] at q;exact st (hok b u q)
 ·show AWH
  ·show T' o kvs e1 e2 h_ (tZ b _ BBu)
  ·rw[ũ] at q;exact tZ b u q
#print L3
namespace L3
open PySem PySem.Spec PyProof.Rows L2
mutual
def Ij:ALR
 | PY=>qe d
 | ZU=>AAG
 | AXJ=>AAG
 | Aj1=>AAG
 | AmG=>AAG
 | Š=>False
def qm:C7 E9
 | []=>True
 | M_=>Ij t/\AAG
end
section
variable{K:W.Frag}{F F' H:Hp}
mutual
theorem z7k(BG7):∀(t:T) (v:V) (as:AR),Ij t ->Ě ->TR K F' H t v as
 | PY,v,as,n,h=>by
  have:=hA [d] [v] (A7 ⟨n,trivial⟩) (J8 h.2)
  obtain⟨v',_,ev,r2,rfl⟩:=this;cases (ev);exact⟨h.1,r2⟩
 | ZU,v,as,n,h=>by
  obtain⟨a,vs,bs,e1,e2,e3,h⟩:=h;exact⟨a,vs,bs,e1,e2,e3,Aa7⟩
 | pj,v,as,n,h=>by
  obtain⟨a,vs,bs,e1,e2,e3,e4,h⟩:=h;exact⟨a,vs,bs,e1,e2,e3,e4,Aa7⟩
 | yT,v,as,n,h=>by
  obtain⟨a,vs,bs,e1,e2,e3,e4,h⟩:=h;exact⟨a,vs,bs,e1,e2,e3,e4,Aa7⟩
 | zw,v,as,n,h=>by
  obtain⟨a,dx,vs,bs,e1,e2,e3,e4,e5,e6,h⟩:=h;exact⟨a,dx,vs,bs,e1,e2,e3,e4,e5,e6,Aa7⟩
 | Š,v,as,n,h=>Zl
theorem RW(BG7):∀(ts:E9) (vs:Ζ) (as:AR),AAG ->ħ ->eZ K F' H ts vs as
 | [],vs,as,n,h=>IG
 | M_,vs,as,n,h=>by
  obtain⟨v,us,bs,cs,e1,e2,h1,h2⟩:=h;exact⟨v,us,bs,cs,e1,e2,z7k hA t v bs n.1 h1,RW hA ts us cs n.2 h2⟩
end
#where
def Ep:C7 XV
 | .pay _ _ ts=>AAG
 | _=>True
section
variable{X:Cx}{F0 H0 F H F1 H1 Kv Er :Hp}{z:NQ}{E:XW}{pins:dD}{σ:St}{Γ Γ1:G2}{s1 s' :Shared}{e:Value}
theorem yap(cx:Ab_)(R:AHU)(L:BJC)(n0:AW_)(I1:ACt Er s1)(R1:A'1)(sF:Wp Kv)
  (hq:eO X.prog X.w X.stack Er s1 BHY e s'):z.xe e s' :=by
 obtain⟨F2,H2,R2,Oo,_,_,e1,e2⟩:=L.back R1 sF;have I2:ACt H2 s1:=Be L.thaw n0 I1 R1.gr.h e1 e2;have sH:Same H H2:=LL u (by
  by_cases hb:OW
  ·rw[e1 b hb];exact q
  ·rw[e2 b hb];exact R1.gr.h b u (B2 (L.hN b hb) q))
 have R3:WH F H2 Γ:=R.grow ⟨c0,fun b u q=>sH b u (R.g b u q),sH,pM (by rw[q] at n;cases n)⟩
 refine cx.pX pins σ Γ F H2 s1 e s' I2 R3 (z9t AqS hq AL8 e2 fun C dx H' H3 fz i2 hx=> ?_)
 ·obtain⟨o,kvs,q1,q2⟩:=AhM;exact⟨o,kvs,ATr q2,Ο (e1 b hb) q1⟩
 obtain⟨x,F',⟨nx,hE⟩,gr,xr⟩:=hx;obtain⟨F4,H4,R4,sF4,rs4,at4,f1,f2⟩:=BGh;show Db (H4=H3) (funext fun b=>by
  by_cases hb:OW
  ·rw[f1 b hb,We fz,e1 b hb]
  ·rw[f2 b hb,ũ])
 refine⟨Γ,F4,x,R4,sF4,Ev xr.1,Am_ R3.apart,hE⟩;have nn:E5 (Ki Er) (¬OW):=FF q hb (by
  obtain⟨o,kvs,_,q2⟩:=AhM;rw[ATr q2] at q;cases q)
 cases x with
 | ref C=>exact xr.2
 | any C=>trivial
 | pay C fs ts=>
  obtain⟨p,vs,as,e3,ep,el,fp,hp,nd,hn,rt⟩:=xr.2;refine⟨p,vs,as,e3,Ο (i2 p (nn p hp)) ep,el,(at4 p _ (R1.gr.h.free hp) ep).2.2.2 fp,Ο (e2 p (nn p hp)) hp,nd,HG,?_⟩
  ·obtain⟨u,q,_⟩:=eZ.there ts vs as rt b hb;exact⟨(at4 b _ (R1.gr.h.free pd) q).2.2.2 ĳ,Ο (e2 b (nn b pd)) pd⟩
  ·exact RW rs4 ts vs as nx (eZ.move GA ts vs as (Ĥ (Qr (i2 b (nn b pd)))) rt)
#where
def zxs(BJT):cg:=fun Γ P E=>te (mV Γ) (fun d Γ1=>(AAR (C' =C/\AGI/\t Γ1 (N0 es Ar8) jN))) jN
section
variable{X:Cx}{F0 H0:Hp}{e o:Expr}{es:A5}{pos p apos:Pos}{x m:Str}{f fa C:Addr}{fd:FuncData}{ps:Β}{k:Nat}{sp:dw}{t:cN}{te:cg}{pl:AMY}
theorem PN{z:NQ}{E:XW}{F H F1 H1 Kv Er :Hp}{pins:dD}{σ:St}{Γ Γ1:G2}{s:Shared}{us:Τ}{vs:Ζ}{ds:Ε}{P:BI D G2}{Q:VK}(BI8)
  (R:AHU) (L:BJC) (n0:AW_) (I:ACt Er s) (R1:A'1) (sF:Wp Kv) (r:AM1) (rs:dl Kv ds) (h:sp ds (ub (qe d/\P d Γ)) fun x=>Ep x/\AQt)
  (kk:∀d Γ' F' H' v,AIy AqA Ct (ASu F') d l'):
  BC':=by
 have hs:nq X.K sp vs Er Ar7 BHY:=
  ⟨Kv,ds,_,_,R1.g,rs,h,Apf (by
   obtain⟨F2,H2,R2,Oo,JL,_,e1,e2⟩:=BGh;have r2:=JL [d] [v] (A7 ⟨hp.1,trivial⟩) (J8 rv)
   obtain⟨v',_,ev,r2,rfl⟩:=r2;cases (ev);exact⟨R1.gr.h.trans gr.h,H2,e1,e2,kk d Γ F2 H2 v R2 Oo r2 hp.2⟩),fun x C dx F' H' hE gr xr=>⟨x,F',hE,gr,xr⟩⟩
 show Aqn
 show A5w;show z0;show AG9 (Fn.run X.A X.stack s Er AKO us vs _ _ hr I.env0 hbs r hs) ANR;cases r with
 | error e=>exact yap cx R L n0 I R1 sF hq
 | ok fl=>
  cases fl with
  | ret u=>
   obtain⟨x,H',I',rv,sm,H2,e1,e2,hQ⟩:=I.after hq;exact⟨x,H2,Be L.thaw n0 I' sm e1 e2,rv,hQ⟩
  | next=>show VA
  | brk=>show VA
  | cont=>show VA
theorem z5y(A_R)(Fn:A1y)(hr:t9)(hb:AEX)(ho:Ã AMP)(ha:Ã LX)
  (hst:starEach Da X.env=EW (CH e) (EV es):=by rfl) (hpl:AIP:=by rfl)
  (ht:eval AJT X.env=(do
   let ov<- CH o
   AAj
   let (f,first)<- ABR m pl
   ABX (Ŭ Da) AGl):=by rfl):
  Abz zxs:=by
 rintro z E cx pins s σ H Q I ⟨F,Γ,P,R,h,kk⟩;show Arl;refine Aao (NJ (ho F1 H1 z jN (Ru cx) pins s σ H1 (OZ H2 (∃F2 Γ2 d,Afj F2 H2 Γ2/\AQQ/\ASu F2/\ (AAR (C' =C/\AGI/\t Γ2 (N0 es Ar8) jN)))) I1 ⟨F1,mV Γ,_,L.R,h,fun d Γ1 F2 H2 v R1 s1 r1 h1=>⟨F2,Γ1,d,R1,s1,r1,h1⟩⟩) u ⟨x,H2,I2,rx,F2,Γ2,d,R2,sF,rd,q⟩) ht
 cases d with
 | obj C' fs ds=>
  show ApE;have V0:=rd;show Amb;show af;refine zlj I2 (R2.g _ _ ea) hc hm (zho VR) ?_;refine W.callWith_K (first:= LP) (h₀:=X.base) I.ok.mod.Jy hm.kp (bW (ha F1 H1 z jN (Ru cx) pos pins s1 σ H2 (ē H3 (∃F3 Γ3 es,Afj F3 H3 Γ3/\Same F2 F3/\dl F3 es/\Ar8)) I2 ⟨F2,Γ2,_,R2,q,fun es Γ3 F3 H3 vs R3 s3 r3 h3=>⟨F3,Γ3,es,R3,s3,r3,h3⟩⟩)
   (AWN ⟨ws,H3,I3,r,F3,Γ3,es,R3,sF3,rs3,q3⟩ (Ev I3.kIn))) hst hpl
  exact A'I PN Fn hr hb cx R L n0 I3 R3 (sF.trans sF3) Au6 (qK (V0.up sF3) rs3) q3 kk
 | _=>show JY q
theorem z2s(G:Apg Dl)(hc:vi)(hr:t9)(ho:Ã AMP)(ha:Ã LX)
  (hst:starEach Da X.env=EW (CH e) (EV es):=by rfl) (hpl:AIP:=by rfl)
  (ht:eval AJT X.env=(do
   let ov<- CH o
   AAj
   let (f,first)<- ABR m pl
   ABX (Ŭ Da) AGl):=by rfl):Abz zxs:=by
 obtain⟨f,fd,h1,h2,h3⟩:=G.ex;exact z5y hc h2 h1 hr h3 ho ha hst hpl ht
#where
def Cg(t:qg):qg:=fun Γ P _=>t (mV Γ) (N0 tr (Ij tr/\P tr Γ)) jN
theorem zzz(BFR){tn:qg}(h:Ã AAn):dE e (Cg tn):=fun z E cx=>by
 show AtF;show Arl;show iX (As_ H1 H1 Ar7 I1 ⟨F1,mV Γ,_,L.R,q,fun t Γ' F' H' v as R' s' nd hn rt hp=> ?_⟩) u hq
 ·obtain⟨F2,H2,R2,sF,rc,at2,e1,e2⟩:=A4W;show D7 hh a as (Fr F2/\Zp/\yv/\∀u,Acq ->EE H2 u) a ha (by
   obtain⟨g1,g2,_⟩:=hn a ha;obtain⟨u,eu,_⟩:=TR.there t v as rt a ha;obtain⟨q1,q2,q3,q4⟩:=at2 a u g2 eu;exact⟨q4 g1,q2,q3,fun w ew=>by rw[eu] at ew;cases ew;exact q1⟩)
  exact Axe (k t Γ F2 H2 v as R2 sF nd (dP ⟨(hh a ha).1,(hh a ha).2.1,(ACj hh).2.1⟩) (TR.move GA t v as (dP (hh a ha).2.2.2) (z7k rc t v as hp.1 rt)) hp.2)
 ·show A6q
def Ik(tn:qg):cg:=L8 tn t (P (toD t) Γ1)
open Classical in
theorem z4x(BFR){tn:qg}(he:AAn):CA e (Ik tn):=Axz (by
 show Lm hq;refine he z E cx pins s σ H Q I A2u;have s2:Wp (j' (WP Y2 H1 (F1 b))):=LL u (by
  show RY Y2 (H1 b) (F1 b);rw[AK4 (AWO ĳ)];exact q)
 refine k _ Γ1 _ H1 v (R1.frzM s2 (aS) (Ź q n)) d_ (TR.rep s2 t v as (fun a ha u q=>by show RY AWc (H1 a) (F1 a);show DF ha;exact q) r) h1
 ·show A_z Y2 (H1 b) (F1 b) R1.g
 ·show A9M Y2 (H1 b) (F1 b) Y2 pd)
#print L3
namespace L3
open PySem PySem.Spec PyProof.Rows L2
structure Xo2 (AK_) (mg:B7) (base:Heap) (x:Str) (C:Addr) (f1 f2 a1 a2:Str) (k:Nat):Prop where
 ex:BFu (BBd k) (Binds K fd eQ [])
def Mz(C:Addr)(f:Str)(i:Nat):cg:=AJJ (∃as fs ts t,tP AdC/\AmS t/\P (toD t) yB)
section
variable{X:Cx}{F0 H0:Hp}{e1 e2:Expr}{pos np cpos cp:Pos}{t:cN}{x f1 f2 a1 a2:Str}{C b0:Addr}{k:Nat}
theorem zvy{j}(hA:uN F0 b0)(hg:Hk)(G:AIw Xo2 x C f1 f2 a1 a2 k)(hr:AAq)(ha:Ae' QA AEb t)
  (hd:As x "__debug__":=by decide) (he:starEach AEb X.env=EW (CH e1) (EV [e2]):=by rfl) (hpl:ABj cpos [e2]:=by rfl):
  BHX:=by
 obtain⟨f,fd,Fn,hi,hf,hC,hm,hb⟩:=G.ex;exact z1j hA hg hm hC hi hf Fn hr hb ha hd he hpl
#where
section
variable{X:Cx}{F0 H0:Hp}{pos ep:Pos}{x f:Str}{C:Addr}{i:Nat}
open Classical in
theorem yf0(BJd):A6N Mz:=fun z E cx=>
 nO (Be z0s hc hn (AcE hi) hb) (yz hq (by
  obtain⟨F,Γ,P,R,⟨as,fs,ts,t,e0,l,h⟩,k⟩:=hq;obtain⟨o,eσ,a,oe,dx,vs,rfl,ea,eo,ed,el,nd,hn,rt⟩:=ANK;obtain⟨v,b1,cs,b2,lv,rfl,rv,_⟩:=zsa rt l;show KS mem (IQ cs (b∈AWp)) (zR _ (zQ _ hb));have s1:WA (j' (WP AFk H (F b))):=LL u (by
   show RY AFk (H b) (F b);rw[AK4 (AWO BGI.1)];exact q)
  refine⟨AI,eσ,a,oe,dx,_,v,rfl,R.g _ _ ea,eo,R.g _ _ ed,lv,k _ _ _ H v ((R.dropAt eσ).frzM s1 (aS) (Ź q n)) s1 (TR.rep s1 t v cs (Ĥ (by show RY AFk (H b) (F b);show DF hb;exact q)) rv) h⟩
  ·show A_z AFk (H b) (F b) R.g
  ·show A9M AFk (H b) (F b) AFk ⟨BGI.2,R.less e0 eσ (Ch (gq (Slot.xe (ŉ cs) C fs ts) kM b) (mem b hb))⟩))
#where
#print L3
namespace HM
theorem zzf(a b:Int):Int.gcd b (a.fmod b)=Int.gcd a b:=by
 rw[Int.fmod_def,Int.gcd_sub_mul_left_right,Int.gcd_comm]
theorem ze2{a b:Int}(h:ñ):(a.fmod b).natAbs<b.natAbs:=by
 rw[Int.fmod_eq_emod];have h1:=Int.emod_nonneg a h;have h2:=Int.emod_lt a h;split
 ·omega
 ·show HQ;have q1:b<0:=Α
  show My q2 (a % b) (q (CY (Int.dvd_of_emod_eq_zero z)));omega
def dv(AHQ):Int:=if b<0 then -(AC ad) else ad
def fr(AHQ):Int×Int:=(t.fdiv (dv t b),b.fdiv (dv t b))
theorem WT(zt):pf≠0:=by
 unfold dv;have:ad≠0:=by
  intro e;exact h (BND e)
 split<;>omega
theorem yh7(AHQ):pf∣t:=by
 unfold dv;split
 ·exact BMX AgC
 ·exact AgC
theorem z7b(AHQ):pf∣b:=by
 unfold dv;split
 ·exact BMX AgD
 ·exact AgD
theorem RX{a b:Int}(h:b∣a):b*a.fdiv b=a:=Ο (Int.fdiv_eq_ediv_of_dvd h) (Int.mul_ediv_cancel' h)
theorem zyp(AHQ):pf* PR=t:=RX (yh7 t b)
theorem RZ(AHQ):pf* Nd=b:=RX (z7b t b)
theorem z74(zt):0< Nd:=by
 have e:=RZ t b;show Aak;generalize Nd=y at*;unfold dv at e n;split at e
 ·show Ŏ;have g0:RA<ad:=by
   rw[ATq] at n;have:RA<=ad:=BMj;omega
  show OE (Ai0 y)
  ·exact h
  ·have:0<= -(AC ad)*y:=AJm Int.neg_mul Int.mul_neg (Int.mul_nonneg ψ ψ)
   omega
 ·show Ŏ;have g0:RA<ad:=by
   rw[Ĕ] at n;have:RA<=ad:=BMj;omega
  show OE (Ai0 y)
  ·exact h
  ·have:AC ad*y<=0:=BNE ψ
   omega
theorem z6b(zt):Int.gcd PR Nd=1:=by
 have e1:=zyp t b;have e2:=RZ t b;show Aak;have e3:Int.gcd (pf* PR) (pf* Nd)=AHS*Int.gcd PR Nd:=Int.gcd_mul_left ..;rw[e1,e2] at e3;have e4:AHS=ad:=BM6 dv
 rw[e4] at e3;show My g0 ad (h Avg);exact(Nat.eq_of_mul_eq_mul_left (BMQ g0) (B2 Nat.mul_one e3)).symm
theorem zrx{t b:Int}:PR*b=t* Nd:=by
 have e1:=zyp t b;have e2:=RZ t b
 calc PR*b=PR* (pf* Nd):=MZ e2
  _=(pf* PR)* Nd:=by rw[<- Int.mul_assoc,Int.mul_comm PR]
  _=t* Nd:=MZ e1
theorem zqd{a b c d:Int}(hb:0<b)(hd:0<d)(h1:Int.gcd a b=1)(h2:Int.gcd c d=1)(h:a*d=c*b):a=c/\b=d:=by
 have bd:b∣d:=by
  have:b∣a*d:=⟨c,DB h Int.mul_comm⟩
  show Ayi this;rw[Int.gcd_comm,h1] at z
  simpa using z
 have db:d∣b:=by
  have:d∣c*b:=⟨a,by rw[<- h,Int.mul_comm]⟩
  show Ayi this;rw[Int.gcd_comm,h2] at z
  simpa using z
 have e:b=d:=Int.dvd_antisymm (Int.le_of_lt hb) (Int.le_of_lt hd) bd db;subst e;exact sD (Int.eq_of_mul_eq_mul_right (Int.ne_of_gt hb) h)
theorem yml{t b t' b' :Int}(h:ñ)(h' :b' ≠0)(e:t*b' =t' *b):fr t b=fr t' b' :=by
 have c1:=AkP t b;have c2:=AkP t' b';have p1:=z74 (t:=t) h;have p2:=z74 (t:=t') h';have k:PR* (fr t' b').2=(fr t' b').1* Nd:=by
  generalize PR=x at*;generalize Nd=y at*;generalize (fr t' b').1=x' at*;generalize (fr t' b').2=y' at*
  
  have:(x*y')* AXd=(x' *y)* AXd:=by
   calc (x*y')* AXd=(x*b)* (b' *y'):=ATM
    _=(t*y)* (b' *y'):=MZ c1
    _=(t*b')* (y*y'):=ATM
    _=(t' *b)* (y*y'):=ADh
    _=(t' *y')* (b*y):=ATM
    _=(x' *b')* (b*y):=MZ c2
    _=(x' *y)* AXd:=ATM
  exact Int.eq_of_mul_eq_mul_right (Int.mul_ne_zero h h') this
 show wS e1 (zqd p1 p2 (z6b h) (z6b h') k);exact A0_
theorem yiw{a b:Int}(hb:0<b)(h:Int.gcd a b=1):fr a b=(a,b):=by
 have c1:=AkP a b;show wS e1 (zqd (Ayh (z74 (t:=a))) hb (Ayh z6b) h (by rw[c1]))
 exact A0_
theorem yds(zt):AU4<=t.natAbs:=by
 have e:=congrArg Int.natAbs (zyp t b);show Ag5;show Aak;have:1<=AHS:=Α
 calc AU4=1* AU4:=MZ Nat.one_mul
  _<=AHS* AU4:=AgP this
  _=t.natAbs:=e
theorem ydc(zt):AU3<=b.natAbs:=by
 have e:=congrArg Int.natAbs (RZ t b);show Ag5;show Aak;have:1<=AHS:=Α
 calc AU3=1* AU3:=MZ Nat.one_mul
  _<=AHS* AU3:=AgP this
  _=b.natAbs:=e
#print HM
namespace L3
open PySem L2 HM
def qD(AGm):D:= fc q.num q.den
theorem yfl(zt):fr t b=(AV',AC AM5):=by
 have hb:RA< AM5:=HR (AQK den_pos)
 have hg:Int.gcd AV' AM5=1:=by
  have:=AQK reduced
  simpa [Int.gcd] using this
 have e:AV'*b=t* AM5:=by
  have q:=Rat.num_divInt_den (Rat.divInt t b);rw[Rat.divInt_eq_divInt_iff ψ h] at q
  exact q
 have:=P9 yml t t b b t' AV' b' AM5 h ψ e.symm
 rw[this,yiw hb hg]
theorem WW(zt):fr t b=((AVz).num,AC (AVz).den):=DB (yfl h) Rat.divInt_eq_div
theorem MF(AGm):ALi≠0:=by
 have:=q.den_pos;intro e;have:fR=0:=XL e
 omega
theorem MJ(AGm):BU q.num/ CB q.den=q:=by
 have:=BNA;show AJ Rat.divInt_eq_div;exact this
def Sz(n:Nat)(q:Rat):Prop:=cP q.num<=n/\cP fR<=n
theorem Sz.up{m n:Nat}{q:Rat}(h:Sz m q)(k:m<=n):Sz n q:=⟨zP h.1 k,zP h.2 k⟩
theorem R9{t b:Int}{n:Nat}(h:ñ)(h1:cP t<=n)(h2:cP b<=n):Sz n AVz:=by
 have e:=WW (t:=t) h;have e1:PR=_:=xc Prod.fst;have e2:Nd=_:=xc Prod.snd;show Amv;show BO (AXl h1) (AXl h2)
 ·rw[<- e1];exact yds h
 ·rw[<- e2];exact ydc h
theorem ydy(AMu):a+b=pp (AWd+b.num*a.den) AWe:=by
 have ha:=MF a;have hb:=MF b;have h1:=MJ a;have h2:=MJ b;show Avm Rat.intCast_add Rat.intCast_mul;show AZ9;show AZ_;show AaA;show AZ';show ń
 grind
theorem ydu(AMu):a - b=pp (AWd - b.num*a.den) AWe:=by
 have ha:=MF a;have hb:=MF b;have h1:=MJ a;have h2:=MJ b;show Avm Rat.intCast_sub Rat.intCast_mul;show AZ9;show AZ_;show AaA;show AZ';show ń
 grind
theorem yd1(AMu):a*b=pp (a.num*b.num) AWe:=by
 have ha:=MF a;have hb:=MF b;have h1:=MJ a;have h2:=MJ b;show Af0 Rat.intCast_mul;show AZ9;show AZ_;show AaA;show AZ';show ń
 grind
theorem zf{b:Rat}:b.num=0↔b=0:=Rat.num_eq_zero
theorem ydq(a b:Rat)(h:ñ):a/b=pp AWd (a.den*b.num):=by
 have ha:=MF a;have hb:=MF b;have h1:=MJ a;have h2:=MJ b;show Af0 Rat.intCast_mul;show AZ9;show AZ_;show AaA;show AZ';show ń
 grind
theorem ygm(AMu):AAs (Μ (a<b)) (AWd<b.num*a.den):=Ο decide_eq_decide (Rat.lt_iff a b)
theorem Sd(AMu):WN AWe:=Int.mul_ne_zero Ak7 (Ada b.den_pos)
theorem ykx(zt):D.tup (AIS PR Nd)=qD AVz:=Gc (WW h)
theorem yim(Asm):Sz (m+n+1) (a+b):=by
 rw[ydy];refine R9 Alj ?_ ?_
 ·have h1:=yw a.num b.den;have h2:=yw b.num a.den;have h3:=Vn Ayy Ayz;have:=ha.1;have:=ha.2;have:=hb.1;have:=hb.2;omega
 ·show ApZ
theorem Sg(Asm):Sz (m+n+1) (a - b):=by
 rw[ydu];refine R9 Alj ?_ ?_
 ·have h1:=yw a.num b.den;have h2:=yw b.num a.den;have h3:=zlh Ayy Ayz;have:=ha.1;have:=ha.2;have:=hb.1;have:=hb.2;omega
 ·show ApZ
theorem yc0(Asm):Sz (m+n) (a*b):=by
 rw[yd1];refine R9 Alj ?_ ?_
 ·have h1:=yw a.num b.num;have:=ha.1;have:=hb.1;omega
 ·show ApZ
theorem ydv{m n:Nat}{a b:Rat}(ha:Sz m a)(hb:Sz n b)(h0:ñ):Sz (m+n) (a/b):=by
 rw[ydq a b h0];have hn:WN (a.den*b.num):=Int.mul_ne_zero Ak7 (Hb (h0 (zf.mp z)))
 refine R9 hn ?_ ?_
 ·have h1:=yw a.num b.den;have:=ha.1;have:=hb.2;omega
 ·have h1:=yw a.den b.num;have:=ha.2;have:=hb.1;omega
theorem MK(i:Int):qD AR3= .tup [Co,.int 1]:=rfl
theorem Sh{i:Int}{n:Nat}(h:TU<=n)(hn:1<=n):Sz n AR3:=⟨h,zP (ë 1 (AFe (ATh<2^1))) hn⟩
def dH:AA ->Rat | []=>0 | AGt=>q+AAL
theorem zxn(a b:AA):dH (a++b)=dH a+dH b:=by
 induction a with
 | nil=>simp [dH,Rat.zero_add]
 | cons x xs ih=>simp only [List.cons_append,dH,ih,Rat.add_assoc]
theorem yc9{m:Nat}:ApB (Sz m q) (Sz (qs.length* (m+2)+1) (dH qs))
 | [],_=>⟨by show cP 0<=_;exact A5X,by show cP 1<=_;exact A5X⟩
 | AGt,h=>by
  have i:=yc9 (qs:=qs) AiD;refine(yim (h q zY) i).up ?_;have:(qs.length+1)* (m+2)=qs.length* (m+2)+ (m+2):=DB Nat.add_mul Nat.one_mul
  simp only [List.length_cons];omega
abbrev JR(l:AA):Prop:=l.Pairwise (· <= ·)
def cnt(ArE):Nat:=BN l.filter A9f
def v7(l:AA)(q:Rat):AA:=AwR++q::AwS
def lV(OB):AA:=qs.foldl v7 []
theorem yk6(ArE):cnt q l<=l.length:=Agw
theorem z0g{q:Rat}:HL l AA (JR l) ((∀o∈AwR,o<=q)/\∀o∈AwS,q<o)
 | [],_=>⟨A1,A1⟩
 | x::l,hs=>by
  show AaQ hs;show B' i1 i2 (z0g (q:=q) (l:=l)) p2;by_cases hx:q<x
  ·have all:∀o∈x::l,q<o:=by
    intro o ho;show K2 ho ho
    ·exact hx
    ·exact Std.lt_of_lt_of_le hx (p1 o ho)
   have e:cnt q (x::l)=0:=by
    unfold cnt;rw[List.filter_eq_nil_iff.mpr]
    ·rfl
    ·intro o ho;simp [all o ho]
   rw[e];exact⟨A1,A0 all⟩
  ·have e:cnt q (x::l)=cnt q l+1:=by
    unfold cnt;rw[List.filter_cons,A_ (Bz hx),List.length_cons]
   rw[e,List.take_succ_cons,List.drop_succ_cons];show BO (AD o ho) i2;show K2 ho ho
   ·exact Rat.not_lt.mp hx
   ·exact i1 o ho
theorem yb3(yi){q:Rat}(h:JR l):JR (v7 l q):=by
 show AOZ (z0g (q:=q) h);unfold v7 JR;show Af4;show CF (h.sublist (List.take_sublist _ _)) (List.pairwise_cons.mpr ⟨AMh (Rat.le_of_lt (h2 o ho)),h.sublist (List.drop_sublist _ _)⟩) A5u;show ip
 ·exact h1 a ha
 ·exact Ad' Rat.le_trans (h1 a ha) (h2 b hb)
theorem zuf(l:AA)(q:Rat):(v7 l q).Perm (q::l):=by
 refine List.perm_middle.trans ?_;rw[List.take_append_drop]
theorem zyd:∀(qs acc:AA),JR acc ->JR (qs.foldl v7 acc)/\ (qs.foldl v7 acc).Perm (qs++acc)
 | [],acc,h=>⟨h,c0⟩
 | AGt,acc,h=>by
  show AOZ (zyd qs (v7 acc q) (yb3 h));show BO h1 (h2.trans ?_);refine(List.Perm.append_left qs (zuf acc q)).trans ?_;exact List.perm_middle
theorem zxu(OB):JR (lV qs):=(zyd qs [] List.Pairwise.nil).1
theorem zdt(OB):(lV qs).Perm qs:=è (zyd qs [] List.Pairwise.nil).2 List.append_nil
theorem PX(OB):A2v lV:=(zdt qs).length_eq
theorem zqg:∀{a b:AA},JR a ->JR b ->a.Perm b ->a=b
 | [],b,_,_,h=>Nw List.nil_perm.mp h
 | x::a,[],_,_,h=>A0 h.length_eq
 | x::a,y::b,ha,hb,h=>by
  show Ac1 a1 a2 ha;show Ac1 b1 b2 hb;have e:x=y:=by
   have hx:x∈y::b:=h.mem_iff.mp zY;have hy:y∈x::a:=h.mem_iff.mpr zY;show AZ5
   ·exact e
   ·show OQ hy e hy
    ·exact e.symm
    ·exact Rat.le_antisymm (a1 y hy) (b1 x hx)
  subst e;rw[zqg a2 b2 (List.Perm.cons_inv h)]
def Es(l:AA):Rat:=GU Amu 1 AZv ((eD (aT - 1)+AZv)/2)
def wd(l:AA)(j:Nat):Rat:=eD (j+1) - eD j
structure Best (l:AA) (b:Nat):Prop where
 lt:AMA b
 le:A4' (AMA j)
 gt:A2X (AMA j)
theorem Best.unique{l:AA}{a b:Nat}(x:Best l a)(y:Best l b):a=b:=by
 rcases Nat.lt_trichotomy a b with h | h | h
 ·exact Ahd (x.gt b y.lt h) (y.le a x.lt)
 ·exact h
 ·exact Ahd (y.gt a x.lt h) (x.le b y.lt)
abbrev Pt:=Rat×Rat
def pD(p:Pt):D:= UH (qD A2) (qD p.2)
def zj(l r:Pt)(x:Rat):Rat:=l.2+ AqX/ AWf
def JT(a b:Pt):Bool:=AzW&& !(Μ (b.2<a.2))
def Gd:C7 Hm
 | []=>True
 | [_]=>True
 | a::b::t=>(a.1<b.1/\a.2<=b.2)/\Gd (b::t)
def JV:A1O
 | [],_=>0
 | [p],_=>p.2
 | l::r::t,x=>A5q (AY (l.1<x) ApA l.2) JV
def yc:A1O
 | [],_=>0
 | [p],_=>p.2
 | l::r::t,x=>A5q ApA yc
theorem ykh(BIU):∃k:Rat,0<=k/\ (l.2<r.2 ->0<k)/\k* (AL - l.1)=r.2 - l.2/\∀x,ApA=l.2+ (x - l.1)*k:=by
 have hd:0<AX7:=E8
 have hi:0< AWf⁻¹:=Rat.inv_pos.mpr hd;have hn:AX7≠0:=E8
 refine⟨(r.2 - l.2)* AWf⁻¹,Ad' Rat.mul_nonneg LY hi,DI (Rat.mul_pos LY hi),?_,EM x⟩
 ·rw[Rat.mul_assoc,Ŕ hn,Rat.mul_one]
 ·unfold zj;rw[Rat.div_def,Rat.mul_assoc]
theorem yfp(BIU):zj l r l.1=l.2:=by
 obtain⟨k,_,_,_,e⟩:=ykh h h2;rw[e];grind
theorem zzq:∀{ps:Hm} {x:Rat},Gd ps ->(∀p,ps.head?=some p ->A2<=x) ->yc ps x=JV ps x
 | [],_,_,_=>rfl
 | [p],_,_,_=>rfl
 | l::r::t,x,hg,hx=>by
  have hl:=hx l rfl;obtain⟨⟨h1,h2⟩,h3⟩:=hg;unfold yc JV;by_cases h:x<AL
  ·rw[Œ,Œ];by_cases h' :l.1<x
   ·show DF h'
   ·show BF h';have:x=l.1:=E8
    show UT;exact yfp h1 h2
  ·rw[wt,wt];exact zzq h3 (XI (by cases hp;grind))
def Dq:Hm ->Pt | []=>km | [p]=>p | _::r::t=>Dq (r::t)
theorem ycn{x:Rat}{l:Pt}{t:Hm}(hg:Gd (l::t))(hx:¬l.1<x):JV (l::t) x=l.2:=by
 cases t with
 | nil=>rfl
 | cons r t=>
  obtain⟨⟨h1,h2⟩,h3⟩:=hg;unfold JV;rw[A_ LY,AK hx]
#print L3
namespace HM
abbrev Bd:=Int×Int
def yF(b:Bd)(x:Int):Bool:=Μ (b.1<=x)&&Μ (x<=b.2)
def zm(S l:An)(b:Bd):An:=Ale AxJ
def rk(S:An)(bs:EZ):HI An
 | 0=> [0]
 | BQ=>zm S (rk S bs i) (bs.getD i km)
def gk(S:An)(n:Int)(rb:EZ):HI An
 | 0=> [n]
 | BQ=>Ale ((gk S n rb i).any fun one=>yF Ayw (one - e))
def jz(S:An)(n:Int):An:=S.reverse.map (n - ·)
theorem yco{S:An}{n e:Int}:AGW∈jz S n↔AKe:=by
 unfold jz;rw[List.mem_map];constructor
 ·rintro⟨x,hx,h⟩;show Nn x e
  exact List.mem_reverse.mp hx
 ·exact DI (Ix e (List.mem_reverse.mpr h))
theorem qp{S l:An}{b:Bd}{e:Int}:e∈zm S l b↔AKe/\∃s∈l,yF b (e - s)=true:=UI zm List.mem_filter List.any_eq_true
theorem uP{S:An}{n e:Int}{rb:EZ}{i:Nat}:e∈gk S n rb BS↔AKe/\∃one∈gk S n rb i,yF Ayw (one - e)=true:=by
 show e∈S.filter _↔_;rw[List.mem_filter,List.any_eq_true]
theorem zx7{S:An}{n:Int}{rb:EZ}:∀(i:Nat) (e:Int),e∈gk S n rb i↔ AGW∈rk ADd rb i
 | 0,e=>by
  show e∈ [n]↔ AGW∈ [0];rw[List.mem_singleton,List.mem_singleton];omega
 | BQ,e=>by
  rw[uP];show _↔ AGW∈zm ADd (rk ADd rb i) _;rw[qp,yco];refine and_congr_right (C8 (AAS (Ů w) ⟨n - o,(zx7 i o).mp ho,?_⟩ ⟨s,hs,w⟩ ⟨n - s,(zx7 i (n - s)).mpr ?_,?_⟩))
  show JE (GH (n - e - (n - o)) (o - e)) w
  ·rw[GH (n - (n - s)) s];exact hs
  ·rw[GH (n - s - e) (n - e - s)];exact w
theorem z4e{S:An}{n:Int}{rb:EZ}(hn:AKf):BGf (e∈gk S n rb i)
 | 0,e,h=>AvK hn
 | _+1,_,h=>(uP.mp h).1
theorem yla{S:An}{bs:EZ}(h0:RA∈S):BGf (e∈ApG)
 | 0,e,h=>AvK h0
 | _+1,_,h=>(qp.mp h).1
theorem zr9{bs:EZ}{i:Nat}(h:i<bs.length):bs.reverse.getD (AQH BS) km=bs.getD i km:=by
 rw[List.getD_eq_getElem?_getD,List.getD_eq_getElem?_getD,List.getElem?_reverse ψ]
 congr 2
 omega
theorem meet(BEo):∀i,i<=bs.length ->((∃e∈ApG,AQg e (AQH i))↔ AO2)
 | 0,_=>ß (Ē e h2) (Awh h1 h2 h2) (DI ⟨0,AU6,h⟩)
 | BQ,hi=>by
  rw[<- meet h0 hn i ψ]
  have e1:bs.length - i=bs.length - BS+1:=Α
  constructor
  ·rintro⟨e,h1,h2⟩;obtain⟨_,s,hs,w⟩:=qp.mp h1;show BA s hs;rw[e1,uP];exact u8 (yla h0 hs) e (S4 zr9 ψ w)
  ·rintro⟨e,h1,h2⟩;rw[e1,uP] at h2;obtain⟨_,o,ho,w⟩:=h2;show CF o (qp.mpr ⟨z4e hn ho,e,h1,?_⟩) ho;rw[zr9 ψ] at w;exact w
theorem z10(BEo):n∈rk S bs bs.length↔ AO2:=by
 rw[<- meet h0 hn bs.length Agk];rw[Nat.sub_self];exact⟨DI ⟨n,h,AU6⟩,fun(Ē e h2)=>(Awh h2 h1 h1)⟩
def Sv:An ->Int
 | []=>0
 | [x]=>x
 | x::y::r=>if Sv (y::r)<=x then x else Sv (y::r)
theorem z4k:HL l An (l≠ []) (Sv l∈l/\∀i∈l,i<=Sv l)
 | [],h=>AnL
 | [x],_=>⟨AU6,lS (AML hi ATl)⟩
 | x::y::r,_=>by
  show B' h1 h2 (z4k (l:=y::r)) Ψ
  unfold Sv;split
  ·show HQ;show U1 zY i hi;show K2 hi hi
   ·exact ATl
   ·exact Int.le_trans (h2 i hi) q
  ·show HQ;show U1 (zX _ h1) i hi;show K2 hi hi
   ·omega
   ·exact h2 i hi
def cand(S:An)(n:Int)(bs:EZ)(k:Nat)(f:Int):An:=Ale (yF AOt (e - f)&&(gk S n bs.reverse AJy).contains e)
def fk(S:An)(n:Int)(bs:EZ):g9
 | 0=>0
 | k+1=>Sv (cand S n bs k (fk S n bs k))
theorem uQ(AS6){k:Nat}{f e:Int}:e∈cand S n bs k f↔AKe/\yF AOt (e - f)=true/\AQg e AJy:=by
 unfold cand;rw[List.mem_filter,Bool.and_eq_true,List.contains_iff_mem]
theorem zxq(AS6)(hn:AKf)(hg:AO2):∀k,k<=bs.length ->A5Y/\ (k<bs.length ->AYz≠ [])
 | k,hk=>by
  have a:A5Y:=by
   cases k with
   | zero=>exact hg
   | succ k=>
    have ih:=A6y ψ
    exact(uQ.mp (z4k ih).1).2.2
  show BO a AL4;rw[GH (bs.length - k) (bs.length - FR+1),uP] at a
  obtain⟨_,o,ho,w⟩:=a;rw[zr9 h] at w;intro e;have:=P9 uQ S S n n bs bs k k (f:=AQ6) (e:=o) |>.mpr ⟨z4e hn ho,w,ho⟩
  show my;show DC
theorem ylf(AS6)(hn:AKf)(hg:AO2){k:Nat}(hk:k<bs.length):
  AMj∈AYz/\∀i∈AYz,i<=AMj:=z4k (A6y hk)
theorem z6u:∀{a b:An},AS8 a.Pairwise ->AS8 b.Pairwise ->(∀i,i∈a↔i∈b) ->a=b
 | [],[],_,_,_=>rfl
 | [],y::b,_,_,h=>oB (h y).mpr zY Ψ
 | x::a,[],_,_,h=>oB (h x).mp zY Ψ
 | x::a,y::b,ha,hb,h=>by
  rw[List.pairwise_cons] at ha hb;have e:x=y:=by
   rcases zV.mp ((h x).mp zY) with e | e
   ·exact e
   ·rcases AwP y with e' | e'
    ·exact e'.symm
    ·have:=hb.1 x e;have:=ha.1 y e';omega
  subst e;rw[z6u ha.2 hb.2 (CL ?_)];constructor
  ·intro hi;show SG (zV.mp ((h i).mp (zX _ hi))) rfl
   ·have:=ha.1 i hi;omega
   ·exact q
  ·intro hi;show SG (zV.mp ((h i).mpr (zX _ hi))) rfl
   ·have:=hb.1 i hi;omega
   ·exact q
section
variable{α:Type}[ų]
def cY(g hs:Au):Bool:=hs.any fun h=>(Μ (h∈g))
theorem rA{g hs:Au}:AOA g↔∃x,ALq/\x∈hs:=by
 unfold cY;rw[List.any_eq_true];exact AAS Akc ⟨x,Ati,h1⟩ Akc ⟨x,h2,decide_eq_true h1⟩
theorem z5w{g hs:Au}(h:AEv (cY g hs)){x:α}(h1:ALq):x∉hs:=fun h2=>by
 rw[rA.mpr ⟨x,h1,h2⟩] at h;cases h
structure mG (Ss fs:MT):Prop where
 ne:AOa (f≠ [])
 dj:fs.Pairwise fun a b=>BKv
 co:∀x,(∃f∈fs,AFU)↔∃S∈Ss,x∈S
 sub:AJz (AY_ (kA S f))
 min:∀C:C7 α,(∀S∈Ss,APa S S) ->AOa (APa f f)
theorem mG.nil:mG ([]:MT) []:=by
 show RO ?_ List.Pairwise.nil ?_ ?_
 ·show AOq
 ·intro x;constructor
  ·rintro⟨_,h,_⟩;cases h
  ·rintro⟨_,h,_⟩;cases h
 ·show AOq
 ·intro _ _ _ h;cases h
theorem Sw:HL fs MT Anz (∀{a b:Au} {x:α},Φ (a∈fs) (b∈fs) (x∈a) (x∈b) (a=b))
 | [],_,_,_,_,ha,_,_,_=>dQ ha
 | VU,h,a,b,x,ha,hb,xa,xb=>by
  show AhB;show OQ ha e1 ha1
  ·subst e1;show An9
   ·exact e.symm
   ·show F6 xb (h.1 b hb x xa)
  ·show An9
   ·show N9 (NH xa (h.1 a BMU x xb))
   ·exact Sw h.2 BMU hb xa xb
theorem mG.step{Ss fs:MT}{S g:Au}(h:AG0)(hS:S≠ [])(hg:AQE g (x∈S\/AY_ (cY f S=true/\AFU))):
  mG (Ss++ [S]) (AHa xz++ [g]):=by
 have mf:∀f,f∈AHa xz++ [g] ->(f∈fs/\ AEv xz)\/f=g:=fun f hf=>by
  show AqF
  ·show B3 (zE.mp hf)
  ·show DJ (zT.mp hf)
 have mg:g∈AHa xz++ [g]:=A8u;have ml:AOa (AEv xz ->f∈AHa xz++ [g]):=fun f h1 h2=>zQ _ (zE.mpr ⟨h1,h2⟩);refine⟨AD f hf,?_,US (Ev ?_),AD T hT,DL C hC f hf hx⟩
 ·show Aqy
  ·exact h.ne f hf.1
  ·intro z;cases S with
   | nil=>exact hS rfl
   | cons x S=>
    have:=AlF zY;show AJ z;show DC
 ·show Af4;show CF (h.dj.filter _) BMv (fun a ha b hb x xa=> ?_);show UZ hb;show B' ha hn zE.mp ha;intro xg;rcases(hg x).mp xg with xs | ⟨f,hf,hm,xf⟩
  ·exact z5w hn xa xs
  ·have:=Sw h.dj ha hf xa xf;show UT;rw[hm] at hn;cases hn
 ·rintro⟨f,hf,xf⟩;show Aqy
  ·obtain⟨T,hT,xT⟩:=(h.co x).mp ⟨f,hf.1,xf⟩;exact⟨T,zQ _ hT,xT⟩
  ·rcases(hg x).mp xf with xs | ⟨f,hf,_,xf⟩
   ·show Md S A8u xs
   ·obtain⟨T,hT,xT⟩:=(h.co x).mp (AGw xf);exact⟨T,zQ _ hT,xT⟩
 ·rintro⟨T,hT,xT⟩;show WU hT hT hT
  ·obtain⟨f,hf,xf⟩:=(h.co x).mpr ⟨T,hT,xT⟩;cases q:xz with
   | true=>show Md g mg (A_8 xf)
   | false=>show Md f (ml f hf Aif) xf
  ·rw[List.mem_singleton.mp hT] at xT;exact⟨g,mg,AlF xT⟩
 ·show WU hT hT hT
  ·show A4 f hf k h.sub T hT;cases q:xz with
   | true=>show Md g mg (AGM (A_8 (k x hx)))
   | false=>show Md f (ml f hf Aif) k
  ·show UZ hT;exact⟨g,mg,AGM (AlF hx)⟩
 ·show D7 Pu T Ss (APa T T) T hT (hC T (zQ _ hT));have hCS:=hC S (zR _ (zT.mpr rfl));show Aqy
  ·exact h.min C Pu f hf.1 hx
  ·have all:AQp S:=by
    obtain⟨x,xf,cx⟩:=hx;rcases(hg x).mp xf with xs | ⟨f,hf,hm,xf⟩
    ·exact hCS ⟨x,xs,cx⟩
    ·have:=h.min C Pu f hf ⟨x,xf,cx⟩;show BD y y1 y2 rA.mp hm;exact hCS ⟨y,y2,this y y1⟩
   intro y hy;rcases(hg y).mp hy with ys | ⟨f,hf,hm,yf⟩
   ·exact all y ys
   ·show BD z z1 z2 rA.mp hm;exact h.min C Pu f hf ⟨z,z1,all z z2⟩ y yf
theorem mG.incl{Ss JW fs fs' :MT}(h:AG0)(h' :mG JW fs')(e:AoV){f f' :Au}{x:α}(hf:f∈fs)(hf' :f' ∈fs')(h1:AFU)(h2:x∈f'):∀y∈f,y∈f' :=by
 refine h.min (· ∈f') (DL S hS ⟨z,z1,z2⟩ y hy) f hf Akc;show A4 S' hS' k e S hS;show A4 f2 hf2 k2 h'.sub S' hS';have:=Sw h'.dj hf' hf2 z2 (k2 z ((k z).mp z1));show UT;exact k2 y ((k y).mp hy)
theorem mG.same{Ss JW fs fs' :MT}(h:AG0)(h' :mG JW fs')(e:AoV)(e' :∀S∈JW,BK1 Ss){f:Au}(hf:f∈fs):∃f' ∈fs',AJF f f' :=by
 cases q:f with
 | nil=>exact absurd q (h.ne f hf)
 | cons x r=>
  rw[<- q];have hx:AFU:=Ο q zY
  obtain⟨S,hS,xS⟩:=(h.co x).mp (AGw hx);show A4 S' hS' k e S hS;obtain⟨f',hf',xf'⟩:=(h'.co x).mpr ⟨S',hS',(k x).mp xS⟩;exact⟨f',hf',fun y=>(AAS hy (h.incl h' e hf hf' hx xf' y hy) hy (h'.incl h e' hf' hf xf' hx y hy))⟩
theorem mG.perm{Ss fs gs:MT}(h:AG0)(p:gs.Perm fs):mG Ss gs:=by
 refine⟨fun f hf=>h.ne f (p.mem_iff.mp hf),?_,EM x,AD S hS,fun C hC f hf=>h.min C hC f (p.mem_iff.mp hf)⟩
 ·exact(p.pairwise_iff (fun{a b} k x xb xa=>k x xa xb)).mpr h.dj
 ·rw[<- h.co x];exact AAS (AGw k) ⟨f,p.mem_iff.mp hf,k⟩ (AGw k) ⟨f,p.mem_iff.mpr hf,k⟩
 ·show A4 f hf k h.sub S hS;exact⟨f,p.mem_iff.mpr hf,k⟩
theorem WX{β:Type}{R:BI β β}(as:∀a b,R a b ->¬R b a):∀{l m:EA},AvB ->m.Pairwise R ->(AJF l m) ->l=m
 | [],[],_,_,_=>rfl
 | [],b::m,_,_,h=>by have:=(h b).mpr zY;show DC
 | C6,[],_,_,h=>by have:=(h a).mp zY;show DC
 | C6,b::m,h1,h2,h=>by
  rw[List.pairwise_cons] at h1 h2;have e:a=b:=by
   show SG (zV.mp ((h a).mp zY)) e
   ·exact e
   ·rcases AwP b with e | q'
    ·exact e.symm
    ·show F6 (lj b q') (as _ _ (h2.1 a q))
  subst e;have irr:¬R a a:=Ξ (as a a z z);rw[WX as h1.2 h2.2 (US ⟨EM hx,EM hx⟩)]
  ·show SG (zV.mp ((h x).mp Aib)) e
   ·show N9 (NH (lj _ hx) irr)
   ·exact q
  ·show SG (zV.mp ((h x).mpr Aib)) e
   ·show N9 (NH (h2.1 _ hx) irr)
   ·exact q
theorem Kw:∀{l U:Au},l.Nodup ->(∀x∈l,x∈U) ->l.length<=U.length
 | [],U,_,_=>FC
 | C6,U,nd,h=>by
  have nd' :=List.nodup_cons.mp nd;have ha:=h a zY;have:=Kw (l:=l) (U:=U.erase a) nd'.2 (AGM (by
   have ne:x≠a:=Ξ (s_ nd'.1 hx);exact(List.mem_erase_of_ne ne).mpr (h x (zX _ hx))))
  show AJ (List.length_erase_of_mem ha);have:0<U.length:=List.length_pos_of_mem ha;rw[List.length_cons];omega
theorem zk8:∀{fs:MT},Anz ->(AOg f.Nodup) ->fs.flatten.Nodup
 | [],_,_=>A1
 | VU,h,k=>by
  show AhB;rw[List.flatten_cons,List.nodup_append];show CF (k f zY) (zk8 h.2 fun g hg=>k g (zX _ hg)) (DL a ha b hb e);subst e;show AT4 g hg ag hb;exact h.1 g hg a ha ag
#where
def cH(g:qS):ATu
 | []=>0
 | iF=>g c cs - WV d ds (g d fg) cs
abbrev Row:=Pf
def dt:B6 ->Ap ->Rat
 | [],[]=>1
 | [],BY=>0
 | VQ,cs=>Aoh (r c)
theorem zkz{g h:qS}:AfJ (∀c ds,g c ds=h c ds) (cH g cs=cH h cs)
 | [],_=>rfl
 | iF,e=>UI cH e (zkz (cs:=cs) fun d ds=>e d fg)
theorem zry{g h:qS}:A7P (g c ds+h c ds) (cH g cs+cH h cs)
 | []=>ka cH
 | iF=>Adk cH (zry (cs:=cs))
theorem WY{g:qS}(k:Rat):A7P (k*g c ds) (k*cH g cs)
 | []=>ka cH
 | iF=>Adk cH (WY k (cs:=cs))
theorem zj7{g:qS}:HL cs Ap (∀c∈cs,∀ds,g c ds=0) (cH g cs=0)
 | [],_=>rfl
 | iF,h=>AMo cH (h c List.mem_cons_self) (zj7 (cs:=cs) fun d hd ds=>h d (List.mem_cons_of_mem _ hd) _)
def two(r s:Row)(h:ATu)(cs:Ap):Rat:=WV c ds (r c*AlN ds) cs
theorem zyt(r s:Row):∀(cs:Ap) (h:ATu),two r s h cs= - two s r h cs
 | [],h=>by unfold two cH;grind
 | iF,h=>by
  have key:∀r s:Row,two r s h (c::cs)=r c*Aqb (s d) - s c*Aqb (r d)+two r s (Υ es (h (c::es))) cs:=by
   intro r s;show r c*Aqb (s d) - WV x ds (r x*AlN fg) cs=_;have e:(fun(E3 x) (ds:Ap)=>r x*AlN fg)=fun x ds=>(s c* (r x*h ds))+ HV* (r x*A2t):=by
    funext x ds
    show r x* (s c*h ds - A2t)=_
    grind
   rw[e,zry,WY,WY];unfold two
   grind
  rw[key r s,key s r,zyt r s cs]
  grind
theorem z7f(r s:Row)(rs:B6)(cs:Ap):dt (r::s::rs) cs= - dt (s::VQ) cs:=zyt r s cs (dt rs)
theorem half{x:Rat}(h:x= -x):x=0:=E8
theorem yd4{r:Row}:Aro (r∈rs) (dt Ż cs=0)
 | [],_,h=>Bn
 | s::rs,cs,h=>by
  show AVK e
  ·show N9 (half (z7f r r rs cs))
  ·rw[z7f];have:dt (s::VQ) cs=0:=zj7 fun c _ ds=>(VC (yd4 h))
   rw[this];grind
def comb:AA ->B6 ->Row
 | AAb,VQ=>DA (k*r j+AAe)
 | _,_=>lx
theorem yiu(r s:Row)(k:Rat)(rs:B6)(cs:Ap):dt ((XU (r j+k*s j))::rs) cs=dt Ż cs+k*dt (s::rs) cs:=by
 show cH (MV ds ((r c+k*s c)*MD ds)) cs=Aoh (r c)+k*Aoh (s c);rw[<- WY,<- zry];exact zkz fun c ds=>E8
theorem W0{rs:B6}{cs:Ap}:∀{ks:AA} {ss:B6} {r:Row},(∀s∈ss,s∈rs) ->dt (AxG::rs) cs=dt Ż cs
 | [],ss,r,_=>by
  have:(XU (r j+comb [] ss j))=r:=by funext j;unfold comb;grind
  rw[this]
 | AAb,[],r,_=>by
  have:(XU (r j+comb (k::ks) [] j))=r:=by funext j;unfold comb;grind
  rw[this]
 | AAb,s::ss,r,h=>by
  have e:(XU (r j+comb (k::ks) (s::ss) j))=DA (AxG j+k*s j):=by
   funext j
   show r j+ (k*s j+comb ks ss j)=_
   grind
  rw[e,yiu,W0 (ks:=ks) fun t ht=>(AnF t ht),yd4 (h s List.mem_cons_self)]
  grind
theorem zs4{r:Row}{rs:B6}{j:Nat}{cs:Ap}(h:∀c∈cs,r c=0):dt Ż k8=Akf:=by
 show Akf - Akg d (r d)=_;rw[zj7 fun c hc ds=>(VC (h c hc))]
 grind
def W3(f:ATu):Prop:=∀pre c d post,f (pre++c::AJs)= - f (pre++d::sT)
theorem zv1:∀(pre:Ap) (g:qS) (c d:Nat) (post:Ap),(∀x,W3 (g x)) ->cH g Ah6= - cH g Ah5
 | [],g,c,d,post,h=>by
  have key:∀c d,cH g (c::AJs)=g c (d::post) - g d (c::post)+Aq_:=by
   intro c d;show g c (d::post) - (g d (c::post) - Aq_)=_
   grind
  have e:cH (fun x es=>g x (d::c::es)) post=HV*Aq_:=BE WY (zkz fun x es=>by
    have:=h x [] d c es;simp only [List.nil_append] at this;rw[this];grind)
  show cH g (c::AJs)= - cH g (d::sT);rw[key c d,key d c,e]
  grind
 | a::pre,g,c,d,post,h=>by
  show g a Ah6 - A2p Ah6= - (g a Ah5 - A2p Ah5);rw[h a pre c d post,zv1 pre (fun x ds=>g x (a::ds)) c d post fun x p c d q=>h x (a::p) c d q]
  grind
theorem zhs:∀rs:B6,W3 (dt rs)
 | []=>A'8 (by cases pre<;>(unfold dt;grind))
 | VQ=>A'8 (zv1 pre _ c d post fun x p a b q=>(VC (zhs rs p a b q)))
theorem W4(rs:B6):∀{post pre:Ap} {c:Nat},c∈post ->dt rs AJW=0
 | [],_,_,h=>Bn
 | AJs,pre,c,h=>by
  show AVK e
  ·show N9 (half (zhs rs pre c c post))
  ·rw[zhs rs pre c d post];have:=W4 rs (pre:=pre++ [d]) h;show AJ List.append_assoc;rw[gS (pre++d::sT=pre++ ([d]++sT)),this];grind
def j9(rs:B6)(f:Row):Prop:=∃ks:AA,ks.length=rs.length/\∀j,f j=AAe
theorem zy2:∀{ks ls:AA} {rs:B6},ks.length=rs.length ->ls.length=rs.length ->BBP (AVt=AAe+comb ls rs j)
 | [],[],[],_,_=>AnP (ka comb)
 | AAb,l::ls,VQ,h1,h2=>by
  show A4 ms h3 h4 (DZ zy2 ks ks ls ls rs rs) w_ AFI
  show CF ((k+l)::ms) (BH h3) AFh
  show(k+l)*r j+AVt=(k*r j+AAe)+ (l*r j+comb ls rs j);rw[h4];grind
 | [],_,BY,h,_=>Bn
 | BY,_,[],h,_=>Bn
 | _,[],BY,_,h=>Bn
 | _,BY,[],_,h=>Bn
theorem zzo(x:Rat):∀{ks:AA} {rs:B6},ks.length=rs.length ->BBP (AVt=x*AAe)
 | [],[],_=>AnP (ka comb)
 | AAb,VQ,h1=>by
  show BD ms h3 h4 (zzo x (ks:=ks) (rs:=rs)) w_
  show CF ((x*k)::ms) (BH h3) AFh
  show(x*k)*r j+AVt=x* (k*r j+AAe);rw[h4];grind
 | [],BY,h=>Bn
 | BY,[],h=>Bn
theorem j9.add(A'j)(h1:pb)(h2:AMQ):ŷ (f j+g j):=by
 obtain⟨ks,a,b⟩:=h1;obtain⟨ls,c,d⟩:=h2;show A4 ms e q zy2 a c;exact⟨ms,e,DA (by show f j+g j=_;rw[q,b,d])⟩
theorem j9.mul{rs:B6}{f:Row}(x:Rat)(h:pb):ŷ (x*f j):=by
 show FV ks a b;show PU ms e (zzo x a);exact⟨ms,e,DA (by show x*f j=_;rw[q,b])⟩
theorem zoh:∀(rs:B6),∀j,AsW=0
 | [],j=>LJ
 | VQ,j=>by
  show 0*r j+AsW=0;rw[zoh rs j];grind
theorem j9.zero(rs:B6):j9 rs lx:=⟨rs.map lx,A1,DA (zoh rs j).symm⟩
theorem j9.cons{rs:B6}{f:Row}(r:Row)(h:pb):j9 Ż f:=by
 show FV ks a b;show CF (0::ks) (BH a) AFh
 show f j=0*r j+AAe;rw[b];grind
theorem j9.head(r:Row)(rs:B6):j9 Ż r:=by
 show CF (1::rs.map lx) A1 AFh
 show r j=1*r j+AsW;rw[zoh];grind
theorem j9.mem{r:Row}:HL rs B6 (r∈rs) (j9 rs r)
 | s::rs,h=>by
  show AVK e
  ·show N9 (j9.head r rs)
  ·exact(j9.mem h).cons s
theorem j9.congr(A'j)(h:pb)(e:∀j,g j=f j):AMQ:=by
 show FV ks a b;exact⟨ks,a,DA (DB e b)⟩
theorem z8q{rs:B6}:KG cs Ap g (Nat ->Nat ->Ap ->Rat) (∀x ds,ŷ (g j x ds)) (ŷ (cH (g j) cs))
 | [],g,_=>j9.zero rs
 | iF,g,h=>by
  have h1:=h c cs;have h2:=(z8q (cs:=cs) (g:=fun j x ds=>g j x fg) fun x ds=>h x fg).mul (-1);exact AOB h1.add h2 (by
   show g j c cs - WV d ds (g j d fg) cs=_
   grind)
theorem zzb:∀(rs:B6) (cs:Ap),ŷ (MD k8)
 | [],cs=>AnP LJ
 | VQ,cs=>by
  have h1:=(j9.head r rs).mul (dt rs cs);have h2:j9 Ż (DA (Akg x (r x))):=z8q fun x ds=>(((zzb rs ds).cons r).mul (r x));exact AOB h1.add (h2.mul HV) (by
   show Akf - Akg d (r d)=_
   grind)
theorem z55(rs:B6):∀(n:Nat) (pre post:Ap),pre.length=n ->ŷ (MD Ah4)
 | 0,pre,post,h=>by
  have:=List.length_eq_zero_iff.mp h;show UT;exact zzb rs post
 | n+1,pre,post,h=>by
  have hne:pre≠ []:=Ξ (by subst z;cases h)
  have e:=List.dropLast_concat_getLast hne;have ih:=(z55 rs n pre.dropLast (Ax8::post) (Fs h)).mul (-1)
  refine ih.congr AFh;have e2:pre.dropLast++Ax8::ARX=pre++ARX:=by
   have:=xc (· ++j::post)
   simpa only [List.append_assoc,List.singleton_append] using this
  rw[<- e2,zhs rs pre.dropLast (pre.getLast hne) j post]
  grind
def uR(x:Rat):Prop:=SE z (x=AKG)
theorem uR.sub(A5b):uR (x - y):=by
 show WC a h1;show WC b h2;exact⟨a - b,BM1⟩
theorem uR.mul(A5b):uR (x*y):=by
 show WC a h1;show WC b h2;exact⟨a*b,BM0⟩
theorem z2y{g:qS}:AfJ (∀c ds,uR (g c ds)) (uR (cH g cs))
 | [],_=>⟨0,LJ⟩
 | iF,h=>(h c cs).sub (z2y (cs:=cs) fun d ds=>h d fg)
theorem z43:Aro (∀r∈rs,AKB r) (uR (dt rs cs))
 | [],[],_=>⟨1,LJ⟩
 | [],BY,_=>⟨0,LJ⟩
 | VQ,cs,h=>z2y fun c ds=>BFc (z43 fun s hs=>A0r)
theorem zse{rs:B6}{cs:Ap}{f:Row}(h:pb)(z:AYo)(d:MD cs≠0)(j:Nat):f j=0:=by
 obtain⟨ks,_,e⟩:=h;show Aqx;have h2:dt (f::rs) k8=dt ((AV 0)::rs) k8:=by
  show Ab3 (j::cs) lx;show gc
  congr 2
  funext i
  rw[e];grind
 have h3:dt ((AV 0)::rs) k8=0:=zj7 fun c _ ds=>(AGF (0*MD ds) 0)
 rw[h3,h1] at h2;show Aj_ h2
 ·exact q
 ·show F6 q d
theorem yhi(BIQ)(hf:Alo)(hg:AMQ)(z:AYo)(wa:AKB a)(wr:AkE)(j:Nat):uR (MD cs*f j):=by
 obtain⟨ks,_,e⟩:=hg;show Aqx;have h2:dt (f::rs) k8=Al4:=by
  show Ab3 (j::cs) a;show gc
  congr 2
  funext i
  rw[hf,e]
 rw[Rat.mul_comm,<- h1,h2];exact À z43 (by
  show Å hr
  ·subst q;exact wa
  ·exact wr r q)
theorem yk4{rs:B6}{pre post:Ap}{c:Nat}{f:Row}(h:pb)(one:f c=1)(z:AzU)(wr:AkE)(d:MD AJW≠0)(j:Nat):uR (Aiu):=by
 have hl:=z55 rs _ pre post rfl;have e:dt rs Ah4=Aiu:=by
  have key:=zse (cs:=pre++sT) BCM AYJ d j
  ·grind
  ·by_cases hc:x=c
   ·subst hc;rw[one];grind
   ·have hx' :x∈Aeb:=by
     show AKw
     ·exact zQ _ q
     ·show Å q
      ·show F6 q hc
      ·exact zR _ q
    rw[z x hx'];have:dt rs AtK=0:=by
     show WU hx' q q
     ·show BD p1 p2 rfl List.append_of_mem q;have:=DZ (W4 rs) pre p1 post (p2++x::post) c x Ψ
      rw[List.append_assoc];exact this
     ·exact W4 rs q
    rw[this];grind
 rw[<- e];exact z43 wr
structure Low (rs:B6) (cs:Ap) (a f:Row):Prop where
 g:∃g:Row,AMQ/\Alo
 z:AYo
structure Up (rs:B6) (cs:Ap) (c:Nat) (f:Row):Prop where
 l:pb
 o:f c=1
 z:∀x∈cs,x≠c ->f x=0
theorem Low.dt{rs:B6}{cs:Ap}{a f:Row}(h:AOL f)(p:Nat):HM.dt Ġ ź=A7O:=by
 obtain⟨⟨g,⟨ks,_,e⟩,hf⟩,z⟩:=h;have h1:HM.dt (f::rs) ź=A7O:=zs4 z;have h2:HM.dt (f::rs) ź=HM.dt Ġ ź:=by
  show Ab3 (p::cs) a;show gc
  congr 2
  funext i
  rw[hf,e]
 rw[<- h2,h1]
theorem Low.lin(Ao3){a f:Row}(h:AOL f):j9 Ġ f:=by
 obtain⟨⟨g,l,hf⟩,_⟩:=h;exact((j9.head a rs).add (l.cons a)).congr hf
theorem Low.step{rs:B6}{cs:Ap}{a b q f:Row}{p:Nat}(hq:AOL q)(hp:q p≠0)(h:Low rs cs b f):Low Ġ ź b A4r:=by
 obtain⟨g,l,hf⟩:=h.g;show U1 (B5 ((l.cons a).add (hq.lin.mul (-AYE))) (DA (by show f j - Aey=b j+ (g j+ -AYE*q j);rw[hf j];grind))) c hc
 show OQ hc e hc
 ·show A0c
 ·rw[h.z c hc,hq.z c hc];grind
theorem Up.step(Ao3){a q f:Row}{p c:Nat}(hq:AOL q)(hp:q p≠0)(h:Up rs cs c f)(hc:c∈cs):Up Ġ ź c A4r:=by
 show w9 (AOB (h.l.cons a).add (hq.lin.mul (-AYE)) (AGF (f j - Aey) (f j+ -AYE*q j))) A3N
 ·rw[h.o,hq.z c hc];grind
 ·show AZ5
  ·show A0c
  ·rw[h.z x hx n,hq.z x hx];grind
theorem Up.new(Ao3){a q:Row}{p:Nat}(hq:AOL q)(hp:q p≠0):Up Ġ ź p (XU (q j/q p)):=by
 show w9 (AOB hq.lin.mul (1/q p) (AGF (q j/q p) (1/q p*q j))) A3N
 ·grind
 ·show AZ5
  ·show F6 e n
  ·rw[hq.z x hx];grind
def cols:HI Ap
 | 0=> []
 | p+1=>p::ADJ
theorem jA{x:Nat}:∀{p:Nat},x∈ADJ↔x<p
 | 0=>BH cols
 | p+1=>by
  unfold cols;rw[List.mem_cons,jA];omega
theorem zky:∀p,me cols p
 | 0=>List.nodup_nil
 | p+1=>CC (Ahf (DI (HR (jA.mp h))) (zky p))
def iC(A:OV)(k:Nat):Row:=DA (BU (A k j))
theorem z0e(A:OV)(k j:Nat):uR (iC A k j):=D5
structure BT (n:Nat) (A:OV) (p:Nat) (d:Int) (tb:OV) (rs:B6) (fs:AB') (ix:On):Prop where
 w:∀r∈rs,A4i
 de:ww=AbM
 nz:Ŝ
 up:∀i,i<p ->Up rs AVY i (fs i)
 lo:AN3 p (ix i<n/\Low rs AVY (iC A (ix i)) (fs i))
 all:∀k,k<n ->iC A k∈rs\/∃i,p<=i/\i<n/\ix i=k
 t:yA (∀j,BU (tb i j)=d*fs i j)
theorem ybv(n:Nat)(A:OV):BT n A 0 1 A [] (iC A) id:=by
 refine⟨fun r h=>(by cases h),?_,AQ,OO h (AiL h),fun i _ h=>⟨h,B5 (j9.zero []) (DA (AGF (iC A i j) (iC A i j+0))),fun c h=>Bn⟩,fun k h=> .inr (wP k FC h),Κ i _ j⟩
 ·rfl
 ·show BU AFn=1* BU AFn
  grind
theorem BT.dz(A'2):AbM≠0:=BE h.de (Ξ (h.nz (by exact_mod_cast z)))
theorem ye3{n:Nat}{rs:B6}{p:Nat}{f:Row}(wr:AkE)(dz:AbM≠0)(h:(∃c,c<p/\Up rs AVY c f)\/∃a,(AKB a)/\Low rs AVY a f)(j:Nat):uR (AbM*f j):=by
 rcases h with ⟨c,hc,u⟩ | ⟨a,wa,l⟩
 ·show X0 pre post (List.append_of_mem (jA.mpr hc));have nd:=zky p;rw[e] at nd;have key:=DZ (yk4 (rs:=rs) (pre:=pre)) post post c c f f u.l u.o AYJ wr (BE e dz) j
  ·rw[e];exact key
  ·refine u.z x ?_ RC
   ·show BDX
   ·subst z;rw[List.nodup_append] at nd;show AKw
    ·exact nd.2.2 x q x zY rfl
    ·exact AIk nd.2.1 q
 ·obtain⟨g,lg,hf⟩:=l.g;exact yhi hf lg l.z wa wr j
def rB(p s i:Nat):Nat:=Yf p s (Yf s p i)
def nextT(p s:Nat)(d:Int)(tb:OV):OV:=OO j (Yf p (tb s j) BCo)
theorem yic{x d z:Int}(d0:Ŝ)(e:x=d*z):x.fdiv d=z:=by
 rw[e,Int.mul_comm,Int.mul_fdiv_cancel _ d0]
theorem Qa{a b:Int}(h:BU a=da):a=b:=XL h
theorem BT.step{n p s:Nat}(AsG)(h:v6)(ps:p<=s)(sn:s<n)(nz:tb s p≠0):
  ∃rs' fs' Qc,BT n A (p+1) (tb s p) (nextT p s d tb) rs' fs' Qc :=by
 obtain⟨hk,lq⟩:=h.lo s ps sn;have ts:ATZ=d*ANE:=h.t s sn p;show My qz ANE (nz (Qa (by rw[ts,z];grind)))
 show My d0 ww (h.nz (Qa (Gc z)))
 let rs' :B6:=iC A (ix s)::rs
 let fs' :AB':=CL (Yf p (XU (AWK/ANE)) (Kx j (fs ī j) (fs ī p/ANE*AWK)))
 let Qc :On:=CL (ix (rB p s i))
 have dd:dt rs' Amz=ATZ:=by
  show dt (iC A (ix s)::rs) Am4=_;rw[lq.dt p,<- h.de,ts,Rat.mul_comm]
 show AG8 w' (∀r∈rs',A4i) (by
  show Å hr
  ·exact B5 hk q
  ·exact h.w r q)
 have wr' :∀r∈rs',AKB r:=fun r hr j=>by show AEk k (w' r hr);exact z0e A k j
 show My nz' ATZ (nz (Qa (Gc z)))
 have up' :∀i,i<p+1 ->Up rs' Amz i (fs' i):=fun i hi=>by
  show HA i p
  ·subst e;show Up rs' (i::cols i) i (AY (i=i) _ _);show eC;exact Up.new lq qz
  ·have hip:i<p:=Α
   have es:Aa8=i:=by unfold rB;rw[AK e,gi]
   show Up rs' Am4 i AxN;rw[AK e,es];exact Up.step lq qz (h.up i hip) (jA.mpr hip)
 have W5 :AN3 (p+1) (Qc i<n/\Low rs' Amz (iC A (Qc i)) (fs' i)):=fun i hi hn=>by
  have hs:p<=Aa8/\Aa8<n:=by
   unfold rB;show BF ψ
   split<;>omega
  obtain⟨g1,g2⟩:=h.lo _ hs.1 hs.2;show CS g1;show Low rs' Am4 _ AxN;show BF ψ
  exact Low.step lq qz g2
 refine⟨rs',fs',Qc,w',dd.symm,nz,up',W5,AD k hk',Κ i hi j⟩
 ·rcases h.all k hk' with q | ⟨i,q1,q2,q3⟩
  ·show B3 (zX _ q)
  ·show HA i s
   ·show N9 (.inl (BE q3 zY))
   ·by_cases ep:i=p
    ·subst ep;show MY ⟨s,Α,sn,?_⟩
     show ix (rB i s s)=k;unfold rB;rw[AK ψ,B4];exact q3
    ·show MY ⟨i,Α,q2,?_⟩
     show ix ī=k;unfold rB;rw[AK ep,AFG];exact q3
 ·show HA i p
  ·subst e;show CB (Yf i (tb s j) _)=BU (tb s i)* (AY (i=i) (XU (AWK/fs s i)) _) j;rw[B4,B4,h.t s sn j,ts]
   grind
  ·have hs:Aa8<n:=by unfold rB;show BF e;split<;>omega
   have iz:uR (dt rs' (cols (p+1))*fs' i j):=ye3 (n:=n) wr' (B2 dd nz') (by
    show FB (i<p)
    ·show B3 ⟨i,Α,up' i ψ⟩
    ·obtain⟨g1,g2⟩:=W5 i ψ hi
     exact .inr (B5 (z0e A _) g2)) j
   obtain⟨z,hz⟩:=iz;rw[dd] at hz;have hf:fs' i j=fs ī j - fs ī p/ANE*AWK:=by
    show(Yf p _ _:Row) j=_;show BF e
   show CB (Yf p _ BCo)=ATZ*fs' i j;rw[AK e,hz]
   congr 1
   refine yic h.nz (Qa ?_);rw[Rat.intCast_sub,Rat.intCast_mul,Rat.intCast_mul,Rat.intCast_mul,h.t _ hs j,h.t _ hs p,h.t s sn j,<- hz,hf,ts]
   grind
def cZ:qr (Pf) Rat
 | 0,_=>0
 | n+1,g=>cZ n g+g n
theorem MN{g h:Pf}:HL n Nat (yA (g i=h i)) (cZ n g=cZ n h)
 | 0,_=>rfl
 | n+1,e=>UI cZ (MN fun i hi=>e i ψ) (e n ψ)
theorem zyq{g:Pf}{c:Nat}:∀{n:Nat},c<n ->(∀i,i<n ->i≠c ->g i=0) ->cZ n g=g c
 | n+1,hc,h=>by
  unfold cZ;show HA c n
  ·subst e;have:cZ c g=0:=by
    rw[MN (h:=lx) (lS (h i ψ ψ))]
    clear h hc;induction c with
    | zero=>rfl
    | succ c ih=>show Aow
   rw[this];grind
  ·rw[zyq (n:=n) ψ fun i hi n' =>h i ψ n',h n ψ (Ξ (e z.symm))];grind
theorem z5p{rs:B6}{fs:AB'}(a:Pf):HL p Nat (∀c,c<p ->j9 rs (fs c)) (ŷ (cZ p (sN (a c*fs c j))))
 | 0,_=>j9.zero rs
 | p+1,h=>AOB (z5p a (zo (h c ψ))).add ((h p ψ).mul (a p)) rfl
theorem BT.span{n p:Nat}(AsG)(h:v6){f:Row}(l:pb)(j:Nat):f j=cZ p (sN (f c*fs c j)):=by
 have hl:=l.add ((z5p (rs:=rs) (fs:=fs) f (p:=p) (zo (h.up c hc).l)).mul HV);have key:=zse (cs:=ADJ) hl (MR c hc) h.dz j
 ·grind
 ·have hc' :=jA.mp hc;rw[zyq hc' fun i hi ni=>(VC ((h.up i hi).z c hc (Ne.symm ni))),(h.up c hc').o]
  grind
theorem BT.eqn(Afn){ix:On}(h:v6){j:Nat}(z:AN3 p (fs i j=0)){k:Nat}(hk:k<n):
  iC A k j=cZ p (wE (fs c j)):=by
 rcases h.all k hk with q | ⟨i,q1,q2,rfl⟩
 ·exact h.span (j9.mem q) j
 ·obtain⟨_,l⟩:=h.lo i q1 q2;obtain⟨g,lg,hf⟩:=l.g;have h1:=h.span lg j;have h2:∀c,c<p ->g c= - BEy:=fun c hc=>by
   have:=hf c;show AJ (l.z c (jA.mpr hc))
   grind
  have h3:=hf j;rw[z i q1 q2] at h3;have h4:(cZ p (sN (g c*fs c j)))= - cZ p (sN (BEy*fs c j)):=by
   have neg:BEi:=fun m u=>by
    induction m with
    | zero=>unfold cZ;grind
    | succ m ih=>show Aow
   rw[<- neg];exact MN fun c hc=>(VC (h2 c hc))
  rw[h4] at h1
  grind
theorem BT.sol{n:Nat}{A:OV}{d:Int}(BK')(h:BJz n){k:Nat}(hk:k<n)(j:Nat):iC A k j=cZ n (wE (fs c j)):=
 h.eqn (fun i h1 h2=>Α) hk
theorem BT.diag{n p:Nat}(AsG)(h:v6){i:Nat}(hi:i<p)(hn:i<n):tb i i=d:=by
 have:=h.t i hn i;show AJ (h.up i hi).o;exact Qa (VC this)
theorem BT.stuck(Afn){ix:On}(h:v6)(pn:p<n)(z:AN3 p (tb i p=0)):
  ∃x:Pf,x p=1/\∀k,k<n ->(cZ n (wE (x c)))=0:=by
 have d0:ww≠0:=fun q=>h.nz (Qa Aif)
 have z' :AN3 p (fs i p=0):=fun i h1 h2=>by
  have:=h.t i h2 p;show AJ (z i h1 h2);show SG (Rat.mul_eq_zero.mp (show ww*fs i p=0 by show gc;rfl)) q
  ·show F6 q d0
  ·exact q
 show CF (sN (if c<p then - AKi else Ael c)) A1 AlY
 have e:=h.eqn z' hk;have cut:∀m,p<m ->m<=n ->BE_=(cZ p (wE (- AKi)))+iC A k p:=fun m=>by
  induction m with
  | zero=>intro hm;omega
  | succ m ih=>
   intro hm hn;show BE_+iC A k m* (AY (m<p) (- fs m p) (Ael m))=_;show Hc m p
   ·subst q;rw[AK ψ,B4]
    rw[MN (h:=wE (- fs c m)) (zo (by show DF hc))]
    grind
   ·rw[ih ψ ψ,gi,D_];grind
 rw[cut n pn (Nat.le_refl _),e];have neg:(cZ p (wE (- AKi)))= - cZ p (wE AKi):=by
  have:BEi:=fun m u=>by
   induction m with
   | zero=>unfold cZ;grind
   | succ m ih=>show Aow
  show gc;exact MN fun c _=>E8
 rw[neg];grind
def aq{α:Type}:Au ->(CD) ->Rat
 | [],_=>0
 | C6,f=>C4+HE
section
variable{α β:Type}
theorem ji{f g:CD}:ABM (C4=g a) (aq l f=aq l g)
 | [],_=>rfl
 | C6,h=>UI aq AzI (ji fun b hb=>A1d)
theorem MP{f g:CD}:AGr (Į (C4+g a)) (HE+aq l g)
 | []=>AVm
 | C6=>Aos MP
theorem Il{f g:CD}:AGr (Kx a C4 (g a)) (HE - aq l g)
 | []=>AVm
 | C6=>Aos Il
theorem Gf(k:Rat){f:CD}:AGr (Υ a (k*C4)) (k*HE)
 | []=>AVm
 | C6=>Aos (Gf k)
theorem M4{f:CD}:ABM (f a=0) (aq l f=0)
 | [],_=>rfl
 | C6,h=>AMo aq AzI (M4 fun b hb=>A1d)
theorem Gg(k:Rat):AGr (AV k) (UY*k)
 | []=>by
  show Me=xj*k;have:xj=0:=rfl;rw[this];grind
 | C6=>by
  show k+aq l (AV k)=Ahi*k;rw[Gg k];have:Ahi=UY+1:=XL rfl
  rw[this];grind
theorem W6{f:α ->β ->Rat}{m:EA}:AGr (Į (aq m (f a))) (aq m (UR (AL_ (f a b))))
 | []=>CC (Nw M4 AUp)
 | C6=>by
  show aq m (f a)+aq l (Į (aq m (f a)))=aq m (UR (f a b+AL_ (f a b)));rw[W6 (l:=l),<- MP]
theorem zos{f:CD}:∀{l m:Au},aq (l++m) f=HE+AW8
 | [],m=>by show aq m f=0+AW8;grind
 | C6,m=>by show C4+aq (l++m) f=(C4+HE)+AW8;rw[zos];grind
theorem z3w{f:CD}{l m:Au}(h:l.Perm m):aq l f=AW8:=by
 induction h with
 | nil=>rfl
 | cons x _ ih=>show f x+_=f x+_;rw[ih]
 | swap x y l=>show f y+ (f x+HE)=f x+ (f y+HE);grind
 | trans _ _ h1 h2=>rw[h1,h2]
theorem Im{f:CD}{p:xp}:AQh (aq (l.filter p) f=BCt)
 | []=>rfl
 | C6=>by
  rw[List.filter_cons];show _=(AY ł C4 0)+BCt;rw[<- Im (l:=l)];by_cases h:ł
  ·rw[Œ,Œ];rfl
  ·rw[wt,wt];grind
theorem Bp{f:EN}{g:AU2}:AQh (aq (l.map g) f=AL_ (f (g a)))
 | []=>rfl
 | C6=>by show f (g a)+_=f (g a)+_;rw[Bp]
theorem Sx{f:CD}:ABM (0<=C4) (0<=HE)
 | [],_=>CC Rat.le_refl
 | C6,h=>by
  have h1:=h a zY;have h2:=Sx (FM Ar');show 0<=C4+HE
  grind
theorem Sy{f:CD}:AQh ((AIc (0<=C4)) ->aq l f=0 ->∀a∈l,f a=0)
 | C6,h,e=>by
  have h1:=h a zY;have h2:=Sx (FM Ar');have e' :C4+HE=0:=e;have e1:f a=0:=E8
  have e2:aq l f=0:=E8
  intro b hb;show Å hb
  ·rw[q];exact e1
  ·exact Sy (L9 Ar') e2 b q
 | [],_,_=>fun a h=>Bn
#where
section
variable{α:Type}[ų]
theorem SJ{f:CD}{s hs:Au}(ns:s.Nodup)(nh:hs.Nodup)(sub:kA s hs):aq hs (LZ (HK c8 (f h)))=aq s f:=by
 have p:(hs.filter (DI (Μ c8))).Perm s:=by
  rw[List.perm_ext_iff_of_nodup (nh.filter _) ns];intro a;rw[List.mem_filter];exact⟨DI (of_decide_eq_true h.2),DI ⟨sub a h,decide_eq_true h⟩⟩
 rw[<- z3w p,Im];exact LV a (by by_cases h:a∈s<;>simp [h])
def cF(s:Au)(x:CD):Rat:=aq s x/ kr
theorem z7q{s:Au}(h:s≠ [])(x:CD):kr*Û=aq s x:=by
 have z:kr≠0:=by
  have:=List.length_pos_iff.mpr h;intro e;have:s.length=0:=XL e
  omega
 unfold cF;rw[Rat.div_def,Rat.mul_comm,Rat.mul_assoc,Ŕ z];grind
theorem ztt(s:Au)(x:CD):aq s AxK=0:=by
 rw[Il,Gg];by_cases h:s= []
 ·subst h;show Me - xj*_=0;have:xj=0:=rfl;rw[this];grind
 ·rw[z7q h];grind
def pJ(S:MT)(x:CD)(h:α):Rat:=A2j
theorem zy1(Ard)(ns:AMg)(nh:hs.Nodup)(sub:AYP)(c x:CD):aq hs (Υ h (c h*AHA))=aq S fun s=>(Alb (c h)):=by
 unfold pJ;have e:aq hs (Υ h (c h*A2j))=aq hs (DI (ASU (c h* e_))):=
  LV h (BE Gf (LV s (by split<;>grind)))
 rw[e,W6];exact ji fun s hS=>BHh
theorem yg8(Ard)(ns:AMg)(nh:hs.Nodup)(sub:AYP)(x:CD):aq hs (pJ S x)=0:=by
 have e:=zy1 ns nh sub (AV 1) x;have e1:aq hs (Υ h (1*AHA))=BGP:=AkJ
 rw[<- e1,e];exact M4 fun s _=>by
  have e2:aq s (Υ h (1* e_))=aq s AxK:=AkJ
  rw[e2,ztt]
theorem W7(r:Rat):0<=r*r:=by
 show OE (Rat.le_total (a:=0) (b:=r))
 ·exact Rat.mul_nonneg h h
 ·have h' :0<= -r:=E8
  have:=Rat.mul_nonneg h' h'
  grind
theorem z80{r:Rat}(h:r*r=0):r=0:=by
 rcases Rat.mul_eq_zero.mp h with h | h<;>exact h
theorem yb5{S:MT}{hs:Au}(ns:AMg)(nh:hs.Nodup)(sub:AYP){x:CD}(z:AMC (AHA=0)):ê (∀h∈s,x h=Û):=by
 have e:=zy1 ns nh sub x x;rw[M4 fun h hh=>(VC (z h hh))] at e
 have e2:∀s,aq s (Υ h (x h* e_))=Alb e_:=by
  intro s;have a1:=ztt s x;have a2:aq s (Υ h (e_* e_))=aq s (DI (x h* e_ - Û* e_)):=AkJ
  rw[a2,Il,Gf,a1];grind
 have e3:aq S (Υ s (Alb e_))=0:=Ο e (LV s (Nw e2 s))
 intro s hs h hh;have h1:=Sy (N0 s (Sx fun h _=>W7 _)) e3 s hs;have h2:=Sy (N0 h (W7 _)) h1 h hh;have:=z80 h2
 grind
def iK(S:MT)(h:α):Rat:=ASU 1
theorem zqp(S:MT)(h:α):0<=Ŀ:=Sx fun s _=>BMT
theorem yh5{S:MT}{h:α}(i:∃s∈S,c8):0<Ŀ:=by
 obtain⟨s,hs,hh⟩:=i;refine Rat.lt_of_le_of_ne (zqp S h) RC;have:=Sy (l:=S) (f:=fun s=>(HK c8 (BU 1))) (N0 s BMT) z.symm s hs
 show AJ (A_ hh);exact AUn this
theorem z4a{S:MT}{h0:α}{hs:Au}(ns:AMg)(nh:(AK1).Nodup)(sub:ê (kA s Đ))(on:AMD (∃s∈S,c8))
  (min:∀C:C7 α,(∀s∈S,APa s s) ->(∃x∈Đ,C x) ->AQp Đ)
  {x:CD} (z:AMC (AHA=0)) (w:aq AK1 A0p=0):AMD (x h=0):=by
 have z' :AMD (AHA=0):=by
  have e:=yg8 ns nh sub x;have e' :pJ S x h0+BGP=0:=e;rw[M4 z] at e';intro h hh;show Å hh
  ·rw[q];grind
  ·exact z h q
 have ev:=yb5 ns nh sub z';have same:AMD (x h=x h0):=min (LZ (x h=x h0)) (fun s hS hx b hb=>by
  obtain⟨a,ha,ea⟩:=hx;have ea' :x a=x h0:=ea;rw[ev s hS b hb,<- ev s hS a ha,ea']) (Ix h0 zY)
 have e1:aq AK1 A0p=c9*BCK:=BE Gf (ji fun h hh=>(VC (same h hh)))
 rw[e1] at w;have pos:BCK≠0:=fun zz=>by
  have:=Sy (N0 h (zqp S h)) zz h0 zY;have p:=yh5 (on h0 zY);rw[this] at p;exact AUn p
 show Aj_ w
 ·intro h hh;rw[same h hh,q]
 ·show F6 q pos
def d8(S:MT)(h o:α):Rat:=(AY (h=o) Ŀ 0) - AI6 AHk (1/ kr)
theorem z31(Ard)(ns:AMg)(nh:hs.Nodup)(sub:AYP)(x:CD){h:α}(hh:ox):aq hs A6J=AHA:=by
 have e1:aq hs A6J=aq hs (Υ o (HK (o∈ [h]) (Ŀ*x o))) - aq hs fun o=>(AI6 AHk ANA):=by
  rw[<- Il];show AFw o;unfold d8;have e2:(aq S fun s=>(HK AHk ANA))=x o*AI6 AHk (1/ kr):=BE Gf (LV s (by split<;>first | (simp only [Rat.div_def];grind) | grind))
  rw[e2];show Hc h o
  ·subst q;rw[B4,Atv rfl];grind
  ·rw[D_,AK A2e];grind
 rw[e1,SJ Ψ nh (AW4 (AML hy hh)),W6]
 have e3:aq [h] (Υ o (Ŀ*x o))=aq S fun s=>(HK c8 (x h)):=by
  show Ŀ*x h+0=_;unfold iK;have:(aq S fun s=>(HK c8 (x h)))=x h*ASU 1:=BE Gf (LV s (by split<;>grind))
  rw[this];grind
 rw[e3,<- Il];refine ji (AD s hS);show FB c8
 ·rw[D',D']
  congr 1
  have e4:aq hs (Υ o (HK AHk ANA))=aq hs fun o=>(HK (o∈s) ANA):=LV o AUD
  rw[e4,BHh];unfold cF;have e5:aq s (Υ o ANA)=kr⁻¹*aq s x:=BE Gf (LV o (VC Rat.div_def))
  rw[e5,Rat.div_def];grind
 ·rw[D_,D_,M4 fun o _=>AUD];grind
variable{σ:Type}
def mH(k:AY3)(y:AaB)(S:ATO)(h:α):Rat:=A0x
theorem ybl{k:AY3}{S:ATO}{hs:Au}(ns:A9N)(nh:hs.Nodup)(sub:ê (kA (k s) hs))(y:AaB):aq hs (mH k y S)=0:=by
 show aq hs (LZ A0x)=0;rw[W6];refine M4 (AD s hS);rw[SJ (f:=DI BL9) (ns s hS) nh (sub s hS)];exact ztt _ _
theorem z30(s:Au)(x y:CD):cF s (Kx o (x o) (y o))=Û - cF s y:=by
 unfold cF;rw[Il,Rat.div_def,Rat.div_def,Rat.div_def];grind
theorem ya5{k:AY3}(y:AaB)(x:CD)(S:ATO)(h:α):AOy AO7=AOy y - BEv:=by
 unfold mH pJ;rw[Bp,<- Il];exact LV s (by
  rw[z30];split<;>grind)
theorem ycs{k:AY3}{S:ATO}{h0:α}{hs:Au}(ns:A9N)(nh:(AK1).Nodup)(sub:ê (kA (k s) Đ))(y:AaB)(x:CD)
  (e:AMC (BEv=AOy y)):AMD (AOy AO7=0):=by
 have e' :AMC (AOy AO7=0):=fun h hh=>by rw[ya5,e h hh];grind
 have q:=ybl ns nh sub fun s o=>y s o - x o;have q' :mH k AO7 S h0+aq hs (mH k AO7 S)=0:=q;rw[M4 e'] at q';intro h hh;show OQ hh r r
 ·rw[r];grind
 ·exact e' h r
theorem zva{β:Type}[ZE β](f:EN):∀(l:EA),cZ l.length (XU (f (l.getD j default)))=HE:=by
 intro l;have key:∀(m:EA) n,n<=m.length ->cZ n A0L=aq (m.take n) f:=by
  intro m n;induction n with
  | zero=>show Mo
  | succ n ih=>
   intro h;have e:m.take (n+1)=m.take n++ [m[n]]:=kC List.take_succ UX
   show cZ n A0L+f (m.getD n default)=_;rw[ih ψ,e,zos]
   have:m.getD n default=m[n]:=Ah3 UX
   rw[this];show _+f m[n]=_+ (f m[n]+0)
   grind
 have:=key l l.length (zO _)
 show AtM
#where
def ZB(B:Nat)(x:Rat):Prop:=SE z (x=AKG/\AjC)
theorem ZB.sub(BFW):ZB (A+B) (x - y):=by
 show gL a ha h1;show gL b hb h2;exact⟨a - b,BM1,Α⟩
theorem ZB.mul(BFW):ZB (A*B) (x*y):=by
 show gL a ha h1;show gL b hb h2;exact⟨a*b,BM0,Ο Int.natAbs_mul (Nat.mul_le_mul ha hb)⟩
theorem ZB.mono{A B:Nat}{x:Rat}(h:ZB A x)(l:A<=B):ZB B x:=by
 show FV a rfl ha;exact NL a (zP ha l)
theorem ZB.zero(B:Nat):ZB B 0:=NL 0 FC
theorem yd2{B:Nat}{g:qS}:A'u (ZB B (g c ds)) (ZB (cs.length*B) (cH g cs))
 | [],_=>CC (ZB.zero _)
 | iF,h=>by
  have h1:=(h c cs rfl).sub (yd2 (cs:=cs) (g:=fun d ds=>g d fg) BF_)
  refine ZB.mono h1 ?_;show Akq;omega
theorem ybp{M N:Nat}:Tk rs B6 cs Ap (∀r∈rs,Arn) (cs.length<=N) (ZB (Aj8) (dt rs cs))
 | [],[],_,_=>⟨1,LJ,A1⟩
 | [],BY,_,_=>CC (ZB.zero _)
 | VQ,cs,h,l=>by
  have h1:ZB (cs.length* (M* Aj8)) (cH (MV ds (r c*MD ds)) cs):=yd2 fun c ds e=>BFc (ybp (fun s hs=>A0r) ψ)
  refine ZB.mono h1 ?_;rw[List.length_cons,Nat.pow_succ,Nat.mul_comm (Aj8),Nat.mul_assoc];exact AgP l
theorem zke{g:qS}:A'u (g c ds=0) (cH g cs=0)
 | [],_=>rfl
 | iF,h=>AMo cH (h c cs rfl) (zke (cs:=cs) BF_)
theorem ydb:Aro (rs.length≠cs.length) (dt rs cs=0)
 | [],[],h=>AnL
 | [],BY,_=>rfl
 | VQ,cs,h=>zke fun c ds e=>(VC (ydb (by simp at h;omega)))
theorem W8:∀p,BN cols p=p
 | 0=>rfl
 | p+1=>UI cols List.length_cons (W8 p)
theorem BT.len(A'2):rs.length=p:=by
 have z:=h.dz;show SG (Nat.decEq rs.length (BN cols p)) q
 ·exact oB ydb q z
 ·rw[q,W8]
theorem yjp(BIQ)(hf:Alo)(hg:AMQ)(z:AYo)(j:Nat):MD cs*f j=Al4:=by
 obtain⟨ks,_,e⟩:=hg;show Aqx;have h2:dt (f::rs) k8=Al4:=by
  show Ab3 (j::cs) a;show gc
  congr 2
  funext i
  rw[hf,e]
 rw[Rat.mul_comm,<- h1,h2]
theorem ymk{rs:B6}{pre post:Ap}{c:Nat}{f:Row}(h:pb)(one:f c=1)(z:AzU)(d:MD AJW≠0)(j:Nat):Aiu=MD Ah4:=by
 have hl:=z55 rs _ pre post rfl;have key:=zse (cs:=pre++sT) BCM AYJ d j
 ·grind
 ·by_cases hc:x=c
  ·subst hc;rw[one];grind
  ·have hx' :x∈Aeb:=by
    show AKw
    ·exact zQ _ q
    ·show Å q
     ·show F6 q hc
     ·exact zR _ q
   rw[z x hx'];have:dt rs AtK=0:=by
    show WU hx' q q
    ·show BD p1 p2 rfl List.append_of_mem q;have:=DZ (W4 rs) pre p1 post (p2++x::post) c x Ψ
     rw[List.append_assoc];exact this
    ·exact W4 rs q
   rw[this];grind
theorem zwm{z w:Int}{B:Nat}(e:AKG=BU w)(h:w.natAbs<=B):AjC:=S4 Qa e h
theorem BT.small(BJM){ix:On}(h:v6)(hA:Aq6 A M)(hp:p+1<=N)(h1:1<=N*M){i:Nat}(hi:i<n)(j:Nat):(tb i j).natAbs<=(N*M)^ (p+1):=by
 have wr:∀r∈rs,Arn:=fun r hr j=>by
  show ABK k hk rfl h.w;exact BDG
 have hl:=h.len;have pw:(N*M)^p<=(N*M)^ (p+1):=Nat.pow_le_pow_right h1 ψ
 have ht:=h.t i hi j;rw[h.de] at ht;show FB (i<p)
 ·have u:=h.up i q;show X0 pre post (List.append_of_mem (jA.mpr q));have nd:=zky p;have dz:=h.dz;have ll:=W8 p;rw[e] at nd dz ht ll;have key:=DZ (ymk (rs:=rs) (pre:=pre)) post post c i f (fs i) u.l u.o AYJ dz j
  ·rw[key] at ht;obtain⟨z,ez,hz⟩:=BDr (pre++ARX) (by simp at ll⊢;omega)
   rw[hl] at hz;rw[ez] at ht;exact zP (zwm ht hz) pw
  ·refine u.z x ?_ RC
   ·show BDX
   ·subst z;rw[List.nodup_append] at nd;show AKw
    ·exact nd.2.2 x q x zY rfl
    ·exact AIk nd.2.1 q
 ·obtain⟨hx,lo⟩:=h.lo i ψ hi
  obtain⟨g,lg,hf⟩:=lo.g;rw[yjp hf lg lo.z j] at ht;show A4 z ez hz (P9 ybp rs (iC A (ix i)::rs) cs (j::ADJ) M M N N) (WS hr (by
   show Å hr
   ·subst q;exact DA (NL (A (ix i) j) (hA _ hx j))
   ·exact wr r q)) (by show AdR W8;omega)
  rw[List.length_cons,hl] at hz;rw[ez] at ht;exact zwm ht hz
theorem BT.lead(BJM){ix:On}(h:v6)(hA:Aq6 A M)(hp:p<=N):d.natAbs<=(N*M)^p:=by
 have wr:∀r∈rs,Arn:=fun r hr j=>by
  show ABK k hk rfl h.w;exact BDG
 obtain⟨z,ez,hz⟩:=PH (BDr ADJ) W8 hp
 rw[h.len] at hz;exact zwm (h.de.trans ez) hz
section
variable{α β:Type}[ų][AMJ]
def bY(ApH):Cn:=AiO ARe
def nY(rows:Cn)(h:β):Cn:=AiO AWS
def ofM(rows:Cn)(m:EA):Cn:=AiO AgS
def Uq(rows:Cn):Prop:=rows.Pairwise fun a b=>¬(a.1=b.1/\ADi=b.2.1)
def kW(ApH):EA:=li fun r=>At
def yW(rows:Cn)(w:α)(h:β):Rat:=AN7 (GY rows.find? r (Μ ArI)) r Qb 0
theorem aX{rows:Cn}{w:α}{r:MX}:r∈dr↔AD'/\AAP:=UI bY List.mem_filter decide_eq_true_iff
theorem gJ{rows:Cn}{h:β}{r:MX}:r∈AYC↔AD'/\At=h:=UI nY List.mem_filter decide_eq_true_iff
theorem fu{rows:Cn}{m:EA}{r:MX}:r∈AOf↔AD'/\XN:=UI ofM List.mem_filter decide_eq_true_iff
theorem Uq.M(nI)(u:Eg)(m:EA):Uq (ofM rows m):=u.filter _
theorem z0w{γ δ:Type}{f:γ ->δ}{R:BI γ γ}:∀{l:List γ},AvB ->(AIc (IQ l (R a b ->C4≠f b))) ->me l.map f
 | [],_,_=>List.nodup_nil
 | C6,h,k=>by
  show AhB;rw[List.map_cons,List.nodup_cons];show BO RC (z0w h.2 fun a ha b hb=>k a (zX _ ha) b (zX _ hb));show X0 b hb (zF.mp z);exact k a zY b (zX _ hb) (h.1 b hb) e.symm
theorem zsl(nI)(u:Eg)(w:α):(kW rows w).Nodup:=by
 refine z0w (u.filter _) (Apc (n ⟨?_,e⟩));rw[(aX.mp ha).2,(aX.mp hb).2]
theorem yad(nI)(u:Eg)(h:β):me ASk (KF AL):=by
 refine z0w (u.filter _) (Apc (n ⟨e,?_⟩));rw[(gJ.mp ha).2,(gJ.mp hb).2]
theorem fK{rows:Cn}{w:α}{h:β}:ĉ↔dA ArI:=by
 unfold kW;rw[List.mem_map];exact AAS (Xs h1 h2) ⟨r,(aX.mp h1).1,(aX.mp h1).2,h2⟩ A2k (Xs Al9 h3)
theorem yfo:HL rows Cn Eg (∀{a b:MX},Φ (a∈rows) (b∈rows) (a.1=b.1) (ADi=b.2.1) (a=b))
 | r::rows,u,a,b,ha,hb,e1,e2=>by
  unfold Uq at u;rw[List.pairwise_cons] at u;show Å ha
  ·show OQ hb q' q'
   ·rw[q,q']
   ·subst q;exact absurd ⟨e1,e2⟩ (u.1 b q')
  ·show OQ hb q' q'
   ·subst q';exact absurd ⟨e1.symm,e2.symm⟩ (u.1 a q)
   ·exact yfo u.2 q q' e1 e2
theorem zz2{rows:Cn}(u:Eg){r:MX}(hr:AD'):yW rows AL At=Qb:=by
 unfold yW;cases e:GY rows.find? s (Μ A1L) with
 | none=>
  have:=List.find?_eq_none.mp e r hr;simp at this
 | some s=>
  have h1:=List.mem_of_find?_eq_some e;have h2:A1L:=l_ (List.find?_some e) this
  rw[yfo u h1 hr h2.1 h2.2]
theorem yea{rows:Cn}{w:α}(f:EN):aq AMG f=aq TL (KF ADt):=Bp
theorem SM(ApH):AJ3=Ï bY w:=AhD kW
theorem ydp(nI){ws:Au}(u:Eg)(nw:ws.Nodup)(cw:AZb)(h:β)(F:CD):aq ws A9h=aq AYH (KF (F AL)):=by
 have e:aq ws A9h=aq ws (HZ (HK A6s (F w))):=by
  show AFw w;have:ĉ↔A6s:=XB fK List.mem_map (AAS A2k (Xs (gJ.mpr ⟨h1,h3⟩) h2) (Xs h1 h2) (u8 r AvM (gJ.mp h1).2))
  show FB ĉ
  ·rw[D',kq this.mp q]
  ·rw[D_,AK (ADl q this.mpr)]
 rw[e,SJ (yad u h) nw (AEI (by
  show BD r h1 h2 zF.mp hw;rw[<- h2];exact cw r AvM)),Bp]
def qt(rows:Cn)(x:EN)(h:β):Prop:=
 aq AYH A3b=0
def Gh(rows:Cn)(x:EN)(m:EA):Prop:=aq MU (QY MG)=0
theorem W9{rows:Cn}(u:Eg)(x:EN)(w:α):cF AMG (Kx o (ANr o) (x o))=AHc:=by
 unfold cF;rw[SM,yea]
 congr 1
 show ik;have:=zz2 u vy;show AJ AM2;rw[this]
theorem z93(ŋ)(u:Eg)(nw:ws.Nodup)(cw:AZb)(x:EN)(h:β)(e:mH AJC (fun w o=>ANr o - x o) ws h=0):vv:=by
 show N4 mH;rw[BDN] at e;unfold qt;rw[<- e];show ik;show AZS;have y:=zz2 u hr'.1;rw[hr'.2] at y;rw[W9 u,hr'.2];show _=yW rows AL h - x h - _;rw[y]
theorem yci(ŋ)(u:Eg)(nw:ws.Nodup)(cw:AZb)(h:β):iK IZ h=rX nY h:=by
 unfold iK;rw[Bp,BDN,Gg];grind
theorem z3k(nI){m:EA}(nm:m.Nodup)(sub:D9 XN)(f:EN):aq m A0q=ANB ADt:=by
 have e:aq m A0q=aq m (DI (ANB A9n)):=by
  show AFw h;rw[<- Gg (l:=AYC)];unfold nY;rw[Im];refine ji (AD r _);show AXj
  ·rw[AkO,D',q]
  ·rw[AK (Fs q),D_]
 rw[e,W6];show ik;have e2:aq m (LZ A9n)=aq m (DI (HK (h∈ [At]) ADt)):=LV h (by
  show AXj
  ·rw[D',Atv q.symm]
  ·rw[D_,AK A2e])
 rw[e2,SJ (f:=C8 ADt) Ψ nm (AW4 (AML hy (sub r hr)))]
 show ADt+0=_
 grind
structure uT (rows:Cn) (ws:Au) (m:EA):Prop where
 u:Eg
 nw:ws.Nodup
 cw:AZb
 nm:m.Nodup
 sub:D9 XN
 on:AVL
 min:∀C:C7 β,(∀w∈ws,APa rS rS) ->(∃x∈m,C x) ->AQp m
theorem uT.sub'(A_B):A8l (kA s m):=fun s hs x hx=>by
 show AEk w (zF.mp hs);obtain⟨r,h1,_,h3⟩:=fK.mp hx;rw[<- h3];exact L.sub r h1
theorem uT.ns(A_B):A8l s.Nodup:=fun s hs=>by
 show AEk w (zF.mp hs);exact zsl L.u w
def nA [ZE β](rows:Cn)(ws:Au)(m:EA)(i j:Nat):Rat:=
 if j<m.length then(AY (i=0) (iK IZ (m.getD j default)) (d8 IZ ASq Ani))
 else Yf 0 0 (mH AJC AJD ws ASq)
theorem Xa{γ:Type}[ZE γ]{m:List γ}{i:Nat}(h:i<m.length):m.getD i default∈m:=AMa UX (yX h)
theorem zy4 [ZE β](ŋ){m:EA}(x:EN):cZ m.length (Υ j (nA rows ws m 0 j*AdB x))=aq m (DI (iK IZ h*x h)):=by
 rw[<- zva];refine MN (AD j hj);unfold nA;rw[A_ hj,B4]
theorem z3p [ZE β](ŋ){m:EA}(L:AKy)(x:EN){i:Nat}(hi:i<m.length)(h0:i≠0):cZ m.length AmI=pJ IZ x ASq:=by
 rw[<- z31 L.ns L.nm L.sub' x (Xa hi),<- zva];refine MN (AD j hj);unfold nA;rw[A_ hj,AK h0]
theorem z0a [ZE β]{m:EA}{h0:β}{hs:EA}(e:m=Đ){h:β}(hh:ox):∃i,i<m.length/\i≠0/\m.getD i default=h:=by
 show BD i hi q List.getElem_of_mem hh;subst e;show FU BQ ALU Α
 show AdS List.getElem?_cons_succ SU q;rfl
theorem uT.null [ZE β](ŋ){m:EA}(L:AKy)(x:EN)(z:Ajv (cZ m.length AmI=0)):O0 (x h=0):=by
 cases em:m with
 | nil=>intro h hh;cases hh
 | cons h0 hs=>
  have nm:=L.nm;have sub:=L.sub';have on:=L.on;have mn:=L.min;rw[em] at nm sub on mn;refine z4a L.ns nm sub (MR h hh) (fun C hC=>mn C (AEI (hC _ (zF.mpr (Ix w hw))))) (MR h hh) ?_
  ·show A4 r h1 h2 on h hh;exact⟨AI_ kW,zF.mpr (Ix AL (L.cw r h1)),fK.mpr (MQ r h1 h2)⟩
  ·obtain⟨i,hi,i0,e⟩:=z0a em hh;rw[<- e,<- BER];exact z i hi
  ·rw[<- em,<- zy4];exact z 0 (by rw[em];simp)
theorem uT.ans [ZE β](ŋ){m:EA}(L:AKy)(x:EN)(z:Ajv (nA rows ws m i m.length=cZ m.length AmI)):Axa/\Als:=by
 have e0:m≠ [] ->Als:=fun ne=>by
  have q:=z 0 (List.length_pos_iff.mpr ne);rw[zy4] at q;unfold nA at q;rw[AZk,B4] at q;rw[<- z3k L.nm L.sub,q];exact LV h (MZ (yci L.u L.nw L.cw))
 cases em:m with
 | nil=>
  show CS (ANV (by cases hh))
  cases er:rows with
  | nil=>rfl
  | cons r rs=>
   have:=L.sub r (B2 er zY)
   show AJ em;show DC
 | cons h0 hs=>
  show BO (ANV (z93 L.u L.nw L.cw x h (P9 ycs S ws k (kW rows) h0 h0 hs hs (N0 w (zsl L.u w)) (em ▸ L.nm) (fun w hw y hy=>(BE em (L.sub' _ (zF.mpr (Ix w hw)) y hy))) AJD x (MR g hg) h hh))) (e0 (AL6 em))
  obtain⟨i,hi,i0,e⟩:=z0a em hg;have q:=z i hi;rw[BER] at q;unfold nA at q;rw[AZk,AK i0,e] at q;exact q.symm
#where
section
variable{α γ:Type}[APv γ]
theorem z1o{f:CD}{p:xp}:AGr f (aq (l.filter p) f+aq (l.filter (s0 (! p a))) f):=by
 intro l;rw[Im,Im,<- MP];show AFw a;cases p a
 ·simp [Rat.zero_add]
 ·simp [Rat.add_zero]
theorem z3i(key:α ->γ)(g:CD)(φ:γ ->Rat):∀(n:Nat) (l:Au),l.length<=n ->(∀c,aq (l.filter fun a=>(Μ (key a=c))) g=0) ->aq l (Υ a (φ (key a)*g a))=0:=by
 intro n;induction n with
 | zero=>
  intro l hl _;show Db (l= []) (List.eq_nil_of_length_eq_zero ψ)
  rfl
 | succ n ih=>
  intro l hl h;cases l with
  | nil=>rfl
  | cons a r=>
   rw[z1o (p:=UR ň)];have e1:aq A4l BBJ=0:=by
    have:aq A4l BBJ=aq (AEe (UR ň)) (Υ b (φ (key a)*g b)):=
     ji fun b hb=>by rw[of_decide_eq_true (List.mem_filter.mp hb).2]
    rw[this,Gf,h,Rat.mul_zero]
   rw[e1,ih]
   ·show OM
   ·have:BN AEe (UR (! ň))<=r.length:=S4 List.filter_cons_of_neg Ψ Agw
    simp only [List.length_cons] at hl;omega
   ·intro c;show Af6;by_cases e:c=key a
    ·subst e;show KM (GY AEe b (ň&& ! ň)= []) (List.filter_eq_nil_iff.mpr fun b _=>A1)
     rfl
    ·rw[show GY AEe b (Μ (key b=c)&& ! ň)=AEe (j' (Μ (key b=c))) from BNM b (by
      show FB (key b=c)
      ·simp [q,e]
      ·simp [q])]
     exact h c
theorem yg5{l:Au}{f d:CD}(o:aq l (Υ a (d a*C4))=0):A5S (aq l (Υ a (C4*C4))+AL_ (d a*d a)):=by
 have:A5S (aq l (Į (C4*C4+d a*d a+2* (d a*C4)))):=LV a E8
 rw[this,MP,MP,Gf,o,Rat.mul_zero,Rat.add_zero]
#where
section
variable{α β:Type}[ų][AMJ]
def c7(rows:Cn)(x:EN)(r:MX):Rat:=ASn - AfG
theorem z7o(rows:Cn)(x:EN)(w:α):aq TL AZd=0:=by
 have e:aq TL AZd=ABx TL TH - aq TL (C8 AHc):=by
  rw[<- Il];show ik;unfold c7;rw[AM2]
 rw[e,Gg];by_cases z:A3l
 ·rw[z];show Me - xj* (0/ xj)=0
  show OM
 ·have n0:û≠0:=fun q=>(BMY z (BMV q))
  rw[Rat.div_def,Rat.mul_comm (û),Rat.mul_assoc,Ŕ n0,Rat.mul_one,Rat.sub_self]
theorem zx0(nI){x:EN}(ev:Æ)(p:CD)(q:EN):aq rows Au7=0:=by
 have e:aq rows Au7=Ai3 (p AL)+ANB (q At*T0):=BE MP (LV r E8)
 rw[e,z3i (fun r:MX=>AL) AZd p rows.length rows Agk (mo (z7o rows x w)),
  z3i (fun r:MX=>At) AZd q rows.length rows D4 AL4]
 ·show OM
 ·by_cases z:AJX h
  ·show uS r hr z;exact ev r hr
  ·show KM (GY rows.filter r AWS= []) (À List.filter_eq_nil_iff.mpr (by
    simp only [decide_eq_true_eq];exact fun e=>z ⟨r,hr,e⟩))
   rfl
theorem zo6(nI){x:EN}(ev:Æ)(p:CD)(q:EN){g:MX ->Rat}(hg:D9 (g r=T0+ v_)):
  Ai3 T0<=aq rows An5/\ (aq rows (Υ r (T0*T0))=aq rows An5 ->D9 (g r=T0)):=by
 have e:aq rows An5=Ai3 T0+ANB (v_* v_):=BE (yg5 (zx0 ev p q)) (À ji (MZ (hg r hr)))
 have n:0<=ANB (v_* v_):=Sx fun r _=>W7 _;show BO E8 (Κ z r hr)
 have z2:aq rows (Υ r (v_* v_))=0:=E8
 have:=z80 (Sy Azi z2 r hr);rw[hg r hr,this,Rat.add_zero]
#where
section
variable{α β:Type}[ų][AMJ]
theorem zus(BFe)(ev:Æ)(ev' :D9 (qt rows x' At)):D9 (c7 rows x' r=T0):=by
 have h1:=zo6 ev (Kx w AHc A9O) (Kx h (x h) (x' h)) (g:=c7 rows x') AnO
 have h2:=zo6 ev' (Kx w A9O AHc) (Kx h (x' h) (x h)) (g:=c7 rows x) AnO
 exact h1.2 (Rat.le_antisymm lj h2.1)
theorem z8i(BFe)(ev:Æ)(ev' :D9 (qt rows x' At))(BJN):MG - x' At=TH - x' Sm:=by
 have h1:=zus ev ev' r hr;have h2:=zus ev ev' s hs;unfold c7 at h1 h2;rw[e] at h1
 grind
theorem z8h(nI){x x' :EN}{m:EA}(ev:Æ)(ev' :D9 (qt rows x' At))(em:AHN)(em' :A1o)
  (min:As4) (on:AVL):O0 (x h=x' h):=by
 intro h0 hh;have same:=min (LZ (x h - x' h=c9 - x' h0)) (fun r hr s hs e c=>by
  have:=z8i ev ev' hr hs e;show gc;exact c) (Ix h0 hh)
 have z:aq MU A3a=0:=by rw[Il,em,em'];show OM
 have z2:aq MU A3a=aq MU (C8 (c9 - x' h0)):=À ji (same _ AGa);rw[z2,Gg] at z;show A4 r hr e on h0 hh;have pos:0< AZW:=List.length_pos_iff.mpr fun q=>by
  have:=fu.mpr ⟨hr,e ▸ hh⟩;show AJ q;show DC
 show SG (Rat.mul_eq_zero.mp z) q
 ·have:AZW=0:=XL q
  omega
 ·grind
#where
section
variable{α β:Type}[ų][AMJ]
def qM(hd:β)(b:Int)(r:MX):MX:=(AL,At,L6+b* AwO)
theorem yix{rows:Cn}{hd:β}{b:Int}{w:α}:Ao8 bY w li:=Ajz bY
theorem ylh{rows:Cn}{hd:β}{b:Int}{h:β}:Ao8 nY h ASk:=Ajz nY
theorem ylm{rows:Cn}{hd:β}{b:Int}{m:EA}:Ao8 ofM m (Ù ofM m):=Ajz ofM
def zp(rows:Cn)(x:EN)(hd:β)(b:Int)(g:EA)(h:β):Rat:=
 if h∈g then Azh (x h) h (rX ofM g) else x h
theorem zxy(BGw)(hg:AX5)(r:MX):
  cS (AKD r) - Asq g r=ASn+HK o6 A_u:=by
 unfold qM zp;dsimp only;show FB o6
 ·rw[D',D'];by_cases p:At=hd
  ·show Azn (A_ p) (A_ p)
  ·show Azn (AK p) (AK p)
 ·have p:¬At=hd:=Ξ (PH q z hg)
  rw[D_,D_,AK p,Rat.intCast_add,Rat.intCast_mul];grind
theorem ylx(BGw)(hg:AX5)(cl:D9 (o6 ->Adz (Sm∈g))){h:β}(e:vv):qt (Ap3 b) (zp rows x hd b g) h:=by
 show ATJ e;rw[ylh,Bp,<- e];show ik;have hr' :=(gJ.mp hr).1;rw[zxy hg];have e1:(AKD r).1=AL:=rfl;rw[e1,yix,Bp,List.length_map];generalize hk:A_u=k;have e2:aq ACx (Kx a (cS (AKD a)) (Asq g a))=aq ACx (s0 ((cS a - x ADi)+HK o6 k)):=by
  refine ji (AD s hs);have hs' :=aX.mp hs;rw[zxy hg,hk];have:Sm∈g↔o6:=ATF (cl s hs'.1 z r hr' hs'.2) (Ξ (cl r hr' z s hs'.1 (hs'.2).symm));show FB o6
  ·rw[D',kq this.mpr q]
  ·rw[D_,AK (ADl q this.mp)]
 rw[e2,MP,Gg];show My n0 Ac5 (by
  show AGp (Ï bY AL)
  show A0T;have h2:=aX.mpr ⟨hr',(rfl:AL=AL)⟩;rw[this] at h2;cases h2)
 generalize aq ACx _=S;generalize (AY o6 k 0)=c;generalize Ac5=n at n0;have:(S+n*c)/n=S/n+c:=by
  rw[Rat.div_def,Rat.div_def];have:=AEr n0
  grind
 rw[this];grind
theorem ymg{rows:Cn}{x:EN}{hd:β}{b:Int}{g:EA}(hg:AX5)(on:dA o6){m:EA}(dj:m=g\/O0 (h∉g))(e:AHN):Gh (Ap3 b) (zp rows x hd b g) m:=by
 unfold Gh at e⊢;rw[ylm,Bp];have e0:∀r:MX,(AKD r).2.1=At:=AEx;show gT dj dj
 ·have e1:aq MU (Į (Asq m a))=aq MU (s0 (Azh (x ADi) ADi ANc)):=by
   show ik;rw[e0];unfold zp;show DF AGa
  rw[e1,MP,e,Gf,Il,Gg];have e2:aq MU A1Q=ARb:=by
   have:nY rows hd=(ofM rows m).filter (KF ANQ):=by
    unfold nY ofM;show Af6;show Ahj r _;show Hc At hd
    ·simp [q,hg]
    ·simp [q]
   have h2:aq MU A1Q=aq (nY rows hd) (C8 1):=XB this Im (LV r (by show AEc (At=hd)))
   rw[h2,Gg];grind
  rw[e2];show My n0 ANc (by
   show AGp AZW
   show A0T;obtain⟨r,hr,h1⟩:=on;have h2:=fu.mpr ⟨hr,h1⟩;rw[this] at h2;cases h2)
  generalize ANc=n at n0;rw[Rat.div_def];have:=AEr n0
  grind
 ·rw[<- e];show ik;rw[e0];unfold zp;rw[if_neg (dj _ AGa)]
#where
section
variable{α:Type}
abbrev Ab(a x:Rat):Prop:= -a<=x/\x<=a
theorem yl5{a x:Rat}(h:x*x<=a*a)(h0:0<=a):Ab a x:=by
 constructor
 ·show BIC (-x) (-x) (-x) (-x) (-x)
 ·show BIC x x x x x
theorem yjw{a x:Rat}(h:Ab a x):x*x<=a*a:=by
 have:0<=(a - x)* (a+x):=Rat.mul_nonneg (Ahb h.2) (Ahb h.1)
 grind
theorem zzs{f:CD}:ABM (0<=C4) (∀a∈l,C4<=HE)
 | b::l,n,a,ha=>by
  unfold aq;have h0:=n b zY;have h1:=Sx (l:=l) (zo Ap');show K2 ha q
  ·grind
  ·have:=zzs (MV hc Ap') a q
   grind
theorem zr4{f:CD}{k:Rat}:ABM (C4<=k) (HE<=UY*k)
 | [],_=>by show Me<=xj*k;grind
 | b::l,n=>by
  unfold aq;have h0:=n b zY;have h1:=zr4 (l:=l) (zo Ap');rw[List.length_cons];have:Ahi=UY+1:=XL rfl
  rw[this]
  grind
theorem z6j{f:CD}{k:Rat}{l:Au}(h:A'Z):Ab (UY*k) (aq l f):=by
 show oP (zr4 fun a ha=>(ACj h));have:=DZ zr4 f (s0 (-1*C4)) k k l l fun a ha=>(Ahb (h a ha).1)
 show AJ Gf
 grind
theorem yfj{f:CD}{k:Rat}{l:Au}(h:A'Z)(k0:0<=k):Ab k (HE/ UY):=by
 have s:=z6j h;by_cases z:l.length=0
 ·rw[z,Rat.div_def];show Ab k (_* (Me)⁻¹);rw[Rat.inv_zero,Rat.mul_zero];constructor<;>grind
 ·have n0:Me< UY:=XL (Nat.pos_of_ne_zero z)
  have e:UY* (HE/ UY)=HE:=by
   rw[Rat.div_def,Rat.mul_comm (aq l f),<- Rat.mul_assoc,AEr LY,Rat.one_mul]
  generalize (HE/ UY)=q at e⊢;rw[<- e] at s;constructor
  ·show AK2;have:0< UY* (-k - q):=Rat.mul_pos n0 LY
   have:=s.1
   grind
  ·show AK2;have:0< UY* (q - k):=Rat.mul_pos n0 LY
   have:=s.2
   grind
#where
section
variable{α β:Type}[ų][AMJ]
theorem zq3{rows:Cn}{x:EN}{M:Rat}(ev:Æ)(M0:0<=M)(hM:A4q)(n:wb 49):D9 (Ab (7*M) (c7 rows x r)):=RU (by
 have h1:=(zo6 ev (mo AHc) x (g:=KF Qb) AnO).1
 have h2:=zzs (f:=KF (T0*T0)) (l:=rows) Azi r hr;have h3:=zr4 (f:=fun r:MX=>Qb* Qb) (k:=M*M) (RU (yjw (hM r hr)));have h4:ATY* (M*M)<=49* (M*M):=by
  have:OT rows.length<=OT 49:=XL n
  have h5:=Rat.mul_nonneg (show Me<=49 - ATY by have:ATY<=49:=this;grind) (Rat.mul_nonneg M0 M0)
  grind
 refine yl5 ?_ LY
 try dsimp only at h1 h2 h3
 grind)
theorem z8b{rows:Cn}{x:EN}{M:Rat}(ev:Æ)(M0:0<=M)(hM:A4q)(n:wb 49)(BJN):Ab (16*M) (MG - TH):=by
 have h1:=zq3 ev M0 hM n r hr;have h2:=zq3 ev M0 hM n s hs;have h3:=hM r hr;have h4:=hM s hs;unfold c7 at h1 h2;rw[e] at h1;constructor<;>grind
theorem zx1{rows:Cn}{x:EN}{B:Rat}{m:EA}(nm:m.Nodup)(near:D9 A2q)(B0:0<=B)
  (min:As4) (on:AVL) (cl:A2V) {h0:β} (hh:h0∈m):
  ∀j:Nat,(∀h∈m,AXw)\/j< BN m.filter (DI (Arf tN)):=by
 intro j;induction j with
 | zero=>
  show MY (List.length_pos_iff.mpr RC);have:h0∈m.filter fun h=>(Arf xj):=zE.mpr ⟨hh,decide_eq_true ⟨E8,E8⟩⟩
  show AJ z;show DC
 | succ j ih=>
  have c1:OT (j+1)=tN+1:=by exact_mod_cast rfl
  have up:∀h,AXw ->Ab (OT (j+1)*B) AQc:=fun h hh=>by
   rw[c1];have:=hh.1;have:=hh.2;constructor<;>grind
  rcases ih with ih | ih
  ·show B3 (BAr ih)
  ·by_cases all:O0 AXw
   ·show B3 (BAr all)
   ·have:dA (∃s∈rows,AL=s.1/\XN/\Ab (tN*B) (MG - c9)/\¬Ab (tN*B) (TH - c9)):=by
     refine Classical.byContradiction fun none=>all ?_;have k:=min (LZ (AQ2/\AXw)) (fun r hr s hs e c=>⟨cl r hr c.1 s hs e,Classical.byContradiction (Ξ (none ⟨r,hr,s,hs,e,c.1,c.2,z⟩))⟩) ⟨h0,hh,hh,by
      have:0<=tN*B:=Rat.mul_nonneg (BMV (Nat.zero_le j)) B0
      constructor<;>grind⟩
     exact fun h hm=>(k h hm).2
    obtain⟨r,hr,s,hs,e,rm,ra,sa⟩:=this;have sm:=cl r hr rm s hs e;have nr:=near r hr s hs e;have s1:Ab (OT (j+1)*B) (TH - c9):=by
     rw[c1];have:=nr.1;have:=nr.2;have:=ra.1;have:=ra.2;constructor<;>grind
    show MY (zN (Nat.succ_lt_succ ih) (Kw (l:=Sm::m.filter fun h=>(Arf tN)) ?_ (AD h hm)))
    ·exact List.nodup_cons.mpr (ATF (sa (of_decide_eq_true (zE.mp z).2)) (nm.filter _))
    ·show K2 hm q
     ·exact zE.mpr ⟨sm,decide_eq_true s1⟩
     ·show B' q1 q2 zE.mp q;exact zE.mpr ⟨q1,decide_eq_true (up h (of_decide_eq_true q2))⟩
theorem z04{rows:Cn}{x:EN}{B:Rat}{m:EA}(nm:m.Nodup)(near:D9 A2q)(B0:0<=B)
  (min:As4) (on:AVL) (cl:A2V) (em:AHN) {h0:β} (hh:h0∈m):Ab (ALJ*B) (x h0):=by
 have d:O0 (Ab (ALJ*B) AQc):=by
  show OE (zx1 nm near B0 min on cl hh m.length)
  ·exact h
  ·exact NG AAH Nat.not_le.mpr h
 show A4 r hr e on h0 hh;have pos:0< AZW:=List.length_pos_iff.mpr fun q=>by
  have:=fu.mpr ⟨hr,e ▸ hh⟩;show AJ q;show DC
 have s:=z6j (f:=fun r:MX=>MG - c9) (l:=AOf) (RU (d _ AGa));rw[Il,em,Gg] at s;have n0:Me< ANc:=XL pos
 generalize ALJ*B=C at s d⊢;generalize ANc=n at s n0;constructor
 ·show AK2;have:0<n* (-C - c9):=Rat.mul_pos n0 LY
  have:=s.2
  grind
 ·show AK2;have:0<n* (c9 - C):=Rat.mul_pos n0 LY
  have:=s.1
  grind
#where
#print HM
namespace L3
open PySem L2 HM
def SN(By):dw:=DH (∃i j,A4p)
def JX(Fc):dw:=oq (∃i j:Int,ds= ADa/\AVO/\AMZ/\GU j 0 False A2f)
def Qd(Fc):dw:=AmL (a+b)
def JZ(Fc):dw:=AmL (a - b)
def Xb(Fc):dw:=AmL (a*b)
def SQ(Fc):dw:=oq (∃a b:Rat,Ad8 (GU b 0 False (Tx (a/b))))
def Et(Fc):dw:=Adu (Ad8 (PP (decide (a<b))))
def eV(ns:An)(k:Nat):Int:=ATK Ahv ns[k] (let m:Int:=GU ns [] (Cc*7919+5) ((ns.getD ((k*7) % ns.length) 0*48271+ Cc*7919).fmod 2147483647)
 (m*m).fmod 2147483629)
def Bq(By):dw:=UM ns An k Nat (ds= [Agq,.int k]/\ASm/\k<1000/\NY (eV ns k))
def zz1(By):dw:=ZX
def Qe(Fc):dw:=DH (∃qs:AA,ds= AeP/\ AEJ/\ (∀k,AmT)/\Tx (dH qs))
def Qf(Fc):dw:=oq (∃qs:AA,ds= AeP/\AVX/\ AEJ/\ (∀k,AmT)/\GU qs [] False (Tx (AAL/ wp)))
def Qg(Fc):dw:=Axj AVX (mw Ahp)
abbrev Mx:=OV
abbrev Mq:=AH5 Rat
def Xc(k s:Nat)(a:Mx):Mx:=CL (a (rB k s i))
def gK(m:Nat)(f:g9):D:= .lst (Al' f)
def o9(n m:Nat)(a:Mx):D:= .lst (AGP ADe)
def oU(m:Nat)(f:Pf):D:= .lst (Kj m fun j=>qD (f j))
def Io(n m:Nat)(a:Mq):D:= .lst (AGP (oU m (a i)))
def SzE(AGm):Prop:=cP q.num<=128/\ fR∣27720
def vQ(N:Nat)(d:Int)(q:Rat):Prop:=SE t (q=AIY/ ww/\cP t<=N)
def Ky(n:Nat):Nat:=147* NO+1
def Xd(By):dw:=UM m Nat f Pf (ds= [oU m f]/\m<=13/\ (KU m (SzE (f j)))/\∀(μ:Int) (g:g9),0<μ ->(KU m (BU (g j)=BU μ*f j)) ->(A2a) ->P (gK m g))
def Xe(By):dw:=DH (∃(m k:Nat) (f g:g9) (p:Int),ds= [gK m f,gK m g,wy,.int p]/\k<m/\p≠0/\cP p<=9000/\ (∀j,cP (f j)<=9000)/\ (∀j,cP (g j)<=9000)/\P (gK m (DA (A2N p))))
def Eu(k:Nat)(p:Int)(a:Mx):Mx:=OO j (Yf k (a k j) BHz)
def Xf(By):dw:=DH (∃(a:Mx) (n m k:Nat) (p:Int),ds= [AYa,wy,.int p]/\k<n/\k<m/\p≠0/\cP p<=9000/\ (ANy (AMn a<=9000))/\P (o9 n m (Eu k p a)))
def Xg(By):dw:=DH (∃(a:Mx) (n m k s:Nat),ds= [AYa,wy,.int s]/\k<n/\s<n/\BAV)
def Xh(Fc):dw:=oq (∃(a:Mx) (n m k:Nat),ds= [AYa,.int k]/\n<=1000/\k<n/\k<m/\ (∀s,k<=s ->s<n ->a s k≠0 ->BAV)/\ ((A8Z (s<n)) ->False))
def Sys(n:Nat)(A:Mq)(ds:Ε):Prop:=ds= [Io n n A,oU n (CL (A i n))]/\n<=12/\∀i j,i<n ->j<=n ->SzE (A i j)
def Slv(n:Nat)(A:Mq)(x:Pf):Prop:=∀r,r<n ->A r n=cZ n (DA (A r j*x j))
def Xi(Fc):dw:=oq (∃(n:Nat) (A:Mq),Sys n A ds/\ (∀(y:Pf) (k:Nat),k<n ->y k=1 ->(∀r,r<n ->(cZ n (DA (A r j*y j)))=0) ->False)/\∀x,Slv n A x ->(SE d (Ŝ/\iA<=Ky n/\yA (vQ (Ky n) d (x i)))) ->P (oU n x))
def uU:Str:=kP "mean"
def Qh:Str:=kP "middle"
def jd:Str:=kP "pair"
def mids(l:AA):AA:=GU Amu 1 [AZv] [eD (aT - 1),AZv]
def Xj(By):dw:=DH (∃l:AA,ds= Su tm/\1<=l.length/\mw (AO mids l qD))
def Qi(By):dw:=Adu (ds= Su [qD a,qD b]/\Sz 1900 a/\Sz 1900 b/\Tx (b - a))
def Xk(By):dw:=DH (∃l:AA,ds= Su tm/\2<=l.length/\Ata/\ Aw1/\AzE)
def Xl(Fc):dw:=oq (∃(l:AA) (g:Rat),ds= [.lst tm,qD g]/\2<=l.length/\Ata/\ Aw1/\ASG/\
 if l.length=2/\g<wd l 0 then E (AG c.Apart) else AzE)
theorem yaw(AH Xj):II:=Se
theorem yf9(AH Qi):II:=ES
theorem z3e(AH Xk):II:=Se
theorem yjt(AH Xl):DD:=ES
def Xm(By):dw:=DH (∃r:Str,ds= [AUF]/\NY AbZ)
def Kz(n:Nat)(p:Pt):Prop:=Sz n A2/\Sz n p.2
def wN(ps:Hm):Bool:=Μ (1<ps.length)&&(List.zipWith JT ps ps.tail).all id
def Xn(By):dw:=DH (∃a b:Pt,ds= [pD a,pD b]/\Kz 4000 a/\Kz 4000 b/\PP (JT a b))
def Xo(By):dw:=DH (∃ps:Hm,ds= Su AGN/\ A5Q/\PP (wN ps))
def Xp(By):dw:=DH (∃(l r:Pt) (x:Rat),ds= [pD l,pD r,qD x]/\Kz 300 l/\Kz 300 r/\Sz 1000 x/\l.1<AL/\Tx (zj l r x))
def Qj(Fc):dw:=oq (∃ps:Hm,ds= Su AGN/\ A5Q/\if wN ps=true then P (.tup AGN) else False)
def Ew(c:Cls)(ps:Hm):D:= .obj c.Scale ["points"] [.tup AGN]
def Xq(Fc):dw:=UM ps Hm x Rat (ds= [Ew c ps,qD x]/\1<ps.length/\Gd ps/\ (∀p∈ps,Kz 300 p)/\Sz 1000 x/\Tx (JV ps x))
def intD(n:Nat):D:= .int D6
def nZ(OB):AA:=(lV qs).reverse
def Ey(f:AA)(k:Nat):Bool:=Μ (k+1=f.length) || Μ (f.getD FR 0<AW')
def gM(f:AA):Ap:=0::AO (AQk f.length filter) (Ey f) (· +1)
def Fall(f:AA):Prop:=∀i j,i<=j ->j<f.length ->f.getD j 0<=f.getD i 0
def pK(l:An):D:= .lst AiY
def Ip(b:Bd):D:= fc b.1 b.2
def Ci(bs:EZ):D:= AiZ Ip
def iD(qs:AA)(m:Rat):Nat:=BN qs.filter (US (!(Μ (x<m))))
def fD(OB):An:=AO gM ì Int.ofNat
def Last(S:An)(n:Int):Prop:=mQ (S.map D.int) HV=some (DE n)
def lJ(AX2):Bool:=(gk AMO qs.length bs.reverse bs.length).contains 0
def uV(AX2):An:=AUL fun k=>fk AMO qs.length bs FR
def SX(By):dw:=UM x Int b Bd (ds= [.int x,Ip b]/\PP (yF b x))
def Xr(By):dw:=DH (∃(S l:An) (b:Bd),ds= [pK S,pK l,Ip b]/\P (pK (zm S l b)))
def Qk(By):dw:=UM S An bs EZ (ds= [pK S,Ci bs]/\AVW/\mw (ALr fun i=>pK (rk S bs i)))
def S5(ls:ť):T:= .lst (ls.map fun l=> .lst (Awm .leaf))
def mJ(AX2):ť:=ALr fun i=>rk (fD qs) bs i
def S6(By):tU:=DH (∃ls:ť,ds= Su AZB/\P (S5 ls))
def Xu(By):dw:=UM m Rat qs AA (ds= [qD m,ATz]/\Sr m/\ AEJ/\NY (iD qs m))
def Xv(By):dw:=Axj AyJ (P (pK AMO))
def Xw(By):dw:=BH0 (ds= [pK S,Ci bs]/\AVW/\Last S n/\mw BBM)
def Xx(By):dw:=BH0 (ds= [pK S,Ci bs]/\AVW/\Last S n/\AKf/\ AO2/\P (pK (Kj bs.length fun k=>AMj)))
def Xy(Fc):dw:=oq (∃(qs:AA) (bs:EZ),ds= [ATz,Ci bs]/\AyJ/\ AEJ/\AVW/\ (lJ qs bs=true ->P (pK (uV qs bs)))/\ (lJ qs bs=false ->E (A3R [S5 (mJ qs bs)])))
def bD:ALQ ->D | none=> AF | some q=>qD q
def Br(f:AA)(c:Nat):ALQ:=GU c 0 none (some (f.getD (c - 1) 0))
def isIn(m:Rat):ALQ ->Bool | none=>false | some q=> !(Μ (m<q))
def iG(bs:YA)(m:Rat):Nat:=bs.findIdx (isIn m)
def Xz(n:Nat)(b:ALQ):Prop:=∀q,b=some q ->Sz n q
def XC(By):dw:=UM qs AA cs Ap (ds= [ATz,.lst (cs.map intD)]/\AVX/\ AEJ/\0<cs.length/\ (∀c∈cs,Awc)/\mw (AO cs.dropLast.map A4g bD))
def XD(By):dw:=UM bs YA m Rat (ds= [AiZ bD,qD m]/\ Aln/\Sr m/\NY (iG bs m))
abbrev Rw:=Str×Str×Int
def sZ(r:Rw):D:= Zs AL AKL kQ
def eE(rs:AW):D:= .lst (rs.map sZ)
def rC(AZ7):Β:=AO rows.filter (KF ARe) fun r=>At
structure Fam (rows:AW) (Ss:ID):Prop where
 of:AJz (Az1 S)
 to:D9 (∃S∈Ss,AJF S (AI_ rC))
structure wO (rows:AW) (ms:ID):Prop where
 sr:qf (AKt m.Pairwise)
 up:ms.Pairwise fun a b=>AqD
 pi:∃Ss,Fam rows Ss/\mG Ss ms
def zu(p:Β×Ε):T:= .dic Aht ((p.2).map .leaf)
structure M5 (rows:AW) (ws:Β) (ps:AK3):Prop where
 len:Aut
 nd:ws.Nodup
 lw:ws.length<=rows.length
 wm:AaU (dA AAP)
 pt:BHb
 ex:A6t
def Ql(By):tU:=DH (∃rows:AW,ds= [ALy]/\Atb/\∀ws ps,AfD ->P (.dic Aco Acp))
def S7(By):dw:=DH (∃g hs:Β,ds= [gl g,gl hs]/\PP (cY g hs))
def XF(By):dw:=DH (∃(fs:ID) (hs U:Β),ds= [.lst (fs.map gl),gl hs]/\hs.length+fs.flatten.length<4000/\fs.length<4000/\Amp/\ (∀x∈hs,x∈U)/\ (AOg (pe f))/\
 ∀g:Β,g.Pairwise (se ä) ->(AQE g (x∈hs\/AY_ (AOA f/\AFU))) ->mw ((AHa ACi++ [g]).map gl))
def XH(By):tU:=A6L (ds= [ALy]/\Atb/\Amp/\ AiT/\∀ms,ĩ ->P A2M)
def Cds(N:Nat)(m:Β)(x:DO):Prop:=SE d (Ŝ/\iA<=N/\O0 (vQ N d (x h)))
def M6(AZ7):D:= .dic BNX (li AUy)
def v8(AoA):D:= .lst (ws.map (M6 rows))
structure LB (rows:AW):Prop where
 few:wb 200
 mm:D9 (ADW 100)
 wk:∀w,Ï bY w<=12
def zy(AoA):Prop:=ws.length<=200/\∀w∈ws,AFs
def M7(By):dw:=BGV (ds= [.str h,ASR]/\P (v8 rows (ws.filter fun w=>AgT)))
def XJ(By):dw:=DH (∃(rows:AW) (ws:Β) (h o:Str),BAh (.str o) (Tx (d8 IZ h o)))
def XM(By):dw:=DH (∃(rows:AW) (ws m:Β) (h:Str),BAh (gl m) (mw (ğ o (ARv h))))
def XQ(By):dw:=UM rows AW w Str (ds= [M6 rows w]/\UK/\AFs/\Tx (Ak2/ û))
def XR(By):dw:=BGV (ds= [.str h,ASR]/\Eg/\UK/\AD_/\Tx BEk)
def XS(By):dw:=DH (∃(rows:AW) (ws m:Β),ds= [gl m,ASR]/\AKy/\UK/\AD_/\m≠ []/\m.length<=12/\
 ∀x:DO,Axa ->Als ->AsX ->mw (ğ h AQ7))
structure Lean (rows:AW) (ms:ID) (x:DO):Prop where
 g:ĩ
 ev:qf (O0 vv)
 em:qf AHN
 sz:qf AsX
def gO(Aa'):T:= .dic Ŷ (Ayo .leaf)
def Aa(Aa'):D:= .dik Ŷ (hs.map AeJ)
def X3(By):tU:=A6L (ds= [ALy]/\Eg/\UK/\U.length<=12/\ AiT/\∀ms x,UC ->P (gO ms.flatten x))
def S8(By):dw:=UM n Int m Nat (ds= AIS n m/\m<=20/\∀xs:Β,AKE m ->xs.Nodup ->P (AIH xs.map))
def X4(By):dw:=DH (∃i j:Int,A4p)
theorem z6w(AH Ql):II:=Se
theorem yjl(AH S7):DD:=ES
theorem z96(AH XF):DD:=io
theorem z86(AH XH):II:=ES
theorem zrz(AH M7):DD:=io
theorem yeu(AH XJ):oS:=ABJ
theorem ybb(AH XM):oS:=ABJ
theorem zwv(AH XQ):II:=ES
theorem yal(AH XR):DD:=io
theorem zme(AH XS):DD:=io
theorem z2m(AH X3):II:=ES
theorem zxd(AH S8):DD:=ES
theorem zrs(AH X4):DD:=ES
def rD(hs:Β)(h:Str):Β:=ATA ox hs hs h
def Qm(By):dw:=DH (∃i j:Int,ds= ADa/\AVO/\AMZ/\ś/\A2f)
theorem z7t(AH Qm):DD:=ES
def oV(BG2):ATi:=if qs.length< AbZ then some false else Afz (BL3 ArC) (some true)
inductive oW (OB):BI Str Rat
 | mean:oW qs uU (AAL/ wp)
 | mid:oW qs Qh (Es (lV qs))
 | pair:E5 (Best (lV qs) b) (oW qs jd ((AIW b 0+ Acw)/2))
def uW(r:Str):Prop:=r=uU\/r=Qh\/r=jd
def Ir(c:Cls)(r:Str)(g:Rat)(qs:AA)(P:C7 Rat)(E:C7 Bool):Prop:=AN7 (oV r g qs) f (E f) (∀v,Aex ->P v)
def S9(Fc):dw:=oq (∃(r:Str) (qs:AA) (g:Rat),ds= [.str r,ATz,qD g]/\ASG/\AVX/\ (∀q∈qs,AKk)/\uW r/\ (∀k,AmT)/\Ir c r g qs (Υ v (Tx v)) fun f=>E (AG (AY (f=true) c.Apart c.vP)))
theorem yhc(AH S9):oS:=io
structure fU where
 rule:D
 gap:D
 scale:D
 leans:D
 sheets:D
 marks:D
def fU.fs:Β:= ["rule","gap","scale","kept_leanings","sheets","marks"]
def fU.xs(S:fU):Ε:= [S.rule,S.gap,S.scale,S.leans,S.sheets,S.marks]
def fU.d(c:Cls)(S:fU):Ř ->D
 | none=> .obj c.ak fU.fs S.xs
 | AQ1=> .obj c.ak AzK (S.xs++ [b])
structure jQ where
 rule:D
 gap:D
 scale:D
 leans:D
 sheets:T
 marks:T
def jQ.ts(S:jQ):E9:= [.leaf S.rule,.leaf S.gap,.leaf S.scale,.leaf S.leans,S.sheets,S.marks]
def jQ.t(c:Cls)(S:jQ):Ř ->T
 | none=> .ob c.ak fU.fs S.ts
 | AQ1=> .ob c.ak AzK (S.ts++ [.leaf b])
def jQ.pl(S:jQ):fU:=⟨S.rule,S.gap,S.scale,S.leans,jy S.sheets,jy S.marks⟩
def X5(Fc):dw:=AYn (∃S b hand ks ys,ds= [AOS,.str hand]/\Em S.leans=some (ks,ys)/\Q ((gH ks ys (CY hand)).getD (.tup (AIS 0 1))))
def X6(Fc):dw:=AYn (∃S b work ks ys,ds= [AOS,AUH]/\Al1/\mq ks AUP=true/\Q AF)
def Tc(Fc):dw:=AYn (∃S b work ks ys d,ds= [AOS,AUH]/\Al1/\gH ks ys AUP=some d/\Q d)
def Cj(bs:YA):D:= AiZ bD
def X7(Fc):dw:=AYn (∃S bs work ks ys d,ds= [Aqe,AUH]/\Al1/\gH ks ys AUP=some (qD d)/\Sr d/\ Aln/\Q (DE (iG bs d)))
def qN(x:DO)(L:AW):AA:=L.map fun r=>Qb - MG
structure Qn (x:DO) (L:AW):Prop where
 ne:L≠ []
 few:L.length<=12
 mm:∀r∈L,ADW 100
 sx:∀r∈L,Sz 4000 (x At)
 cd:SE d (Ŝ/\iA<=837/\∀q∈qN x L,vQ 837 d q)
 sm:∀q∈qN x L,Ab (2^90) q
def far:Rat:=Ag2
def rE:Hm:= [(-far,-far),(far,far)]
def M8(L:AW):D:= .dik AXK (L.map AUy)
def X8(Fc):dw:=fun ds Q E=>∃(S:fU) (b:Ř) (work:Str) (L:AW) (hs:Β) (x:DO) (r:Str) (g:Rat),ds= [AOS,AUH,M8 L]/\S.leans=Aa hs x/\S.rule= AUF/\uW r/\S.gap=qD g/\ASG/\S.scale=Ew c rE/\ (∀r∈L,bv hs)/\Qn x L/\
 Ir c r g (qN x L) (Υ v (Q (qD v))) fun f=>E (A'J work)
def Iu(Asr):Ε:=ws.map fun w=> (Zs w VV (AHe bs))
def Yb(Fc):tU:=DH (∃(S:fU) (ws:Β) (v:DO) (bs:YA),ds= [Aqe]/\S.marks=Aa ws v/\AuV/\Atz/\ (∀w∈ws,Sz 4000 (v w))/\ Aln/\P Arx)
def Yc(Fc):tU:=UM S fU bs YA (ds= [Aqe]/\P Aog)
inductive Out where
 | op (w:Str) (f:Bool) | ba (ls:ť) | ma (Asr)
def isW(AZ7):Prop:=∃s∈rows,s.1=w
structure Sorted (AoA):Prop where
 so:Au_
 wm:AaU ZZ
def Td(qs:AA)(bd:EZ):YA:=(((uV qs bd).map Int.toNat).dropLast).map (Br ì)
structure Ck (rows:AW) (r:Str) (g:Rat) (x:DO) (ws:Β) (v:DO):Prop where
 so:Sorted rows ws
 ok:∀w∈ws,oV r g v4=none/\oW v4 r (v w)
inductive Res (rows:AW) (r:Str) (g:Rat) (bd:EZ):C7 Out
 | op:∀ms x w f,EC UC ZZ A6g (A8a (jb u w) (oV r g (AcQ u))) (ARw (.op w f))
 | ba:BIw (lJ (ws.map v) bd=false) (.ba (mJ (ws.map v) bd))
 | ma:BIw (lJ (ws.map v) bd=true) (.ma ws v (Td (ws.map v) bd))
structure kj (rows:AW):Prop where
 u:Eg
 few:wb 40
 hs:∃U:Β,AXV/\AhQ
 mm:D9 (ADW 82)
def Iv:C7 Out
 | AbY=>Atz/\ (∀w∈ws,Sz 1900 (v w))/\IQ bs (Xz 1900 b)
 | AZC=>ls.length<=100
 | _=>True
def M9(Fc):O2:=fun t ds P E=>∃(rows:AW) (r:Str) (g:Rat) (bd:EZ),t= .ob c.ak [] []/\BIK [ALy,AUF,qD g,Ew c rE,Ci bd] (match o with
  | .op w f=>∀t',E t' (A'J w)
  | AZC=>∀t',E t' (A3R [S5 ls])
  | AbY=>AuV ->∀S:jQ,S.marks=gO ws v ->P (jQ.t c S AdH) AF)
def Yd:Str:=kP "open"
def Dr:Str:=kP "made"
def z62:Str:=kP "barred"
def outD:Out ->D
 | .op w f=> Zs Yd (.str w) (.bl f)
 | AZC=> Zs z62 A0R AF
 | AbY=> Zs Dr (.lst AbG) (Cj bs)
def Qo(By):dw:=DH (∃(rows:AW) (r:Str) (g:Rat) (bd:EZ),BIK [ALy,AUF,qD g,Ci bd] (P (outD o)))
def fM(s b:Rat)(q:Rat):Rat:=(q+s)*b
def Te(By):dw:=DH (∃(q:ALQ) (t:Int) (n:Nat) (b:Int),ds= [bD q,.int t,.int n,Ŗ]/\Xz 1900 q/\AvP/\0<n/\n<1000/\0<b/\AvO/\P (bD (q.map (fM AEH da))))
def KC(s b:Rat):Out ->D
 | .op w f=>outD (.op w f)
 | AZC=>outD (.ba ls)
 | AbY=> Zs Dr (.lst (ws.map fun w=> (Zs w (An_ s b) (AHe bs)))) (Cj (bs.map Aur))
def Tf(By):dw:=DH (∃(o:Out) (t:Int) (n:Nat) (b:Int),ds= [outD o,.int t,.int n,Ŗ]/\Iv o/\AvP/\0<n/\n<1000/\0<b/\AvO/\P (KC AEH da o))
def Star(rows:AW):Prop:=∃h0,∀w,ZZ ->kH
def Ye(By):dw:=DH (∃(ns:An) (hands works:Nat),ds= [Agq,.int hands,.int works]/\ASm/\1<=hands/\hands<=4/\1<=works/\works<=8/\
 ∀(rows:AW) (U:Β),rows≠ [] ->wb 40 ->AXV ->Φ AiT Eg AiU (Star rows) (P (eE rows)))
def Yg(By):dw:=BFi (∀bs:EZ,0<bs.length ->bs.length<=12 ->P (Ci bs))
theorem z5s(BCg):Ì 5:=AHJ
theorem z5a(BCg):M9 c t ds (fun t d=>d= AF/\P t d) E:=by
 obtain⟨rows,r,g,bd,h1,h2,h3,h4,h5,h6,h7,h⟩:=h;refine⟨rows,r,g,bd,h1,h2,h3,h4,h5,h6,h7,Κ o a b⟩;have:=h o a b;cases o with
 | op w f=>exact this
 | ba ls=>exact this
 | ma ws v bs=>exact fun so S e=>(E7 (this so S e))
theorem zkm(AH X5):DD:=AHJ
theorem zie(AH X6):DD:=AHJ
theorem zpw(AH Tc):DD:=Ayp
theorem znu(AH X7):DD:=Ayp
theorem zkc(AH X8):oS:=by obtain⟨_,_,_,_,_,_,_,_,rfl,_⟩:=h;rfl
theorem zn8(AH Yb):II:=ABJ
theorem zlm(AH Yc):II:=ES
theorem z2u(AH Qo):AUJ:=ABJ
theorem zwh(AH Te):AUJ:=ABJ
theorem z65(AH Tf):AUJ:=ABJ
theorem z2p(AH Ye):oS:=io
theorem zvd(AH Yg):II:=Se
def zfb(ω):aH:=(aU 7 (cB fj vF (HP AX (MS (cB fj AR1 (Ee wo (So Bm (jr (cB rY vE EB) (AoN yO))))) 26))))
def zhd(ω):aH:=(aJ (aU 9 (Azt (cB fj (ADn Aw3 48271) (ADn (Ee vE vE) 69621)) vE 7))
 (zfb K c))
def zlo(ω):aH:=(AYe 5 vF)
def zk9(ω):aH:=(aJ (uh (Q_ (cB fj CM (Ee wo (So Bm (AoN rY))))) (EI 8)
 (zhd K c))
 (zlo K c))
def zn0(ω):aH:=(aJ (aU 7 (du ""))
 (zk9 K c))
def zpo(ω):aH:=(aW YV)
def zp0(ω):aH:=(aJ (uh (Q_ Θ) (EI 6)
 (zn0 K c))
 (zpo K c))
def zpq(ω):aH:=(aJ (fC 5 (gA ao))
 (zp0 K c))
def zez(ω):aH:=(aJ (aU 4 (cB dO Aw3 CM))
 (zpq K c))
def zh8(ω):aH:=(aJ (eG (cT (AoN rY))
 (aU 3 NF)
 cj)
 (zez K c))
def zh7(ω):aH:=(aJ (aU 3 (AAQ (MS (ö Ν 3) 8)))
 (zh8 K c))
def zgg(ω):aH:=(aJ (aU 2 (du "abcdefghijklmnopqrstuvwxyz"))
 (zh7 K c))
def zti(ω):aH:=(aW (MS (Ee AX AX) 2147483629))
def zte(ω):aH:=(aJ (eG (cT (GM yC Y_ 0))
 (aU 2 (Azt (ADn (HP Ν (cB dO (ADn Θ 7) Y_)) 48271) Θ 7919))
 cj)
 (zti K c))
def zs6(ω):aH:=(aJ (aU 2 (GM fj (ADn Θ 7919) 5))
 (zte K c))
def zod(ω):aH:=(aJ (eG (cT (cB yM Θ Y_))
 (aW AkG)
 cj)
 (zs6 K c))
def zmd(ω):aH:=(aU 8 (cB fJ vE (Ee (NB 3) CM)))
def zpv(ω):aH:=(aJ (eG (Ec (cT (GM rY AR1 0)) (cT (GM yC (MS vE 3) 0)))
 (AYe 6 BD_)
 cj)
 (zmd K c))
def zmb(ω):aH:=(uh (Q_ Θ) (EI 9)
 (zpv K c))
def zpt(ω):aH:=(aJ (P1 8 Bq Ν (cB fj (NB 6) vF))
 (zmb K c))
def zs0(ω):aH:=(aW wo)
def ztf(ω):aH:=(aJ (uh (Q_ AX) (EI 7)
 (zpt K c))
 (zs0 K c))
def zrf(ω):aH:=(aJ (fC 6 (gA ao))
 (ztf K c))
def zs9(ω):aH:=(aJ (P1 5 S8 (AAo 5) Θ)
 (zrf K c))
def zj1(ω):aH:=(aJ (P1 4 S8 (AAo 4) AX)
 (zs9 K c))
def znf(ω):aH:=(aJ (aU 3 (HP (uB (ACb (NB 4) ARL ARL AmP)) (MS (AAo 3) 4)))
 (zj1 K c))
def zkq(ω):aH:=(qR 0 1 (EF Θ Av5))
def zmh(ω):aH:=(aW Ν)
def zmg(ω):aH:=(aJ (BL (cT (GM yC Θ 0))
 (zkq K c))
 (zmh K c))
def zl8(ω):aH:=(aJ (aU 1 (So Bj Θ))
 (zmg K c))
def zib(ω):aH:=(aJ (aU 0 Avy)
 (zl8 K c))
def zty(ω):aH:=BFh
def zt3(ω):aH:=(aJ (eG (cT (AV7 yM))
 (aU 2 (cB iR fS AX))
 cj)
 (zty K c))
def zq0(ω):aH:=(aJ (P1 2 X4 Ν Θ)
 (zt3 K c))
def zj3(ω):aH:=(aU 2 (AMm 48))
def zkg(ω):aH:=(aJ (wF 1 xV (aj (dN (EF EB (cB fj EB (HP (uB (ACb (NB 60) (NB 2) (NB 4) NF)) (MS (AMm 12) 4))))) ao))
 (zj3 K c))
def zl9(ω):aH:=(aJ (aU 4 (Ee (ö (MS AX 4) 2) (MS (AMm 4) 3)))
 (zkg K c))
def zox(ω):aH:=AUk
def znm(ω):aH:=(aJ (uh (Q_ (AAQ (MS (AAo 14) 4))) (EI 3)
 (zl9 K c))
 (zox K c))
def znq(ω):aH:=(aJ (P1 2 Bq Ν (NB 15))
 (znm K c))
def zj4(ω):aH:=(aJ (fC 1 (gA ao))
 (znq K c))
def zyr(ω):aH:=(aW (cB yM AXC AzZ))
def zvf(ω):aH:=(aW (jr (G0 Et la Ĵ) (Þ lD Et ė N1)))
def zpk(ω):aH:=(aW (jr (GM yC Y_ 1) (So yg6 (Aod (BBK (dW (vZ Ν AK0 wD))) Xn))))
def zea(ω):cg:=(So Dg Θ)
def ze8(ω):aH:=(eG (lZ (cT (AMW Xo)))
 uM
 cj)
def z6m(ω):aH:=(aW (So ych (Ajg [0] Θ (cB AXZ Ν Θ))))
def zv8(ω):aH:=(eG (Þ cT S7 EB Θ)
 (wF 3 ztv (Q_ EB))
 cj)
def zo5(ω):aH:=(SZ (nU AX (uB (aj (dW (SL ztm CM)) ao))))
def zwo(ω):aH:=(aJ (xQ Ν (EI 4)
 (zv8 K c))
 (zo5 K c))
def zwk(ω):aH:=(aJ (fC 3 (SL yD Θ))
 (zwo K c))
def zup(ω):aH:=(aJ (aU 2 (ANl [1] Ν (lZ (cT (G0 S7 Ν Θ)))))
 (zwk K c))
def zgh(ω):aH:=(Wo 1 2 3 EB)
def zr0(ω):aH:=(aJ (eG (Wm 1 AX)
 (Wn 1 2 Wf)
 cj)
 (zgh K c))
def zl4(ω):aH:=(wG (nV 1))
def zu1(ω):aH:=(aJ (xQ Ν (gZ 3 (bw (EI 2) (BKN 3 4)))
 (zr0 K c))
 (zl4 K c))
def zqe(ω):aH:=(aJ (Ht 1 Wf)
 (zu1 K c))
def zv7(ω):aH:=(P1 1 XF Θ (dW (SL zw0 AX)))
def zw1(ω):aH:=(wG (nOf (SL z6i Θ)))
def zwx(ω):aH:=(aJ (iJ (z0d (Sf xZ (Ql c) Ν)) (EI 2)
 (zv7 K c))
 (zw1 K c))
def zvg(ω):aH:=(aJ (aU 1 (uB ao))
 (zwx K c))
def zng(ω):aH:=(aU 1 AX)
def zot(ω):aH:=(aJ (aU 0 Θ)
 (zng K c))
def zrc(ω):aH:=(aJ (aU 2 Av5)
 (zot K c))
def zvh(ω):aH:=(aW Avy)
def zqo(ω):aH:=(aJ (BL (cT (AV7 yO))
 (zrc K c))
 (zvh K c))
def zpe(ω):aH:=(aU 1 (Ee Θ (cB fJ (rq AX) (G0 SN Θ (rq AX)))))
def zp7(ω):aH:=(SZ (cu 1 [1] (iL Ν) IS d7 (Ee la (cB fJ Θ N1))))
def zqc(ω):aH:=(aJ (xQ Ν (EI 2)
 (zpe K c))
 (zp7 K c))
def zl3(ω):aH:=(aJ (aU 1 NF)
 (zqc K c))
def zq1(ω):aH:=(SZ (cu 2 [0,1,2,3] (Ma (EF Ν Θ)) AK6 d7 (cB fJ (cB iR (Ee (HP CM EB) Ν) (Ee (HP AX EB) Θ)) YV)))
def zv5(ω):aH:=(SZ (cu 2 AHn (AGk Bl) AK6 d7 (yu (cT (AMl AX)) Θ (AFp Xe Θ EB AX CM))))
def zqn(ω):aH:=(aJ (aU 3 AkG)
 (zv5 K c))
def ztq(ω):aH:=BFh
def zrn(ω):aH:=(aJ (eG (cT (AV7 yM))
 (aU 2 (cU jh AX))
 cj)
 (ztq K c))
def zsz(ω):aH:=(aJ (P1 2 SN Ν Θ)
 (zrn K c))
def zpg(ω):aH:=(aJ (eG (cT (AV7 rY))
 uM
 cj)
 (zsz K c))
def zp3(ω):aH:=(aW CM)
def zp4(ω):aH:=(aJ (Ot 3 AX AkG)
 (zp3 K c))
def zp1(ω):aH:=(aJ (Ot 3 Θ Au1)
 (zp4 K c))
def zlp(ω):aH:=(aJ (fC 3 (SL yD Ν))
 (zp1 K c))
def z5n(ω):aH:=(eG (cT (GM yO (HP Au1 Θ) 0))
 (aW (Ç Xg Ν Θ AX))
 cj)
def yca(ω):aH:=uM
def yd8(ω):aH:=(aJ (GF (EF Θ Y_) (EI 2)
 (z5n K c))
 (yca K c))
def zpp(ω):aH:=(aU 3 (HP (HP AX EB) EB))
def zu9(ω):aH:=(aJ (aU 2 (Ç Xf (G0 Xh AX EB) EB CM))
 (zpp K c))
def zya(ω):aH:=(SZ (cu 2 [] (Bl (aj AX ao)) AK6 d7 (aC (JX c) (EF Aeh (HP Θ Ν)))))
def zw6(ω):aH:=(aJ (uh (Q_ (sA AX)) (EI 4)
 (zu9 K c))
 (zya K c))
def zph(ω):aH:=(aJ (aU 3 NF)
 (zw6 K c))
def ztz(ω):aH:=(aJ (aU 2 (dW (BBK Θ d7 (kB Xd (dW (nU Ν (AWA Θ)))))))
 (zph K c))
def zid(ω):aH:=(SZ (cu 1 [0] (iL Θ) IS (cT (cB (Ku false) Θ Ν)) Ν))
def zlw(ω):aH:=(aW (gF Df Df Ĵ Ν ė))
def zqy(ω):aH:=(SZ (cu 1 [1,2] (iL Ν) IS (cT (So ych (ARU (Ano [0,2] Θ) SX (cB iR Θ Ν) AX))) Ν))
def z5v(ω):aH:=(VS JX (cB fj AXC (Ee Ĵ N1)) (Ee N1 ė))
def zww(ω):aH:=(P1 1 Qd Θ AX)
def z2t(ω):aH:=AUk
def z1k(ω):aH:=(aJ (xQ Ν (EI 2)
 (zww K c))
 (z2t K c))
def zzx(ω):aH:=(aJ (aU 1 (mM fS))
 (z1k K c))
def z1p(ω):aH:=(aW (yu (cT (AMl Θ)) (G0 Qd (mM (sA CM)) EB) EB))
def z1y(ω):aH:=(aJ (aU 4 (kB Qe (Ajg [] CM (dN (EF AQ' Avz)))))
 (z1p K c))
def z0j(ω):aH:=(aJ (P1 3 M7 Θ (G0 M7 Ν AX))
 (z1y K c))
def zul(ω):aH:=(SZ (cu 1 [0,2] (iL Θ) IS d7 (Ç XJ Θ Ν AX)))
def z0y(ω):aH:=(VS JX (cB iR AXC AzZ) (Ee N1 ė))
def zlv(ω):aH:=(VS JX (Mt Ν) Avz)
def zvv(ω):aH:=(aW (kB Qe (ARU (cu 1 [0] (Þ iL M7 Ν Θ) IS) JZ (mM (cB Ks Ν Θ)) (xy XQ))))
def zef(ω):aH:=(VS Xi (dW (nU (AWA EB) AX)) (dW (nU (uB (aj (dN (EF fS NF)) ao)) CM)))
def zd3(ω):aH:=(aJ (aU 4 (Ajg [1] Ν (mM (sA (G0 M7 Ν Θ)))))
 (zef K c))
def zim(ω):aH:=(aJ (aU 3 (Aod (A3z [1]) XR))
 (zd3 K c))
def zff(ω):aH:=(aJ (aU 2 (dW (A3z [0,1] d7 (Ç XM Ν Θ AX))))
 (zim K c))
def zh6(ω):aH:=(Wt 1 EB YV)
def zf7(ω):aH:=(iJ (Ma (EF AX (G0 XS AX CM))) (ACg (EI 4) 5)
 (zh6 K c))
def zia(ω):aH:=(aJ (aU 3 (dW (BZ (Sf aC (Km (Ql c)) (ANl [2] Ν (cT (cB AXZ N1 Θ)))))))
 (zf7 K c))
def zr2(ω):aH:=(wG (nV 1))
def zjr(ω):aH:=(aJ (xQ (Sf aC (Km (XH c)) Ν) (EI 2)
 (zia K c))
 (zr2 K c))
def zpl(ω):aH:=(aJ (Ht 1 Wf)
 (zjr K c))
def zze(ω):aH:=(VS JX (Ee la Ĵ) (Ee N1 ė))
def z3s(ω):aH:=(VS JX AXC (Ee N1 Ĵ))
def zve(ω):aH:=(VS Qd N1 (G0 SQ CM (G0 JZ Ĵ la)))
def zqv(ω):aH:=(aJ (P1 3 Xb (G0 JZ AX la) (G0 JZ ė N1))
 (zve K c))
def zju(ω):aH:=(eG (Þ cT Et Θ (Õ CM))
 (aW (Ç Xp AX CM Θ))
 cj)
def zk0(ω):aH:=(aW (rq (HP AOr AQ')))
def zla(ω):aH:=(aJ (iJ (Ma (EF AOr (V2 AOr AK0 wD))) (ACg (EI 2) 3)
 (zju K c))
 (zk0 K c))
def zhf(ω):aH:=(aJ (eG (AXO (Õ (Õ AOr)) Θ)
 (aW (rq (Õ AOr)))
 cj)
 (zla K c))
def zeo(ω):aH:=(aW (Ms (ÿ "kept_leanings") Θ (mM fS)))
def z4f(ω):aH:=(VS SQ (xy Qe) (mM Y_))
def zgs(ω):aH:=(aW (yu (cT (AMl Ato)) (NB 2) NF))
def zzr(ω):aH:=(VS JZ N1 la)
def zhb(ω):aH:=(eG (AXO (AMW Qi) (kB Qi CM))
 (aU 1 CM)
 cj)
def zsr(ω):aH:=(aJ (aU 3 (dW (vZ Ν (tR AX) (tR (GM fj AX 2)))))
 (zhb K c))
def zvt(ω):aH:=AUk
def zlu(ω):aH:=(aJ (GF (EF NF Aw_) (EI 2)
 (zsr K c))
 (zvt K c))
def zqu(ω):aH:=(aJ (aU 1 (dW (vZ Ν wD (tR (cC (DE 2))))))
 (zlu K c))
def z6n(ω):aH:=(aW (xy Xk))
def z6y(ω):aH:=(aJ (eG (pY (cT (GM rY Y_ 2)) (Þ cT Et Θ (xy Qi)))
 (Sf gC c.Apart (du "two marks lie farther apart than the gap"))
 cj)
 (z6n K c))
def zt6(ω):aH:=(SZ (vZ Ν (tR (ö Aw_ 2)) (tR (GM fj (ö Y_ 2) 1))))
def zp5(ω):aH:=(wF 1 Dh (EF CM AX))
def zwa(ω):aH:=(aJ (aU 3 (lF (sA (ANl [2] Θ (AXO Θ Ν)))))
 (zp5 K c))
def zwu(ω):aH:=AUk
def zw3(ω):aH:=(aJ (xQ Ν (EI 2)
 (zwa K c))
 (zwu K c))
def zum(ω):aH:=(aJ (fC 1 (gA ao))
 (zw3 K c))
def z1w(ω):aH:=(aW (kB Qf (G0 Xl (AMW Qg) (yu (cT (cB BP AX ı)) (cC BKW) AX))))
def z14(ω):aH:=(aJ (eG (cT (AMl Atp))
 (aW (kB Qf (kB Xj (AMW Qg))))
 cj)
 (z1w K c))
def z1h(ω):aH:=(aJ (eG (cT (AMl Atn))
 (aW (AMW Qf))
 cj)
 (z14 K c))
def zsv(ω):aH:=(aJ (eG (cT (cB yM Ah1 (xy Xm)))
 (Sf gC c.vP (du "the rule needs more marks than these"))
 cj)
 (z1h K c))
def zgf(ω):aH:=(Mw K c.Apart c.vP (aW (sy c.Scale "scaled" (Xq c) (ÿ "scale") (Q_ (Ç S9 (ÿ "rule") CM (ÿ "gap")))))
 (BGJ AhR)
 (BGJ ū))
def zd5(ω):aH:=(aJ (aU 3 (ARU (cu 2 [0] (z7c AX) AK6) JZ (mM Θ) (AGk (sy c.ak "leaning" (X5 c) AX))))
 (zgf K c))
def zh4(ω):aH:=(SZ (cu 1 [2] (iL (dW (vZ Θ wD (tR (cU jh NF))))) IS d7 BEZ))
def zen(ω):aH:=(aJ (aU 2 (xy Qg))
 (zh4 K c))
def zw7(ω):aH:=(AYe 2 (Ç Xr Ν (qW 2 (cU jh NF)) CM))
def z2o(ω):aH:=(aW AX)
def z1n(ω):aH:=(aJ (xQ Θ (EI 3)
 (zw7 K c))
 (z2o K c))
def z0t(ω):aH:=(aJ (fC 2 (gA (aj (AWA fS) ao)))
 (z1n K c))
def zeq(ω):qg:=(HS 1 [] (iL Θ) IS d7 (SL yD Ν))
def zic(ω):aH:=(aW (sA (ANl [0] Θ (lZ (cT (G0 Et Ν Θ))))))
def z66(ω):aH:=(SZ (SL z5j (dW (nU (AWA fS) (Aod (Ano [0] Ν) Xu)))))
def zfj(ω):aH:=(SZ (vZ (dW (SL ya3 CM)) AK0 wD))
def zkx(ω):aH:=(aJ (P1 3 Qk AX (dW (SL ya3 Θ)))
 (zfj K c))
def zgw(ω):aH:=(aJ (aU 2 (dW (cu 1 [0] (AGk zkj) IS d7 A1m)))
 (zkx K c))
def zg2(ω):aH:=(AYe 2 (So z4u (ANl [0,4] YV (cT (cB AXZ A1m AX)))))
def ziv(ω):aH:=(aJ (aU 5 (Hl (V4 (cu 1 [2,3] (iL Ν) IS (Þ cT SX (cB iR Ν Aeh) AX) Ν))))
 (zg2 K c))
def zjc(ω):aH:=(SZ (vZ AX AK0 wD))
def zjd(ω):aH:=(aJ (iJ (Ma (EF Θ (G0 Xw Ν Θ))) (ACg (EI 3) 4)
 (ziv K c))
 (zjc K c))
def zf6(ω):aH:=(aJ (fC 2 (gA (aj fS ao)))
 (zjd K c))
def z58(ω):aH:=(VS Xx AX Θ)
def z2z(ω):aH:=(aJ (eG (cT (cB (xW true) Y_ (HP CM AQ')))
 (zxg c.bK "reach" (S6 c) (Q_ CM))
 cj)
 (z58 K c))
def z4y(ω):aH:=(aJ (P1 3 Qk AX Θ)
 (z2z K c))
def z3t(ω):aH:=(aJ (aU 2 (xy Xv))
 (z4y K c))
def zf8(ω):aH:=(Ia c.ak 0 "marks" 6 (zxs c.ak "reckoned" (X8 c) Ν (EF wo (cB Ks At2 wo))))
def zhi(ω):aH:=(wL c.ak 0 "kept_borders" (G0 XC vF (G0 Xy vF YV)))
def zhg(ω):aH:=(aJ (aU 7 (dW (Ca (BZ AV1))))
 (zhi K c))
def zhe(ω):aH:=(aJ (xQ (dW (Ca (SL zrh At2))) (EI 6)
 (zf8 K c))
 (zhg K c))
def zgk(ω):aH:=(aJ (BR c.ak 0 "marks" Wf)
 (zhe K c))
def zhk(ω):aH:=(aJ (BR c.ak 0 "sheets" (Sf xZ (Ql c) Θ))
 (zgk K c))
def zg5(ω):aH:=(aJ (wL c.ak 0 "kept_leanings" (Mu (Sf xZ (X3 c) Θ)))
 (zhk K c))
def zgx(ω):aH:=(aJ (wL c.ak 0 "scale" (BDH (dW (SL yD (mj c.Scale "points" EB)))))
 (zg5 K c))
def zgb(ω):aH:=(aJ (wL c.ak 0 "gap" CM)
 (zgx K c))
def zch(ω):aH:=(aJ (wL c.ak 0 "rule" AX)
 (zgb K c))
def zdm(ω):aH:=(eG (cT (cB (Ku true) Θ AV1))
 uM
 cj)
def zlc(ω):aH:=(aW (cB Ks AV1 Θ))
def zgt(ω):aH:=(aJ (lE (sy c.ak "must_have" (X6 c) Ν (Q_ Θ)))
 (zlc K c))
def zir(ω):aH:=(eG (pY (cT (cB pZ CM ı)) (AXO Θ CM))
 (aW AX)
 cj)
def zjg(ω):aH:=(aW Y_)
def zf2(ω):aH:=(aJ (iJ (AGk Bl) (ACg (EI 2) 3)
 (zir K c))
 (zjg K c))
def zf3(ω):aH:=(VS XD At3 (sy c.ak "mark" (Tc c) Ν (aj Θ ao)))
def zf4(ω):aH:=(wG (nOf (cu 1 [0] (iL (dW (SL zrh AV1))) IS d7 (Ī Ν (AGk (sy c.ak "mark" (Tc c) Θ)) (AGk (sy c.ak "grade" (X7 c) Θ))))))
def zep(ω):aH:=(wG (nOf (SL yD At3)))
def zsq(ω):aH:=(aW wo)
def zrw(ω):aH:=(aJ (Ih K c.Open c.bK 8 (aJ (Mp 7 (HJ c.ak (M9 c) (aj Ν (ACb Θ AX YV CM))))
 (aU 6 (Ī AiN (Ik (Cg (BX c.ak "table" (Yb c) vF))) (Ik (Cg (BX c.ak "borders" (Yc c) vF))))))
 (aU 6 (Ī (du "open") (Ce c.Open "work" 8) (Ce c.Open "apart" 8)))
 (aU 6 (Ī (du "barred") (Mz c.bK "reach" 8) ı)))
 (zsq K c))
def zsg(ω):aH:=(aJ (aU 6 ı)
 (zrw K c))
def zi5(ω):aH:=(aJ (aU 5 (BDH (uB (EF (A0M Aw9 Aw9) (A0M EB EB)))))
 (zsg K c))
def znd(ω):aH:=(aJ (aU 4 (GM oO ARL 30))
 (zi5 K c))
def zp9(ω):aH:=(VS Qm (Ee (cB fj (Ee la AX) (Ee Θ N1)) CM) (Ee N1 AX))
def zlr(ω):aH:=(aJ (eG (cT (cB BP Ν ı))
 (aW (cC AF))
 cj)
 (zp9 K c))
def zuk(ω):aH:=(aW (dN (aj AiN (EF EB (dW (Ano AHn (GM cI Ν 2) d7 (aC (Te c) (ACb Ν Θ AX CM))))))))
def zu3(ω):aH:=(aJ (aU 4 (dW (cu 3 AHn (iL N1) (gZ 3 (bw IS AfR)) d7 (Ī Ν (AFp Te Θ CM EB YV) AX))))
 (zuk K c))
def zqq(ω):aH:=(aJ (eG (cT (cB yO la AiN))
 (aW Ν)
 cj)
 (zu3 K c))
def z8j(ω):aH:=(aW (cB rY (AFp Qo (cV 12) CM (G0 Qm (Ee (Õ EB) (cV 11)) (rq EB)) YV) (AFp Tf wo fS NF (cV 11))))
def zvz(ω):aH:=(aJ (aU 12 (A5y [11] (Ee AX CM)))
 (z8j K c))
def z38(ω):aH:=(aJ (aU 11 (AAQ (cB dO (AAo 19) AmP)))
 (zvz K c))
def zvo(ω):aH:=(aJ (eG (cT (cB yO (AFp Qo AR1 CM EB YV) (AFp Tf wo (Ee vE (cV 10)) Ah1 NF)))
 (aW (cC ū))
 cj)
 (z38 K c))
def yaa(ω):aH:=(aJ (aU 10 (sA (dW (cu 3 [7] (iL Θ) (gZ 3 (bw IS AfR)) (cT (cB rY Θ CM)) Θ))))
 (zvo K c))
def zy5(ω):aH:=(aJ (aU 9 (A5y [7,8] (cB fj AX (Ee EB (So Bm (cB rY Θ CM))))))
 (yaa K c))
def z9q(ω):aH:=(aJ (aU 8 (AAQ (cB dO (AAo 18) AmP)))
 (zy5 K c))
def yck(ω):aH:=(aJ (aU 7 (rq (HP Θ (cB dO (AAo 17) Ah1))))
 (z9q K c))
def z9k(ω):aH:=(aJ (aU 6 (aC (Qo c) (ACb Θ CM EB YV)))
 (yck K c))
def ya1(ω):aH:=(aJ (aU 5 (xy Yg))
 (z9k K c))
def ybr(ω):aH:=(aJ (P1 4 Qm (MS (AMm 3) 40) (AAQ (MS (AMm 120) 3)))
 (ya1 K c))
def z9f(ω):aH:=(aJ (aU 3 (HP (uB (aj Atn (EF Atp Ato))) (MS AX 3)))
 (ybr K c))
def yb2(ω):aH:=(aJ (P1 2 Bq Ν (NB 16))
 (z9f K c))
def z3u(ω):aH:=(aJ (aU 1 (Ç Ye Ν (AAQ (MS (G0 Bq Ν fS) 4)) (AAQ (MS (G0 Bq Ν NF) 8))))
 (yb2 K c))
theorem z5r(AH SN):DD:=ES
theorem z2k(AH JX):DD:=ES
theorem ylb(AH Qd):DD:=ES
theorem yed(AH JZ):DD:=ES
theorem yho(AH Xb):DD:=ES
theorem yi2(AH SQ):DD:=ES
theorem ygx(AH Et):DD:=ES
theorem uX{j:Int}(h:j.natAbs<2^64):AMZ:=zP (kZ h) Δ
abbrev fin(Q:AEw):pW:=Ao0
theorem z77(AT SN):Z' zqo:=by
 show AMp i j;show BA (fun m Γ=>∃a b r,Γ= [A3 a,A3 b,r]/\m=b.natAbs/\Int.gcd a b=Aci) ⟨_,i,j,B1,rfl,rfl,rfl⟩;rintro m _ ⟨a,b,r,rfl,rfl,hg⟩;show CS rfl;show cf 0
 ·subst hb;have:GN (! nD ą ą):=xA
  rw[this];show Q (DE BDm);have e:BDm=AKM:=by
   rw[<- hg,Int.gcd_zero_right];split<;>omega
  rw[e];exact h
 ·have:AEv (nD (DE b) ą):=O_ nD hb
  rw[this];exact⟨hb,_,ze2 hb,b,a.fmod b,A3 (a.fmod b),rfl,rfl,DB zzf hg⟩
theorem zvx{i j:Int}(hj:ś):dv i j≠0/\∀n,TU<=n ->cP j<=n ->AMn dv<=n:=by
 show BO (WT hj) (fun n h1 h2=>(AXl h2));show PF k (z7b i j);have h:=congrArg Int.natAbs e;rw[Int.natAbs_mul] at h;rw[h];have:k≠0:=Ξ (hj (by rw[e,z,Int.mul_zero]))
 exact Auc
theorem z1z(AT JX):Z' zpg:=by
 show zk i j b1 b2;show CS rfl;by_cases hj:j=0
 ·subst hj;have:nD ą ą=true:=xA
  rw[this];exact h.elim
 ·have:nD (DE j) ą=false:=O_ nD hj
  rw[this];rw[AK hj,<- ykx hj] at h;show FU i j rfl;show B' d0 d1 (n_ zvx) hj;show dC (Μ (j<0));by_cases hn:j<0
  ·show Z_ hn
   have e:dv i j= -AKM:=by unfold dv;show DF hn
   exact⟨ADg,ADg,AKl,BE e h⟩
  ·show BBe
theorem at0{x y:D}:mQ AAy 0=some x:=Ž
theorem at1{x y:D}:mQ AAy 1=some y:=ž
theorem tu(A4K):xR i j:= ya
theorem v9(A4K):cP (i*j)<=8000:=HR (yw i j)
theorem abz(A4L):cP (i+j)<=9000:=HR (Vn i j)
theorem abA(A4L):cP (i - j)<=9000:=HR (zlh i j)
theorem Tg{i:Int}(h1:TU<=8000):AVO:=Α
theorem yjv(AT Qd):Lo z5v:=by
 show APr;refine⟨_,at0,_,at1,AXI,_,at0,_,at1,Anx,_,at1,_,at1,Aj0,_,_,rfl,BID abz,Tg (v9 a2 b2),?_⟩;rw[if_neg (Sd a b),<- ydy];exact h
theorem yem(AT JZ):Lo z0y:=by
 show APr;refine⟨_,at0,_,at1,AXI,_,at0,_,at1,Anx,_,at1,_,at1,Aj0,_,_,rfl,BID abA,Tg (v9 a2 b2),?_⟩;rw[if_neg (Sd a b),<- ydu];exact h
theorem yh3(AT Xb):Lo zze:=by
 show APr;refine⟨_,at0,_,at0,tu a1 b1,_,at1,_,at1,Aj0,_,_,rfl,Tg (v9 a1 b1),Tg (v9 a2 b2),?_⟩;rw[if_neg (Sd a b),<- yd1];exact h
theorem ykj(AT SQ):Lo z3s:=by
 show APr;refine⟨_,at0,_,at1,AXI,_,at1,_,at0,tu a2 b1,_,_,rfl,Tg (v9 a1 b2),Tg (v9 a2 b1),?_⟩;show cf 0
 ·show og hb;rw[PH if_pos hb (Int.mul_zero _)];exact h
 ·show U' hb;rw[if_neg (Int.mul_ne_zero Ak7 (ADl hb zf.mp)),<- ydq a b hb];exact h
theorem yid(AT Et):Lo zyr:=by
 show APr;refine⟨_,at0,_,at1,AXI,_,at0,_,at1,Anx,?_⟩;rw[ygm] at h;exact h
theorem yky{n:Nat}(a b:Rat):lu NO (qD a) (qD b):=by
 show ABZ
 match i with
 | 0=>show A7w
 | 1=>show A7w
 | i+2=>simp at h1
theorem yd:tJ (E3 1000):=AQ
theorem Gi{i m:Int}(hm:0<m):0<=i.fmod m/\i.fmod m<m:=Ο Aud ⟨Int.emod_nonneg _ ψ,Int.emod_lt_of_pos _ hm⟩
theorem Nb(AHB):AAs (nD ŕ (DE j)) (i=j):=by
 simp only [nD];by_cases h:i=j<;>simp [h]
theorem Nf{i:Int}{n:Nat}(h:0<n):∃k:Nat,i.fmod D6=Cc/\k<n:=by
 have:=Ā i D6 ψ
 exact⟨(i.fmod D6).toNat,Α,Α⟩
theorem z1l(AH Bq):DD:=ES
theorem ylz(AH zz1):II:=Se
theorem z2a(AT Bq):Z' zod:=by
 show zk ns k hl hk;show AF' Cc Aok;show EK;by_cases hlt:Ahv
 ·show Z_ hlt
  show BA (.int ns[k]) (rR (Fs hlt))
  show Bi eV;rw[dif_pos hlt] at h;exact h
 ·show fT hlt
  show Bi eV;rw[dif_neg hlt] at h;have bk:cP Cc<=10:=kZ (by simp only [Int.natAbs_natCast];omega)
  show CS AGZ
  show AF' RA Aok;show EK;have fin2:∀m:Int,m.natAbs<2^40 ->A4_ ->xR m m/\ WN 2147483629/\A4_:=fun m hm hq=>
   ⟨AeD kZ hm,AQ,hq⟩
  by_cases he:ns= []
  ·subst he;show AFR
   rw[B4] at h;exact fin2 _ ψ h
  ·have hp:0<ns.length:=(by cases ns with | nil=>show ŭ he | cons _ _=>exact Nat.succ_pos _)
   show Z_ hp
   show U' he;show BA AGZ (AlT (WN (BN ns.map D.int)))
   have hm:(Cc*7).fmod Aok=Cl AX8:=by
    show ALC Aud Int.natCast_emod Int.natCast_mul
    rfl
   dsimp only [aJ,cj,cC,cV,cB,cT,pY,Ec,lZ,jr,uf,lD,yu,ao,aj,dN,gA,dW,lE,aW,nP,eG,aU,fC,hName,gY,bw,gZ,ug,qR,aC,cU,jm,jh,fj,iR,cM,fJ,dO,oO,yM,Df,yC,GQ,BP,pZ,rY,yO,cI,wI,yx,Bj,oN,G4,G5,gC,um,nR,ur,uw,List.length,List.set_cons_zero,List.set_cons_succ,List.getElem?_cons_zero,List.getElem?_cons_succ,jT,pF,yD,Dg,wD,tR,vZ,uE,lF,jt,qW,wF,xV,Dh,nU,xW,gF,ju,Bm,Hi,Bl,uF,uG,iL,iJ,jP,sX,d7,List.map,List.append,List.cons_append,List.nil_append];rw[hm];have hlt2:AX8<ns.length:=Nat.mod_lt _ hp;show BA (.int (ns.getD (AX8) 0)) (rR (by simp [List.getElem?_map,List.getD_eq_getElem?_getD,hlt2]))
   show FU AGZ AGZ AQ
   refine fin2 _ ?_ h;have h1:=ze2 (a:=ns.getD (AX8) 0*48271+ Cc*7919) (b:=2147483647) Δ
   exact Nat.lt_trans h1 Δ
theorem yhq(AH Qe):II:=Se
theorem ykz(AH Qf):II:=Se
theorem yhy(AT Qe):Z' zzx:=by
 obtain⟨qs,rfl,s1,s2,h⟩:=h;show AWm AKl (∃x,Γ= [NX AQP,ACq (dH (qs.take i)),x]) D5
 ·rintro i x _ hi ⟨y,rfl⟩;show ATE hi;cases q:qs[i]? with
  | none=>show GG q hi hi
  | some a=>
   rw[q] at hi;cases hi;show Pp _ _ rfl (s2 i) (s1 a (yZ q)) (ACq a);rw[List.take_add_one,q,zxn];simp only [Option.toList_some,dH,Rat.add_zero]
   rfl
 ·rintro _ ⟨y,rfl⟩;have h' :=h;show å List.take_length;exact h'
theorem yll(AT Qf):ŧ z4f:=by
 obtain⟨qs,rfl,hl,s1,s2,h⟩:=h;show RO qs rfl s1 s2;have e:D.tup A5H=qD AFM:=BNF MK
 show Pp AKl AAL AFM (by show [_,D.tup A5H]=_;rw[e]) ?_ (A7r ?_)
 ·have:=s2 qs.length;show AtM
 ·exact zM (AhI (P_ wp<=1000)) Δ
 ·by_cases hq:qs= []
  ·subst hq;rw[B4] at h;show DF Ψ;exact h
  ·show U' hq;rw[if_neg]
   ·exact h
   ·intro z;have z' :wp=0:=by exact_mod_cast z
    exact BMY hq ψ
theorem Yh(A_G):B8 (F8 f) (f i):=BH h
theorem J0(A_G):mQ (F8 f) Ic=some (f i):=rR (Yh h)
theorem z6e{n:Nat}(f g:kX):BIi:=by
 unfold lG;show UU
 ·simp
 ·show zn;simp
theorem yc2{n:Nat}(f:kX):JM 0 (F8 f)=F8 (CL (UH (.int (E3 i)) (f i))):=by
 apply List.ext_getElem?;intro i;rw[zr5];by_cases h:i<n
 ·rw[Yh h,Yh h];simp
 ·simp [h]
theorem zt0(A'i):Tk is Ap P Q1 (∀i∈is,AHC (P [g i]) i) (P (is.map g)) (AJf is.map)
 | [],_,_,h=>h
 | i::is,P,k,h=>k i zY _ (zt0 A7f h)
theorem zkd(A'i){n:Nat}{P:Q1}(k:yA (AHC (P [g i]) i))(h:P (F8 g)):AJf F8:=
 zt0 (NS hi (k i (List.mem_range.mp hi))) h
theorem zkk{m:Nat}{f g:g9}(h:KU m (f j=g j)):gK m f=gK m g:=by
 unfold gK
 congr 1
 exact List.map_congr_left fun j hj=>(MZ (h j (List.mem_range.mp hj)))
theorem z1q{n m:Nat}{a b:Mx}(h:∀i j,i<n ->j<m ->a i j=b i j):AYa=o9 n m b:=by
 unfold o9
 congr 1
 exact Aw7 (zkk fun j hj=>h i j (List.mem_range.mp hi) hj)
theorem zwq(AH Xd):II:=ES
theorem zwb(AH Xg):oS:=AHJ
theorem yl8(AH Xh):DD:=ABJ
theorem z3v(AH Xe):AUJ:=AHJ
theorem z3f(AH Xf):oS:=AHJ
theorem yaq(AH Xi):DD:=by obtain⟨_,_,⟨rfl,_⟩,_⟩:=h;rfl
theorem z32(AT Xe):ST zq1:=by
 obtain⟨m,k,f,g,p,rfl,hk,p0,bp,bf,bg,h⟩:=h;show VY (lG (Al' f) (Al' g));rw[z6e];refine zkd (g:=DA (.int (A2N p))) A3u h;have b1:=bg k;have b2:=bf j;have b3:=bf k;have b4:=bg j;exact⟨rfl,rfl,.int (g k),J0 hk,ya,.int (f k),J0 hk,ya,⟨p0,bp⟩,hP⟩
theorem z7w(AT Xf):ST zqn:=by
 obtain⟨a,n,m,k,p,rfl,hk,hkm,p0,bp,ba,h⟩:=h;show BA (gK m (a k)) (J0 hk);show VY (JM 0 (AGP ADe));rw[yc2];refine zkd (g:=CL (gK m BEt)) A3v h;show FU rfl rfl rfl;rw[Nb];show HA i k
 ·subst e;show wx rfl;have:gK m (Eu i p a i)=ADe:=zkk fun j _=>B4;rw[this] at hP;exact hP
 ·show vS ψ
  have:gK m BEt=gK m (DA BHz):=zkk fun j _=>AFG;rw[this] at hP;exact⟨m,k,a i,a k,p,rfl,hkm,p0,bp,DA (ba i j hi),DA (ba k j hk),hP⟩
theorem yfq{n:Nat}(f:kX){k s:Nat}(hk:k<n)(hs:s<n):((F8 f).set k (f s)).set s (f k)=F8 (CL (f (rB k s i))):=by
 show UU
 ·simp
 ·show zn;simp only [List.getElem_set,List.getElem_map,List.getElem_range];unfold rB;by_cases e1:s=i
  ·subst e1;by_cases e2:k=s
   ·subst e2;simp
   ·rw[B4,gi,B4]
  ·show BF e1;by_cases e2:k=i
   ·subst e2;rw[B4,B4]
   ·rw[AK e2,gi,gi]
theorem z6o{n k:Nat}(h:k<n):vR n Cc=some k:=by
 unfold vR;rw[ZO,ZO];simp
theorem zx6(AT Xg):ST zlp:=by
 obtain⟨a,n,m,k,s,rfl,hk,hs,h⟩:=h;refine⟨gK m (a s),J0 hs,D5,k,z6o (Fs hk),gK m (a k),J0 hk,D5,s,z6o (Fs hs),?_⟩
 have e:=yfq (ï ADe) hk hs;rw[e];exact h
theorem yl6(AT Xh):Z' yd8:=by
 obtain⟨a,n,m,k,rfl,hn,hk,hm,h1,h2⟩:=h;have el:BN F8 (CL ADe)=n:=A1
 show(AgK<=Cc/\ Cc<2^62/\ AgK<=AlK/\ AlK<2^62)/\GD Cc (IO (AlK - Cc)) _ _ _ _ _;rw[el,GH (IO (D6 - Cc)) (n - k)]
 show AWm ⟨Α,Α,Α,Α⟩ (∃y:Slot,Γ= [.pu (o9 n m a),ALk,y]/\A8Z (s<k+i)) (Of (fun s hs hs' =>Α))
 ·rintro i _ hi ⟨y,rfl,hz⟩;have e0:Cc+ Ic=Cl (k+i):=Α
  have hlt:k+i<n:=Α
  show SW (gK m (a (k+i))) ?_ (.int (a (k+i) k)) (J0 hm) rfl
  show JE e0 (J0 hlt)
  rw[Nb];by_cases ez:a (k+i) k=0
  ·show wx ez;show oC _ (Κ s hs hs');by_cases es:s=k+i
   ·rw[es];exact ez
   ·exact hz s hs ψ
  ·show vS ez;refine⟨a,n,m,k,k+i,?_,hk,hlt,h1 _ ψ hlt ez⟩
   rw[e0]
 ·rintro _ ⟨y,rfl,hz⟩;exact(h2 fun s hs hs' =>hz s hs ψ).elim
theorem zyf(AGm):CB q.num=q* ALi/\ ALi≠0:=by
 have hd:ALi≠0:=by
  have:=q.den_pos
  exact_mod_cast (AhI (WN q.den))
 have e:pp q.num q.den=q:=by
  have:=BNA;show AJ Rat.divInt_eq_div;exact this
 show oP hd;rw[Rat.div_def] at e;have:=xc (· * ((q.den:Int):Rat));simp only [Rat.mul_assoc,Ŕ hd,Rat.mul_one] at this;exact this
theorem z91{μ d:Int}(hμ:0<μ)(hd:0<d):WN AP3/\0<AbK/\μ∣AbK/\d∣AbK/\ (d.fdiv eB).natAbs<=d.natAbs/\ P_ eB<=d.natAbs:=by
 show My g0 AP3 (HR Avg)
 have gd:eB∣d:=AgD;have gm:eB∣μ:=AgC;have e:=RX gd;obtain⟨u,eu⟩:=gm;have gp:RA< eB:=Α
 generalize eB=g at*;generalize d.fdiv g=t at*;have tp:0<t:=by
  show OE (Ai0 t)
  ·exact h
  ·have:=BNE (Α:0<=g)
   omega
 show SW Α (Int.mul_pos hμ tp) ft (Ev u) ?_
 ·rw[eu,<- e];ac_rfl
 ·show Ayd (Nat.le_mul_of_pos_left _ ψ)
 ·show Ayd Auc
theorem Ds{d:Int}(h:d∣27720):iA<=15:=zP (A7G (Nat.le_of_dvd Δ (Int.natAbs_dvd_natAbs.mpr h))) (kZ Δ)
theorem lcm_dvd{μ d n:Int}(hμ:0<μ)(hd:0<d)(h1:μ∣n)(h2:d∣n):AbK∣n:=by
 have g0:WN AP3:=Ξ (HR (BND (Α:Int.gcd μ d=0)))
 have e:=RX (Int.gcd_dvd_right μ d);have e2:eB* (μ*d.fdiv eB)=eB* AC (Int.lcm μ d):=by
  rw[<- Int.natCast_mul,Int.gcd_mul_lcm,Int.mul_left_comm,e,Int.natCast_mul,BM9,BM9]
 rw[Int.eq_of_mul_eq_mul_left g0 e2];have:=Int.lcm_dvd (c:=n.natAbs) (Int.dvd_natAbs.mpr h1) (Int.dvd_natAbs.mpr h2);exact Int.ofNat_dvd_left.mpr this
theorem zye(AT Xd):Z' zl3:=by
 show zk m f hm hz;show ij (∃(μ:Int) (y:Slot),Γ= [.pu (oU m f),A3 μ,y]/\0<μ/\μ∣27720/\∀j,j<i ->j<m ->Ņ∣μ) (gI 1 _ AQ (sD 27720) (eK Α))
 ·rintro i d _ hi ⟨μ,y,rfl,hμ,bμ,hd⟩;have him:i<m:=l_ pT this
  rw[Yh him] at hi;cases hi;have dp:RA< (f i).den:=HR (f i).den_pos
  obtain⟨g0,p1,p2,p3,p4,p5⟩:=z91 hμ dp;have zi:=Ds A6x;have b4:=zP (Kc p4) zi;have b5:=zP (Kc p5) zi;have bμ' :=Ds bμ;refine⟨_,at1,_,at1,μ,(f i).den,rfl,⟨g0,Α⟩,ya,_,_,rfl,p1,lcm_dvd hμ dp bμ A6x,Κ j hj hjm⟩
  show HA j i
  ·show N9 p3
  ·exact Int.dvd_trans (hd j ψ hjm) p2
 ·rintro _ ⟨μ,y,rfl,hμ,bμ,hd⟩;have el:BN (Kj m) (DA (qD (f j)))=m:=A1
  rw[el] at hd;have bμ:=Ds bμ
  let g:g9:=DA (HK (j<m) A_P)
  have gv:KU m (g j=A_P):=fun j hj=>by show(zh (j<m))=_;show DF hj
  have bt:KU m (cP (μ.fdiv Ņ)<=cP μ):=fun j hj=>by
   refine Kc ?_;have e:=congrArg Int.natAbs (RX A5r);show Ag5;rw[<- e];exact Nat.le_mul_of_pos_left _ (Ada Atr)
  refine zkd (g:=DA (.int (g j))) A3u (h μ g hμ (MR j hj) AFh)
  ·have z:=hz j hj;have b:=bt j hj;show Pp _ at0 _ at1 ⟨HR Atr,zP (Ds z.2) Δ⟩ (sq (by have:=z.1;omega))
   show P [.int (AeY*μ.fdiv Ņ)];rw[<- gv j hj];exact hP
  ·rw[gv j hj];have e:=RX A5r;obtain⟨n1,n2⟩:=zyf (f j);have e' :BU μ=Ņ* AC (μ.fdiv Ņ):=by exact_mod_cast e.symm
   rw[Rat.intCast_mul,n1,e']
   grind
  ·by_cases hj:j<m
   ·rw[gv j hj];have:=yw AeY (μ.fdiv Ņ);have:=bt j hj;have:=(hz j hj).1;omega
   ·show cP (HK (j<m) _)<=_;show BF hj;exact FC
theorem zuz{α:Type}[ZE α]{one:nE}{f:kX}(F:qr α D)(Good:AIj α):∀{n s:Nat} {P:Q1},(A1v (AHC A6u i)) ->(∀as:HI α,(A1v Avb) ->P (AYK s (CL (F i (as i))))) ->AJf (AYK s)
 | 0,s,P,_,h=>h (AV default) fun i h1 h2=>Α
 | n+1,s,P,k,h=>by
  rw[List.range'_succ];refine k s ψ ψ _ (AD a ha)
  refine A8H (fun i h1 h2=>k i ψ ψ)
  have:=h (ï (Yf s a (as i))) fun i h1 h2=>by
   show HA i s
   ·subst e;simpa using ha
   ·simp only [AFG];exact has i ψ ψ
  rw[List.range'_succ,List.map_cons,B4] at this;have e:AYK (s+1) (CL (F i (AY (i=s) a (as i))))=AYK (s+1) (CL (F i (as i))):=Aw7 (by
   have:=List.mem_range'_1.mp hi;show BF ψ)
  show my;exact this
theorem z1e{α:Type}[ZE α]{one:nE}{f:kX}(F:qr α D)(Good:AIj α){n:Nat}{P:Q1}(k:yA (AHC A6u i))(h:∀as:HI α,(yA Avb) ->P (F8 (CL (F i (as i))))):AJf F8:=by
 rw[List.range_eq_range'];refine A8H (fun i _ h2=>k i ψ)
 rw[<- List.range_eq_range'];exact h as (lS (has i ψ ψ))
theorem ylj(AbN):A_5:=by
 show AXh (BN va f) n (by
  show AiE;unfold vR;rw[AK Δ,ZO]
  congr 1;omega)
 unfold mQ;rw[e];exact Yh ψ
theorem Ti{z:Int}{e k:Nat}(h:z.natAbs<=(16*2^e)^k):cP z<=(e+4)*k+1:=by
 refine kZ (zM h ?_);rw[show E3 16*2^e=2^ (e+4) by rw[Nat.pow_add,Nat.mul_comm],<- Nat.pow_mul]
 exact Nat.pow_lt_pow_right Δ ψ
theorem zsy{f g:Pf}(t:Rat):HL m Nat (KU m (f j=t*g j)) (cZ m f=t*cZ m g)
 | 0,_=>ka cZ
 | m+1,h=>AMo cZ (zsy t (eK (h j ψ))) (h m ψ)
theorem z9w(AT Xi):NC ztz 5:=by
 obtain⟨n,A,⟨rfl,hn,hz⟩,hE,hP⟩:=h;show KW;show VY (lG (AGP (oU n (A i))) (AGP (qD (A i n))));rw[z6e];refine z1e (α:=g9) (Ff g (gK NO g)) (NS g ((A2a)/\SE μ (0<μ/\KU (n+1) (BU (g j)=BU μ*AFn)))) A3v (MR as has)
 ·refine⟨rfl,rfl,AGQ,?_,n+1,A i,?_,Α,eK (hz i j hi ψ),fun μ g h0 h1 h2=>hP g ⟨h2,μ,h0,h1⟩⟩
  ·show BM (BN F8 (DA (qD (A i j)))+1);simp only [List.length_map,List.length_range];omega
  ·unfold oU;show ALA List.range_succ;rfl
 change bP zph [.pu (Io n n A),.pu A0',.pu (o9 n NO as),B1,B1]
 have ba:Aq6 as (2^143):=fun k hk j=>Nat.le_of_lt (N8 ((has k hk).1 j));have hμ:∃μ:Pf,yA (μ i≠0/\KU (n+1) (BU (as i j)=μ i*AFn)):=by
  show U1 (CL (ATK (i<n) (AC ((has i h).2).choose) 1)) i hi;simp only [dif_pos hi];have sp:=((has i hi).2).choose_spec;show oP (eK (sp.2 j hj));have:=sp.1;intro z;show AGp ((has i hi).2).choose
  omega
 obtain⟨μ,hμ⟩:=hμ;have el:BN F8 (CL (AV0 as))=n:=A1
 show(AgK<=Adx (AV0 as)/\_)/\GD 0 (ATL (Adx (AV0 as))) _ _ _ _ _;rw[el,Int.toNat_natCast];have mx:∀k,k<=13 ->(143+4)*k+1<=1912:=fun k hk=>Α
 have h1:1<=16*2^143:=Nat.mul_pos Δ (Nat.pow_pos Δ)
 show RO AAg (fun k Γ=>∃(d:Int) (tb:Mx) (rs:B6) (fs:AB') (ix:On) (y:Slot),Γ= [.pu (Io n n A),.pu A0',.pu (o9 n NO tb),A3 d,y]/\BT n as k d tb rs fs ix) ⟨1,as,_,_,_,_,rfl,ybv n as⟩ ?_
 ·rintro k _ hk ⟨d,tb,rs,fs,ix,y,rfl,bt⟩;have e0:(0+ Cc)=Cl k:=Α
  have bd:iA<=1912:=zP (Ti (Akb ba ψ)) (mx k ψ)
  have be:ANy (AMn tb<=1912):=fun i j hi=>zP (Ti (AsE j)) (mx FR ψ)
  refine⟨tb,n,n+1,k,?_,Α,hk,Α,EX s hs hsn hne,EM hall⟩
  ·rw[e0]
  ·obtain⟨rs',fs',Qc,bt'⟩:=bt.step hs hsn hne;have sk:rB k s k=s:=AUR rB
   have et:o9 n NO (Eu k d (Xc k s tb))=o9 n NO (nextT k s d tb):=z1q fun i j _ _=>by
    unfold Eu Xc nextT;rw[sk]
   refine⟨Xc k s tb,n,n+1,k,d,?_,hk,Α,bt.nz,zP bd Δ,fun i j hi=>zP (be (rB k s i) j ?_) Δ,?_⟩
   ·rw[e0]
   ·unfold rB;split
    ·exact hsn
    ·split<;>omega
   ·rw[et];refine⟨gK NO (BGH k),?_,.int (nextT k s d tb k k),?_,tb s k,BGH,rs',fs',Qc,A3 (0+ Cc),?_,bt'⟩
    show JE e0 (J0 hk)
    ·rw[e0];exact J0 ψ
    ·have:nextT k s d tb k k=tb s k:=AUR nextT
     rw[this];rfl
  ·show A4 x x1 hx bt.stuck hk hall;refine hE x k hk x1 ADz;have q:=hx r hr;rw[BGN (DA (A r j*x j)) (by
    show BU (as r j)*x j=_;rw[Ap5 j ψ];grind)] at q
   show Aj_ q
   ·show F6 q A7'
   ·exact q
 ·rintro _ ⟨d,tb,rs,fs,ix,y,rfl,bt⟩;show My d0 ww (AjB bt.nz)
  have bd:iA<=1912:=zP (Ti (Akb ba ψ)) (mx n ψ)
  have be:ANy (AMn tb<=1912):=fun i j hi=>zP (Ti (AsE j)) (mx NO ψ)
  have bd' :iA<=147*n+1:=Ti (Akb ba ψ)
  have be' :ANy (AMn tb<=Ky n):=fun i j hi=>Ti (AsE j)
  have ex:yA (fs i n=BU (tb i n)/ ww):=fun i hi=>by
   rw[bt.t i hi n,Rat.div_def,Rat.mul_comm,<- Rat.mul_assoc,Ŕ d0,Rat.one_mul]
  show AG8 hs (Slv n A (CL (fs i n))) (by
   have q:=bt.sol hr n;have q' :BU (as r n)=cZ n (sN (BU (as r c)*fs c n)):=q;rw[BGN (DA (A r j*fs j n)) (VC (Ap5 j ψ)),Ap5 n ψ] at q'
   have m0:=A7';have:=congrArg (Υ z ((μ r)⁻¹*z)) q';simp only [<- Rat.mul_assoc,Ŕ m0,Rat.one_mul] at this;exact this)
  show VY (JM 0 (AGP (AV0 tb)));rw[yc2];refine zkd (g:=CL (qD (fs i n))) (Ŵ i hi) (hP _ hs ⟨d,bt.nz,zP bd' BNC,lS ⟨tb i n,ex i hi,be' i n hi⟩⟩)
  refine⟨rfl,rfl,.int (tb i n),ylj,.int (tb i i),J0 ψ,tb i n,tb i i,rfl,zP (be i n hi) Δ,zP (be i i hi) Δ,?_⟩
  rw[bt.diag hi hi,AK bt.nz,<- ex i hi];exact hp
theorem yab(AH Qg):II:=Se
theorem zpm(AH Xm):II:=Se
theorem Gj(a b:Str):AAs (nD (.str a) (.str b)) (a=b):=by
 rw[Bool.eq_iff_iff];simp [nD]
theorem yb0(ArE):GY (l.map qD).flatMap d (AdW (fc a b) (EJ (!(Μ (q.num*b<a*q.den))) [d] []) [])=AO l.filter A9f qD:=by
 induction l with
 | nil=>rfl
 | cons x l ih=>
  rw[List.map_cons,List.flatMap_cons,ih,List.filter_cons,ygm q x];show(AY ((!(Μ (q.num* AC x.den<x.num* fR)))=true) [qD x] [])++_=_;split<;>simp
theorem z94(AT Qg):ST zum:=by
 obtain⟨qs,rfl,hl,hz,h⟩:=h;show AWm FC (∃(l:AA) (x y:Slot),Γ= [NX AQP,.ow tm,x,y]/\l=(qs.take i).foldl v7 []/\l.Perm (qs.take i)) (oQ [] rfl rfl A1)
 ·rintro i d _ hi ⟨l,x,y,rfl,hl',hp⟩;show ATE hi;cases q:qs[i]? with
  | none=>show GG q hi hi
  | some a=>
   rw[q] at hi;cases hi;have hil:i<qs.length:=KI q;have llen:l.length=i:=ATn hp.length_eq List.length_take
   show D7 lz o l (Sr o) o ho (hz o (List.mem_of_mem_take (hp.mem_iff.mp ho)));have az:Sr a:=hz a (yZ q);refine zm7 (ub (AdW (fc u v) (EJ (!(Μ (a.num*v<u*a.den))) [d] []) [])) ?_ ?_
   ·intro x hx P hP;show Pc o ho hx;show SW a o rfl az (lz o ho);show AVR a o;rw[ygm];have hP' :P (EJ (!(Μ (a.num* AC o.den<o.num* AC a.den))) [qD o] []):=hP;split
    ·rename_i hc;rw[A_ hc] at hP';exact hP'
    ·rename_i hc;rw[AK hc] at hP';exact hP'
   ·rw[yb0];show BA trivial D5;show EK;have hc:=yk6 a l;refine⟨Α,by rw[List.length_map];exact_mod_cast hc,AvS yd,v7 l a,ACq a,A3 (cnt a l),?_,?_,?_⟩
    ·unfold VD v7;rw[Int.toNat_natCast,List.map_append,List.map_cons,List.map_take,List.map_drop]
     rfl
    ·rw[List.take_add_one,q,List.foldl_append,<- hl'];rfl
    ·rw[List.take_add_one,q];refine FL zuf l a ?_;refine Iq hp.cons a ?_;exact List.perm_append_singleton a _ |>.symm
 ·rintro _ ⟨l,x,y,rfl,hl',hp⟩;have e:l=lV qs:=by rw[hl',List.length_map,List.take_length];rfl
  subst e;exact h
theorem zqb(AT Xm):ŧ zgs:=by
 show FV r rfl h;show CS fb
 rw[Gj];show dC (Μ (r=jd));split
 ·rename_i e;show og ŝ;exact h
 ·rename_i e;show U' ŝ;exact h
theorem zxp(l:AA){a b:Nat}(h1:a<=b)(h2:b<=l.length):AlI (AC a) (AC b)=AO (AMf a) (b - a) qD:=by
 show AG6;simp only [List.length_map,List.map_take,List.map_drop];have e1:(AY (AC a<0) (IO (AC a+ AC l.length)) (min (r9 a) l.length))=a:=Agc
 have e2:(AY (AC b<0) (IO (AC b+ AC l.length)) (min (r9 b) l.length))=b:=Agc
 rw[e1,e2]
theorem zyu(yi){a:Nat}(h:a<l.length):AMf a 1= [eD a]:=by
 rw[AgO,List.getD_eq_getElem?_getD,UX];rfl
theorem zr7(yi){a:Nat}(h:AMA a):AMf a 2= [eD a,eD (a+1)]:=by
 show Af1 AhH List.take_succ_cons (zyu h) List.getD_eq_getElem?_getD (List.getElem?_eq_getElem (show a<l.length by omega));rfl
theorem yai(AT Xj):ŧ zt6:=by
 show AGR l h1;show BA (qc 2) (qc 2)
 have e1:(ŀ - 1).fdiv 2=Cl (AFl/2):=AC' Akx
 have e2:(ŀ).fdiv 2+1=Cl (aT+1):=AC' Akx
 show Q (CO (ApP (some ((ŀ - 1).fdiv 2)) ((ŀ).fdiv 2+1)));rw[e1,e2,BAJ]
 have key:AMf (AFl/2) (aT+1 - AFl/2)=mids l:=by
  unfold mids;by_cases ho:Amu=1
  ·rw[A_ ho,GH (AFl/2) aT,GH (aT+1 - aT) 1,zyu ψ]
  ·rw[AK ho,GH (aT+1 - AFl/2) 2,zr7 ψ,GH (AFl/2) (aT - 1),GH (aT - 1+1) aT]
 rw[key];exact h
theorem yf8(AT Qi):ŧ zzr:=by
 show zk a b ha hb;exact⟨_,at1,_,at0,b,a,rfl,hb.up Δ,ha.up Δ,h⟩
theorem Tj(yi)(Ajd):l.getD i 0∈l:=AMa UX (yX h)
theorem z3r(AT Xk):ST zqu:=by
 obtain⟨l,rfl,h2,hl,hz,h⟩:=h;have abB:A2m= AJ' 0 1:=by
  have:=zxp l (a:=0) (b:=2) ψ h2
  have e:A2m=AlI AFT (Cl 2):=by
   show AG6;simp
  rw[e,this];show AO (AMf 0) 2 qD=_;rw[zr7 ψ];rfl
 show bP zlu [NX tm,NX (ApP none 2),B1,B1];rw[abB];show BCu
 show AWm (ĝ hn) (∃(b:Nat) (x y:Slot),Γ= Axi x y/\b<=i/\ (A4' (j<=i))/\A2X (j<=i)) ⟨0,_,_,rfl,HC,BDk Rat.le_refl,fun j hj hb=>Α⟩
 ·rintro i _ hi ⟨b,x,y,rfl,hb,hle,hgt⟩;have hi' :i+2<l.length:=by rw[hn] at hi;omega
  show zhb K c _ (Axi (A3 AWP) (NX (ApP (A9 AWP) (1+ Ic+2)))) P6;have ec:AlI AWP (1+ Ic+2)= AJ' BS (BQ+1):=by
   rw[GH AWP AUI,GH (AUI+2) (Cl (i+3)),BAJ,GH (i+3 - BS) 2,zr7 ψ];rfl
  rw[ec];have z:KU l.length (Sz 1900 (l.getD j 0)):=fun j hj=>A2b;refine⟨_,_,rfl,z b ψ,z (b+1) ψ,_,_,rfl,z BS ψ,z (i+2) ψ,_,_,rfl,Arq (b+1) b,Arq (i+2) BS,?_⟩
  show AVR ARc (wd l BS);by_cases hw:ARc<wd l BS
  ·show fT hw
   refine⟨b,_,_,rfl,Α,AHI,Κ j hj hbj⟩
   ·show HA j BQ
    ·show N9 (Rat.le_of_lt hw)
    ·exact hle j ψ
   ·show HA j BQ
    ·show N9 hw
    ·exact hgt j ψ hbj
  ·show Z_ hw
   refine⟨BQ,_,_,rfl,Α,AHI,fun j hj hbj=>Α⟩
   have hw' :=Rat.not_lt.mp hw;show HA j BQ
   ·show N9 Rat.le_refl
   ·exact Rat.le_trans hw' (hle j ψ)
 ·rintro _ ⟨b,x,y,rfl,hb,hle,hgt⟩;have e:IO (ŀ - 1 - 1)=l.length - 2:=ĝ hn
  rw[e] at hb hle hgt;exact h b ⟨Α,eK (hle j ψ),fun j hj hbj=>hgt j ψ hbj⟩
theorem yle(AT Xl):Lo z6y:=by
 obtain⟨l,g,rfl,h2,hl,hz,hg,h⟩:=h;show CS fb
 rw[Nb];show BCu
 have z:KU l.length (Sz 1900 (l.getD j 0)):=fun j hj=>A2b;show dC (Μ (ŀ=2));rw[hn];by_cases h22:l.length=2
 ·show AyH
  have e2:l.map qD= AJ' 0 1:=by
   match l,h22 with
   | cq,_=>rfl
  refine⟨eD 0,eD 1,MZ e2,z 0 ψ,z 1 ψ,g,_,rfl,hg,Arq 1 0,?_⟩
  show AF' g (wd l 0);by_cases hw:g<wd l 0
  ·show og ⟨h22,hw⟩;show Z_ hw
   exact⟨AQ,h⟩
  ·rw[F9 (Ξ (hw z.2))] at h;show fT hw
   exact BG6
 ·rw[F9 (Ξ (h22 z.1))] at h;rw[F9 ALU]
  exact BG6
theorem wQ{l:AA}:dH (mids l)/ jn mids l=Es l:=by
 unfold mids Es;split
 ·show(_+0)/ CB ATh=_;show ATD;have:BU (Cl 1)=1:=rfl;rw[this];grind
 ·show(_+ (_+0))/ CB (E3 2)=_;show ATD;rfl
theorem yd9{l:AA}(h:∀q∈l,AKk)(hl:l.length<=2)(k:Nat):Sz 4000 (dH (l.take k)):=by
 refine(yc9 (m:=1900) (pz (h q (List.mem_of_mem_take hq)))).up ?_;have:BN l.take k<=2:=zP (List.length_take_le' _ _) hl;have:=Nat.mul_le_mul_right 1902 this;omega
theorem sM:Qh≠uU:=AQ
theorem sP:jd≠uU:=AQ
theorem sP2:jd≠Qh:=AQ
theorem ycx(AH Xn):DD:=ES
theorem z19(AH Xo):II:=Se
theorem z7v(AH Xp):oS:=io
theorem ygh(AH Qj):II:=Se
theorem zp6(AH Xq):DD:=ES
theorem Tn(f:Str)(d:D):mU [f] [d] f=some d:=AUR mU
theorem zvw(xs:Ε){k:Nat}(h:AuD):cutD xs (A9 Cc) none=xs.drop k:=by
 have e1:(AY (Cc<0) (IO (Cc+ AC xs.length)) (min (IO Cc) xs.length))=k:=Agc
 show AG6;simp only;rw[e1,List.take_of_length_le Ψ]
theorem z0r{ps:Hm}(h:Gd ps)(hl:1<ps.length):wN ps=true:=by
 unfold wN;rw[BMz,Bool.true_and];clear hl;induction ps with
 | nil=>rfl
 | cons a t ih=>
  cases t with
  | nil=>rfl
  | cons b t=>
   obtain⟨⟨h1,h2⟩,h3⟩:=h;show(JT a b::List.zipWith JT (b::t) t).all id=true;rw[List.all_cons];have hc:JT a b=true:=by
    unfold JT;have:¬b.2<a.2:=E8
    simp [h1,this]
   have h4:=ih h3;have h5:(List.zipWith JT (b::t) t).all id=true:=h4;rw[h5];simp [hc]
theorem ybm(AT Xn):Lo zvf:=by
 show zk a b za zb;refine⟨_,at0,_,at0,a.1,b.1,rfl,za.1,zb.1,?_⟩;show Bi JT;cases e:AzW with
 | false=>rw[e] at h;exact h
 | true=>
  rw[e] at h;exact⟨_,at1,_,at1,b.2,a.2,rfl,zb.2,za.2,h⟩
theorem zvl{one:nE}(g:Pt ->Pt ->D):∀{as bs:Hm} {P:Q1},(ù (IQ bs (∀P,P [g a b] ->one (TZ (pD a) (pD b)) P))) ->P (AfI g) ->dG one (lG (as.map pD) (bs.map pD)) P
 | [],_,_,_,h=>h
 | BY,[],_,_,h=>h
 | a::as,b::bs,P,k,h=>k a zY b zY _ (zvl g (fun x hx y hy=>k x Aib y (zX _ hy)) h)
theorem zzy(g:Pt ->Pt ->Bool):∀(as bs:Hm),sW A3y=some (AfI g)
 | [],_=>rfl
 | BY,[]=>rfl
 | a::as,b::bs=>by
  show AO sW A3y _=_;rw[zzy g as bs];rfl
theorem z2n(AT Xo):ŧ zpk:=by
 show AGR ps hz;show Bi wN;show(fF (D.bl (decide (Rs< jn ps.map pD))) ADG _ ALu _)
 show EK;by_cases hl:1<ps.length
 ·show wx (Α:Rs< BMa)
  rw[BMz,Bool.true_and] at h;show VY (lG (ps.map pD) (cutD (ps.map pD) mt none));have e1:cutD (ps.map pD) mt none=AO ps.drop 1 pD:=Ο List.map_drop BGl
  rw[e1];refine zvl (BLa JT) (fun a ha b hb P hp=>⟨rfl,rfl,a,b,rfl,hz a ha,hz b (List.mem_of_mem_drop hb),hp⟩) (B5 (zzy JT _ _) ?_);rw[List.drop_one];exact h
 ·show vS (Α:¬Rs< BMa)
  rw[decide_eq_false hl] at h;exact h
theorem yfk(BE' Qj):ze8 K c (ACw (fun Γ=>zea K c Γ A4c P6) XT) (aG 2 AFu) P6:=by
 show AGR ps hz;show FU ps rfl hz;cases e:wN ps with
 | true=>
  rw[e,B4] at h;exact E7 h
 | false=>
  rw[e,UF] at h;exact h.elim
theorem z8f(AT Xp):ST zqv:=by
 obtain⟨l,r,x,rfl,zl,zr,zx,hlt,h⟩:=h;have s1:=Sg zx zl.1;have s2:=Sg zr.2 zl.2;have s3:=Sg zr.1 zl.1;have s4:=yc0 s1 s2;have hn:AX7≠0:=E8
 refine⟨_,at0,x,l.1,rfl,AhJ,RH zl.1,_,at1,_,at1,r.2,l.2,rfl,RH zr.2,RH zl.2,x - l.1,r.2 - l.2,rfl,s1.up Δ,s2.up Δ,?_⟩
 refine⟨_,at1,_,at0,_,at0,AL,l.1,rfl,RH zr.1,RH zl.1,AqX,AX7,rfl,s4.up Δ,s3.up Δ,?_⟩
 show BF hn;exact gI l.2 (AqX/ AWf) (RH zl.2) ((ydv s4 s3 hn).up Δ) h
theorem z44:∀{ps:Hm} (i:Nat),Gd ps ->Gd (ps.drop i)
 | [],i,_=>by rw[List.drop_nil];trivial
 | ps,0,h=>h
 | a::t,BQ,h=>by
  rw[List.drop_succ_cons];refine z44 i ?_;cases t with
  | nil=>trivial
  | cons b t=>exact h.2
theorem zyx{ps:Hm}{i:Nat}(h:Akt):ps.drop i=Mn::AMN::ps.drop (i+2):=DB AhH AgO
theorem ylw{ps:Hm}{i:Nat}(h:Akt)(hg:Gd ps):Mn.1<AM_/\Mn.2<=AMN.2:=by
 have:=z44 i hg;show AJ (zyx h);exact this.1
theorem z3g{ps:Hm}{i:Nat}{x:Rat}(h:Akt):yc (ps.drop i) x=if x<AM_ then zj Mn AMN x else yc (ps.drop BS) x:=kC (zyx h) AgO
theorem znc:∀{ps:Hm} (h:0<ps.length),Dq ps=ps[AUg]
 | [p],_=>rfl
 | a::b::t,_=>by
  show Dq (b::t)=_;rw[znc (ps:=b::t) Ψ]
  simp
theorem yhj(ps:Hm)(h:0<ps.length):mQ (ps.map pD) HV=some (pD (Dq ps)):=by
 unfold mQ;show AXh Ay4 (ps.length - 1) (by
  unfold vR;show AJk ALW ZO
  congr 1;omega)
 rw[e];show AGN[AUg]?=_;rw[List.getElem?_map,AhF,znc h]
 rfl
theorem yk9{ps:Hm}{i:Nat}(h:i<ps.length):mQ (ps.map pD) Ic=some (pD Mn):=rR (AF_ UX)
theorem zp8(AT Xq):ST zhf:=by
 obtain⟨ps,x,rfl,hl,hg,hz,zx,h⟩:=h;have z4:∀{i:Nat} (hi:i<ps.length),Kz 300 Mn:=fun hi=>hz _ (yX hi);have h0:0<ps.length:=Α
 refine⟨rfl,_,AFK,_,yk9 h0,_,at0,ps[0].1,x,rfl,RH (z4 h0).1,AhJ,?_⟩
 have hd:ps=ps[0]::ps.drop 1:=è (List.drop_eq_getElem_cons (l:=ps) (i:=0) h0) List.drop_zero
 show AVR ps[0].1 x;by_cases hx:ps[0].1<x
 ·show fT hx
  have eW:yc ps x=JV ps x:=zzq hg (XI (by
   rw[hd] at hp;cases hp;exact Rat.le_of_lt hx))
  show Pp rfl _ AFK rfl _ AFK;have e1:cutD (ps.map pD) mt none=AO ps.drop 1 pD:=Ο List.map_drop BGl
  show CS ?_
  ·rintro⟨e,_⟩;have:HT.sIx Ay4 0 (some 1)=1:=by
    unfold HT.sIx;show EK;simp only;show ZY
    have:r9 1=1:=rfl;omega
   rw[this] at e;cases e
  rw[e1];have zl:IF lG AGN (AO ps.drop 1 pD)=AUg:=by
   unfold lG;rw[List.length_zipWith,List.length_map,List.length_map,List.length_drop];omega
  show ij (∃(u v:Slot),Γ= [.pu (Ew c ps),ACq x,u,v]/\yc (ps.drop i) x=yc ps x) (xt (MZ List.drop_zero))
  ·rintro i d _ hi ⟨u,v,rfl,hw⟩;have hil:BQ<ps.length:=BLO pT zl
   have hi2:some d=some (TZ (pD Mn) (pD AMN)):=by
    rw[<- hi];unfold lG;rw[List.getElem?_zipWith,List.getElem?_map,List.getElem?_map,List.getElem?_drop,AhF,Nat.add_comm 1 i,b9 hil]
    rfl
   cases hi2;refine⟨rfl,rfl,_,at0,x,AM_,rfl,AhJ,RH (z4 hil).1,?_⟩
   rw[z3g hil] at hw;show AF' x AM_;by_cases hxr:x<AM_
   ·show Z_ hxr
    rw[A_ hxr] at hw;refine⟨Mn,AMN,x,rfl,z4 ψ,z4 hil,zx,(ylw hil hg).1,?_⟩
    rw[hw,eW];exact h
   ·show fT hxr
    rw[AK hxr] at hw;exact xt hw
  ·rintro _ ⟨u,v,rfl,hw⟩;rw[zl,AhH,List.drop_of_length_le ψ] at hw
   show LU rfl _ AFK _ (yhj ps h0) _ at1;rw[znc h0];have:ps[AUg].2=yc ps x:=hw;rw[<- eW,<- this] at h;exact h
 ·show Z_ hx
  show LU rfl _ AFK _ (yk9 h0) _ at1;have:JV ps x=ps[0].2:=by
   generalize ps[0]=p0 at*;rw[hd] at hg⊢;exact ycn hg hx
  rw[this] at h;exact h
theorem zta(OB):A2v nZ:=UI nZ List.length_reverse PX
theorem z7d{qs:AA}{q:Rat}(h:q∈nZ qs):q∈qs:=AYI (List.mem_reverse.mp h)
theorem Tq(A6b):l.getD i d=l[i]:=BH h
theorem Xa(A6b):l.getD i d∈l:=Ο (Tq h) (yX h)
theorem ycj(OB):Fall (nZ qs):=by
 intro i j hij hj;have hi:i< BN nZ qs:=Α
 rw[Tq hj,Tq hi];unfold nZ at*;rw[List.getElem_reverse,List.getElem_reverse];show HA i j
 ·show N9 Rat.le_refl
 ·rw[List.length_reverse] at hj;exact List.pairwise_iff_getElem.mp (zxu qs) _ _ ψ ψ ψ
theorem zo2{α β:Type}(f:AU2):nL (GY l.flatMap x [f x]=l.map f)
 | []=>rfl
 | x::l=>kC List.flatMap_cons zo2
theorem zy6{α:Type}(f:xp):A0u AxI
 | []=>rfl
 | x::l=>by show AO sW AxI _=_;rw[zy6];rfl
theorem z7g(f:AA):(gM f).getD (BN gM f - 1) 0=f.length/\0< BN gM f:=by
 show oP (by unfold gM;simp)
 cases hn:f.length with
 | zero=>unfold gM;rw[hn];rfl
 | succ n=>
  have e:gM f=(0::((List.range n).filter (Ey f)).map (· +1))++ [n+1]:=by
   unfold gM;rw[hn,List.range_succ,List.filter_append,List.filter_cons,AEo (by unfold Ey;simp [hn])]
   simp
  show Af1 e List.length_append List.length_singleton Nat.add_sub_cancel Alp;simp
theorem zwc(AH SX):DD:=ES
theorem z23(AH Xr):oS:=io
theorem ygp(AH Qk):DD:=ES
theorem yag(AH S6):II:=Se
theorem zto(AH Xu):DD:=ES
theorem yjx(AH Xv):II:=Se
theorem zpx(AH Xw):DD:=io
theorem znb(AH Xx):DD:=io
theorem yir(AH Xy):DD:=ES
theorem Tr{α:Type}{one:nE}(f:Ų)(p:xp):Afo (AHC (AY ł (P [C4]) mv) a) Ayn f
 | [],_,_,h=>h
 | C6,P,k,h=>by
  refine k a zY _ ?_;show FB ł
  ·show DF q;rw[List.filter_cons,D'] at h;exact Tr f p AIX h
  ·show BF q;rw[List.filter_cons,D_] at h;exact Tr f p AIX h
theorem zjs(p_){one:nE}(f g:Ų):Afo (AHC (P [g a]) a) l.map g
 | [],_,_,h=>h
 | C6,P,k,h=>Ar1 zjs
theorem zwe(AT SX):Lo zlw:=by
 show AMp x b;show U_ rfl;show EJ (Μ (b.1<=x)) (∃d,mQ [D.int b.1,.int b.2] 1=some d/\_) _;show FB (b.1<=x)
 ·show Z_ q
  show U_ rfl;have e:AAs (yF b x) (x<=b.2):=by unfold yF;simp [q]
  rw[e] at h;exact h
 ·show fT q
  have e:yF b x=false:=by unfold yF;simp [q]
  rw[e] at h;exact h
theorem yjq(p_)(l:Au)(f:xp):(l.map f).any id=l.any f:=BNH
theorem z69(AT Xr):Z' zqy:=by
 obtain⟨S,l,b,rfl,h⟩:=h;refine Tr D.int (Υ e AxJ) (Ŵ e he) h;refine zjs D.int (Υ s (.bl (yF b (e - s)))) (fun s hs P' hp' =>(MQ (e - s) b hp')) ?_;show BA (l.map fun s=>Ae5) (zy6 _ l);rw[yjq];show EJ (l.any fun s=>Ae5) Alq mv;split
 ·show AWz
 ·show AWy
theorem Qp(AbN):A_5:=by
 unfold mQ;show AXh (BN va f) n (by
  unfold vR;show ALC List.length_range ALW ZO
  congr 1
  omega)
 rw[e];show(va f)[n]?=_;rw[List.getElem?_map,List.getElem?_range ψ];rfl
theorem yew(AT Qk):ST z0t:=by
 show Cb S bs hl h h;show KW;show BA AGQ AGQ
 show ij (∃x,Γ= [AnG,AWg,Ah2 BS (pK (rk S bs j)),x]) D5
 ·rintro i d _ hi ⟨x,rfl⟩;have hi' :i<bs.length:=pv pT
  show AHd;cases hi;have eb:bs.getD i km=bs[i]:=BH hi'
  refine⟨D5,D5,_,Qp,S,ApG,bs[i],rfl,?_⟩;show BA AuR (.pu (Ip bs[i]))
  rw[AtW BQ,List.map_append,<- eb]
  rfl
 ·rintro _ ⟨x,rfl⟩;show EK;exact h
theorem zv4{α:Type}{one:i8 D (WB D)}(f:Ų)(g:α ->Ε):Tk l Au P ATk (AIc (∀P:ATk,P [g a] ->one (f a) P)) (P (l.map g)) (uL one (l.map f) P)
 | [],_,_,h=>h
 | C6,P,k,h=>Ar1 zv4
theorem ycr(BE' S6):zeq K c (aG 2 AFu) A3L P6:=by
 show FV ls rfl h;show uL _ AZB _;refine zv4 pK (Υ l (l.map D.int)) (Id l hl hp) AL3;show nv;exact h
theorem zrv(AT Xu):Lo zic:=by
 show zk m qs hm hz;refine Tr qD (Υ x (!(Μ (x<m)))) (Id x hx (gI x m (hz x hx) hm ?_)) ?_
 ·show EJ (!(Μ (x<m))) (P [qD x]) mv;split
  ·show AWz
  ·show AWy
 ·show Q (DE (E3 (BN (AO qs.filter _) qD)));show EK;exact h
theorem z4m{x:Rat}{xs:AA}(h:Fall (Lu)):Fall xs/\KU xs.length (Ai7<=x):=
 ⟨AOO (A9' BS),eK (A9' 0)⟩
theorem z02{m:Rat}:HL xs AA (KU xs.length (Ai7<m)) (iD xs m=0)
 | [],_=>rfl
 | Lu,h=>by
  unfold iD;have h0:=h 0 Ψ
  rw[List.filter_cons,AK (Bz h0)]
  exact z02 fun j hj=>(l_ (h (j+1) AR7) this)
theorem Tt{m:Rat}:HL f AA (Fall f) (KU f.length (m<=f.getD j 0↔j<iD f m))
 | [],_,j,hj=>AB_ hj
 | Lu,hf,j,hj=>by
  show B' h1 h2 z4m hf;show FB (m<=x)
  ·have e:iD ANo m=iD xs m+1:=AVs iD List.filter_cons (A_ A4Y)
   rw[e]
   match j,hj with
   | 0,_=>simpa using q
   | j+1,hj=>
    have:=Tt (m:=m) h1 j AR7
    rw[List.getD_cons_succ,this];omega
  ·have lt:KU xs.length (Ai7<m):=fun j hj=>Rat.not_le.mp (Ξ (q (Rat.le_trans z (h2 j hj))));have e:iD ANo m=0:=by
    unfold iD;rw[List.filter_cons,AK A4Y]
    exact z02 lt
   rw[e]
   match j,hj with
   | 0,_=>simpa using q
   | j+1,hj=>
    have:=lt j AR7
    rw[List.getD_cons_succ];constructor
    ·intro z;exact Ahd this z
    ·intro z;omega
theorem z7r(f:AA)(m:Rat):iD f m<=f.length:=CC Agw
theorem zz5{a b:AA}(h:a.Perm b)(m:Rat):iD a m=iD b m:=CC (h.filter _).length_eq
theorem zrd(OB):(nZ qs).Perm qs:=Iq List.reverse_perm _ (zdt qs)
theorem ycf{f:AA}(hf:Fall f)(e:Nat):e∈gM f↔e=0\/∃m∈f,e=iD f m:=by
 unfold gM;rw[List.mem_cons];refine or_congr_right ?_;rw[List.mem_map];constructor
 ·show AEl k hk;show AlG hk;show ATe hk h1;show BA AW' (Xa hk);have a:=(Tt (m:=AW') hf k hk).mp Rat.le_refl;have le:=z7r f (f.getD k 0);unfold Ey at h2;simp only [Bool.or_eq_true,decide_eq_true_eq] at h2;rcases h2 with h2 | h2
  ·omega
  ·show FB (k+1<f.length)
   ·have:¬k+1<iD f (f.getD k 0):=Ξ (Rat.not_le.mpr h2 ((Tt (m:=AW') hf FR q).mpr z));omega
   ·omega
 ·show AEl m hm;show xn i hi hm;have hi' :=(Tt (m:=f[i]) hf i hi).mp (S4 Tq hi Rat.le_refl)
  have le:=z7r f f[i];show CF (AXA - 1) (zE.mpr ⟨List.mem_range.mpr ψ,?_⟩) Α
  unfold Ey;show BMN Bool.or_eq_true;show FB (iD f f[i]=f.length)
  ·left;omega
  ·right;rw[GH (AXA - 1+1) AXA]
   have a:¬f[i]<=f.getD (iD f f[i]) 0:=Ξ (fw ((Tt (m:=f[i]) hf (iD f f[i]) ψ).mp z))
   have b:=(Tt (m:=f[i]) hf (AXA - 1) ψ).mpr ψ
   exact Rat.not_le.mp (Ξ (a (Rat.le_trans b z)))
theorem wR{qs:AA}{i:Int}:i∈fD qs↔i∈ArB:=by
 unfold fD;rw[List.mem_map,List.mem_cons,List.mem_map];have key:=ycf (ycj qs);constructor
 ·show AEl e he;rcases(key e).mp he with rfl | ⟨m,hm,rfl⟩
  ·left;rfl
  ·right;exact⟨m,z7d hm,Gc (zz5 (zrd qs))⟩
 ·rintro(rfl | ⟨m,hm,rfl⟩)
  ·exact Ix 0 ((key 0).mpr NR)
  ·exact Ix (iD qs m) ((key _).mpr (CY ⟨m,(zrd qs).mem_iff.mpr hm,(zz5 (zrd qs) m).symm⟩))
theorem z4w(OB):(fD qs).Pairwise (· < ·):=by
 unfold fD gM;show AEh List.map_cons List.pairwise_cons;show CS Am7
 ·show AEk k (zF.mp hi);exact Int.ofNat_lt.mpr (Nat.succ_pos k)
 ·rw[List.pairwise_map];refine(List.Pairwise.filter _ (List.pairwise_lt_range)).imp fun{a b} h=> ?_;exact Int.ofNat_lt.mpr ψ
theorem zk1:∀l:An,mR AiY=some l
 | []=>rfl
 | n::l=>by show AO mR AiY _=_;rw[zk1];rfl
theorem yj5(AT Xv):ŧ z66:=by
 obtain⟨qs,rfl,hl,hz,h⟩:=h;show KW;show CS AGQ
 refine zjs qD (Υ m (.int (iD qs m))) (Id m hm (gI m qs (hz m hm) hz hp)) ?_;show CS (by show BM (1+ BN qs.map (fun m=>D.int (iD qs m)));show EK;omega)
 show CU ArB ?_ ?_ (Κ ms hp hm)
 ·have:=zk1 (ArB);show YR List.map_cons List.map_map;exact this
 ·show AdR List.length_map;omega
 ·show Db (ms=fD qs) (z6u hp (z4w qs) (CL ((hm i).trans wR.symm)));exact h
theorem yj7(bs:EZ):(bs.map Ip).reverse=bs.reverse.map Ip:=MZ List.map_reverse
theorem yej(AbN):(va f).reverse=va (CL (f (n - i))):=by
 show UU
 ·simp
 ·show zn;rw[List.getElem_reverse];simp
theorem Yi(xs:Ε):cutD xs mt none=xs.drop 1:=by
 show AG6;dsimp only;show ZY
 cases xs with
 | nil=>rfl
 | cons x xs=>
  rw[show min (ATL 1) (ME ANo)=1 by simp]
  simp
theorem zzw(AbN):(va f).drop 1=F8 (CL (f (BQ))):=by
 rw[List.range_succ_eq_map,List.map_cons,List.drop_one,List.tail_cons,List.map_map]
 rfl
theorem zpn(AT Xw):ST zgw:=by
 obtain⟨S,n,bs,rfl,hl,hn,h⟩:=h;show VY (S.map D.int).reverse;rw[<- List.map_reverse];refine zjs D.int (Υ e (.int AGW)) (Id e he (B5 hn hp)) ?_;have eb:(S.reverse.map fun e=>D.int (n - e))=(jz S n).map T_:=Ajy jz
 rw[eb];show Qk c [pK (jz S n),.lst (bs.map Ip).reverse] (ub (bP zfj [AnG,AWg,.pu (pK (jz S n)),.pu d])) Ex;rw[yj7];refine IB (jz S n) bs.reverse (Ο List.length_reverse hl) ?_
 rw[List.length_reverse];show Q (CO (cutD (ALr _).reverse mt none));rw[Yi,yej,zzw];exact h
theorem ylq{n:Nat}(f g:kX):BIi:=by
 unfold lG;show UU
 ·simp
 ·show zn;simp
theorem yio(bs:EZ):bs.map Ip=AUL (u_ (Ip (bs.getD k km))):=by
 show UU
 ·simp
 ·show zn;show AgB h1;simp [h1]
theorem yc7:∀l:An,iZ (l.map D.int)
 | []=>BH iZ
 | i::l=>Ο List.map_cons ⟨BH qe,yc7 l⟩
theorem yjo(x:Int)(l:An):inD (DE x) (l.map T_)=l.contains x:=by
 unfold inD;rw[List.any_map,<- List.any_beq']
 congr 1
theorem ylr(l:An):(l.map D.int).all Ge=true:=XB List.all_map List.all_eq_true AUp
theorem zoy(AT Xx):NC zf6 6:=by
 obtain⟨S,n,bs,rfl,hl,hn,nS,hg,h⟩:=h;show KW;show CS AGQ
 show Pp S n bs rfl hl hn;show yL (lG (bs.map Ip) BBM) _ _ _ _ _;rw[yio,ylq];show FU (fun k Γ=>∃x y z,Γ= [AnG,AWg,Ah2 FR (.int (fk S n bs j)),x,y,z]) A1p ?_
 ·rintro k d _ hk ⟨x,y,z,rfl⟩;have hk' :k<bs.length:=by
   have:=KI hk
   rwa [List.length_map,List.length_range] at this
  show AQY (List.getElem?_range hk') hk;cases hk;show oa rfl;refine Tr D.int (Υ e (yF AOt Ais)) (Id e he ⟨_,Qp,e - AQ6,bs.getD k km,rfl,?_⟩) ?_
  ·show if yF AOt Ais=true then Alq else mv;split
   ·show AWz
   ·show AWy
  show BA (yc7 _) D5;refine Tr D.int (Υ e BFm) (Id e he (IB _ hn (ylr _) ?_)) ?_
  ·show if inD (DE AGW) ((rk ADd bs.reverse AJy).map .int)=true then Alq else mv;rw[yjo];split
   ·show AWz
   ·show AWy
  obtain⟨m1,m2⟩:=ylf nS hg hk';have mm:∀e,e∈ ((S.filter fun e=>yF AOt Ais).filter fun e=>BFm)↔e∈AYz:=fun e=>by
   rw[List.mem_filter,List.mem_filter,uQ,List.contains_iff_mem,zx7,and_assoc]
  show Pp _ AMj (zk1 _) ((mm _).mpr m1) (lS (m2 i ((mm i).mp hi))) AuR
  show∃x y z,_= [Slot.pu (pK S),AWg,Ah2 (k+1+1) (D.int (AP_ j)),x,y,z];show ALA (AtW (k+1));exact A1p
 ·rintro _ ⟨x,y,z,rfl⟩;show AiE;show Q (CO (cutD (ALr _) mt none));rw[Yi,zzw];have e:AUL (CL (D.int (AP_ BS)))=AO AUL (u_ AMj) T_:=xN
  rw[e];exact h
theorem Yj(OB):RA∈fD qs:=wR.mpr zY
theorem zw4(OB):Last (fD qs) qs.length/\ wp∈fD qs:=by
 show wS e1 (z7g (nZ qs));rw[zta] at e1;have hlt:AZQ - 1< AZQ:=Α
 rw[Tq hlt] at e1;show CS ?_
 ·unfold Last mQ fD;show AXh (BN (AO (AO gM ì) Int.ofNat) D.int) (AZQ - 1) (by
   unfold vR;show ALC List.length_map ALW ZO
   congr 1
   omega)
  rw[e];show(AO (AO gM ì) Int.ofNat D.int)[AZQ - 1]?=_;rw[List.getElem?_map,List.getElem?_map,b9 hlt,e1]
  rfl
 ·unfold fD;rw[List.mem_map];exact Ix qs.length (BE e1 (yX hlt))
theorem ye9(AX2):(rk AMO bs bs.length).contains wp=lJ qs bs:=by
 unfold lJ;have:=z10 (bs:=bs) (Yj qs) (zw4 qs).2;rw[Bool.eq_iff_iff,List.contains_iff_mem,List.contains_iff_mem];exact this
theorem yi6(AT Xy):ST z3t:=by
 obtain⟨qs,bs,rfl,hl,hz,hb,h1,h2⟩:=h;refine⟨qs,rfl,hl,hz,fD qs,bs,rfl,hb,?_⟩;show∃d,mQ (ALr (CL (pK (rk (fD qs) bs i)))) HV=some d/\_;refine IB _ Qp (ylr _) ?_;show dC (! inD (DE AuB) ((rk AMO bs bs.length).map T_));show AJk yjo ye9;by_cases g:lJ qs bs=true
 ·rw[F9 (AFm g)]
  show B' k1 k2 zw4 qs;exact⟨fD qs,qs.length,bs,rfl,hb,k1,k2,List.contains_iff_mem.mp g,h1 g⟩
 ·have g' :lJ qs bs=false:=A0 g
  rw[AEo (Gc g')]
  exact⟨AGQ,mJ qs bs,Ajy mJ,h2 g'⟩
theorem zlg(AH XC):DD:=ES
theorem znr(AH XD):DD:=ES
theorem yk2{qs:AA}{c:Nat}(h0:0<c)(hc:Awc):mQ (Adq qD) (-(AC c))=some (qD ((nZ qs).getD (c - 1) 0)):=by
 have hl:=PX qs;unfold mQ;have e:vR (BN Adq qD) (-(AC c))=some (qs.length - c):=by
  unfold vR;show ALC hl gi ZO
  congr 1;omega
 rw[e];show Ahp[qs.length - c]?=_;rw[List.getElem?_map,List.getElem?_eq_getElem ψ]
 unfold nZ;have h2:c - 1< (lV qs).reverse.length:=ATn List.length_reverse hl
 rw[Tq h2,List.getElem_reverse];simp only [hl,Option.map_some,GH (qs.length - 1 - (c - 1)) (qs.length - c)]
theorem zxj(xs:Ε)(h:0<xs.length):cutD xs none (some HV)=xs.dropLast:=by
 show AG6;simp only [List.drop_zero,Nat.sub_zero];rw[A_ Δ,List.dropLast_eq_take]
 congr 1;omega
theorem yjz{f:AA}{c:Nat}{q:Rat}(hc:c<=f.length)(h:Br f c=some q):q∈f:=by
 show Bi Br;show C5
 ·cases h
 ·cases h;exact Xa ψ
theorem zk7(AT XC):Z' zen:=by
 obtain⟨qs,cs,rfl,hl,hz,hc0,hc,h⟩:=h;show RO qs rfl hl hz;show VY (cutD (cs.map intD) none (A9 HV));rw[zxj _ (B2 List.length_map hc0),<- List.map_dropLast]
 have key:∀d∈cs.dropLast.map intD,∀P,P [ArT] ->Kd IS d7 BEZ [B1,NX Ahp] d P:=by
  intro d hd P hp;show Pc k hk hd;have hk' :=hc k (List.dropLast_subset _ hk);show AF' RA Cc
  change P [ARt (ATL Cc)] at hp
  rw[Int.toNat_natCast] at hp;by_cases h0:k=0
  ·subst h0;show ZY
   exact hp
  ·show AyH
   show U_ (yk2 ψ hk')
   unfold Br at hp;rw[AK h0] at hp;exact hp
 refine zm7 (ub [ArT]) key ?_
 rw[zo2,List.map_map];have e:(fun d:D=>ArT) ∘ intD=u_ (ARt k):=by
  funext k
  show bD (Br (nZ qs) (ATL Cc))=_;show ATC
 rw[e];have e2:GY cs.dropLast.map k (ARt k)=AO cs.dropLast.map A4g bD:=xN
 rw[e2];exact h
theorem zkl{α:Type}{p:xp}:∀{l:Au} {i:Nat},(∀j b,j<i ->ML l b ->p b=false) ->(E5 (B8 l b) (p b=true)) ->i<=l.length ->l.findIdx p=i
 | [],i,_,_,h=>by simp at h;subst h;rfl
 | x::l,0,_,h2,_=>kC List.findIdx_cons (h2 x rfl)
 | x::l,BQ,h1,h2,h3=>by
  rw[List.findIdx_cons,h1 0 x ψ rfl]
  show l.findIdx p+1=BQ;rw[zkl (fun j b hj hb=>h1 (j+1) b ψ hb) (L9 (h2 b hb)) (Bz h3)]
theorem zop(AT XD):ST zf2:=by
 show zk bs m hz hm;show ij (∃(x y:Slot),Γ= [NX (bs.map bD),ACq m,x,y]/\∀j b,j<i ->ML bs b ->A0e) (xt (fun j b hj=>Α))
 ·rintro i d _ hi ⟨x,y,rfl,hn⟩;show ALB zr5 hi;cases q:bs[i]? with
  | none=>show GG q hi hi
  | some b=>
   rw[q] at hi;cases hi;have hil:i<bs.length:=KI q;have next:A0e ->∀j b',j<BQ ->ML bs b' ->isIn m b' =false:=fun hb j b' hj e=>by
    by_cases ej:j=i
    ·subst ej;show QU;cases e;exact hb
    ·exact hn j b' ψ e
   show oa rfl;cases b with
   | none=>exact xt (next rfl)
   | some p=>
    show SW m p rfl hm (hz _ (yZ q) p rfl);show AVR m p;by_cases hw:(!(Μ (m<p)))=true
    ·show DF hw;have e:iG bs m=i:=zkl hn (fun b' hb' =>by rw[q] at hb';cases hb';exact hw) ψ
     rw[e] at h;rw[Nat.zero_add];exact h
    ·show BF hw;exact xt (next (by simpa [isIn] using hw))
 ·rintro _ ⟨x,y,rfl,hn⟩;show Q (DE (jn bs.map bD));rw[zsx] at hn;rw[List.length_map] at hn⊢;have e:iG bs m=bs.length:=zkl hn (L9 (AB_ hb)) (zO _)
  rw[e] at h;exact h
abbrev Cm(Q:ALR):pW:=Apa (Ka Q)
theorem zxv{x:Str}:∀{g:Β},AAs (inD ALz (g.map .str)) ALq
 | []=>BH inD
 | y::g=>by
  have ih:=zxv (x:=x) (g:=g);unfold inD at ih⊢;rw[List.map_cons,List.any_cons,ih];by_cases h:y=x
  ·subst h;simp [eqD]
  ·have h' :¬x=y:=Ξ (h z.symm);simp [eqD,h,h']
theorem z61(g:Β):(g.map D.str).all Ge=true:=Ο List.all_map (List.all_eq_true.mpr fun _ _=>rfl)
theorem zqt{α:Type}(f:xp):A0u (l.map fun x=> .bl (f x))
 | []=>rfl
 | C6=>O_ sW (zqt f l)
theorem Dt{α:Type}{one:nE}(f:Ų)(g:Ų):AxT (P [g a]) l.map
 | [],_,_,h=>h
 | C6,P,k,h=>Ar1 Dt
theorem Yk{α:Type}{one:nE}(f g:Ų)(p:xp):AxT (P (if ł then [g a] else [])) Ayn
 | [],_,_,h=>h
 | C6,P,k,h=>k a zY _ (Yk f g p AIX (by
   rw[List.filter_cons] at h;show FB ł
   ·show kU D' h h
   ·show kU D_ h h))
theorem ylo(AT S7):Lo z6m:=by
 show AMp g hs;refine Dt D.str (Υ x (Ach ALq)) (Id x hx ?_) ?_
 ·show BA rfl (z61 g);rw[zxv];exact hp
 ·show U_ (zqt _ hs);have e:(hs.map (US (Μ ALq))).any id=cY g hs:=BNH
  rw[e];exact h
theorem z9j{hs:Β}{h x:Str}:x∈rD hs h↔x∈hs\/x=h:=by
 unfold rD;split
 ·exact⟨.inl,fun q=>by rcases q with q | rfl;exact q;assumption⟩
 ·show Azw
theorem z1r{hs:Β}{h:Str}(nd:hs.Nodup):(rD hs h).Nodup:=by
 unfold rD;split
 ·exact nd
 ·show HQ;rw[List.nodup_append];exact BHJ nd q
theorem ycw(Aoy):IF rD hs h<=hs.length+1:=by
 unfold rD;split
 ·omega
 ·simp
theorem Du{α β:Type}{x:β}{l:EA}:(Sum.inr x:Sum α β)∈l.map Sum.inr↔x∈l:=Ο List.mem_map (ß ⟨y,h,e⟩ (by injection e with e;exact e ▸ h) A4o)
theorem Qq(Aoy):AAs (mq (hs.map .inr) xE) ox:=by
 show FB ox
 ·show wx q;exact uI.mpr (Du.mpr q)
 ·show vS q;cases z:mq (hs.map Sum.inr) (Sum.inr h:Key) with
  | false=>rfl
  | true=>show F6 (Du.mp (uI.mp z)) q
theorem zu8(Aoy):jx (hs.map .inr) xE=(rD hs h).map .inr:=by
 unfold jx rD;rw[Qq];show FB ox
 ·rw[AFj,B4,D']
 ·rw[AFi,ALW,D_,List.map_append];rfl
theorem z68{hs:Β}{xs:Ε}{h:Str}{d:D}(e:AS9 hs.length):IF rD hs h=ME (fP Ŷ xs xE d):=by
 unfold fP rD;rw[Qq];show FB ox
 ·rw[AFj,B4,D',List.length_zipWith,List.length_map,e,Nat.min_self]
 ·rw[AFi,D_,UF];simp [e]
structure Tv (rows:AW) (n:Nat) (ws:Β) (ps:AK3):Prop where
 len:Aut
 nd:ws.Nodup
 lw:ws.length<=n
 pt:BHb
 ex:A6t
theorem ztb(Apb):bY AXg w=dr++ (AY (AL=w) [r] []):=by
 unfold bY;rw[List.filter_append]
 congr 1
 show AEc AAP
theorem zxh(Apb):kW AXg w=Axr rS:=by
 unfold kW;show ALA ztb
 congr 1
 show AEc AAP
theorem ycu(vj){w:Str}(h:¬(dA AAP)):A3l:=CC (List.filter_eq_nil_iff.mpr fun r hr z=>h ⟨r,hr,of_decide_eq_true z⟩)
theorem zui(Apb):rC AXg w=Axr AR8:=by
 unfold rC;show ALA List.filter_append
 congr 1
 show AEc AAP
theorem cL{rows:AW}{w h:Str}:h∈AR8↔dA ArI:=by
 unfold rC;rw[List.mem_map];constructor
 ·rintro⟨r,hr,e⟩;show AlG hr;exact⟨r,h1,Ati,e⟩
 ·rintro⟨r,h1,h2,e⟩;exact⟨r,zE.mpr ⟨h1,Ath⟩,e⟩
theorem Tv.new{rows:AW}{ws:Β}{ps:AK3}{w:Str}(B:AfD)(hw:w∉ws):Tv rows (rows.length+1) (ws++ [w]) AzJ:=by
 refine⟨BH B.len,?_,A0 B.lw,DL q v p h1 h2,fun u q v p h1 h2=> ?_⟩
 show JE List.nodup_append (BHJ B.nd hw)
 ·by_cases hq:q<ws.length
  ·rw[List.getElem?_append_left hq] at h1;rw[A9u] at h2
   exact B.pt q v p h1 h2
  ·have hl:q< ME (ws++ [w]):=KI h1;rw[List.length_append,List.length_singleton] at hl;have hq' :q=ws.length:=Α
   subst hq';rw[Alp] at h1;show BDl
   simp at h1;simp [B.len] at h2;show ń;show CU rfl A1 FC (DI (ATF (by(cases z)) RC))
   obtain⟨r,hr,e,_⟩:=cL.mp z;exact oB (B.wm w).mpr Alx hw
 ·by_cases hq:q<ws.length
  ·rw[List.getElem?_append_left hq] at h1;rw[A9u] at h2
   exact B.ex u q v p h1 h2
  ·have hl:q< ME (ws++ [w]):=KI h1;rw[List.length_append,List.length_singleton] at hl;have hq' :q=ws.length:=Α
   subst hq';rw[Alp] at h1;show BDl
   simp at h1;simp [B.len] at h2;show ń;have:=ycu (rows:=rows) (w:=w) fun Alx=>hw ((B.wm w).mpr Alx);unfold kW;rw[this];rfl
theorem zyz{ws:Β}(nd:ws.Nodup){i j:Nat}(hi:i<ws.length)(hj:j<ws.length)(e:R_=ws[j]):i=j:=by
 show AOe nd;rcases Nat.lt_trichotomy i j with q | q | q
 ·exact NG e (key i j hi hj) q
 ·exact q
 ·exact NG e.symm (key j i hj hi) q
theorem Tv.put{rows:AW}{ws:Β}{ps:AK3}{r:Rw}{q:Nat}{p:Β×Ε}(B:Tv rows (rows.length+1) ws ps)(wm:A_d (dA (AL=v)) AL)(h1:dc ws AL)(h2:dc ps p)(d:D)(hd:d= kQ):
  M5 AXg ws (ps.set q (rD A2 At,fP Aht p.2 (CY At) d)):=by
 show AbU (B.pt q AL p h1 h2);have hq:q<ps.length:=KI h2;refine⟨Ο List.length_set B.len,B.nd,A0 B.lw,EM v,DL q' v p' e1 e2,fun u q' v p' e1 e2=> ?_⟩
 ·rw[wm v];constructor
  ·rintro(⟨r',h,e⟩ | e)
   ·show Md r' (zQ _ h) e
   ·exact Xs A1 e.symm
  ·rintro⟨r',h,e⟩;show OE (zU.mp h)
   ·show B3 ⟨r',h,e⟩
   ·rw[List.mem_singleton.mp h] at e;exact .inr e.symm
 ·by_cases Ed:q=q'
  ·subst Ed;rw[h1] at e1;cases e1;show AGh hq;cases e2;show CU (z68 b1) (z1r b2) (zP ycw (Bz b3)) AL4
   rw[z9j,zui,B4,List.mem_append,b4 h,List.mem_singleton]
  ·show Ai9 Ed;obtain⟨c1,c2,c3,c4⟩:=B.pt q' v p' e1 e2;have hv:¬AL=v:=Ξ (by
    have l1:=(zW.mp h1);have l2:=(zW.mp e1);obtain⟨l1,l1'⟩:=l1;obtain⟨l2,l2'⟩:=l2;exact BIA)
   show CU c1 c2 (A0 (AS7 c3)) AL4
   rw[c4 h,zui,ATp,List.append_nil]
 ·have u0:Eg:=(List.pairwise_append.mp u).1;by_cases Ed:q=q'
  ·subst Ed;rw[h1] at e1;cases e1;show AGh hq;cases e2;have ep:=B.ex u0 q AL p h1 h2;have hn:At∉A2:=Ξ (by
    rw[ep] at z;obtain⟨r',hr',g1,g2⟩:=fK.mp z;exact(BMR u).2.2 r' hr' r Ψ ⟨g1,g2⟩)
   rw[zxh,ztb,B4,B4];unfold rD fP;rw[AK hn,Qq,decide_eq_false hn,UF,ep,hd,List.map_append]
   rfl
  ·show Ai9 Ed;have hv:¬AL=v:=Ξ (by
    have l1:=(zW.mp h1);have l2:=(zW.mp e1);obtain⟨l1,l1'⟩:=l1;obtain⟨l2,l2'⟩:=l2;exact BIA)
   rw[zxh,ztb,ATp,ATp,List.append_nil,List.append_nil];exact B.ex u0 q' v p' e1 e2
theorem zs8{ws:Β}(nd:ws.Nodup):me ws.map Ax_:=by
 unfold List.Nodup;rw[List.pairwise_map];exact nd.imp fun h z=>h AgI
theorem z6k(AT Ql):ANs zqe 5:=by
 show AGR rows hl;show KW;intro as;show ij (BMD i) ?_
 ·exact⟨as,[],[],_,_,_,⟨rfl,A1,A1,HZ (ATF (by(cases z)) (fun(Xs hr _)=>by(simp at hr))),fun q w p e=>(by simp at e),fun _ q w p e=>AMe⟩,rfl⟩
 ·rintro i d _ hi ⟨as,ws,ps,x,y,z,B,rfl⟩;have hi' :i<rows.length:=pv pT
  show AHd;cases hi;have tk:rows.take (BQ)=rows.take i++ [sR]:=Alr
  have hlt:BN rows.take i=i:=ĝ List.length_take
  have fin:∀as ws ps,Tv (rows.take i) (BN rows.take i+1) ws ps ->(A_d (∃r∈rows.take i,AL=v) uC) ->
    zgh K c {nx:=A1z,ct:=A1z,bk:=fun Γ=>zl4 K c (Cm Q) Γ P6,rt:=XT,rT:=Ka Q}
     [dy,tI Ady,NU uC,NU sR.2.1,A3 sR.2.2] P6:=by
   intro as ws ps B wm;have hm:uC∈ws:=(wm _).mpr (CY rfl);show BD q hq eq List.mem_iff_getElem.mp hm;have hq2:q<ps.length:=AzA
   have e1:dc ws uC:=DB (b9 hq) eq
   have e2:dc ps ps[q]:=zZ hq2;show AbU (B.pt q _ _ e1 e2);have BW:=B.put wm e1 e2 (DE sR.2.2) rfl;rw[<- tk] at BW;refine⟨Agd,.inr sR.2.1,as,AMq,Amg,q,(ps[q].1).map .inr,ps[q].2,rfl,rfl,rfl,zs8 B.nd,AF_ e1,AF_ e2,ALV,?_⟩
   show LU as ws _ (NU uC) (NU sR.2.1) (A3 sR.2.2) BW;rw[zu8,List.map_set]
   rfl
  refine⟨rfl,rfl,Agd,as,AMq,Amg,rfl,rfl,?_⟩;rw[Qq];by_cases hw:uC∈ws
  ·show wx hw;refine fin as ws ps ⟨B.len,B.nd,AS7 B.lw,B.pt,B.ex⟩ (EM v);rw[B.wm v];exact⟨.inl,Ξ (by rcases z with z | rfl;exact z;exact(B.wm _).mp hw)⟩
  ·show vS hw;refine⟨Agd,as,AMq,Amg,rfl,rfl,DB Qq (decide_eq_false hw),AvS B.lw,EM cs⟩
   have:=fin Ak0 (ws++ [uC]) AzJ (Tv.new B hw) fun v=>by
    rw[List.mem_append,B.wm v,List.mem_singleton]
   show YR List.map_append List.map_append;exact this
 ·rintro _ ⟨as,ws,ps,x,y,z,B,rfl⟩;show A5f rows.take rows.map sZ rows
  rw[e] at B;exact h ws ps B
theorem zuh:∀xs:Β,uJ AjI=some xs
 | []=>rfl
 | Lu=>by show ATB;unfold uJ;rw[zuh xs];rfl
theorem yhp{xs U:Β}(h:pe xs):BN qZ xs<=U.length:=Kw (zq8 xs) (AGM (h x (yQ.mp hx)))
theorem yhu{xs U:Β}{P:Q1}(h1:xs.length<4095)(h2:Amp)(h3:pe xs)(h:A'Y (AmZ xs)):ztm [gl xs] P:=
 ⟨xs,zuh xs,h1,zM (yhp h3) ψ,h⟩
theorem zer{p:Β ->Bool}:∀fs:ID,Af7 (fs.filter p).flatten.length
 | []=>A1
 | VU=>by
  have:=zer (p:=p) fs;rw[List.filter_cons];split<;>simp only [List.flatten_cons,List.length_append]<;>omega
theorem zuy(fs:ID)(i:Nat):Af7 (fs.take i).flatten.length:=by
 conv=>rhs;rw[<- ATg fs,List.flatten_append,List.length_append]
 omega
theorem yao(AT XF):NC zup 5:=by
 obtain⟨fs,hs,U,rfl,hl,hfl,hU,u1,u2,h⟩:=h;show AG' 8000
 refine Yk gl gl Aye (Ŵ f hf) ?_
 ·show FU f hs rfl;show EJ (! ACi) (P [gl f]) mv;show FB (AEv ACi)
  ·show AHT D'
  ·show AHT D_
 ·show ij (∃x,Γ= [Azx,.pu (gl hs),NX (AO fs.filter (fun f=> ! ACi) gl),.ow ((hs++ ((fs.take i).filter AW3).flatten).map .str),x]) ⟨B1,by simp [gl];rfl⟩
  ·rintro i d _ hi ⟨x,rfl⟩;have hi' :i<fs.length:=pv pT
   show AHd;cases hi;have tk:fs.take (BQ)=fs.take i++ [Ş]:=Alr
   show FU Ş hs rfl;show if AOA Ş then _ else _;show FB (AOA Ş)
   ·show DF q;show FU D5 ?_ (.pu (gl Ş))
    ·have h1:=zer (p:=AW3) (fs.take BS);have h2:=zuy fs BS;rw[tk,List.filter_append,List.flatten_append,List.length_append] at h1;simp only [List.filter_cons,q,if_true,List.filter_nil,List.flatten_cons,List.flatten_nil,List.append_nil] at h1;rw[tk] at h2;show AJk List.length_append List.length_map;omega
    ·show A6_;show BBq if_true List.filter_nil List.flatten_cons;rw[<- List.append_assoc,List.map_append (l₂:=Ş)]
     rfl
   ·show BF q;show CS (.pu (gl Ş));show A6_;show BBq Bool.false_eq_true if_false List.filter_nil
    rfl
  ·rintro _ ⟨x,rfl⟩;show A5f fs.take fs.map gl fs
   rw[e];have hx:AQE (hs++ (fs.filter AW3).flatten) (x∈hs\/AY_ (AOA f/\AFU)):=fun x=>by
    rw[List.mem_append,List.mem_flatten];constructor
    ·rintro(a | ⟨f,hf,a⟩)
     ·show B3 a
     ·show AlG hf;exact .inr (u8 f h1 a)
    ·rintro(a | ⟨f,h1,h2,a⟩)
     ·show B3 a
     ·show DJ ⟨f,zE.mpr ⟨h1,h2⟩,a⟩
   unfold zo5;dsimp only [aJ,cj,cC,cV,cB,cT,pY,Ec,lZ,jr,uf,lD,yu,ao,aj,dN,gA,dW,lE,aW,nP,eG,aU,fC,hName,gY,bw,gZ,ug,qR,aC,cU,jm,jh,fj,iR,cM,fJ,dO,oO,yM,Df,yC,GQ,BP,pZ,rY,yO,cI,wI,yx,Bj,oN,G4,G5,gC,um,nR,ur,uw,List.length,List.set_cons_zero,List.set_cons_succ,List.getElem?_cons_zero,List.getElem?_cons_succ,jT,pF,yD,Dg,wD,tR,vZ,uE,lF,jt,qW,wF,xV,Dh,nU,xW,gF,ju,Bm,Hi,Bl,uF,uG,iL,iJ,jP,sX,d7,List.map,List.append,List.cons_append,List.nil_append];refine yhu (U:=U) ?_ hU (MR x q) (bX ms s2)
   ·have:=zer (p:=AW3) fs;rw[List.length_append];omega
   ·rcases(hx x).mp q with a | ⟨f,h1,_,a⟩
    ·exact u1 x a
    ·exact u2 f h1 x a
   ·show BA Ahx ?_
    ·have:=List.length_filter_le Aye fs;show EK;omega
    ·have:=h ms s1 fun x=>Iq s2 x (hx x);show AJ List.map_append;exact this
theorem Ng{g:Β}(h:AKt g.Pairwise):g.Nodup:=h.imp fun{a b} q z=>(ASV zwl)
theorem Yl(a b:Str)(h:ä):¬(jb b a):=Ο (zyk h) zK
theorem zy8(AfZ){Ss JW :ID}(F:Fam rows Ss)(F' :Fam cO JW)(e:∀r,r∈rows↔r∈cO):AoV :=fun S hS=>by
 show A4 r hr k F.of S hS;obtain⟨S',hS',k'⟩:=F'.to r ((e r).mp hr);show CF S' hS' (EM x);rw[k x,k' x,cL,cL];exact AAS (Xs h q) (Xs ((e r).mp h) q) (Xs h q) (Xs ((e r).mpr h) q)
theorem wO.sub(BJD):qf (m∈pQ) :=ARa (by
 obtain⟨Ss,F,p⟩:=h.pi;obtain⟨JW,F',p'⟩:=h'.pi;obtain⟨m',hm',k⟩:=p.same p' (zy8 F F' e) (zy8 F' F (KF (Nw e r))) hm;rw[WX Yl (h.sr m hm) (h'.sr m' hm') k];exact hm')
theorem wO.uniq(BJD):ms=pQ :=
 WX (R:=se AqD) (fun a b q=>Yl _ _ q) h.up h'.up fun m=>⟨h.sub h' e m,h'.sub h (QY (Nw e r)) m⟩
theorem ydj{f:Β}(h:f≠ []):hdS f∈f:=by
 cases f with
 | nil=>show ŭ h
 | cons x f=>exact zY
theorem zy3:∀{fs:ID},(AOg (f≠ [])) ->Anz ->me fs.map hdS
 | [],_,_=>A1
 | VU,ne,d=>by
  rw[List.pairwise_cons] at d;rw[List.map_cons,List.nodup_cons];show BO RC (zy3 (fun g hg=>A8e) d.2);show X0 g hg (zF.mp z);exact d.1 g hg (hdS f) (ydj (ne f zY)) (e ▸ ydj (ne g (zX _ hg)))
theorem z25:HL fs ID (AOg (f≠ [])) (Af7 fs.length)
 | [],_=>A1
 | VU,ne=>by
  have:=z25 (fs:=fs) fun g hg=>A8e;have h1:0<f.length:=List.length_pos_iff.mpr (ne f zY);rw[List.length_cons,List.flatten_cons,List.length_append];omega
theorem zz0{Ss fs:ID}{U:Β}(p:AG0)(h:AJz (pe S)):AOa (pe f):=fun f hf x hx=>by
 show PU S hS ((p.co x).mp (AGw hx));exact h S hS x q
theorem z0o{Ss fs:ID}{U:Β}(p:AG0)(nd:AOa f.Nodup)(h:AJz (pe S)):fs.flatten.length<=U.length:=
 Kw (zk8 p.dj nd) (AGM (by
  show AT4 f hf q hx;exact zz0 p h f hf x q))
theorem Ym:∀l:Ε,lB (l.map .leaf)=l
 | []=>rfl
 | d::l=>by show ATB;unfold lB;rw[Ym l];rfl
theorem zm2{α:Type}(f:α ->T):nL (lB (l.map f)=l.map (US (toD (f x))))
 | []=>rfl
 | d::l=>by show ATB;unfold lB;rw[zm2 f l];rfl
theorem z9n(hs:Β):AO hs.map Ax_ nJ=hs.map .str:=xN
theorem yae(AT XH):ANs zvg 3:=by
 obtain⟨rows,U,rfl,hl,hU,hu,h⟩:=h;refine IB FC rows hl A4e;show D7 hpU p ps (((A2).Nodup/\A2≠ []/\pe A2)/\Az1 A2) p hp (by
  show BAZ hp;have hq2:q<ws.length:=Ο B.len hq
  show AbU (B.pt q _ p (zZ hq2) A0l)
  obtain⟨r,hr,er⟩:=(B.wm ws[q]).mp (yX hq2);show CU ⟨b2,RC,AlZ⟩ r hr (US (Ο er (b4 x)))
  ·have:=(b4 At).mpr (cL.mpr (wP r hr er));show AJ z;show DC
  ·obtain⟨r',h1,_,h3⟩:=cL.mp ((b4 x).mp hx);exact h3 ▸ hu r' h1)
 have few:∀i,∀S∈ AO ps.take i (·.1),pe S:=fun i S hS x hx=>by
  show Pc p hp hS;exact(hpU p (List.mem_of_mem_take hp)).1.2.2 x hx
 show ij (∃fs x,mG ((ps.take i).map (·.1)) fs/\ (AOg (AKt f.Pairwise))/\Γ= [dy,Azx,x]) ⟨[],_,A0 mG.nil,fun f hf=>by(cases hf),rfl⟩
 ·rintro i d _ hi ⟨fs,x,p,sr,rfl⟩;rw[zm2] at hi;have hi' :i<ps.length:=pv pT
  show AHd;cases hi;have tk:ps.take (BQ)=ps.take i++ [Mn]:=Alr
  obtain⟨⟨q1,q2,q3⟩,_⟩:=hpU Mn (yX hi');have l1:=Kw q1 q3;have l2:=z0o p BB_ (few i);have l3:=z25 p.ne;refine⟨fs,Mn.1,U,?_,Α,Α,hU,q3,zz0 p (few i),Κ g g1 g2⟩
  ·rw[z9n];rfl
  ·refine⟨AHa (cY f Mn.1)++ [g],_,?_,AD f hf,rfl⟩
   ·rw[tk,List.map_append];exact p.step q2 g2
   ·show AqF
    ·exact sr f (ALb hf)
    ·show UZ hf;exact g1
 ·rintro _ ⟨fs,x,p,sr,rfl⟩;have e:ps.take (BN lB Acp)=ps:=by rw[zm2,List.length_map,List.take_length]
  rw[e] at p;have abC :∀S∈ps.map (·.1),pe S:=è (few ps.length) List.take_length
  have l2:=z0o p BB_ abC;have l3:=z25 p.ne;refine⟨fs,rfl,p.ne,zy3 p.ne p.dj,Α,fun ms pm up=>h ms ⟨ARa (sr m (pm.mem_iff.mp hm)),up,_,AyN,p.perm pm⟩⟩
  ·show Pc p hp hS;exact(hpU p hp).2
  ·have hw:=(B.wm AL).mpr AnW;show BAZ hw;have hq2:q<ps.length:=AzA
   show AbU (B.pt q AL ps[q] A0l (zZ hq2))
   exact⟨ps[q].1,zF.mpr (G1 (yX hq2)),b4⟩
theorem q27{q z k:Rat}(k0:k≠0)(e:q*k=z):q=z/k:=by rw[<- e,Rat.div_def,Rat.mul_assoc,AEr k0,Rat.mul_one]
def GZ(B:Nat)(q:Rat):Prop:=SE z (q*27720=AKG/\AjC)
theorem GZ.add(BFV):GZ (A+B) (p+q):=by
 obtain⟨a,ea,ha⟩:=h1;obtain⟨b,eb,hb⟩:=h2;show w9 (a+b) Α
 rw[Rat.intCast_add,<- ea,<- eb];grind
theorem GZ.sub(BFV):GZ (A+B) (p - q):=by
 obtain⟨a,ea,ha⟩:=h1;obtain⟨b,eb,hb⟩:=h2;show w9 (a - b) Α
 rw[Rat.intCast_sub,<- ea,<- eb];grind
theorem GZ.mono{A B:Nat}{q:Rat}(h:GZ A q)(l:A<=B):AEU:=by
 show FV a ea ha;exact⟨a,ea,zP ha l⟩
theorem z3o{B:Nat}:ApB AEU (GZ (qs.length*B) (dH qs))
 | [],_=>Aks (ka dH)
 | AGt,h=>by
  refine((h q zY).add (z3o AiD)).mono ?_;show Akq;omega
theorem Qs{n:Nat}(h1:1<=n)(h2:n<=12):n* (27720/n)=27720:=by
 match n,h1,h2 with
 | 1,_,_=>rfl
 | 2,_,_=>rfl
 | 3,_,_=>rfl
 | 4,_,_=>rfl
 | 5,_,_=>rfl
 | 6,_,_=>rfl
 | 7,_,_=>rfl
 | 8,_,_=>rfl
 | 9,_,_=>rfl
 | 10,_,_=>rfl
 | 11,_,_=>rfl
 | 12,_,_=>rfl
theorem z6x{t:Int}{n B:Nat}(h1:1<=n)(h2:n<=12)(ht:t.natAbs<=B):AFz B (AIY/ AFr):=by
 have e:=Qs h1 h2;show My n0 AFr (by
  show AGp n
  omega)
 show BA (t* Cl (27720/n)) ?_
 ·have e' :BU 27720=AFr* OT (27720/n):=by exact_mod_cast e.symm
  rw[e',Rat.intCast_mul,Rat.div_def,Rat.mul_assoc,<- Rat.mul_assoc (Inv.inv AFr),Ŕ n0,Rat.one_mul]
  rfl
 ·show Af3;refine Nat.mul_le_mul ht ?_;rw[Int.natAbs_natCast];exact Nat.div_le_self _ _
theorem ydl{t:Int}{B:Nat}(ht:t.natAbs<=B):AFz B AIY:=by
 show BA (t*27720) (Gc Rat.intCast_mul)
 rw[Int.natAbs_mul];exact Nat.mul_le_mul ht (zO _)
theorem yfe{B n:Nat}{q:Rat}(h:AEU)(hB:B<2^n):cP q.num<=n/\cP fR<=15:=by
 show FV z e hz;have eq:q=Az6:=q27 Δ e
 have b1:cP z<=n:=kZ ψ
 have f:=A5g Δ
 have e1:(fr z 27720).1=_:=Av_;have e2:(fr z 27720).2=_:=Av';show Amv;rw[eq];show BO (AXl b1) (zP (A7G ?_) (kZ Δ))
 ·rw[<- e1];exact yds Δ
 ·rw[<- e2];exact ydc Δ
theorem Tw{B n:Nat}{q:Rat}(h:AEU)(hB:B<2^n)(hn:15<=n):Sz n q:=⟨(yfe h hB).1,zP (yfe h hB).2 hn⟩
theorem KD{B n:Nat}{q:Rat}(h:AEU)(hB:B<2^n)(hn:n<=128):SzE q:=by
 show CS (zP (yfe h hB).1 hn);show FV z e hz;have eq:q=Az6:=q27 Δ e
 have f:=congrArg Prod.snd (A5g Δ)
 dsimp only at f;rw[eq,<- f];exact⟨dv z 27720,Ο Int.mul_comm (RZ z 27720).symm⟩
theorem yf3{n:Nat}(h:1<=n):qD (ALj/ AFr)= fc HV n:=by
 have f:=WW (t:= -1) (b:=D6) ψ
 have e1:(fr HV D6).1=_:=Av_;have e2:(fr HV D6).2=_:=Av';show Amv;have g:dv HV D6=1:=by unfold dv;show BF ψ;simp
 have t1:=zyp HV D6;have t2:=RZ HV D6;rw[g,Int.one_mul] at t1 t2;unfold qD;have c:(ALj/ AFr)=pp (-1) (E3 n):=rfl;rw[c,<- e1,<- e2,t1,t2]
theorem z0f{α:Type}(f:CD):nL (AuW=HE)
 | []=>rfl
 | C6=>by show C4+AuW=C4+HE;rw[z0f f l]
theorem Yn(AZ7):Em (ABi M6)=some (Ù kW w .inr,li fun r=> kQ):=rfl
theorem zrm(AT M7):Lo zid:=by
 obtain⟨rows,ws,h0,rfl,h⟩:=h;refine Yk AVC AVC (mo AJO) (Ŵ w hw) h;show SW _ _ (.inr h0) ALn rfl;rw[Qq];show FB kH
 ·show AHT AFj
 ·show AHT AFi
theorem Iw{rows:AW}(L:UK){w:Str}(h:AFs):1<=AJ3/\ AJ3<=12:=Ο SM ⟨List.length_pos_iff.mpr h,L.wk w⟩
theorem yf7(AT XJ):NC z0j 5:=by
 obtain⟨rows,ws,h0,o0,rfl,L,⟨W1,W2⟩,h⟩:=h;show KW;refine⟨rows,ws,h0,rfl,rows,GY ws.filter w AJO,o0,rfl,?_⟩
 let both:=(ws.filter AU7).filter (HZ (Μ ASK))
 show D7 hb w both AFs w hw (W2 w (ALb (ALb hw)));have hbl:both.length<=200:=zP (zP AAH (List.length_filter_le _ _)) W1
 let f:DO:=HZ (ALj/ Ahh)
 show D7 gz w both (GZ 27720 (f w)) w hw (by
  have:=z6x (t:= -1) (B:=1) (APB hb).1 (APB hb).2 Δ
  show AJ Nat.one_mul;exact this)
 have gs:∀k,GZ Aia (dH ((both.map f).take k)):=fun k=>by
  refine(z3o y_).mono (A9t (A5z Auf hbl))
  show uS w hw Az7;exact gz w hw
 have e2:ANg=aq ws A4z:=by
  rw[z0f];rw[Im,Im];show AFw w;by_cases q1:kH
  ·by_cases q2:ASK<;>simp [q1,q2]
  ·simp [q1]
 have e3:(aq IZ fun s=>(HK (h0∈s/\o0∈s) (1/ kr)))= - ANg:=by
  rw[e2,Bp];have: - (aq ws A4z)=aq ws (HZ (HV* (AY (kH/\ASK) (f w) 0))):=VC Gf
  rw[this];show AFw w;split
  ·show 1/ Ahh=HV* (ALj/ Ahh);rw[Rat.div_def,Rat.div_def];have:ALj= -1:=rfl;rw[this];grind
  ·grind
 have pw:∀n,23<=n ->200*27720<2^n:=fun n hn=>zN (AFe (200*27720<2^23)) (Nat.pow_le_pow_right Δ hn)
 refine Dt AVC (mo (fc HV (Cl AJ3))) (Id w hw ?_) ?_
 ·show RO _ _ ALn Ÿ
  show EK;exact hp
 show RO (both.map f) ?_ y_ BGy
 ·show nv;show AMk congrArg (Hb [D.lst z]) AkC;exact Nw yf3 (APB hb).1
 ·show Aop;exact Tw (gz w hw) AmY Δ
 have gt:=gs Auf;rw[List.take_length] at gt;show CS fb
 rw[Gj];show Hc h0 o0
 ·subst q;show wx rfl;have eb:both.length=BN ws.filter AU7:=by
   show BN (ws.filter AU7).filter AU7=_;rw[List.filter_filter];simp
  have ec:iK IZ h0=BNN:=by
   unfold iK;rw[Bp,eb];have:=Gg (α:=Str) 1 (l:=Ai4 AJO);show AJ Im;show AJ Rat.mul_one;show gc;exact Aw8 kH
  show Pp Ÿ BMx ANg ?_ ?_ (Tw gt BLh Δ)
  ·rw[MK,List.length_map]
  ·exact A7r (zM (AhI (P_ (Cl both.length)<=200*27720)) (pw 4000 Δ))
  ·have:BMx+ANg=d8 IZ h0 h0:=by
    unfold d8;rw[B4,e3,ec];show BNN+_=_
    grind
   rw[this];exact h
 ·show vS q;have:ANg=d8 IZ h0 o0:=AMo d8 D_ e3
  rw[this];exact h
theorem z9r(AT XM):Z' zul:=by
 obtain⟨rows,ws,m,h0,rfl,L,W,h⟩:=h;refine Dt D.str (Υ o (ARv h0)) (Ŵ o ho) h;exact⟨rows,ws,h0,o,rfl,L,W,hp⟩
theorem zub{α:Type}(f:α ->Int):nL (mR (l.map fun a=> .int (f a))=some (l.map f))
 | []=>rfl
 | C6=>by unfold List.map mR;rw[zub f l];rfl
theorem zsc{α:Type}(f:α ->Int):nL (CB A1j=AL_ (BU C4))
 | []=>rfl
 | C6=>by
  show AyS Rat.intCast_add (zsc f l);rfl
theorem zxe(p_)(f:α ->Int){B:Nat}:ABM ((f a).natAbs<=B) (P_ (A1j)<=l.length*B)
 | [],_=>A1
 | C6,h=>by
  have h1:=h a zY;have h2:=zxe f (l:=l) (FM A0s);show AyS List.length_cons Nat.add_mul;omega
theorem zxa(AT XQ):ŧ zlv:=by
 show zk rows w L ne;have hp:=List.length_pos_iff.mpr ne;have h12:=L.wk w;refine⟨_,_,GY li r L6,ALn,zub _ _,_,_,ALn,_,_,rfl,?_,?_,?_⟩
 ·have:=À (zxe (A0z) (B:=2^100) (l:=dr)) A9v;refine AKs 104 (zM this ?_)
  exact zM Ay7 Δ
 ·rw[List.length_map,SM];exact AKs 4 ψ
 ·show ALC SM gi zsc
  exact h
theorem yav{L:AW}{h:Str}:gH AXK (AQ8 kQ) xE=AO L.find? (KF AWS) AUy:=by
 induction L with
 | nil=>rfl
 | cons r L ih=>
  rw[List.map_cons,List.map_cons,List.find?_cons];unfold gH;show AXj
  ·rw[A_ (by rw[q]),AFj];rfl
  ·rw[F9 (Ξ (q AgI)),AFi];exact ih
theorem z52(A6G)(BGo):dA (AL=w/\At=h/\gH BNX (li fun r=> kQ) xE=some (DE L6)/\ANr h=Qb):=by
 obtain⟨r,hr,e1,e2⟩:=fK.mp hh;show SW r hr e1 e2 ?_
 ·unfold kW;show nv;have:=yav (L:=dr) (h:=h);show gH (li fun r=> .inr At) _ _=_;rw[this];cases q:(bY rows w).find? fun r=>AWS with
  | none=>
   have:=List.find?_eq_none.mp q r (aX.mpr ⟨hr,e1⟩);simp [e2] at this
  | some s=>
   have s1:=aX.mp (List.mem_of_find?_eq_some q);have s2:Sm=h:=A0 (List.find?_some q)
   rw[yfo u s1.1 hr ((s1.2).trans e1.symm) (s2.trans e2.symm)];rfl
 ·have:=zz2 u hr;show YR e1 e2;exact this
theorem Nh(vj)(u:Eg)(w:Str):cF AMG (ABi yW)=Ak2/ û:=by
 unfold cF;rw[SM,yea]
 congr 1
 show ik;have:=zz2 u vy;show AJ AM2;rw[this]
theorem z71{rows:AW}(L:UK){w:Str}(ne:AFs):AFz (2^104) (Ak2/ û):=by
 have hp:=List.length_pos_iff.mpr ne;have h12:=L.wk w;have:=À (zxe (A0z) (B:=2^100) (l:=dr)) A9v;rw[<- zsc];refine z6x hp h12 (zP this (zP Ay7 Δ))
theorem z5k(vj)(u:Eg)(L:UK)(BGo):AFz (2^105) (ANr h - cF AMG (ABi yW)):=by
 obtain⟨r,hr,e1,e2,_,ey⟩:=z52 u hh;rw[ey,Nh u];have ne:AFs:=Ξ (by
  have:=aX.mpr ⟨hr,e1⟩;show AJ z;show DC)
 exact((ydl (B:=2^104) (zP (Nat.le_of_lt (L.mm r hr)) Δ)).sub (z71 L ne)).mono Δ
theorem z85(AT XR):Lo zvv:=by
 obtain⟨rows,ws,h0,rfl,u,L,⟨W1,W2⟩,h⟩:=h;show KW;have pw:∀n,128<=n ->200* AVr<2^n:=fun n hn=>zN (AFe (200* AVr<2^128)) (Nat.pow_le_pow_right Δ hn)
 let wh:=Ai4 AJO
 show D7 Qt w wh (w∈ws/\kH) w hw ⟨ALb hw,of_decide_eq_true (zE.mp hw).2⟩
 let f:DO:=HZ (ANr h0 - cF AMG (ABi yW))
 refine IL rows ws h0 ?_;refine Dt AVC (mo (qD (f w))) (Id w hw ?_) ?_
 ·obtain⟨r,hr,e1,e2,lk,ey⟩:=z52 u (AHM Qt);refine⟨_,_,.inr h0,kQ,ALn,rfl,lk,Ÿ,rows,w,rfl,L,W2 w (Qt w hw).1,?_⟩
  show SW (CB L6) _ (MZ MK) ?_ (Tw (z71 L (W2 w (Qt w hw).1)) AmY Δ)
  ·exact Sh (Axk L.mm) Δ
  ·rw[<- Nh u,<- ey];exact hp
 ·have gs:∀k,GZ (200* AVr) (dH ((wh.map f).take k)):=fun k=>by
   refine(z3o y_).mono (A9t (A5z (BN wh.map f) (zP AAH W1)))
   show uS w hw Az7;exact z5k u L (AHM Qt)
  show RO (wh.map f) xN y_ BGy
  ·show Aop;exact Tw (z5k u L (AHM Qt)) AmY Δ
  ·have:dH (wh.map f)=mH AJC AJD ws h0:=by
    rw[z0f];rw[Im];exact LV w (by by_cases q:kH<;>simp [q,f])
   rw[this];exact h
theorem zsb{α:Type}{B:Nat}{f:CD}:ABM (GZ B (f a)) (GZ (l.length*B) (aq l f))
 | [],_=>Aks AVm
 | C6,h=>by
  refine((h a zY).add (zsb (FM A0s))).mono ?_;show Akq;omega
theorem Yo(B:Nat):GZ B 0:=Aks E8
theorem ydw{rows:AW}{ws:Β}(W:AD_)(h:Str):GZ Aia (iK IZ h):=by
 unfold iK;rw[Bp];show Axs AkB;split
 ·have:=ydl (t:=1) (B:=1) Δ
  show AJ Nat.one_mul;exact this
 ·exact Yo _
theorem ybs(vj){ws:Β}(L:UK)(W:AD_)(h o:Str):AFz 400 (d8 IZ h o):=by
 have g1:AFz 200 (AY (h=o) (iK IZ h) 0):=by
  split
  ·exact ydw W h
  ·exact Yo _
 have g2:GZ Aia (aq IZ fun s=>(HK AHk (1/ kr))):=by
  rw[Bp];show Axs AkC;split
  ·have:=z6x (t:=1) (B:=1) (APB W.2).1 (APB W.2).2 Δ
   show AJ Nat.one_mul;exact this
  ·exact Yo _
 exact(g1.sub g2).mono Δ
theorem yfn{rows:AW}{ws:Β}(u:Eg)(L:UK)(W:AD_)(h:Str):GZ (200* AVr) BEk:=by
 refine(zsb (B:=2^105*27720) AkB).mono (Nat.mul_le_mul_right _ W.1);split
 ·show HQ;exact z5k u L q
 ·exact Yo _
theorem zrk{α β:Type}[ZE α](g:AU2)(l:Au):l.map g=Kj l.length (DA (g (l.getD j default))):=by
 show UU
 ·simp
 ·show zn;show AyR;have hi:i<l.length:=A0 h1
  rw[List.getD_eq_getElem?_getD,SU];rfl
theorem ya4(x:D)(xs:Ε):cutD ANo mt none=xs:=by
 show AG6;simp
theorem zl7(AT XS):NC zff 5:=by
 obtain⟨rows,ws,m,rfl,S,L,W,ne,m12,h⟩:=h;show KW;obtain⟨h0,hs,em⟩:∃h0 hs,m=Đ:=by
  cases m with
  | nil=>show ŭ ne
  | cons a b=>exact Ix a b
 have hn:m.length=hs.length+1:=AL7
 have gs:∀i,m.getD BS default=hs.getD i default:=CL AL7
 have ct:cutD (m.map D.str) mt none=hs.map D.str:=Ο em (ya4 _ _)
 let A:=nA rows ws m
 show VY A6Q;rw[ct];refine Dt D.str (LZ AmH) (Id h hh ⟨rows,ws,m,h,rfl,L,W,hp⟩) ?_;show VY A6Q;rw[ct];refine Dt D.str (LZ AZ4) (Id h hh ⟨rows,ws,h,rfl,S.u,L,W,hp⟩) ?_;have ec:∀h,iK IZ h=CB (BN ws.filter (HZ AgT)):=DI (by
  unfold iK;rw[Bp];have:=Gg (α:=Str) 1 (l:=Ai4 AgT);show YR Im Rat.mul_one;refine Eq.trans ?_ this;exact Aw8 ĉ)
 show bP zd3 [ANZ,.pu (v8 rows ws),NX (Ald AmH),NX (Ald AZ4),B1];show VY (m.map D.str);refine Dt D.str (LZ A9I) (Id h hh ?_) ?_
 ·show SW rows ws h rfl Ÿ
  rw[ec,MK] at hp;show EK;exact hp
 unfold zef;dsimp only [aJ,cj,cC,cV,cB,cT,pY,Ec,lZ,jr,uf,lD,yu,ao,aj,dN,gA,dW,lE,aW,nP,eG,aU,fC,hName,gY,bw,gZ,ug,qR,aC,cU,jm,jh,fj,iR,cM,fJ,dO,oO,yM,Df,yC,GQ,BP,pZ,rY,yO,cI,wI,yx,Bj,oN,G4,G5,gC,um,nR,ur,uw,List.length,List.set_cons_zero,List.set_cons_succ,List.getElem?_cons_zero,List.getElem?_cons_succ,jT,pF,yD,Dg,wD,tR,vZ,uE,lF,jt,qW,wF,xV,Dh,nU,xW,gF,ju,Bm,Hi,Bl,uF,uG,iL,iJ,jP,sX,d7,List.map,List.append,List.cons_append,List.nil_append];have l1:hs.length<=1000:=Α
 show SW Ahx AvR Ÿ Ahx AvR
 have Yp:Ajv (oU m.length (A i)= .lst (ğ o BDw)):=fun i hi=>by
  unfold oU;rw[zrk (Υ o BDw) m];show AMk congrArg D.lst AHI;show qD (Aqg i j)=_;unfold nA;rw[kq List.mem_range.mp hj]
 have idx:KU m.length (m.idxOf Ani=j):=fun j hj=>(AMa AUl (S.nm.idxOf_getElem j hj))
 have conv:∀(X:Pf) i,cZ m.length (Υ j (AFn*X j))=cZ m.length (DA (AFn*X (m.idxOf Ani))):=fun X i=>MN fun j hj=>by rw[idx j hj]
 refine⟨m.length,A,⟨?_,m12,EX i j hi hj⟩,DL y k hk y1 hy,Κ X hX hsz⟩
 ·have t1:Io m.length m.length A= .lst (Su (ğ h A9I)++Ajo AmH):=by
   unfold Io;rw[hn,List.range_succ_eq_map,List.map_cons,List.map_map,<- hn,Yp 0 ψ]
   rw[zrk (LZ (D.lst (m.map fun o=>(ARv h)))) hs];refine congrArg D.lst ?_;show BY=BY;refine List.cons_eq_cons.mpr (E7 (Acx Am7));show ATe hi' hi;show oU m.length (A BS)=_;rw[Yp BS ψ]
   show AMk congrArg D.lst (AD o _);rw[AK ψ,gs]
  have t2:oU m.length (ï (A i m.length))= .lst ([fc 0 1]++Ajo AZ4):=by
   unfold oU;rw[hn,List.range_succ_eq_map,List.map_cons,List.map_map,<- hn];rw[zrk (LZ AZ4) hs];have a0:A 0 m.length=CB 0:=by
    show nA rows ws m 0 m.length=_;unfold nA;rw[AZk,B4];rfl
   refine congrArg D.lst ?_;show qD (A 0 m.length)::_=BY;rw[a0,MK];refine List.cons_eq_cons.mpr (E7 (Acx Am7));show qD (Aqg BS m.length)=_;unfold nA;rw[AZk,gi,gs]
  rw[t1,t2]
  rfl
 ·show SzE (Aqg i j);unfold nA;split
  ·show A7t (KD (ydw W _)) 23 (KD (ybs L W _ _)) 24
  ·show A7t (KD (Yo 0)) 1 (KD (yfn S.u L W _)) 128
 ·have z:=S.null (LZ (y (m.idxOf h))) (NS hi (by
   have:=hy i hi;show AJ conv;exact this)) (m.getD k default) (Xa hk)
  rw[idx k hk,y1] at z;exact AUn z
 ·have a:=S.ans (LZ (X (m.idxOf h))) (NS hi (by
   have:=hX i hi;show AJ conv;exact this))
  have e:oU m.length X= .lst (ğ h AzX):=by
   unfold oU;rw[zrk (LZ AzX) m];exact congrArg D.lst (List.map_congr_left (eK (MZ (idx j (List.mem_range.mp hj)))))
  rw[e];show APV hsz;exact h _ a.1 a.2 ⟨d,d0,bd,fun g hg=>hd _ (List.idxOf_lt_length_of_mem hg)⟩
theorem ye6(ms:ID):toD A2M= .lst (ms.map gl):=Ŧ toD Ym
theorem wO.sys(AOw)(G:ĩ)(u:Eg)(A_w):(ô (XN ->BKw))/\∀ws:Β,ws.Nodup ->(AaU (∃r∈AOf,AAP)) ->uT MU ws m:=by
 show ANU;have cl:Ak6:=fun r hr hh h hk=>by
  show ABK S hS e F.to;show A4 f hf sub p.sub S hS;have h1:bv f:=sub _ ((e _).mpr (cL.mpr BLp));have h2:h∈f:=sub _ ((e _).mpr hk);rw[Sw p.dj hm hf hh h1];exact h2
 show BO cl (fun ws nw hw=>⟨u.M m,nw,RU ((hw _).mpr AnW),Ng (G.sr m hm),RU AGa,AD h hh,Κ C hC hx⟩)
 ·obtain⟨S,hS,hs⟩:=(p.co h).mp ⟨m,hm,hh⟩;show APU;obtain⟨r',hr',_,e2⟩:=AAv h hs;exact⟨r',fu.mpr ⟨hr',Ο e2 hh⟩,e2⟩
 ·have key:=p.min (Υ x (x∈m ->C x)) (fun S hS hx y hy ym=> ?_) m hm (by
   obtain⟨x,h1,h2⟩:=hx;exact Ē x (C8 h2))
  ·exact AGM (key x hx hx)
  ·show APU;show A4 f hf sub p.sub S hS;have fm:m=f:=Sw p.dj hm hf ym (sub y hy);show D7 Yq z S (z∈m) z hz (Ο fm (sub z hz))
   have same:∀z,z∈S↔z∈kW MU AL:=Ξ (by
    rw[fK];constructor
    ·intro hz;obtain⟨r',h1,h2,h3⟩:=AAv z hz;exact u8 r' (fu.mpr ⟨h1,Ο h3 (Yq z hz)⟩) h3
    ·rintro⟨r',h1,h2,h3⟩;exact(e z).mpr (cL.mpr (u8 r' (fu.mp h1).1 h3)))
   obtain⟨x,hx1,hx2⟩:=hx;obtain⟨r',h1,h2,h3⟩:=fK.mp ((same x).mp hx1);exact hC AL ((hw _).mpr (Ē r' h2)) ⟨x,(same x).mp hx1,hx2 (Yq x hx1)⟩ y ((same y).mp hy)
theorem yks{rows:AW}{m:Β}{w:Str}:bY MU w=(bY rows w).filter (KF AgS):=by
 unfold bY ofM;rw[List.filter_filter,List.filter_filter];exact BNM r (Bool.and_comm _ _)
theorem ygd{rows:AW}{m:Β}{w:Str}(h:kA rS m):bY MU w=dr:=by
 rw[yks];refine List.filter_eq_self.mpr (RU (decide_eq_true (h _ ?_)));exact fK.mpr ⟨r,vy,AM2,rfl⟩
theorem ymc{rows:AW}{m:Β}{h:Str}(hm:AQ2):nY MU h=AYC:=by
 unfold nY ofM;show Af6;show Ahj r _;show AXj
 ·simp [q,hm]
 ·simp [q]
theorem ylu{rows:AW}{m:Β}{x:DO}(cl:Ak6){h:Str}(hm:AQ2)(e:qt MU x h):vv:=by
 show ATJ e;rw[ymc hm] at e;rw[<- e];show ik;show AZS;rw[ygd (cl r hr'.1 (B2 hr'.2 hm))]
theorem z95(vj){x y:DO}{h:Str}(e:∀r∈AYC,∀s∈AI_ bY,TH=y Sm)(q:vv):qt rows y h:=by
 show ATJ q;rw[<- q];show ik;show AZS;have e1:=e r hr r (aX.mpr (sD hr'.1));rw[e1];have e2:aq ACx (Kx s (cS s) (y Sm))=aq ACx fun s=>cS s - TH:=ji fun s hs=>(MZ (e r hr s hs))
 rw[e2]
theorem LB.M(vj)(L:UK)(m:Β):LB (ofM rows m):=by
 show CF (zP AAH L.few) (RU (L.mm r (fu.mp hr).1)) (EM w);rw[yks];exact zP AAH (L.wk w)
theorem ydf(BFo):ps=ws.map (HZ Ae4):=by
 show UU
 ·rw[List.length_map];exact B.len.symm
 ·show zn;have hw:i<ws.length:=Ο B.len h1
  rw[List.getElem_map];exact B.ex u i R_ Mn (zZ hw) (zZ h1)
theorem yh2(p:Β×Ε):toD (zu p)= .dic Aht p.2:=by
 unfold zu toD;rw[Ym]
structure Gm (rows:AW) (m:Β) (x:DO):Prop where
 ev:O0 vv
 em:AHN
 sz:AsX
theorem Gm.congr{rows:AW}{m:Β}{x y:DO}(cl:Ak6)(g:Gm rows m x)(e:O0 (x h=y h)):Gm rows m y:=by
 show w9 (ANV (z95 (fun r hr s hs=>e _ ?_) (g.ev h hh))) (by show APV g.sz;exact⟨d,d0,bd,ANV (BE (e h hh) (hd h hh))⟩)
 ·show AZS;have hs' :=aX.mp hs;exact cl r hr'.1 (B2 hr'.2 hh) _ (fK.mpr (wP s hs'.1 hs'.2))
 ·have:=g.em;unfold Gh at this⊢;show gc;exact À ji (e _ AGa).symm
theorem z2e{hs:Β}{x y:DO}(e:AMC (x h=y h)):gO hs x=gO hs y:=by
 unfold gO;rw[List.map_congr_left (g:=DI (qD (y h))) (ANV (by rw[e h hh]))]
theorem z0z{hs:Β}{h:Str}{x:DO}(n:h∉hs):T.dic (jx Ŷ xE) ((fP Ŷ (Ald AQ7) xE (qD (x h))).map .leaf)=gO (hs++ [h]) x:=by
 rw[zu8];unfold rD fP gO;rw[AK n,Qq,decide_eq_false n,UF];simp
theorem zpf{α:Type}{l:Au}(Ajd):l.take (BQ)=l.take i++ [l[i]]:=BKk UX
theorem wO.hand(BDz){m:Β}(hm:m∈ms){x:Str}(hx:x∈m):AJX x:=by
 show ANU;obtain⟨S,hS,hs⟩:=(p.co x).mp ⟨m,hm,hx⟩;show APU;obtain⟨r',hr',_,e2⟩:=AAv x hs;exact⟨r',hr',e2⟩
theorem z1a(AT X3):ANs zpl 6:=by
 obtain⟨rows,U,rfl,u,L,hU,hr,h⟩:=h;show KW;have few:=L.few;intro as;show zjr K c (Cm Q) [dy,tI (.dic [] []),B1,B1,B1,B1] P6;refine⟨rows,U,rfl,Α,Α,hr,AD ms G⟩
 simp only [ye6];show ANU;have nd:ms.flatten.Nodup:=zk8 p.dj fun f hf=>Ng (G.sr f hf);show ij (∃(as:AR) (x:DO) (y2 y3 y4 y5:Slot),(∀m∈ms.take i,Gm rows m x)/\Γ= AYw y2 y3) (A6Y lx (ARa (AB_ hm)))
 ·rintro i d _ hi ⟨as,x,y2,y3,y4,y5,hg,rfl⟩;have hi' :i<ms.length:=pv pT
  show AHd;cases (hi);have hm:AFJ∈ms:=yX hi';have apart:∀h∈AFJ,h∉ ü:=fun h hh z=>by
   have:=nd;show AyX (ATg ms) this;refine this.2.2 h z h ?_ rfl;refine List.mem_flatten.mpr ⟨AFJ,?_,hh⟩;show Awk;exact zY
  have cl:=(G.sys u hm).1;have tk:ms.take (BQ)=ms.take i++ [AFJ]:=zpf hi';have fl:A3I=ü++AFJ:=by rw[tk,List.flatten_append];simp
  generalize em:AFJ=m at*;show D7 sub z m (z∈U) z hz BHk
  have ndm:m.Nodup:=Ng (G.sr m hm);have m12:m.length<=12:=zP (Kw ndm sub) hU;show zia K c _ (AYw ANZ y3) _;show VY (rows.map sZ);refine Yk sZ sZ (QY AgS) (Ŵ r hr) ?_
  ·refine IB AKL ž (z61 m) ?_;show dC (AY false _ (inD (.str At) (m.map .str)));rw[zxv];show FB XN
   ·show AHT AFj
   ·show AHT AFi
  show CU AOf rfl (zP AAH ψ) A4e
  have ep:=ydf B (u.M m);have ex:A3J=ws.map (M6 (ofM rows m)):=by
   show AEh zm2 ep;exact BNL w (yh2 _)
  show FU AMq A3J (by simp only [toD];rfl)
  rw[ex];have W:zy MU ws:=⟨zP B.lw (L.M m).few,fun w hw z=>by
   obtain⟨r,h1,h2⟩:=(B.wm w).mp hw;have:=Al9;show AJ z;cases (this)⟩
  show zf7 K c _ (AYw ANZ Ap2) _;refine⟨AOf,ws,m,rfl,(G.sys u hm).2 ws B.nd B.wm,L.M m,W,p.ne m hm,m12,EX xm ev sm sz⟩
  let x' :DO:=Ξ (if z∈m then xm z else x z)
  show D7 ex1 z m (x' z=xm z) z hz (A_ hz);show D7 ex0 z ü (x' z=x z) z hz (AK (fun q=>apart z q hz));have gm:Gm rows m x' :=Gm.congr cl ⟨AXU (ylu cl hz (ev z hz)),sm,sz⟩ (AXU (ex1 z hz).symm);show D7 gms f (ms.take (BQ)) (Gm rows f x') f hf (by
   rw[tk] at hf;show AqF
   ·exact Gm.congr (G.sys u (List.mem_of_mem_take hf)).1 (hg f hf) (AXU (ex0 z (List.mem_flatten.mpr (AGw hz))).symm)
   ·show UZ hf;exact gm)
  have ez:lG (m.map D.str) (m.map (DI (qD (xm h))))=m.map (DI (UH (.str h) Aic)):=by
   unfold lG;show UU
   ·simp
   ·intro j h1 h2;simp only [List.getElem_zipWith,List.getElem_map];rw[ex1 _ (List.getElem_mem _)]
  show yL (lG (m.map D.str) (ğ h (qD (xm h)))) (ACg (EI 4) 5) (zh6 K c) _ _ (AYw ANZ Ap2);rw[ez];have fll:(ms.take i).flatten.length+m.length<=1000:=by
   have h1:(A3I).Nodup:=by
    show AyX (List.take_append_drop BS ms) nd;exact nd.1
   have:=Kw h1 (U:=U) fun z hz=>by
    show AT4 f hf hzf hz;obtain⟨r,g1,g2⟩:=G.hand (List.mem_of_mem_take hf) hzf;rw[<- g2];exact hr r g1
   show YR fl List.length_append;omega
  show FU (fun j Γ=>∃(as:AR) (y4 y5:Slot),Γ= [dy,tI (gO (ü++m.take j) x'),ANZ,Ap2,y4,y5]) ⟨as,y4,y5,?_⟩ ?_
  ·rw[List.take_zero,List.append_nil,z2e fun z hz=>ex0 z hz]
  ·rintro j d _ hj ⟨as,z4,z5,rfl⟩;have hj' :j<m.length:=pv (KI hj)
   show AQY (b9 hj') hj;cases (hj);have nn:m[j]∉ ü++m.take j:=Ξ (by
    show JA (zU.mp z)
    ·exact apart _ (yX hj') z
    ·show AOe ndm;show X0 q hq (List.mem_iff_getElem.mp z);rw[List.length_take] at hq;rw[List.getElem_take] at e;exact key q j ψ hj' ψ e)
   refine⟨rfl,rfl,Ix as _,.inr m[j],as,_,AUv fun h=>Aic,rfl,rfl,?_,?_⟩
   ·show AJk List.length_append List.length_take;omega
   ·show FU as (NU m[j]) (.pu (qD (x' m[j])));show [Slot.pu (eE rows),Slot.tr as (T.dic (jx (AUv .inr) (CY m[j])) ((fP (AUv .inr) (AUv fun h=>Aic) (CY m[j]) (qD (x' m[j]))).map .leaf)),_,_,_,_]=_;rw[z0z nn,List.append_assoc,<- zpf hj']
  ·rintro _ ⟨as,z4,z5,rfl⟩;rw[List.length_map,List.take_length,<- fl];exact A6Y x' gms
 ·rintro _ ⟨as,x,y2,y3,y4,y5,hg,rfl⟩;show AyV hg;exact h ms x ⟨G,Aqv ev,Aqv em,Aqv sz⟩
theorem Qu{n:Nat}(i j:Int):lu n ŕ (DE j):=by cases n<;>simp [lu]
theorem Ni:AmO= [97,98,99,100,101,102,103,104,105,106,107,108,109,110,111,112,113,114,115,116,117,118,119,120,121,122]:=Mb
theorem Qw:BN Str.ofString "abcdefghijklmnopqrstuvwxyz"=26:=by
 show BKt cps.size=26;rw[<- Array.length_toList,Ni];rfl
def J1(b:Bool):Int:=HK b 1
theorem Yr{i:Int}{k:Nat}(h:Alh)(hk:k<=9000:=by decide):AVO:=zP (kZ h) hk
theorem z29{α:Type}{f:Ų}{xs:Au}{k:Nat}(h:k<xs.length):mQ (xs.map f) Cc=some (f xs[k]):=rR (AF_ UX)
theorem Ys{k:Nat}(h:k<26):mQ AmO Cc=some (97+k):=by
 refine rR ?_;rw[Ni];have:∀k:Fin 26,EH [97,98,99,100,101,102,103,104,105,106,107,108,109,110,111,112,113,114,115,116,117,118,119,120,121,122] k.1 (97+k.1):=AQ
 exact this ⟨k,h⟩
theorem Yt{i:Int}(h:0<=i/\i<26):Ę AmO (97+i.toNat):=by
 have e:i=Cl i.toNat:=Α
 have:=Ys (k:=i.toNat) ψ
 rw[<- e] at this;exact this
def txt(An6):Str:=⟨XG F8 f⟩
theorem z9l(An6):txt n f++ (⟨#[f n]⟩:Str)=txt NO f:=by
 show(⟨XG F8 f++ #[f n]⟩:Str)=⟨XG va f⟩
 congr 1
 show ALA List.range_succ;simp
theorem yfx{n m:Nat}{f g:On}(h:txt n f=txt m g):n=m/\KU n (f j=g j):=by
 have e:F8 f=Kj m g:=by
  have:=congrArg (fun s:Str=>s.cps.toList) h
  simpa [txt] using this
 have l:n=m:=A0 (xc List.length)
 subst l;show U1 rfl j hj;have:=xc (Υ l l[j]?)
 simpa [hj] using this
theorem yif(An6):IF txt n f=n:=by
 show(F8 f).toArray.size=n;simp
theorem z8z{α:Type}{g:HI α}{m:Nat}(h:A1s (g i=g j)):me (Kj m) g:=by
 refine z0w (R:=se (a≠b)) List.nodup_range (Apc (n (h a b (List.mem_range.mp ha) (List.mem_range.mp hb) e)))
theorem zxt(AT S8):NC zgg 10:=by
 show Cb n m hm h h;show AG' 1000
 let L:Str:=kP "abcdefghijklmnopqrstuvwxyz"
 have main:∀sz:Nat,1<=sz/\sz<=8 ->bP zez [AUA,A3 m,AMR,A3 sz,B1,B1,B1,B1,B1,B1]:=by
  intro sz hsz;unfold zez;dsimp only [aJ,cj,cC,cV,cB,cT,pY,Ec,lZ,jr,uf,lD,yu,ao,aj,dN,gA,dW,lE,aW,nP,eG,aU,fC,hName,gY,bw,gZ,ug,qR,aC,cU,jm,jh,fj,iR,cM,fJ,dO,oO,yM,Df,yC,GQ,BP,pZ,rY,yO,cI,wI,yx,Bj,oN,G4,G5,gC,um,nR,ur,uw,List.length,List.set_cons_zero,List.set_cons_succ,List.getElem?_cons_zero,List.getElem?_cons_succ,jT,pF,yD,Dg,wD,tR,vZ,uE,lF,jt,qW,wF,xV,Dh,nU,xW,gF,ju,Bm,Hi,Bl,uF,uG,iL,iJ,jP,sX,d7,List.map,List.append,List.cons_append,List.nil_append];show BA A2x Α
  show BD at_ ea hat (KA Nf (n.fdiv 24) n sz) ψ
  rw[ea]
  let one:Bool:=A7p
  let num:g9:=DA ((n.fdiv 24*48271+ SI* SI*69621+ SI*7).fmod 2147483647)
  let f:AH5 Nat:=fun k j=>97+ ((num j+ Cc*AfM SI).fmod 26).toNat
  let ln:On:=u_ (sz+k* (ae AEu))
  have RQ:∀k,k<20 ->ln k<=28:=fun k hk=>by
   show sz+k* (ae AEu)<=28;split<;>omega
  let nm:HI Str:=u_ (txt (ln k) (f k))
  have inj:A1s (nm i=nm j):=fun i j hi hj e=>by
   show B' e1 e2 yfx e;have e1' :sz+i* (ae AEu)=sz+j* (ae AEu):=e1;by_cases o:AEu
   ·rw[A_ o] at e1';omega
   ·have e3:=e2 at_ (AeK (at_<sz+_))
    have e3' :A5_ Ic=A5_ SI:=e3;rw[decide_eq_true rfl] at e3';have ob:one=false:=A0 o
    rw[ob] at e3';show AG7 l1 (num at_+ Ic*AoW) 26
    show AG7 l2 (num at_+ SI*AoW) 26
    have b1:AoW=1:=rfl;rw[b1,Int.mul_one] at l1 l2;rw[b1,Int.mul_one,Int.mul_one] at e3';rw[AvH] at e3' l1 l2
    rw[AvH] at e3'
    omega
  show CS FC;show RO AAg (fun k Γ=>∃(x1 x2 x3 x4:Slot),Γ= [AUA,A3 m,AMR,A3 sz,AUB,AbS,x1,x2,x3,x4]) ⟨_,_,_,_,rfl⟩ ?_
  ·rintro k _ hk ⟨x1,x2,x3,x4,rfl⟩;have abD:k<20:=Α
   rw[Int.zero_add];show BA (AcF (WN 3)) ş
   dsimp only [aJ,cj,cC,cV,cB,cT,pY,Ec,lZ,jr,uf,lD,yu,ao,aj,dN,gA,dW,lE,aW,nP,eG,aU,fC,hName,gY,bw,gZ,ug,qR,aC,cU,jm,jh,fj,iR,cM,fJ,dO,oO,yM,Df,yC,GQ,BP,pZ,rY,yO,cI,wI,yx,Bj,oN,G4,G5,gC,um,nR,ur,uw,List.length,List.set_cons_zero,List.set_cons_succ,List.getElem?_cons_zero,List.getElem?_cons_succ,jT,pF,yD,Dg,wD,tR,vZ,uE,lF,jt,qW,wF,xV,Dh,nU,xW,gF,ju,Bm,Hi,Bl,uF,uG,iL,iJ,jP,sX,d7,List.map,List.append,List.cons_append,List.nil_append];rw[Nb];have hb:(AY (A7p=true) Rs 0)=Cl A8U:=by
    show(AY AEu Rs 0)=_;split<;>rfl
   rw[hb];show CS A5t
   have hr:AC sz+ Cc* Cl A8U=Cl (ln k):=DB Int.natCast_add Int.natCast_mul
   rw[hr];have abR:=RQ k abD;show RO AAg (fun j Γ=>∃x3 x4,Γ= [AUA,A3 m,AMR,A3 sz,AUB,AbS,ALk,NU (txt j (f k)),x3,x4]) (G1 _) ?_
   ·rintro j _ hj ⟨y3,y4,rfl⟩;have abS:j<28:=Α
    rw[Int.zero_add];have bj:cP SI<=64:=AKs 5 ψ
    unfold zhd;dsimp only [aJ,cj,cC,cV,cB,cT,pY,Ec,lZ,jr,uf,lD,yu,ao,aj,dN,gA,dW,lE,aW,nP,eG,aU,fC,hName,gY,bw,gZ,ug,qR,aC,cU,jm,jh,fj,iR,cM,fJ,dO,oO,yM,Df,yC,GQ,BP,pZ,rY,yO,cI,wI,yx,Bj,oN,G4,G5,gC,um,nR,ur,uw,List.length,List.set_cons_zero,List.set_cons_succ,List.getElem?_cons_zero,List.getElem?_cons_succ,jT,pF,yD,Dg,wD,tR,vZ,uE,lF,jt,qW,wF,xV,Dh,nU,xW,gF,ju,Bm,Hi,Bl,uF,uG,iL,iJ,jP,sX,d7,List.map,List.append,List.cons_append,List.nil_append];show Pp A2x AGZ (.inl bj) AGZ (.inl bj) AQ
    unfold zfb;dsimp only [aJ,cj,cC,cV,cB,cT,pY,Ec,lZ,jr,uf,lD,yu,ao,aj,dN,gA,dW,lE,aW,nP,eG,aU,fC,hName,gY,bw,gZ,ug,qR,aC,cU,jm,jh,fj,iR,cM,fJ,dO,oO,yM,Df,yC,GQ,BP,pZ,rY,yO,cI,wI,yx,Bj,oN,G4,G5,gC,um,nR,ur,uw,List.length,List.set_cons_zero,List.set_cons_succ,List.getElem?_cons_zero,List.getElem?_cons_succ,jT,pF,yD,Dg,wD,tR,vZ,uE,lF,jt,qW,wF,xV,Dh,nU,xW,gF,ju,Bm,Hi,Bl,uF,uG,iL,iJ,jP,sX,d7,List.map,List.append,List.cons_append,List.nil_append];show CS ş;have step:∀t:Bool,t=(Μ (SI=AQl)&& ! one) ->xR Cc (J1 t)/\ WN 26/\∃ch:Nat,BM L.length/\mQ L.cps.toList ((num j+ Cc*J1 t).fmod 26)=some ch/\ BM (IF txt j (f k)+ ME Ay2)/\∃z3 z4,[Slot.pu (DE n),A3 m,AMR,A3 sz,AUB,AbS,ALk,NU (txt j (f k)++ Ay2),A3 j,Ay_]= [AUA,A3 m,AMR,A3 sz,AUB,AbS,ALk,NU (txt (j+1) (f k)),z3,z4]:=fun t et=>by
     have hch:=Yt (Ā (num j+ Cc*J1 t) 26 Δ)
     refine⟨A5t,AQ,_,by show KM (L.length=26) Qw;omega,hch,by rw[yif];show BM (j+1);omega,A3 j,Ay_,?_⟩
     subst et;rw[gS ((97+ ((num j+ Cc*AfM SI).fmod 26).toNat)=f k j),z9l]
    rw[Nb];show Hc SI AQl
    ·show wx q;rw[AFj] at step;show BA AQ ş
     rw[Nb];exact step _ rfl
    ·show vS q;rw[AFi] at step;exact step false rfl
   ·rintro _ ⟨y3,y4,rfl⟩;show ATC;show Pp D5 (by show Aji List.length_map;omega) ALk (NU (txt (ln k) (f k))) y3 y4
    rw[List.range_succ,List.map_append,List.map_append]
    rfl
  ·rintro _ ⟨x1,x2,x3,x4,rfl⟩;rw[Int.toNat_natCast];exact h _ Ψ (z8z inj)
 unfold zgg;dsimp only [aJ,cj,cC,cV,cB,cT,pY,Ec,lZ,jr,uf,lD,yu,ao,aj,dN,gA,dW,lE,aW,nP,eG,aU,fC,hName,gY,bw,gZ,ug,qR,aC,cU,jm,jh,fj,iR,cM,fJ,dO,oO,yM,Df,yC,GQ,BP,pZ,rY,yO,cI,wI,yx,Bj,oN,G4,G5,gC,um,nR,ur,uw,List.length,List.set_cons_zero,List.set_cons_succ,List.getElem?_cons_zero,List.getElem?_cons_succ,jT,pF,yD,Dg,wD,tR,vZ,uE,lF,jt,qW,wF,xV,Dh,nU,xW,gF,ju,Bm,Hi,Bl,uF,uG,iL,iJ,jP,sX,d7,List.map,List.append,List.cons_append,List.nil_append];unfold zh7;dsimp only [aJ,cj,cC,cV,cB,cT,pY,Ec,lZ,jr,uf,lD,yu,ao,aj,dN,gA,dW,lE,aW,nP,eG,aU,fC,hName,gY,bw,gZ,ug,qR,aC,cU,jm,jh,fj,iR,cM,fJ,dO,oO,yM,Df,yC,GQ,BP,pZ,rY,yO,cI,wI,yx,Bj,oN,G4,G5,gC,um,nR,ur,uw,List.length,List.set_cons_zero,List.set_cons_succ,List.getElem?_cons_zero,List.getElem?_cons_succ,jT,pF,yD,Dg,wD,tR,vZ,uE,lF,jt,qW,wF,xV,Dh,nU,xW,gF,ju,Bm,Hi,Bl,uF,uG,iL,iJ,jP,sX,d7,List.map,List.append,List.cons_append,List.nil_append];show BA ⟨AQ,AKs 2 Δ⟩ AQ
 show BD t8 e8 h8 (KA Nf (n.fdiv 3) n 8) Δ
 show KM ((n.fdiv 3).fmod 8=AC t8) e8;unfold zh8;dsimp only [aJ,cj,cC,cV,cB,cT,pY,Ec,lZ,jr,uf,lD,yu,ao,aj,dN,gA,dW,lE,aW,nP,eG,aU,fC,hName,gY,bw,gZ,ug,qR,aC,cU,jm,jh,fj,iR,cM,fJ,dO,oO,yM,Df,yC,GQ,BP,pZ,rY,yO,cI,wI,yx,Bj,oN,G4,G5,gC,um,nR,ur,uw,List.length,List.set_cons_zero,List.set_cons_succ,List.getElem?_cons_zero,List.getElem?_cons_succ,jT,pF,yD,Dg,wD,tR,vZ,uE,lF,jt,qW,wF,xV,Dh,nU,xW,gF,ju,Bm,Hi,Bl,uF,uG,iL,iJ,jP,sX,d7,List.map,List.append,List.cons_append,List.nil_append];show BA AQ ş
 split
 ·exact main 1 ψ
 ·have:=main (1+t8) ψ
  show AJ Int.natCast_add;exact this
theorem zrj(AT X4):Lo zib:=by
 show AMp i j;show BA (fun m Γ=>∃a b:Int,Γ= [A3 a,A3 b]/\0<=a/\0<=b/\m=b.natAbs/\Int.gcd a b=Aci) ⟨_,APO,A9W,rfl,BMS,BMS,rfl,?_⟩
 ·have e1:APO=AC i.natAbs:=by split<;>omega
  have e2:A9W=AC j.natAbs:=by split<;>omega
  rw[e1,e2];rfl
 rintro m _ ⟨a,b,rfl,ha,hb,rfl,hg⟩;show dC (Μ (0<b));by_cases hz:0<b
 ·show Z_ hz
  have h0:ñ:=Α
  refine⟨h0,_,ze2 h0,b,a.fmod b,rfl,hb,?_,rfl,DB zzf hg⟩
  rw[Int.fmod_eq_emod_of_nonneg _ hb];exact Int.emod_nonneg _ h0
 ·show fT hz
  have:b=0:=Α
  show UT;rw[Int.gcd_zero_right] at hg;have e:a=AKM:=Α
  rw[e];exact h
theorem zjn{x:Str ->D}{h:Str}:∀{hs:Β},gH Ŷ (hs.map x) xE=Afz ox (some (x h))
 | []=>rfl
 | g::hs=>by
  show AXT;unfold gH;show Hc g h
  ·rw[A_ (by rw[q]),PH if_pos q List.mem_cons_self,q]
  ·rw[F9 (Ξ (q AgI)),zjn (hs:=hs)]
   by_cases p:ox
   ·rw[A_ p,AtJ if_pos p]
   ·rw[AK p,AK (Ξ (by
     show JA AKH
     ·exact q z.symm
     ·exact p z))]
theorem z21(AT Qm):Z' zq0:=by
 obtain⟨i,j,rfl,b1,b2,hj,h⟩:=h;rw[<- ykx hj] at h;show FU i j rfl;show B' d0 d1 (n_ zvx) hj;show dC (Μ (j<0));by_cases hn:j<0
 ·show Z_ hn
  have e:dv i j=0 - AKM:=by unfold dv;show DF hn;omega
  exact⟨ADg,ADg,AKl,BE e h⟩
 ·show BBe
theorem z6q(AOw){x x' :DO}(G:ĩ)(ev:qf (O0 vv))(em:qf AHN)(ev' :qf (O0 (qt rows x' h)))(em' :qf A1o):∀h∈ms.flatten,x h=x' h:=by
 intro h hh;show AT4 m hm hx hh;show ANU;show AG8 all (D9 (∃m∈ms,XN)) (by
  show ABK S hS e F.to;exact(p.co At).mpr ⟨S,hS,A3K⟩)
 refine z8h (WS hr ?_) (WS hr ?_) (em m hm) (em' m hm) A8j (fun g hg=>G.hand hm hg) h hx
 ·show ABK m hm h all;exact ev m hm _ h
 ·show ABK m hm h all;exact ev' m hm _ h
 ·refine p.min C (DL S hS hx b hb) m hm hx;obtain⟨a,ha,ca⟩:=hx;show APU;obtain⟨r1,h1,h2,h3⟩:=AAv a ha;obtain⟨r2,g1,g2,g3⟩:=AAv b hb;rw[<- g3];exact BIs
theorem vQ.sz{N:Nat}{d:Int}{q:Rat}(h:AN4)(d0:Ŝ)(bd:iA<=N):Sz N q:=by
 show FV t rfl bt;exact R9 d0 bt bd
theorem vQ.up{M N:Nat}{d:Int}{q:Rat}(h:vQ M d q)(l:M<=N):AN4:=by
 show FV t e bt;exact⟨t,e,zP bt l⟩
theorem vQ.add{N:Nat}{d:Int}{p q:Rat}(h1:vQ N d p)(h2:AN4):vQ (N+1) d (p+q):=by
 show gL t bt h1;show MI rfl bu h2;show BA (t+u) (by rw[Rat.intCast_add,Rat.div_def,Rat.div_def,Rat.div_def,Rat.add_mul])
 have:=Vn t u;omega
theorem vQ.sum{N:Nat}{d:Int}:ApB AN4 (vQ (N+qs.length) d (dH qs))
 | [],_=>⟨0,by show Me=CB 0/_;rw[Rat.div_def];show Me=0*_;rw[Rat.zero_mul],FC⟩
 | AGt,h=>by
  have h1:=vQ.sum (qs:=qs) AiD;exact((h q zY).up (Nat.le_add_right _ _)).add h1
theorem vQ.less{N:Nat}{d m:Int}{q:Rat}(h:AN4)(d0:Ŝ)(bd:iA<=N)(hm:m.natAbs<2^100):vQ (N+101) d (MW - q):=by
 show FV t rfl bt;show BA (m*d - t) ?_
 ·show My dz ww (AjB d0)
  rw[Rat.intCast_sub,Rat.intCast_mul,Rat.div_def,Rat.div_def,Rat.sub_eq_add_neg,Rat.sub_eq_add_neg,Rat.add_mul,Rat.mul_assoc,AEr dz,Rat.mul_one,Rat.neg_mul]
 ·have:=zlh (m*d) t;have:=yw m d;have:=kZ hm;omega
theorem Lean.mem(AOw){x:DO}(G:UC){r:Rw}(hr:AD'):bv ms.flatten:=by
 show AjS;show ABK T hT e F.to;obtain⟨f,hf,hx⟩:=(p.co At).mpr ⟨T,hT,A3K⟩;exact List.mem_flatten.mpr ⟨f,hf,hx⟩
theorem wO.small(BDz){U:Β}{n:Nat}(hU:U.length<=n)(hr:D9 (bv U))(A_w):m.length<=n:=
 zP (Kw (Ng (G.sr m hm)) (AXU BHk)) hU
theorem KH{c:Prop}[Decidable c]{a b:Prop}(h:¬c)(k:b):A6z:=Ο wt k
theorem KJ{c:Prop}[Decidable c]{a b:Prop}(h:c)(k:a):A6z:=Ο Œ k
theorem z67{l:AA}(h:1<=l.length):∀q∈mids l,q∈l:=by
 intro q hq;unfold mids at hq;split at hq
 ·simp only [List.mem_singleton] at hq;subst hq;exact Tj ψ
 ·show AHo hq;show gT hq rfl
  ·exact Tj ψ
  ·exact Tj ψ
theorem zyv(l:AA):BN mids l<=2/\mids l≠ []:=BM6 mids
theorem fU.look{c:Cls}{S:fU}{b:Ř}:∃fs xs,AOS= .obj c.ak fs xs/\AG1 "kept_leanings" S.leans/\AG1 "marks" S.marks/\AG1 "sheets" S.sheets/\AG1 "scale" S.scale/\AG1 "rule" S.rule/\AG1 "gap" S.gap/\ AVl "must_have"/\ AVl "leaning"/\ AVl "mark"/\ AVl "grade":=by
 cases b with
 | none=>exact BJo
 | some d=>exact BJo
theorem zkw(AT X5):Lo zeo:=by
 obtain⟨S,b,hand,ks,ys,rfl,hk,hq⟩:=h;obtain⟨fs,xs,e,h1,_⟩:=AY0;rw[e];exact⟨rfl,S.leans,h1,ks,ys,hk,Δ,.inr hand,rfl,hq⟩
theorem ygr{ks:De}{ys:Ε}{k:Key}{d:D}(h:AmJ ys):AG4:=by
 induction ks generalizing ys with
 | nil=>cases (h)
 | cons a r ih=>
  cases ys with
  | nil=>cases (h)
  | cons y ys=>
   show Bi gH;unfold mq;show Hc a k
   ·simp [q]
   ·simp only [q,if_false,Bool.false_eq_true] at h;have:=ih h;unfold mq at this;simp [this]
theorem zig(AT X6):Lo zdm:=by
 obtain⟨S,b,work,ks,ys,rfl,hk,hw,hq⟩:=h;obtain⟨fs,xs,e,_,h1,_⟩:=AY0;rw[e];refine⟨rfl,S.marks,h1,ks,ys,.inr work,hk,rfl,?_⟩;rw[hw];exact hq
theorem zps(AT Tc):Lo zgt:=by
 obtain⟨S,b,work,ks,ys,d,rfl,hk,hl,hq⟩:=h;obtain⟨fs,xs,e,_,h1,_,_,_,_,nm,_⟩:=AY0;rw[e];have hh:mq ks AUP=true:=ygr hl;refine⟨rfl,nm,S,b,work,ks,ys,ADh,hk,hh,?_⟩
 exact⟨rfl,S.marks,h1,ks,ys,.inr work,d,hk,rfl,hl,hq⟩
theorem znj(AT X7):Lo zf3:=by
 obtain⟨S,bs,work,ks,ys,d,rfl,hk,hl,zd,zb,hq⟩:=h;exact⟨rfl,Cj bs,rfl,rfl,AQ,S,some (Cj bs),work,ks,ys,_,rfl,hk,hl,bs,d,rfl,zb,zd,hq⟩
theorem zoj(AT Yb):ANs zf4 1:=by
 obtain⟨S,ws,v,bs,rfl,em,so,Tz,zv,zb,hq⟩:=h;show KW;obtain⟨fs,xs,e,_,h2,_,_,_,_,_,_,n1,n2⟩:=BKb (some (Cj bs));rw[e];refine⟨rfl,S.marks,h2,ws,ws.map fun w=>VV,AL7,Ng so,Tz,Κ ms pm so2⟩
 show Db (ms=ws) (WX Yl so2 so (US pm.mem_iff));refine Dt D.str (mo (Zs w VV (AHe bs))) (Ŵ w hw) hq;have lk:gH (ms.map .inr) (ms.map fun w=>VV) (CY w)=some (qD (v w)):=DB (zjn (x:=HZ VV)) (A_ hw)
 refine⟨rfl,n1,S,_,w,ms.map .inr,ms.map fun w=>VV,_,ADh,AL7,lk,rfl,n2,S,bs,w,ms.map .inr,ms.map fun w=>VV,v w,ADh,AL7,lk,zv w hw,zb,?_⟩
 exact⟨AXm,hp⟩
theorem ycv(L:AW):pH AXK (L.map AUy)=L.map (KF (.tup AzY)):=AVs pH List.zipWith_map List.zipWith_self
theorem z4b(Aa'):D.dik Ŷ (lB (Ayo .leaf))=Aa hs x:=Gc Ym
theorem zjh{α:Type}(f:α ->T):nL (ql (l.map f)=l.map (s0 (jy (f a))))
 | []=>LJ
 | C6=>by rw[List.map_cons,ql,zjh f l];rfl
theorem zt9(Aa'):jy (gO hs x)=Aa hs x:=by
 unfold gO jy;rw[List.map_map,zjh]
 rfl
theorem jQ.dn(c:Cls)(S:jQ)(b:Ř):jy (jQ.t c S b)=fU.d c S.pl b:=by
 cases b<;>simp only [jQ.t,jQ.ts,fU.d,jQ.pl,fU.xs,jy,ql,List.cons_append,List.nil_append]
theorem ydo{α:Type}(f:CD):nL (iZ (l.map (s0 (qD (f a)))))
 | []=>we
 | C6=>CC ⟨A7Y,ydo f l⟩
theorem zzj:∀l:Β,iZ (l.map D.str)
 | []=>we
 | C6=>Ο List.map_cons ⟨BH qe,zzj l⟩
theorem yeg(AGm):qe (qD q):=A7Y
theorem yih(Asr):Ij Arx:=by
 show qm _;unfold Iu;induction ws with
 | nil=>trivial
 | cons w ws ih=>exact⟨⟨we,yeg _,we,we⟩,ih⟩
theorem z6h(l:Ε):toD (ACW l.map)= .lst l:=Ŧ toD Ym
theorem yje{n:Nat}(ws:Β)(v:DO)(bs:YA):lu (n+3) (CO AbG) (CO AbG):=by
 show ABZ;show AGV;cases h2;unfold Iu at h1;show AiC;cases q1:ws[i]? with
 | none=>show GG q1 h1 h1
 | some w=>
  rw[q1] at h1;cases h1;intro j x y g1 g2;rw[g1] at g2;cases g2
  match j with
  | 0=>show A1X
  | 1=>simp at g1;subst g1;exact yky _ _
  | 2=>show A1X
  | j+3=>simp at g1
theorem zk6(AT Yc):ANs zep 1:=by
 show QP S bs rfl hq;exact MQ rfl (Cj bs) hq
theorem zm0{qs:AA}{i:Nat}(h:i<qs.length):AIW i 0∈qs:=AYI (Tj (B2 PX h))
theorem yfs(AT S9):Z' zsv:=by
 obtain⟨r,qs,g,rfl,hg,hl,hz,hr,hs,h⟩:=h;show oa r;show D7 z4 q qs (Sr q) q hq (AYT hz)
 show AYq;show AF' AuB AbZ;show EK;unfold Ir oV at h;by_cases hf:qs.length< AbZ
 ·show og hf;rw[AEo A7c]
  exact⟨AQ,h⟩
 ·show U' hf;have h1:1<=qs.length:=by split at hf<;>omega
  have ne:qs≠ []:=Ξ (by rw[z] at h1;cases h1)
  refine KH (A7c) (Ev fb)
  rcases hr with rfl | rfl | rfl
  ·show U' (Ξ (sP (z.1).symm));refine KJ AzG ⟨qs,rfl,hl,z4,hs,?_⟩
   show BF ne;exact h _ .mean
  ·show U' (Ξ (sP2 (z.1).symm));refine KH (AnN sM) ⟨fb,KJ AzG ?_⟩
   show D7 mz q Al5 AKk q hq (hz q (AYI BAK))
   have ml:=zyv (lV qs);refine⟨qs,rfl,hl,z4,lV qs,rfl,Α,Al5,rfl,Α,pz (AYT mz),yd9 mz ml.1,?_⟩
   rw[AK ml.2,wQ];exact h _ .mid
  ·rw[B4] at hf;refine KH (AnN sP) ⟨fb,KH (AnN sP2) ?_⟩
   refine⟨qs,rfl,hl,z4,lV qs,g,rfl,Α,Α,pz (hz q (AYI hq)),hg,?_⟩
   rw[ls];by_cases hw:qs.length=2/\ArC
   ·show og (E7 hw);show DF hw;exact h
   ·show U' (Ξ (hw z.2));show BF hw;intro b hb;have hb1:=hb.lt;have mem:∀q∈ AOY,AKk:=by
     intro q hq;show AHo hq;show gT hq rfl
     ·exact A2c
     ·exact A2c
    show SW AOY rfl A1 (pz (AYT mem)) (yd9 mem Ψ)
    show AFR
    have e:dH AOY/ Cl (AOY:AA).length=(AIW b 0+ Acw)/2:=by
     show(_+ (_+0))/ CB (E3 2)=_;show ATD;rfl
    rw[e];exact h _ (.pair b hb)
theorem oW.some(BIf):∃l:AA,l≠ []/\l.length<=qs.length/\ (∀q∈l,q∈qs)/\v=dH l/ AR2:=by
 have h1:=List.length_pos_iff.mpr ne;show AYq;cases h with
 | mean=>exact⟨qs,ne,HC,fun q h=>h,rfl⟩
 | mid=>
  refine⟨Al5,(zyv _).2,?_,pz ((zdt qs).mem_iff.mp BAK),wQ.symm⟩
  unfold mids;split
  ·exact h1
  ·show 2<=_;omega
 | pair b hb=>
  have hb1:=hb.lt;show RO AOY A1 (ck (2<=_)) y_
  ·show AHo hq;show gT hq rfl
   ·exact zm0 ψ
   ·exact zm0 ψ
  ·show _=(_+ (_+0))/ CB (E3 2);show ATD;rfl
theorem yen(yi){B:Rat}(ne:l≠ [])(B0:0<=B)(h:∀q∈l,Ab B q):Ab B (dH l/ AR2):=by
 have:=DZ yfj f (fun q:Rat=>q) l l k B h B0;rw[<- z0f,List.map_id'] at this;exact this
theorem oW.ok{x:DO}{L:AW}{r:Str}{v:Rat}(O:Qn x L)(h:oW (qN x L) r v):Sz 900 v/\Ab (2^90) v:=by
 have ll:IF qN x L=L.length:=AhD qN
 show AX6;obtain⟨l,ne,len,sub,rfl⟩:=h.some (ADl O.ne List.map_eq_nil_iff.mp);have len' :l.length<=L.length:=BE ll len
 show APV O.cd;have l0:WN l.length:=HR AwY
 show My l1 (CB l.length) (AjB l0)
 have s:Sz 849 (dH l):=((vQ.sum (pz (hd q (sub q hq)))).up ψ).sz d0 ψ
 exact⟨(ydv s (KA Sh AR2 n 4 (kZ ψ) Δ) l1).up Δ,yen ne Δ (pz (O.sm q (sub q hq)))⟩
theorem Iz:1<rE.length/\Gd rE/\∀p∈rE,Kz 300 p:=by
 have p:Me<far:=Mb
 have z1:Sz 300 far:=⟨Mb,Mb⟩
 have z2:Sz 300 (-far):=⟨Mb,Mb⟩
 show CF (Nat.lt_succ_self 1) ⟨⟨Atm,Atm⟩,trivial⟩ y_
 show K2 hq hq
 ·exact⟨z2,z2⟩
 ·show UZ hq;exact⟨z1,z1⟩
theorem ye4{x:Rat}(h:Ab (2^90) x):JV rE x=x:=by
 have F0:œ^90<far:=Mb
 have h1:=h.1;have h2:=h.2;unfold rE JV;dsimp only;generalize far=F at F0⊢;have F2:Me<2^90:=Mb
 have F1:Me<F:=E8
 rw[A_ LY,A_ LY]
 unfold zj;dsimp only;have n0:F - -F≠0:=E8
 rw[Rat.div_def,Rat.mul_assoc,AEr n0,Rat.mul_one]
 grind
structure abE (ω):Prop where
 a:lY K c.Apart
 f:lY K c.vP
 aa:Az9
 fa:A2I
 ff:Az'
theorem zj2(NW){c:Cls}{ds Q Ex}(C:abE K c)(h:X8 c ds Q Ex):ST zd5:=by
 obtain⟨S,b,work,L,hs,x,r,g,rfl,e1,e2,hr,e3,zg,e4,hh,O,hq⟩:=h;show KW;obtain⟨fs,xs,e,h1,h2,h3,h4,h5,h6,_,nl,_⟩:=AY0;show APV O.cd;have ll:IF qN x L=L.length:=AhD qN
 show AX6;show VY (pH AXK (AQ8 kQ));rw[ycv];refine Dt (fun r:Rw=>D.tup AzY) (QY A9R) (Id r hr (NL rfl ?_)) ?_
 ·show CS Ÿ
  rw[e];refine⟨rfl,nl,S,b,At,hs.map .inr,Ajo AQ7,ADh,Gc e1,?_⟩
  rw[zjn (x:=AeJ),if_pos (hh r hr)];exact⟨Qb,MG,Gc MK,Sh (Axk O.mm) Δ,O.sx r hr,hp⟩
 rw[e];have el:(AQ8 A9R)=(qN x L).map qD:=Ajy qN
 rw[el];show FU rfl S.scale h4;rw[e4];refine⟨rfl,AQ,rfl,S.rule,h5,rfl,S.gap,h6,?_⟩
 rw[e2,e3];refine⟨r,qN x L,g,rfl,zg,Α,pz (((hd q hq).sz d0 bd).up Δ),hr,u_ (((vQ.sum (pz (hd q (List.mem_of_mem_take hq)))).up (N:=849) BLJ).sz d0 ψ |>.up Δ),?_⟩
 unfold Ir at hq⊢;cases eb:oV r g (qN x L) with
 | none=>
  rw[eb] at hq;intro v hv;show B' z f hv.ok O;show ArV;show LU rE v rfl f1 f2 f3 (z.up Δ)
  rw[ye4 f];exact hq v hv
 | some f=>
  rw[eb] at hq;cases f with
  | true=>exact⟨c.Apart,rfl,C.a,KJ C.aa (xt hq)⟩
  | false=>exact⟨c.vP,rfl,C.f,KH (B2 C.fa zK) (GE C.ff _ hq)⟩
theorem Lean.evr(AOw){x:DO}(G:UC):Æ:=RU (by
 show ApX hr;exact G.ev m hm _ hx)
theorem Lean.near(AOw){x:DO}(G:UC)(u:Eg){M:Rat}(M0:0<=M)(hM:D9 (Ab M Qb))(n:wb 49){U:Β}(hU:AXV)(hr:AhQ):D9 (Ab (64*M) (x At)):=fun r hr' =>by
 show ApX hr';show AjS;have h:=P9 z04 rows rows x x B (16*M) m m (Ng (G.g.sr m hm)) (fun r hr s hs e=>z8b G.evr M0 hM n hr hs e) LY A8j (fun h hh=>G.g.hand hm hh) (fun r hr hx s hs e=>(G.g.sys u hm).1 r hr hx _ (fK.mpr (wP s hs e.symm))) (G.em m hm) hx
 ·have l4:OT m.length<=OT 4:=XL (G.g.small hU hr hm)
  have l4' :ALJ<=4:=l4;have:0<=(4 - ALJ)* (16*M):=Rat.mul_nonneg LY LY
  have:=h.1;have:=h.2;constructor<;>grind
 ·refine p.min C (DL S hS hx b hb) m hm hx;obtain⟨a,ha,ca⟩:=hx;show APU;obtain⟨r1,h1,h2,h3⟩:=AAv a ha;obtain⟨r2,g1,g2,g3⟩:=AAv b hb;rw[<- g3];exact BIs
theorem kj.lb{rows:AW}(O:ASB):UK:=by
 show ArX;show AX6;show CF Α (RU (BG1 O.mm hr)) (EM w)
 have:=Kw (zsl O.u w) (AW4 (by
  obtain⟨r,h1,_,e⟩:=fK.mp hy;rw[<- e];exact hr r h1))
 show AJ SM;omega
theorem ydd{n:Nat}{i:Int}(h:i.natAbs<2^n):Ab (œ^n) AR3:=by
 have e:œ^n=CB (E3 (2^n)):=by
  rw[gS (œ=OT 2),<- Rat.natCast_pow];rfl
 rw[e];show oP BM_
 rw[<- Rat.intCast_neg];exact BM_
theorem Lean.lv{rows:AW}{ms:ID}{x:DO}(G:UC)(O:ASB){w:Str}(hw:ZZ):Qn x TL:=by
 have L:=O.lb;show ArX;obtain⟨r0,h0,e0⟩:=hw;have m0:r0∈dr:=aX.mpr ⟨h0,e0⟩;show ApX h0;have cl:=(G.g.sys O.u hm).1 r0 h0 hx;show AG8 Yq (∀r∈dr,XN) (cl _ (fK.mpr (wP r vy (DB AM2 e0))))
 show APV (G.sz m hm);have n4:=G.g.small hU hr hm;have bd:iA<=736:=zP bd BNC
 have hd:O0 (vQ 736 d (x h)):=fun h hh=>(hd h hh).up (by unfold Ky;omega)
 show AX6;refine⟨Ξ (AQr z m0 m0),L.wk w,RU (L.mm r vy),RU (((hd _ (Yq r hr)).sz d0 bd).up Δ),⟨d,d0,Α,y_⟩,y_⟩
 ·show Pc r hr hq;exact(hd _ (Yq r hr)).less d0 bd (L.mm r vy)
 ·show Pc r hr' hq;have hr' :=(aX.mp hr').1;have a:=ydd (O.mm r hr');have b:=G.near O.u (M:=œ^82) IY (WS hr (ydd (O.mm r hr))) ψ hU hr r hr'
  have k:BU 65*2^82<=2^90:=Mb
  obtain⟨a1,a2⟩:=a;obtain⟨b1,b2⟩:=b;generalize œ^90=B at k⊢;generalize œ^82=M at a1 a2 b1 b2 k;exact⟨E8,E8⟩
theorem zzm(BHg):∀i∈uV qs bd,∃k:Nat,i=Cc/\k<=qs.length:=lS (by
 obtain⟨_,hn⟩:=zw4 qs;have g:=List.contains_iff_mem.mp g;show Pc k hk hi;show ATe hk hk;show X0 m hm (zF.mp (z4e hn (zxq hn g FR ψ).1))
 show BA m e.symm;unfold gM at hm;show K2 hm hm
 ·exact FC
 ·show Pc j hj hm;have:=List.mem_range.mp (ALb hj);show AJ zta;exact this)
theorem z4i{l:An}{n:Nat}(h:∀i∈l,∃k:Nat,i=Cc/\k<=n):pK l= .lst (AO l.map Int.toNat intD)/\∀k∈l.map Int.toNat,k<=n:=by
 show U1 ?_ k hk
 ·unfold pK;show nv
  congr 1
  show AUo i hi;obtain⟨k,rfl,_⟩:=h i hi
  rfl
 ·show Pc i hi hk;show PU k rfl (h i hi);exact q
theorem yh9(BFo):jy Ady= .dik Aco (ws.map (HZ AHs)):=by
 unfold jy;show AEh zjh (ydf B u);refine congrArg _ (List.map_congr_left AkB);show jy (zu Ae4)=_;unfold zu jy M8 kW;show AEh zjh List.map_map
 rfl
theorem yie{ws:Β}(so:Au_){i:Nat}(hi:i<ws.length){u:Str}(hu:u∈ws)(h:jb u R_):u∈AUT:=by
 rw[<- ATg ws] at hu so;show WU hu hu hu
 ·exact hu
 ·rw[Ats] at hu so;have so:=(List.pairwise_cons.mp (BMR so).2.1).1;show K2 hu hu
  ·rw[zwl] at h;cases h
  ·show F6 h (Yl _ _ (so u hu))
theorem z8t{K:W.Frag}{c:Cls}{a:Addr}{bs:AR}{t ds Q Ex}(h:M9 c t ds Q Ex):zch K c (O3 a Q) (startM 8 Ads ds) AnX:=by
 obtain⟨rows,ru,g,bd,rfl,rfl,O,Dv,zg,b0,b90,h⟩:=h;show KW;have L:=O.lb;have hl:=O.few;have uq:=O.u;show ArX;show ArV
 let Z:EC T T ID DO jQ:=fun sh mk ms x=>⟨.str ru,qD g,Ew c rE,Aa ms.flatten x,sh,mk⟩
 show Abx
 show Abx
 show Pp rfl _ AFK rE rfl A9K
 rw[if_pos (z0r f2 f1)];show Abx
 refine⟨rows,U,rfl,uq,L,Α,hr,Κ ms x G⟩
 show Abx
 rw[z4b];show CU rows rfl Α (Κ Qx ps0 B)
 refine⟨_,_,_,rfl,AQ,AQ,AQ,EM cs⟩
 refine⟨_,_,_,rfl,AQ,AQ,AQ,EM cs'⟩
 generalize esh:T.dic BNW (ps0.map zu)=sh;have dsh:jy sh= .dik BNW (Qx.map (HZ AHs)):=BE esh (yh9 B uq)
 have lw:=B.lw;refine⟨rfl,jy sh,rfl,Qx,Qx.map fun w=>AHs,Gc dsh,B.nd,Α,fun ws pm so=>(Ev (zzj ws))⟩
 have nd:ws.Nodup:=pm.nodup_iff.mpr B.nd;have wm:AaU ZZ:=fun w=>pm.mem_iff.trans (B.wm w);have wl:ws.length<=40:=ĝ pm.length_eq
 show ij (∃(v:DO) (y6:Slot),Γ= [.tr (a::(AY6++cs')) (jQ.t c (Z sh Aq1 ms x) none),dy,AVD,AWR,.pu (Ew c rE),AWh,y6,B1]/\∀w∈AUT,oV ru g v4=none/\oW v4 ru (v w)) (MQ lx _ (AEI (dQ hw)))
 ·rintro i d _ hi ⟨v,y6,rfl,hv⟩;have hi' :i<ws.length:=pv pT
  show AHd;cases hi;have tk:=zpf hi';have hw:R_∈ws:=yX hi';have ahead:A8a (jb u R_) (oV ru g (AcQ u)):=fun u hu l=>(hv u (yie so hi' ((wm u).mpr hu) l)).1;have fresh:R_∉AUT:=Ξ (by
   have:=nd;rw[<- ATg ws,List.nodup_append] at this;refine this.2.2 _ z R_ ?_ rfl;show Awk;exact zY)
  generalize R_=w at tk hw fresh ahead⊢;have isw:=(wm w).mp hw;refine⟨rfl,AQ,rfl,jy sh,rfl,Qx.map .inr,GY Qx.map w AHs,.inr w,AHs,Gc dsh,rfl,DB (zjn (x:=HZ AHs)) (kq pm.mem_iff.mp hw),?_⟩
  refine⟨(Z sh Aq1 ms x).pl,none,w,dr,ms.flatten,x,ru,g,?_,rfl,rfl,Dv,rfl,zg,rfl,fun r hr' =>G.mem (aX.mp hr').1,G.lv O isw,?_⟩
  ·show [jy (jQ.t c (Z sh Aq1 ms x) none),_,_]=_;rw[jQ.dn]
  unfold Ir;cases eb:oV ru g v4 with
  | some f=>exact GE ⟨we,we,we⟩ _ (h (.op w f) (.op ms x w f G isw eb ahead) trivial _)
  | none=>
   intro q hq
   let v' :DO:=fun u=>(GU u w q (v u))
   have ev:v' w=q:=B4;show D7 eo u AUT (v u=v' u) u hu (Nw if_neg (fun z:u=w=>(s_ fresh hu)));refine⟨yeg _,.inr w,_,_,_,Am9 .inr,Am9 fun w=>VV,rfl,rfl,rfl,AC' List.length_take,v',NU w,?_,AD u hu⟩
   ·rw[tk,<- z0z fresh,ev,show(Am9 fun w=>qD (v' w))=AO ws.take i (HZ VV) from BMr u hu (by rw[eo u hu])]
    rfl
   ·rw[tk] at hu;show WU hu hu hu
    ·rw[<- eo u hu];exact hv u hu
    ·rw[List.mem_singleton.mp hu,ev];exact⟨eb,hq⟩
 ·rintro _ ⟨v,y6,rfl,hv⟩;show AyV hv;have A:Ck rows ru g x ws v:=⟨⟨so,wm⟩,hv⟩;show LU rfl (jy (gO ws v)) rfl AMq (ws.map fun w=>VV) (Gc zt9) (ydo v ws)
  have eq:(ws.map fun w=>VV)=AO ws.map v qD:=xN
  show D7 zv w ws (Sz 900 (v w)) w hw ((AHM hv).ok (G.lv O ((wm w).mp hw))).1;show D7 zq q AXQ (Sz 900 q) q hq (by
   show Aop;exact zv w hw)
  show D7 zq4 q AXQ (Sr q) q hq (AYT zq)
  have ln:BN ws.map v<=60:=ALV
  rw[eq];refine⟨AXQ,bd,rfl,Α,zq4,Α,EM g1,fun g0=>(xt (h (.ba _) (.ba ms x ws v G A g0) (by show IF mJ _ _<=100;unfold mJ;show AiE;omega) _))⟩
  obtain⟨g3,g4⟩:=z4i (zzm g1);rw[g3];show LU AXQ _ rfl Α zq4 ?_ g4
  ·unfold uV;show Aji List.length_map;exact b0
  refine⟨_,_,_,rfl,AQ,AQ,AQ,_,_,rfl,?_⟩
  refine h (.ma ws v _) (.ma ms x ws v G A g1) ⟨Α,A_K,fun b hb q e=> ?_⟩ so (Z sh (gO ws v) ms x) rfl
  show Pc k hk hb;exact(zq q (z7d (yjz (B2 zta (g4 k (List.dropLast_subset _ hk))) e))).up Δ
theorem yiz(ls:ť):toD (S5 ls)= A0R:=by
 have key:∀ls:ť,lB (ls.map fun l=>T.lst (Awm .leaf))=ls.map pK:=by
  intro ls;induction ls with
  | nil=>rfl
  | cons l ls ih=>
   show AXT;show toD (ACW (AO l.map D.int))::lB _=_;rw[ih,z6h];rfl
 unfold S5;show D.lst (lB _)=_;rw[key]
structure abF (ω):Prop where
 o:lY K c.Open
 b:lY K c.bK
 oo:A0G
 bo:A2H
 bb:Az_
theorem yka(bs:YA):Ij Aog:=by
 show qm _;induction bs with
 | nil=>trivial
 | cons b bs ih=>
  show oP ih;cases b with
  | none=>trivial
  | some q=>exact yeg q
theorem yjr:far=Ag2:=rfl
theorem z2w(NW){c:Cls}{ds Q Ex}(C:abF K c)(h:Qo c ds Q Ex):NC znd 9:=by
 obtain⟨rows,r,g,bd,rfl,O,hr,zg,b0,b90,h⟩:=h;show KW;have n2:APy:=Α
 have n3:WE 3:=Α
 show ArV;have eps:D.lst [UH A2i A2i,UH (fc (AJb) 1) (fc (AJb) 1)]= .lst (rE.map pD):=by
  show _=D.lst [UH (qD (-far)) (qD (-far)),UH (qD far) (qD far)];rw[yjr,show(-Ag2)=CB (AC (0 - AJb)) by rw[Int.zero_sub,Rat.intCast_neg],MK,MK]
 show CS (BBn 30)
 unfold zi5;dsimp only [aJ,cj,cC,cV,cB,cT,pY,Ec,lZ,jr,uf,lD,yu,ao,aj,dN,gA,dW,lE,aW,nP,eG,aU,fC,hName,gY,bw,gZ,ug,qR,aC,cU,jm,jh,fj,iR,cM,fJ,dO,oO,yM,Df,yC,GQ,BP,pZ,rY,yO,cI,wI,yx,Bj,oN,G4,G5,gC,um,nR,ur,uw,List.length,List.set_cons_zero,List.set_cons_succ,List.getElem?_cons_zero,List.getElem?_cons_succ,jT,pF,yD,Dg,wD,tR,vZ,uE,lF,jt,qW,wF,xV,Dh,nU,xW,gF,ju,Bm,Hi,Bl,uF,uG,iL,iJ,jP,sX,d7,List.map,List.append,List.cons_append,List.nil_append];show LU n2 n2 n2 n2 n2 n2 n2;rw[eps];show FU rE rfl A9K
 rw[if_pos (z0r f2 f1)];refine⟨rows,r,g,bd,rfl,rfl,O,hr,zg,b0,b90,A4d⟩;have hq:=h o ho hs;cases o with
 | op w f=>exact fun t' =>(oQ c.Open rfl C.o (KJ C.oo fun as=>⟨_,_,_,_,rfl,rfl,_,_,_,_,rfl,rfl,n3,hq⟩))
 | ba ls=>
  refine fun t' =>(oQ c.bK rfl C.b (KH (B2 C.bo zK) ⟨C.bb,fun as=>⟨_,_,_,_,rfl,rfl,n3,?_⟩⟩))
  show Q (.tup [.str z62,toD (S5 ls),AF]);rw[yiz];exact hq
 | ma ws v bs=>
  obtain⟨Tz,zv,zb⟩:=hs;refine fun so S eS=>⟨⟨fun d z=>AdU,fun k z=>AdU⟩,AD a as⟩
  refine⟨rfl,AQ,S.pl,ws,v,bs,BEm,by show jy S.marks=_;rw[eS];exact zt9 ws v,so,Tz,A_K,fun b hb q e=>(RH (zb b hb q e)),yih _ _ _,?_⟩
  show LU rfl AQ S.pl bs BEm (yka _) n3
  show Q (.tup [.str Dr,toD Arx,toD Aog]);rw[z6h,z6h];exact hq
theorem zyh(AT Te):ST zlr:=by
 obtain⟨q,t,n,b,rfl,zq,ht,n0,n9,b0,hb,h⟩:=h;cases q with
 | none=>exact h
 | some q=>
  have z:=zq q rfl;have bn:cP D6<=10:=kZ ψ
  have bt:cP t<=100:=kZ ht;have bb:cP b<=100:=kZ hb;obtain⟨z1,z2⟩:=z;have m1:=yw q.num D6;have m2:=yw t fR;have m3:=Vn (q.num* D6) (t* fR);have m4:=yw BDL b;have m5:=yw fR D6;have dp:=q.den_pos;refine⟨_,at0,ya,_,at1,ya,ya,_,at1,ya,_,_,rfl,Α,Α,Int.mul_ne_zero ψ ψ,?_⟩
  have e:pp (BDL*b) (fR* D6)=fM AEH da q:=by
   show B' e1 e2 zyf q;show My nz (CB n) (by
    show AGp D6
    omega)
   rw[Rat.intCast_mul,Rat.intCast_add,Rat.intCast_mul,Rat.intCast_mul,Rat.intCast_mul,e1];unfold fM;generalize ALi=d at e2⊢;generalize CB n=m at nz⊢
   grind
  rw[e];exact h
theorem z4l(AT Tf):NC zqq 5:=by
 obtain⟨o,t,n,b,rfl,hs,ht,n0,n9,b0,hb,h⟩:=h;show KW;cases o with
 | op w f=>
  show FU _ Ž fb
  rw[Gj];exact AzR
 | ba ls=>
  show FU _ Ž fb
  rw[Gj];exact AzR
 | ma ws v bs=>
  obtain⟨Tz,zv,zb⟩:=hs;show FU _ Ž fb
  rw[Gj];refine KH IY (B5 ž ?_)
  refine Dt (mo (D.tup [.str w,VV,AHe bs])) (mo (Zs w (An_ AEH da) (AHe bs))) (Id w hw ⟨rfl,rfl,some (v w),t,n,b,rfl,fun q e=>by cases (e);exact zv w hw,ht,n0,n9,b0,hb,AXm,hp⟩) ?_
  show U_ AVJ;refine Dt bD (Υ q A7d) (Id q hq ⟨q,t,n,b,rfl,zb q hq,ht,n0,n9,b0,hb,hp⟩) (Ev AXm)
  have e:(bs.map fun q=>A7d)=AO bs.map (Option.map (fM AEH da)) bD:=xN
  rw[e];exact h
theorem zvm(AT Yg):NC zj4 5:=by
 show AGR ns hn;show KW;refine⟨FC,ns,15,rfl,hn,Α,ns,14,rfl,hn,Α,AMX,?_⟩
 show AG7 f4 (eV ns 14) 4
 obtain⟨N,eN,n1,n4⟩:∃N:Nat,IO (1+ V' 14 4)=N/\1<=N/\N<=4:=Aoo
 show CS AAg
 rw[eN];show ij (∃(bs:EZ) (z:Int) (y3 y4:Slot),Γ= [AZJ,.ow (bs.map Ip),A3 z,y3,y4]/\bs.length=i) (oQ [] _ rfl rfl)
 ·rintro i _ hi ⟨bs,z,y3,y4,rfl,hl⟩;show AG7 g4 z 4
  show BD k ek hk (KA Nf (z.fdiv 12) n 4) Δ
  obtain⟨M,eM⟩:SE M (mQ [D.int 60,.int 2,.int 4,.int 1] (AlW 12 4)=some (DE M)):=by
   rw[show AlW 12 4=Cc from ek]
   match k,hk with
   | 0,_=>exact CI Ž
   | 1,_=>exact CI ž
   | 2,_=>exact CI AVJ
   | 3,_=>exact CI (AIF 3)
  show SW AMX (qc 2) (qc 4) AVI (AeD (ë 4) ?_)
  ·have:=Ā z 4 Δ
   have e:(z.fmod 4).fdiv 2=(z.fmod 4)/2:=Akx
   rw[e];omega
  refine⟨D5,ck (WE 4),qc 12,AMX,_,eM,Ÿ,ALV,qc 48,?_⟩
  refine⟨bs++ [(Ark* Aox,Ark* Aox+M)],z.fdiv 48,A3 (0+ Ic),A3 (Ark* Aox),?_,kC List.length_append hl⟩
  show Af5;rfl
 ·rintro _ ⟨bs,z,y3,y4,rfl,hl⟩;exact h bs ψ ψ
theorem zyw{Dn:pW}{E:XW}{S x1 x2:Slot}{most z:Int}{nms uY:Β}{rows:AW}{w q:Nat}(hw:w<nms.length)(hq:q<uY.length)(hm:most≠0)(l:rows.length<100)
  (h:Dn.nx (BJa (Au4 BBj))):
  wF 6 xV (Q_ BD_) Dn (BJa AkK) E:=by
 show KW;refine⟨D5,_,Ο Int.zero_add (z29 hw),_,Ο Int.zero_add (z29 hq),qc 3,hm,AXm,ALV,?_⟩
 rw[List.map_append] at h;exact h
theorem z2b(AT Ye):NC znf 10:=by
 obtain⟨ns,hands,works,rfl,hl,h1,h4,w1,w8,h⟩:=h;show KW;have line:WE 1000:=Α
 let S:D:= Agq
 have main:∀most:Int,0<most ->most<=10^12 ->bP zj1 [.pu S,A3 hands,ALl,A3 most,B1,B1,B1,B1,B1,B1]:=by
  intro most hm0 hm1;refine⟨ns,4,rfl,hl,Α,_,works,rfl,Α,Κ nms hnm nnd⟩
  refine⟨ns,5,rfl,hl,Α,_,hands,rfl,Α,Κ uY hpp pnd⟩
  have p0:0<uY.length:=Α
  show BA FC AAg
  show ATC;show FU (fun w Γ=>∃(rows:AW) (x7 x8 x9:Slot),rows.length<=w*hands/\ Atq/\ (Eg/\ AiU/\ (ô (∃v,v<w/\BK3))/\Ar_ (v<w) Ayt)/\Γ= [.pu S,A3 hands,ALl,A3 most,AKn,AKo,AkK,x7,x8,x9]) ⟨[],_,_,_,A1,Ann,⟨List.Pairwise.nil,Ann,Ann,fun v hv z=>(AiL z)⟩,rfl⟩ ?_
  ·rintro w _ hw ⟨rows,x7,x8,x9,hrl,Dv,⟨uq,mk,wv,st⟩,rfl⟩;have Qt:w*hands<=8*4:=Nat.mul_le_mul ψ h4
   show Pp ns (6+w) (by show [D.lst _,D.int (6+ (0+ AC w))]=_;rw[GH (6+ (0+ AC w)) (Cl (6+w))]) hl Α AAg
   show ATC;show FU (fun q Γ=>∃(rows:AW) (z:Int) (x9:Slot),wb (w*hands+q)/\ Atq/\ (Eg/\ AiU/\ (ô (AqU q))/\ (Ar_ (v<w\/v=w/\0<q) Ayt))/\Γ= [.pu S,A3 hands,ALl,A3 most,AKn,AKo,AkK,ASa,A3 z,x9]) ⟨rows,_,_,hrl,Dv,⟨uq,mk,RU (by show A4 v h1 h2 wv r hr;exact⟨v,h2,.inl h1⟩),fun v hv z=>st v hv (z.resolve_right fun y=>(fw y.2))⟩,rfl⟩ ?_
   ·rintro q _ hq ⟨rows,z,x9,hrl,Dv,⟨uq,mk,wv,st⟩,rfl⟩;have JF:q<hands:=Α
    have m3:xR 3 most:= .inl Δ
    have b3:cP (3*most)<=9000:=Yr (k:=60) ψ
    have hx:w<nms.length:=Α
    have hy:q<uY.length:=Α
    show AG8 old (D9 (AqU (q+1))) (by
     show A4 v h1 h2 wv r hr;exact⟨v,h1,h2.imp id fun⟨a,o,b,c⟩=>⟨a,o,Α,c⟩⟩)
    have dv:(3*most≠0)/\cP (3*most)<=9000:=⟨Α,b3⟩
    let nr:Rw:=BBj
    have yes:∃(cO :AW) (z' :Int) (x9:Slot),cO.length<=w*hands+ (q+1)/\ (∀r∈cO,bv uY)/\ (Uq cO /\ (∀r∈cO,ADW 40)/\ (∀r∈cO,AqU (q+1))/\ (Ar_ (v<w\/v=w/\0<q+1) (kW cO nms[v])))/\ [Slot.pu S,A3 hands,ALl,A3 most,AKn,AKo,Au4 nr,ASa,A3 (z.fdiv (3*most)),Acg q]= [.pu S,A3 hands,ALl,A3 most,AKn,AKo,.ow (cO.map sZ),ASa,A3 z',x9]:=by
     refine⟨rows++ [nr],_,_,ATn List.length_append List.length_singleton,ADz,⟨?_,ADz,ADz,Κ v hv zz⟩,rfl⟩
     ·show AqG
      ·exact Dv r hr
      ·show UZ hr;exact yX _
     ·refine List.pairwise_append.mpr ⟨uq,BMv,DL a ha b hb z⟩;rw[BLC] at z;show A4 v h1 h2 wv a ha;rw[z.1] at h1;show B' hv ev zW.mp h1;have evw:v=w:=zyz nnd hv hx ev;rcases h2 with h2 | ⟨_,o,ho,h3⟩
      ·omega
      ·rw[z.2] at h3;show B' hv' ev' zW.mp h3;have:=zyz pnd hv' hy ev';omega
     ·show AqG
      ·exact mk r hr
      ·show UZ hr;have l:=Ā (z.fdiv 3) most hm0
       change (AlW 3 most).natAbs<2^40
       omega
     ·show AqG
      ·exact old r hr
      ·show UZ hr;exact⟨w,zZ _,.inr ⟨rfl,q,Α,zZ _⟩⟩
     ·rw[zxh];by_cases q0:v=w/\q=0
      ·show WC rfl q0;show eC;exact zR _ zY
      ·exact zQ _ (st v hv ψ)
    by_cases q0:q=0
    ·show CS ş;rw[Nb];exact KJ (decide_eq_true ψ) (KJ rfl (zyw hx hy ψ ψ A7I))
    ·show CS ş;rw[Nb];refine KH (ACV decide_eq_true_iff) (Ev AVI)
     by_cases z3:z.fmod 3>0
     ·exact KJ (decide_eq_true z3) (zyw hx hy ψ ψ A7I)
     ·exact KH (Υ y (z3 (of_decide_eq_true y))) ⟨m3,dv,rows,_,_,Α,Dv,⟨uq,mk,old,fun v hv zz=>st v hv ψ⟩,rfl⟩
   ·rintro _ ⟨rows,z,x9,hrl,Dv,⟨uq,mk,wv,st⟩,rfl⟩;refine⟨rows,_,_,_,?_,Dv,⟨uq,mk,ADz,fun v hv z=>st v hv ψ⟩,rfl⟩
    ·rw[Nat.succ_mul];omega
    ·show A4 v h1 h2 wv r hr;exact⟨v,by rcases h2 with h2 | h2<;>omega,h1⟩
  ·rintro _ ⟨rows,x7,x8,x9,hrl,Dv,⟨uq,mk,wv,st⟩,rfl⟩;have Qt:works*hands<=8*4:=Nat.mul_le_mul w8 h4;have m0:=st 0 ψ ψ
   obtain⟨r0,hr0,_⟩:=fK.mp m0;refine h rows uY (Hb (AQr z hr0 hr0)) ψ ψ Dv uq mk ⟨uY[0],AkC⟩
   show uS r hr hw;show A4 v hv e wv r hr;show B' hv' e zW.mp e;rw[<- e];exact st v hv' hv
 refine⟨BBn 12,ck (WE 4),ns,3,rfl,hl,Α,AMX,?_⟩
 obtain⟨M,eM,m0,m1⟩:SE M (mQ [D.int 4,.int 10,.int 10,.int (AAa)] (V' 3 4)=some (DE M)/\0<M/\M<=10^12):=by
  show BD t et ht (KA Nf (eV ns 3) n 4) Δ
  show KM (V' 3 4=AC t) et
  match t,ht with
  | 0,_=>show Aat Ž
  | 1,_=>show Aat ž
  | 2,_=>show Aat AVJ
  | 3,_=>show Aat (AIF 3)
 exact B5 eM (main M m0 m1)
section
variable{s b:Rat}(b0:0<b)
include b0
theorem yhx{p q:Rat}:fM s b p<AO9↔p<q:=by
 unfold fM;constructor
 ·intro h;apply Rat.not_le.mp;intro k;have:(q+s)*b<=(p+s)*b:=A3O LY
  exact AvQ this
 ·intro h;exact Avn LY
theorem ymf{p q:Rat}:fM s b p<=AO9↔p<=q:=by
 rw[<- Rat.not_lt,<- Rat.not_lt,yhx b0]
theorem TF(OB):AZG lV=AO lV qs LN:=by
 refine zqg (zxu _) ?_ (Iq zdt _ (Nw (AO zdt qs) _));rw[JR,List.pairwise_map];exact(zxu qs).imp (DI ((ymf b0).mpr h))
omit b0
theorem J2(yi)(Ajd):(l.map LN).getD i 0=fM s b (l.getD i 0):=by
 show Aku List.getElem?_map UX;rfl
theorem ydk:∀qs:AA,An0=(AAL+ AFM*s)*b
 | []=>AGF Me ((0+0*s)*b)
 | AGt=>by
  show ATB;show AO9+An0=(q+AAL+ Ay9*s)*b;rw[ydk qs,show Ay9=AFM+1 by rw[Int.natCast_add,Rat.intCast_add];rfl]
  unfold fM
  grind
theorem ygv{qs:AA}(ne:qs≠ []):An0/ jn qs.map LN=fM s b (AAL/ wp):=by
 show å ydk;show My l0 AFM (by
  show AGp wp
  have:=List.length_pos_iff.mpr ne;omega)
 unfold fM;generalize AFM=n at l0⊢
 grind
theorem z8x(p q:Rat):(fM s b p+AO9)/2=fM s b ((p+q)/2):=ka fM
theorem ylk{l:AA}(ne:0<l.length):Es (l.map LN)=fM s b (Es l):=by
 unfold Es;show EK;split
 ·exact J2 ψ
 ·rw[AFd,AFd,z8x]
theorem Yu(yi){j:Nat}(h:AMA j):wd (ARI l.map) j=wd l j*b:=by
 unfold wd;rw[J2 h,AFd]
 unfold fM
 grind
include b0
theorem yet(yi){i:Nat}(h:Best l i):Best (l.map LN) i:=by
 show CF (AgV h.lt) AHI (Κ j hj l)
 ·show ACQ hj;rw[Yu h.lt,Yu hj];exact A3O (h.le j hj)
 ·show ACQ hj;rw[Yu h.lt,Yu hj];exact Avn (h.gt j hj l)
theorem yg2(BIf):oW (ARI qs.map) r (fM s b v):=by
 show AYq;have l1:=List.length_pos_iff.mpr ne;cases h with
 | mean=>rw[<- ygv ne];exact .mean
 | mid=>
  rw[<- ylk ψ,<- TF b0];exact .mid
 | pair i hi=>
  have:=hi.lt;have k:=oW.pair (qs:=qs.map (fM s b)) i (by rw[TF b0];exact yet b0 hi)
  rw[TF b0,AFd,AFd,z8x] at k
  exact k
theorem yhb(BG2):oV r AGg (qs.map LN)=oV r g qs:=by
 show AYq;unfold oV;show EK;show FB (r=jd/\qs.length=2)
 ·have e:g*b<wd (lV (qs.map LN)) 0↔ArC:=by
   rw[TF b0,Yu ψ]
   constructor
   ·intro h;apply Rat.not_le.mp;intro k;exact AvQ (Rat.mul_le_mul_of_nonneg_right k (Rat.le_of_lt b0))
   ·exact DI (Rat.mul_lt_mul_of_pos_right h b0)
  simp only [e]
 ·rw[BCk,BCk]
theorem ye5(OB):AZG fD=fD qs:=by
 have ef:AZG nZ=AO nZ qs LN:=A5M
 unfold fD;rw[ef];generalize nZ qs=f;unfold gM;show EK
 congr 3
 show Ahj k hk;show ATe hk hk;unfold Ey;show EK;show Hc (k+1) f.length
 ·show wx q;rfl
 ·rw[AFd,J2 hk,A7e]
theorem zst(qs:AA)(bd:EZ):ArF lJ lJ/\ArF uV uV/\ArF mJ mJ:=by
 unfold lJ uV mJ;rw[ye5 b0,List.length_map];exact Awx
theorem yko(BHg):Td (qs.map LN) bd=(Td qs bd).map Aur:=by
 have ef:AZG nZ=AO nZ qs LN:=A5M
 unfold Td;show AEh (zst b0 qs bd).2.1 ef;show AUo k hk;have hk:=(z4i (zzm g)).2 k (List.dropLast_subset _ hk);show Br _ k=Option.map LN (Br ì k);unfold Br;show Hc k 0
 ·rw[D',D'];rfl
 ·rw[D_,D_,J2 (by rw[zta];omega)];rfl
theorem yb6(bs:YA)(m:Rat):iG (bs.map (Option.map LN)) (fM s b m)=iG bs m:=by
 unfold iG;rw[List.findIdx_map]
 congr 1
 funext q
 cases q with
 | none=>rfl
 | some q=>
  show(!(Μ (fM s b m<AO9)))= !(Μ (m<q));rw[A7e]
#where
theorem oW.uniq{qs:AA}{r:Str}{v v' :Rat}(h:Aex)(h' :oW qs r v'):v=v' :=by
 cases h with
 | mean=>generalize e:uU=r at h';cases h' with
  | mean=>rfl
  | mid=>show F6 e.symm sM
  | pair b hb=>show F6 e.symm sP
 | mid=>generalize e:Qh=r at h';cases h' with
  | mean=>show F6 e sM
  | mid=>rfl
  | pair b hb=>show F6 e.symm sP2
 | pair b hb=>generalize e:jd=r at h';cases h' with
  | mean=>show F6 e sP
  | mid=>show F6 e sP2
  | pair b' hb' =>rw[hb.unique hb']
structure Moved (rows cO :AW) (s b:Rat):Prop where
 pos:0<b
 isw:∀w,isW cO w↔ZZ
 lv:BFO APe (∀w,ZZ ->qN x' (bY cO w)=(v4).map LN)
theorem ymm{rows:AW}{x:DO}{w:Str}(h:ZZ):qN x TL≠ []:=Ξ (by
 show FV r h1 h2;have:=Al9;show AJ (List.map_eq_nil_iff.mp z);show DC)
theorem zuc(AfZ){s b:Rat}(M:Moved rows cO s b){r:Str}{g:Rat}{bd:EZ}{o o' :Out}(h:ARw o)(h' :Res cO r AGg bd o'):outD o' =KC s b o:=by
 have same:∀{ms x pQ x'},UC ->APe ->∀w,ZZ ->oV r AGg A9T=oV r g v4:=fun G G' w hw=>(DB (BEU hw) (yhb M.pos))
 have all:∀{ms x pQ x' ws v ws' v'},Φ UC APe Afq (Ck cO r AGg x' ws' v') (ws' =ws/\∀w∈ws,v' w=fM s b (v w)):=fun G G' A A' =>by
  have e:=WX Yl A'.so.so A.so.so (HZ (Iq A'.so.wm w (Iq M.isw w (Nw A.so.wm w))));subst e;show U1 rfl w hw;have hw' :=(A.so.wm w).mp hw;have k:=AHM A'.ok;rw[BEU hw'] at k;exact k.uniq (yg2 M.pos (ymm hw') (AHM A.ok))
 have clash:∀{ms x pQ x' ws v w f},UC ->Φ APe Afq (isW cO w) (oV r AGg A9T=some f) False:=fun G G' A hw eb=>by
  have hw:=(M.isw _).mp hw;rw[BCr,(A.ok _ (AuT hw)).1] at eb;cases eb
 have IK :∀{ms x pQ x' ws v w f},UC ->Φ APe (Ck cO r AGg x' ws v) ZZ A6g False:=fun G G' A hw eb=>by
  rw[<- BCr,(A.ok _ (AuT ((M.isw _).mpr hw))).1] at eb;cases eb
 cases h with
 | op ms x w f G hw eb ah=>
  cases h' with
  | op pQ x' w' f' G' hw' eb' ah' =>
   have hw2:=(M.isw w').mp hw';rw[same G G' w' hw2] at eb';have e:w' =w:=by
    apply Classical.byContradiction;intro n;cases q:mC w' w with
    | true=>show GG (ah w' hw2 q) eb' eb'
    | false=>
     have k:=ah' w ((M.isw w).mpr hw) (z3q q n);rw[same G G' w hw,eb] at k;cases k
   subst e;rw[eb] at eb';cases eb'
   rfl
  | ba pQ x' ws' v' G' A' =>exact(IK G G' A' hw eb).elim
  | ma pQ x' ws' v' G' A' =>exact(IK G G' A' hw eb).elim
 | ba ms x ws v G A gd=>
  cases h' with
  | op pQ x' w' f' G' hw' eb' ah' =>exact(clash G G' A hw' eb').elim
  | ba pQ x' ws' v' G' A' gd' =>
   show Afb;show Afv
   rw[em,(zst M.pos _ _).2.2];rfl
  | ma pQ x' ws' v' G' A' gd' =>
   show BJG
 | ma ms x ws v G A gd=>
  cases h' with
  | op pQ x' w' f' G' hw' eb' ah' =>exact(clash G G' A hw' eb').elim
  | ba pQ x' ws' v' G' A' gd' =>
   show BJG
  | ma pQ x' ws' v' G' A' gd' =>
   show Afb;show Afv
   rw[em,yko M.pos gd];show D.tup [.str Dr,.lst (Iu ws' v' _),_]=_;show KM (Iu ws' v' ((Td (ws'.map v) bd).map (Option.map LN))=ws'.map (HZ (Zs w (An_ s b) (AHe (Td (ws'.map v) bd))))) (BMr w hw (DB (ev w hw) (yb6 M.pos)))
   rfl
theorem z0x(BBc):rC Aya w=AR8:=by
 unfold rC;rw[List.filter_map,List.map_map,BHK]
 exact BNL r (e r).2
theorem wO.tau(BGK){ms:ID}(G:ĩ):AJn wO τ ms:=by
 show ANU;refine⟨G.sr,G.up,Ss,AyN,p⟩
 ·show A4 r hr k F.of S hS;show CF (τ r) AwZ (EM x);rw[z0x e,(e r).1];exact k x
 ·show Pc s hs hr;show A4 S hS k F.to s hs;show CF S hS (EM x);rw[z0x e,(e s).1];exact k x
theorem yff{τ:ARm}(e:ARr){rows:AW}(w:Str):AJn isW τ w↔ZZ:=by
 constructor
 ·rintro⟨r,hr,q⟩;show Pc s hs hr;exact⟨s,hs,((e s).1).symm.trans q⟩
 ·rintro⟨r,hr,q⟩;exact⟨τ r,AwZ,((e r).1).trans q⟩
theorem z6a(BBc):AJn bY τ w=li τ:=UI bY List.filter_map BHK
theorem z0i{τ:ARm}(e:ARr){rows:AW}{s b:Rat}(b0:0<b)(h:BFO (Lean (rows.map τ) pQ x') (D9 (cS AI4 - x' At=fM s b ASn))):Moved rows Aya s b:=by
 show CF b0 (yff e) (fun ms x pQ x' G G' w hw=> ?_);unfold qN;show AEh (z6a e) List.map_map;show AUo r hr;show cS AI4 - x' AI4.2.1=_;rw[(e r).2];exact h ms x pQ x' G G' r vy
theorem kj.tau(BGK)(u:Eg)(few:wb 40){U:Β}(hU:AXV)(hr:AhQ)(mm:D9 (P_ AI4.2.2<2^82)):kj (rows.map τ):=by
 show CU ?_ (AgV few) ⟨U,hU,AD r h⟩ (AD r h)
 ·unfold Uq at u⊢;rw[List.pairwise_map];exact u.imp fun{a b} h z=>h ⟨AgJ (e a).1 (e b).1 z.1,AgJ (e a).2 (e b).2 z.2⟩
 ·show uS q hq (zF.mp h);rw[(e q).2];exact hr q hq
 ·show uS q hq (zF.mp h);exact mm q hq
theorem z92(A6G)(st:Star rows){hd:Str}(hh:AJX hd)(m:Int):Moved rows (Ap3 m) (MW* ARb/ ATY) 1:=by
 refine z0i (τ:=qM hd m) (AV PV) (AFe (Me<1)) fun ms x pQ x' G G' => ?_
 have Gm:AJn wO AaP ms:=G.g.tau (τ:=qM hd m) (C8 PV);show BC_;obtain⟨h0,hst⟩:=st;obtain⟨rh,hrh,erh⟩:=hh;obtain⟨r0,hr0,_,e0⟩:=fK.mp (hst rh.1 (Ix rh hrh));obtain⟨g,hg,hx⟩:=List.mem_flatten.mp (G.mem hr0);have cl:=(G.g.sys u hg).1;show AG8 all (D9 o6) (by
  obtain⟨q,hq,e1,e2⟩:=fK.mp (hst AL AnW);exact cl q hq (by rw[e2,<- e0];exact hx) _ (fK.mpr (wP r hr e1.symm)))
 have hdg:AX5:=BE erh (all rh hrh)
 show AjS;have ofm:ofM rows g=rows:=À List.filter_eq_self.mpr (decide_eq_true (all r hr));have eq:=z6q Gm (fun k hk h hh=>ylx (b:=m) hdg (fun r hr _ s hs _=>all s hs) (G.ev k hk h hh)) (fun k hk=>ymg (b:=m) hdg ⟨r0,hr0,all r0 hr0⟩ (by
  show Hc k g
  ·show B3 q
  ·show DJ (fun h hk1 hk2=>q (Sw p.dj hk hg hk1 hk2))) (G.em k hk)) G'.ev G'.em
 intro r hr;rw[<- eq _ (G.mem hr)];have k:=DZ zxy rows rows x x b m hdg r;rw[if_pos (all r hr),ofm] at k;refine k.trans ?_;unfold fM;rw[Rat.mul_one,Rat.div_def,Rat.div_def,Rat.mul_assoc]
def uZ(m:Int)(r:Rw):Rw:=(AL,At,L6*m)
theorem ztp(p_)(m:Rat)(f:CD):nL (aq l (Υ a (C4*m))=HE*m)
 | []=>AGF Me (0*m)
 | C6=>by
  show C4*m+aq l (Υ a (C4*m))=(C4+HE)*m;rw[ztp m f l];grind
theorem z98(vj)(m:Int)(m0:0<m):Moved rows Ŋ 0 MW:=by
 have e:∀r,(uZ m r).1=AL/\ (uZ m r).2.1=At:=C8 PV;refine z0i e (Rat.intCast_pos.mpr m0) fun ms x pQ x' G G' => ?_;have Gm:wO Ŋ ms:=G.g.tau e;show BC_;have lvl:∀w,A9P (bY Ŋ w) w=AHc* MW:=fun w=>by
  rw[z6a e,Bp,List.length_map];have k:aq TL (Kx a (cS AYL) (x AYL.2.1* MW))=ABx TL TH* MW:=by
   rw[<- ztp];refine ji (AD r _);show Ag3 - MG* MW=_;rw[Rat.intCast_mul];grind
  rw[k,Rat.div_def,Rat.div_def,Rat.mul_assoc,Rat.mul_comm MW,Rat.mul_assoc]
 have eq:=z6q Gm (x:=DI (x h* MW)) (fun k hk h hh=>by
  have q:=G.ev k hk h hh;show ATJ q;rw[show nY Ŋ h=ASk (uZ m) by show AxF nY,Bp]
  have k:aq AYH (Kx a (cS AYL - x AYL.2.1* MW) (A9P (bY Ŋ (uZ m a).1) (uZ m a).1))=aq AYH A3b* MW:=by
   rw[<- ztp];refine ji (AD r _);rw[lvl];show Ag3 - MG* MW - _=_;rw[Rat.intCast_mul];show _ - AfG* MW=_
   grind
  rw[k,q,Rat.zero_mul]) (fun k hk=>by
  have q:=G.em k hk;unfold Gh at q⊢;rw[show ofM Ŋ k=Ù ofM k (uZ m) by show AxF ofM,Bp]
  show aq (ofM rows k) (Υ r (MG* MW))=0;rw[ztp,q,Rat.zero_mul]) G'.ev G'.em
 intro r hr;rw[<- eq _ (G.mem hr)];show Ag3 - MG* MW=_;unfold fM;rw[Rat.intCast_mul];grind
theorem ye1{n:Nat}(ls:ť):lu (n+2) (CO AZB) (CO AZB):=by
 show ABZ;show AGV;cases h2;show AiC;cases q1:ls[i]? with
 | none=>show GG q1 h1 h1
 | some l=>
  rw[q1] at h1;cases h1;intro j x y g1 g2;rw[g1] at g2;cases g2;show ATE g1;cases q2:l[j]? with
  | none=>show GG q2 g1 g1
  | some a=>rw[q2] at g1;cases g1;exact ş
theorem yhw{n:Nat}(bs:YA):lu (n+2) (Cj bs) (Cj bs):=by
 show ABZ;show AGV;cases h2;show AiC;cases q1:bs[i]? with
 | none=>show GG q1 h1 h1
 | some q=>
  rw[q1] at h1;cases h1;cases q with
  | none=>simp [bD,lu,yN]
  | some q=>exact yky q q
theorem z6c(o:Out):lu 20 (outD o) (outD o):=by
 cases o with
 | op w f=>
  show ABZ;show AGV;cases h2
  match i with
  | 0=>show AHi
  | 1=>show AHi
  | 2=>show AHi
  | i+3=>simp at h1
 | ba ls=>
  show ABZ;show AGV;cases h2
  match i with
  | 0=>show AHi
  | 1=>
   show Db (D.lst (ls.map pK)=x) ſ;exact ye1 ls
  | 2=>show AHi
  | i+3=>simp at h1
 | ma ws v bs=>
  show ABZ;show AGV;cases h2
  match i with
  | 0=>show AHi
  | 1=>
   show Db (D.lst AbG=x) ſ;exact yje ws v bs
  | 2=>
   show Db (Cj bs=x) ſ;exact yhw bs
  | i+3=>simp at h1
theorem yl7(AT zz1):NC z3u 13:=by
 show AGR ns hl;show KW;have n3:WE 3:=Α
 show BD t4 e4 h4 (KA Nf (eV ns 0) n 4) Δ
 show BD t8 e8 h8 (KA Nf (eV ns 1) n 8) Δ
 refine⟨ns,0,rfl,hl,Α,AMX,ns,1,rfl,hl,Α,AIE 8,ns,1+t4,1+t8,?_,hl,Α,Α,Α,Α,fun rows U ne few hU hr uq mk st=> ?_⟩
 ·show [D.lst _,D.int (1+ V' 0 4),D.int (1+ V' 1 8)]=_;rw[show V' 0 4=AC t4 from e4,show V' 1 8=AC t8 from e8,Int.natCast_add,Int.natCast_add];rfl
 show SW ns 16 rfl hl Α
 generalize eV ns 16=cv;obtain⟨ru,eru,Dv⟩:∃ru:Str,mQ [D.str uU,.str Qh,.str jd] (cv.fmod 3)=some (.str ru)/\uW ru:=by
  show BD k ek hk (KA Nf cv n 3) Δ
  show KM (cv.fmod 3=Cc) ek
  match k,hk with
  | 0,_=>show Md uU Ž AE_
  | 1,_=>show Md Qh ž (.inr NR)
  | 2,_=>show Md jd AVJ (sq rfl)
 show AG7 g40 (cv.fdiv 3) 40
 show AG7 g3 (cv.fdiv 120) 3
 refine⟨n3,AVI,_,eru,qc 3,AIE 40,qc 120,AVI,BLk,BLu,rfl,uX ψ,uX ψ,Α,?_⟩
 have zg:Sz 10 A3Y:=R9 ψ (kZ ψ) (kZ ψ)
 generalize A3Y=g at zg⊢;show CU ns rfl hl (Κ bd b0 b12);have O:ASB:=⟨uq,few,⟨U,hU,hr⟩,fun r h=>(BG1 mk h)⟩
 refine⟨rows,ru,g,bd,rfl,O,Dv,zg.up Δ,b0,Α,A4d⟩
 have len0:0<rows.length:=AwY;show BD k ek hk (KA Nf (eV ns 17) n rows.length) len0;have ix:mQ (rows.map sZ) (V' 17 AnV)=some (sZ rows[k]):=XB List.length_map ek (z29 hk)
 refine⟨ns,17,rfl,hl,Α,AlT (AnV≠0),_,ix,_,ž,?_⟩
 have hin:AJX rows[k].2.1:=G1 (yX hk);generalize rows[k].2.1=hd at hin⊢;have p12:Gw 10 12:=⟨AQ,AQ,AQ⟩
 have z12:Apt≠0:=AQ
 show LU ns 18 rfl hl Α p12 z12
 obtain⟨m,em,m0,m1⟩:SE m (m=1+ V' 18 (AAa)/\0<m/\m<2^41):=by
  have:=Ā (eV ns 18) AAa Δ
  have e:Apt=10^12:=rfl;rw[e] at this⊢;exact Aoo
 show bP zy5 [AZJ,dy,A3 cv,AVD,AWR,AWh,AnH,NU hd,A3 (1+ V' 18 (AAa)),B1,B1,B1,B1];rw[<- em];have mi:∀t:Bool,xR m (ae (t=true)):=fun t=> (AIn (by cases t<;>decide))
 have bm:∀r:Rw,ADW 40 ->P_ (qM hd m r).2.2<2^82:=fun r h=>by
  show P_ (L6+m* AwO)<2^82;split<;>omega
 refine Dt sZ (QY BGX) (Id r hr A_O) ?_
 ·rw[Gj];show BA (mi _) n3;show P [Zs AL AKL (.int (L6+m* (ae (ANQ=true))))];rw[show(AY (ANQ=true) Rs 0)=GU At hd 1 0 by simp]
  exact hp
 have e9:(rows.map fun r=>BGX)=AO rows.map AaP sZ:=xN
 rw[e9];refine Yk sZ (QY AKL) (QY ANQ) (Id r hr A_O) ?_
 ·rw[Gj];show dC ANQ;show Hc At hd
  ·rw[AkO] at hp;rw[AkO];exact hp
  ·rw[AK (Bz q)] at hp
   show fT q;exact hp
 obtain⟨own,eo⟩:∃own,own=Ï nY hd:=D5;have abM:own<=40:=Ο eo (zP AAH few)
 show bP zvo [AZJ,dy,A3 cv,AVD,AWR,AWh,AnH,NU hd,A3 m,.pu (eE (rows.map AaP)),A3 (jn (Ù nY hd) (KF (D.str At))),B1,B1];rw[List.length_map,<- eo];refine⟨rows.map (qM hd m),ru,g,bd,rfl,kj.tau (τ:=qM hd m) (AV PV) uq few hU hr fun r h=>bm r (mk r h),Dv,zg.up Δ,b0,Α,Κ o' ho' hs'⟩
 refine⟨AIn (zP (ë 10 ψ) Δ),o,m* AC own,rows.length,1,by show [_,_,D.int AnV,_]=_;show EK,hs,?_,len0,Α,AQ,AQ,?_⟩
 ·show Af3;have:m.natAbs* P_ (AC own)<=2^41*40:=AvT
  omega
 have M1:=z92 uq st hin m;have d1:outD o' =KC (CB (m* AC own)/ CB rows.length) (CB 1) o:=by
  have k:=PH (zuc M1 ho (g:=g)) Rat.mul_one ho'
  rw[k,eo,Rat.intCast_mul];rfl
 rw[<- d1];show CS (z6c o');rw[Rn];show LU ns 19 rfl hl Α p12 z12
 obtain⟨y,ey,y0,y1⟩:SE y (y=1+ V' 19 (AAa)/\0<y/\y<2^41):=by
  have:=Ā (eV ns 19) AAa Δ
  have e:Apt=10^12:=rfl;rw[e] at this⊢;exact Aoo
 show bP zvz [AZJ,dy,A3 cv,AVD,AWR,AWh,AnH,NU hd,A3 m,.pu (eE (rows.map AaP)),A3 (AC own),A3 (1+ V' 19 (AAa)),B1];rw[<- ey];have by_:cP y<=60:=kZ ψ
 refine Dt sZ (QY (sZ (uZ y r))) (Id r hr ⟨rfl,rfl,A0b,n3,hp⟩) ?_
 have e12:(rows.map fun r=>sZ (uZ y r))=AO rows.map (uZ y) sZ:=xN
 rw[e12];have bg:=yw g.num y;have z1:=zg.1;have z2:=zg.2;have gd:=g.den_pos;refine⟨_,at0,A0b,_,at1,g.num*y,g.den,rfl,Α,Α,Α,?_⟩
 have eg:pp (g.num*y) g.den=g* ATW:=by
  show B' e1 e2 zyf g;show Af0 e1;generalize CB g.den=d at e2⊢
  grind
 have zgy:Sr (g* ATW):=RH (yc0 zg (Sh (n:=60) by_ Δ))
 rw[eg];refine⟨rows.map (uZ y),ru,g* ATW,bd,rfl,kj.tau (τ:=uZ y) (AV PV) uq few hU hr (AD r h),Dv,zgy,b0,Α,Κ o2 ho2 hs2⟩
 ·show P_ (L6*y)<2^82;show Af3;have:=mk r h;have:P_ L6*y.natAbs<=2^40*2^41:=AvT
  exact zM this Δ
 refine⟨o,0,1,y,rfl,hs,AQ,AQ,AQ,y0,Α,?_⟩
 have d2:outD o2=KC (CB 0/ CB ATh) ATW o:=Ο (show pp 0 ATh=0 by show OM) (zuc (z98 y y0) ho ho2)
 rw[<- d2];show CS (z6c o2);rw[Rn];exact h
#print L3
local macro_rules | `(#[$x])=> `(by exact $x)
local macro_rules | `(#[$x,_])=> `(fun _ _ _ _ _ _=>by exact $x)
local macro_rules | `(tactic| symm_saturate)=> `(tactic| exact⟨rfl,by decide+kernel,by decide+kernel,by decide+kernel,rfl,by decide+kernel⟩)
local macro_rules | `(tactic| trivial)=> `(tactic| first | exact Or.inl rfl | exact Or.inr (Or.inl rfl) | exact Or.inr (Or.inr rfl) | exact Or.inr rfl)
namespace Lw
open PySem PySem.Spec PyProof.Rows L2 L3
seal QE QF QT QW QA QS qP QG Vj QI Rq Ly QIg QO QR QRA QN QRN
theorem bM(AoF){e:Env}(hr:AcI k e):(A.deeper e).units+21<cLine:=HR hr.units
theorem oX{us:Τ}{n:Nat}(h:us.length=n+1):∃a r,us=a::r/\r.length=n:=by
 cases us with
 | nil=>cases h
 | cons a r=>exact MQ a r (Nat.succ.inj h)
theorem len1{us:Τ}(h:us.length=1):∃a0,us= [a0]:=by
 show APj;show L' (List.eq_nil_of_length_eq_zero h0);exact sD a0
theorem len2{us:Τ}(h:us.length=2):∃a0 a1,us= [a0,a1]:=by
 show APj;show Abd;show L' (List.eq_nil_of_length_eq_zero h1);exact Ix a0 a1
theorem yg{us:Τ}(h:us.length=3):∃a0 a1 a2,us= [a0,a1,a2]:=by
 show APj;show Abd;show Ary;show L' (List.eq_nil_of_length_eq_zero h2);exact wP a0 a1 a2
theorem KN{us:Τ}(h:us.length=4):∃a0 a1 a2 a3,us= [a0,a1,a2,a3]:=by
 show APj;show Abd;show Ary;show ACf a3 u3 h3 h2;show L' (List.eq_nil_of_length_eq_zero h3);exact⟨a0,a1,a2,a3,rfl⟩
theorem abG{us:Τ}(h:us.length=6):∃a0 a1 a2 a3 a4 a5,us= [a0,a1,a2,a3,a4,a5]:=by
 show APj;show Abd;show Ary;show ACf a3 u3 h3 h2;show ACf a4 u4 h4 h3;show ACf a5 u5 h5 h4;show L' (List.eq_nil_of_length_eq_zero h5);exact⟨a0,a1,a2,a3,a4,a5,rfl⟩
section
variable(P:Program)(w:World)(K:W.Frag)(mg:B7)(base:Heap)(c:Cls)
abbrev Yv:Prop:=BDR
abbrev ziu:Prop:=BHS
abbrev zhv:Prop:=BDZ
abbrev zft:Prop:=A_X
abbrev Qy:Prop:=A3w
abbrev znx:Prop:=A_a
abbrev zca:Prop:=BIY
abbrev Yw:Prop:=A_o
abbrev zqz:Prop:=A3x
abbrev TJ:Prop:=BDc
abbrev zey:Prop:=BDV
abbrev zl1:Prop:=BDW
abbrev zqx:Prop:=BCW
abbrev zxz:Prop:=A1e
abbrev ztk:Prop:=A'Q
abbrev zm5:Prop:=A1f
abbrev zik:Prop:=A_q
abbrev z5e:Prop:=A1h
abbrev zwy:Prop:=A'S
abbrev zee:Prop:=A'O
abbrev zyj:Prop:=A'R
abbrev zwj:Prop:=BGU
abbrev zor:Prop:=A'P
abbrev zi8:Prop:=A_Z
abbrev zck:Prop:=BDv
abbrev zcu:Prop:=BDi
abbrev zmt:Prop:=BDh
abbrev zwg:Prop:=BEW
abbrev zgc:Prop:=A_g
abbrev ziy:Prop:=BCZ
abbrev zkn:Prop:=BCb
#where
section
variable{P:Program}{w:World}{K:W.Frag}{mg:B7}{base:Heap}{f:Addr}{fd:FuncData}{cdv:Value}{A:Around}{outer:GB}{s:Shared}{H:Hp}{E:XK}{F0:Hp}(c:Cls)
theorem qu:Go ["_law_cell_here","_law_many","_law_letters","_law_size","_law_at","_law_names_here","_law_k","_law_name","_law_j","_law_number"] "_law_cell_here" "_law_many" zit:=AE
theorem zt7(F:AB "_law_names" "_law_names" zit)(hm:A6 "_law_names")(cG:AFO)(n6:GS "int"):BDQ:=
 A8 (AN gV qu zxd zgg (by
  have nd:=qu.nd;show AS bM;exact(bO (LG 2 Bw)
   #[bO (oz 3 vW aP (kN (t6 Χ)))
   #[bO #[tM (OG P2 AiH aP)
   (kg 3 #[aP])
   FY]
   #[bO (oz 4 qT (t6 Χ) DT)
   #[bO (AWq 5)
   #[bO #[Rm rfl rfl cG (Ä Ρ) (dq 6)
   #[bO (LG 7 Bw)
   #[bO #[Rm rfl rfl cG (Ä (AsB DT AEq (Lk P2 AiH aP J'))) (dq 8)
   #[bO (oz 9 qT (d5 (d5 (Sl nu (t6 Χ)) (Sl nu (NM wq wq))) (Sl nu wq)) aP)
   (AGJ 7 vW į (L4 BG (kN (AsB ATV AEq (z49 (Lk P2 wq E2 J') (z46 (Lk AMV AiH aP J')))))))]]
   (Aq2 5 (Ä į))]]]
   (VT 5)]]]]])) (AU zxt)) hm F.kp (AM (by show Cf;exact rfl))
theorem sE:Go ["_law_script","_law_k","_law_number"] "_law_script" "_law_k" zku:=AE
theorem zxo(F:AB "_law_cell" "_law_cell" zku)(hm:A6 "_law_cell")(aQ:KK):BDR:=
 A8 (AN gV sE z1l zod (by
  have nd:=sE.nd;show AS bM;exact(bO #[tM (OG (AV GK) Ρ fq)
   (I_ (dB Χ Ρ ABd))
   FY]
   #[bO (oz 2 vW Aui aP)
   #[bO #[tM (OG (AV GP) fq aP)
   (AGJ 2 qT (d5 (Sl nu (L4 Χ (P5 qT Aui fq))) (Sl nu Ρ)) aP)
   FY]
   (I_ (bN (AV qT) (NM BG BG) aP))]])) (AU z2a)) hm F.kp (AM (by show Cf;exact rfl))
theorem sG:FK ["_law_script","_law_hands","_law_works","_law_most","_law_names_here","_law_people","_law_rows","_law_w","_law_cell_here","_law_h"] ["_law_script","_law_hands","_law_works"] zlf:=AE
theorem zw9(F:AB "_law_star" "_law_star" zlf)(hm:A6 "_law_star")(jV:BDQ)(aR:ALc)(cG:AFO):BHS:=
 A8 (AN gV sG z2p znf (by
  have nd:=sG.nd;show AS bM;exact(bO (Sk 3 (ABL (iw #[yK (AI9 aP aP aP (Sl ZP aP))]) (kN ACz)))
   #[bO (Y3 4 jV ACz BG)
   #[bO (Y3 5 jV ACz Ρ)
   #[bO (AWq 6)
   #[bO #[Rm rfl rfl cG (Ä BG) (dq 7)
   #[bO (Y3 8 aR Χ (d5 aP į))
   (IR (Rm rfl rfl cG (Ä Ρ) (dq 9)
   #[bO #[tM #[NZ (yls (qL P2 ATV aP J') (yj3 (qL ATd (kN wq) aP J')))]
   (Aq2 6 #[au (qQ (au (L4 E2 į) (Fh (L4 n5 ATV) (P5 qT (t6 wq) DT)))) aN])
   FY]
   (AGJ 8 wC wq (NM aP DT))]))]]
   (VT 6)]]]])) (AU z2b)) hm F.kp (AM (by show qa;exact rfl))
theorem n8:Go ["_law_one","_law_other"] "_law_one" "_law_other" zfu:=AE
theorem zpu(F:AB "_law_divisor" "_law_divisor" zfu)(hm:A6 "_law_divisor")(u6:GS "abs"):BDS:=
 A8 (AN gV n8 zrs zib (by
  have nd:=n8.nd;show AS bM;exact(bO (LG 0 (ArM PD))
   #[bO (LG 1 (ArM Y1))
   #[bO #[z0q (OG ATd Ρ aP)
   (IR (KA yln 0 j 1 rfl nd rfl rfl Δ rfl rfl (AKJ (P5 qT Χ Ρ)) rfl))]
   (VT 0)]])) (AU zrj)) hm F.kp (AM (by show Cf;exact rfl))
theorem u9:Go ["_law_top","_law_bottom","_law_by"] "_law_top" "_law_bottom" znw:=AE
theorem z1g(F:AB "_law_low" "_law_low" znw)(hm:A6 "_law_low")(kE:BDS):BDZ:=
 A8 (AN gV u9 z7t zq0 (by
  have nd:=u9.nd;show AS bM;exact(bO (Y3 2 kE Χ Ρ)
   #[bO #[tM (OG (AV GK) Ρ aP)
   (AGJ 2 GJ aP BG)
   FY]
   A9J])) (AU z21)) hm F.kp (AM (by show Cf;exact rfl))
theorem o8:AtP ["_law_script","_law_bounds_here","_law_cell_here","_law_k","_law_least"] zgi:=AE
theorem zts(F:AB "_law_bounds" "_law_bounds" zgi)(hm:A6 "_law_bounds")(aR:ALc)(cG:AFO):A_X:=
 A8 (AN gV o8 zvd zj4 (by
  have nd:=o8.nd;show AS bM;exact(bO (AWq 1)
   #[bO A3p
   #[bO #[Rm rfl rfl cG (Ä AlD) (dq 3)
   #[bO (oz 4 nu (t6 (kN BG)) AYO)
   #[bO #[Oh (i:=1) (AV VF) PySem.F.slot_list_append PySem.F.type_list_append rfl D8 #[au (qQ (Fh E2 (d5 E2 (L4 (iw #[yK (au aP (au aP (AIZ aP)))]) AYO)))) aN]]
   (AGJ 2 wC BG aP)]]]
   (VT 1)]])) (AU zvm)) hm F.kp (AM (by show Na;exact rfl))
theorem Ac:APg zx9:=AE
theorem yax(F:AB "under" "under" zx9)(hm:A6 "under"):A3w:=
 A8 (AN gV Ac ygx zyr (by
  have nd:=Ac.nd;show AS bM;exact(Pw (Lk (AV GK) qB Azg J'))) (AU yid)) hm F.kp (AM (by show Cf;exact rfl))
theorem wU:Go AAc "left" "right" ztg:=AE
theorem z4z(F:AB "climbs" "climbs" ztg)(hm:A6 "climbs")(bR:AZ Qy):BDa:=
 A8 (AN gV wU ycx zvf (by
  have nd:=wU.nd;show AS bM;exact(Pw (z49 (ů KE sL) (z46 (ykq (ů sL KE)))))) (AU ybm)) hm F.kp (AM (by show Cf;exact rfl))
theorem sI:vn "points" "points" YM:=AE
theorem zx8(F:AB "is_scale" "is_scale" YM)(hm:A6 "is_scale")(vd:BDa)(IV:GS "all")(aQ:KK)(iu:AFP):A_a:=
 A8 (AN gV sI z19 zpk (by
  have nd:=sI.nd;show AS bM;exact(AOm (z49 (Lk ATd fq aP J') (z46 (pP (AV (yl3 rfl)) rfl IV boot_all (JU (SS (vY (own:= AAc) (N' := AAc) (by show cX ["points"] _ AAc [] (aV YM) AAc;symm_saturate) rfl #[oR (AOT Χ ArK)] #[AHg AAc AAc,_] #[tQ,_] #[Ak8 vd,_])))))))) (AU z2n)) hm F.kp (AM (by show Na;exact rfl))
theorem jW:AJr AeS "points" TX:=AE
theorem zlb(F:AB "__init__" "Scale.__init__" TX)(jB:AZ znx)(qw:BMy)(bF:ADQ)(aL:ARq):K0 fG NE 4 f fd AeS (uH K c.Scale "points" (Qj c)):=by
 have nd:=jW.nd;refine ygq F rfl jW bF aL rfl AN9 (qq ygh) (Ab5 ?_);show APn "Scale.__init__" TX
 exact⟨rfl,ze8 K c,zea K c,CC (tM #[N5 (Ga (Sj jB Y1))]
 AUf
 FY),
 CC (zmy (AV ygs) rfl qw boot_tuple (au Ρ aN)),BHH yfk⟩
theorem zko(F:AB "__init__" "Scale.__init__" TX)(M:Mk K c.Scale f)(hm:TD "Scale" c.Scale)(jB:AZ znx)(qw:BMy)(bF:ADQ)(aL:ARq):BIY:=
 A8 (zlb c F jB qw bF aL) M hm (AM (by show Cf;exact rfl))
theorem Dw:Go ["group","hands"] "group" "hands" YQ:=AE
theorem ygo(F:AB "meet" "meet" YQ)(hm:A6 "meet")(wV:GS "any"):BDT:=
 A8 (AN gV Dw yjl z6m (by
  have nd:=Dw.nd;show AS bM;exact(AOm (BAi (SS (vY (own:= ["hand"]) (N' := AiI) (by show cX AXS _ ["hand"] [0] (aV YQ) AiI;symm_saturate) rfl #[FD Ρ] #[GI AiI,_] #[tQ,_] #[Lk (AV Oi) Χ Ρ ő,_]))))) (AU ylo)) hm F.kp (AM (by show Cf;exact rfl))
theorem wW:Go BGF "found" "hands" YS:=AE
theorem z7a(F:AB "joined" "joined" YS)(hm:A6 "joined")(yh:BDT)(bI:lP)(bT:AJp)(wX:GS "set"):BDb:=
 A8 (AN gV wW z96 zup (by
  have nd:=wW.nd;show AS bM;exact(bO (ib (im 2 (own:= ["group"]) (N' := AXS) (by show cX BGF _ ["group"] [1] (aV YS) AXS;symm_saturate) rfl #[FD Χ] #[GI AXS,_] #[AqP (Jn yh Χ Ρ),_] #[qv 0,_]))
   #[bO (A1Y Y1)
   #[bO #[Lq rfl AMH (dq 4)
   (IR (tM #[Ga (F7 yh E2 Ρ)]
   (Adb 3 z4j PySem.F.slot_list_extend PySem.F.type_list_extend (Ä E2))
   FY))]
   (AIM (Ĳ (VG BG (iw (Á (iw #[ybi rfl rfl bT rfl wX AhL]))))))]])) (AU yao)) hm F.kp (AM (by show Cf;exact rfl))
theorem vf:Ah' ["rows","sheets","work","hand","mark"] zou:=AE
theorem z1s(F:AB "by_work" "by_work" zou)(hm:A6 "by_work"):A_o:=
 AUU (AN Hv vf z6w zqe (by
  have nd:=vf.nd;show AS bM;exact(bO (Ą z75 1 ATG)
   #[bO #[Lq rfl AMH #[BK rfl (nQ (AIp 2) (AP6 (AIp 3) (AIp 4)))]
   #[bO #[tM #[yiy (i:=1) yy AUw rfl D8]
   (IR (KA yja 1 j 2 yy rfl D8 rfl D8 ATG))
   FY]
   (IR (DZ yik i 1 j 2 l 3 yy rfl D8 rfl D8 rfl D8 #[qv 4]))]]
   BCs])) (AU z6k))
theorem wY:Ah' ["rows","found","sheet"] zr1:=AE
theorem z8e(F:AB "groups" "groups" zr1)(hm:A6 "groups")(vg:BDb)(cQ:AZ Yw)(bT:AJp)(bI:lP):A_p:=
 AUU (AN Hv wY z86 zvg (by
  have nd:=wY.nd;show AS bM;exact(bO (Sk 1 #[iw #[yK aN]])
   #[bO #[Vy rfl #[z4d #[zrr cQ JJ rfl PD]] AAZ
   (kg 1 #[F7 vg Ρ (iw #[AK9 (ygb rfl) AhK])])]
   #[bV #[Wg #[yhr #[ybo (AV (yki hu)) rfl bT boot_sorted Y1]]]]])) (AU yae))
theorem vh:Go ["one","other","rest"] "one" "other" znn:=AE
theorem z1i(F:AB "divisor" "divisor" znn)(hm:A6 "divisor")(u6:GS "abs"):A3x:=
 A8 (AN gV vh z5r zqo (by
  have nd:=vh.nd;show AS bM;exact(bO #[z0q (OG AMV Ρ aP)
   #[bO (oz 2 qT Χ Ρ)
   #[bO (Sk 0 #[qv 1])
   (kg 1 AUw)]]]
   (I_ (ArM PD)))) (AU z77)) hm F.kp (AM (by show Cf;exact rfl))
theorem qx:FK ["row","multiple","part"] ["row"] YT:=AE
theorem zv9(F:AB "whole_row" "whole_row" YT)(hm:A6 "whole_row")(jo:AZ zqz):A_Y:=
 A8 (AN gV qx zwq zl3 (by
  have nd:=qx.nd;show AS bM;exact(bO (LG 1 aP)
   (A7 (bO #[Lq rfl AMH AAZ
   (AGJ 1 nu Ρ (P5 wC (bi BG) (Jn jo Ρ (bi BG))))]
   (AYM (vY (own:= ["part"]) (N' := ["part","multiple"]) (by show cX ["row","multiple","part"] _ ["part"] [1] (aV YT) Avk;symm_saturate) rfl #[FD Χ] #[GI Avk,_] #[tQ,_] #[bN (AV nu) KE (P5 wC Ρ KE),_])))))) (AU zye)) hm F.kp (AM (by show Na;exact rfl))
theorem vm:FK AS4 AS4 YW:=AE
theorem z1c(F:AB "without" "without" YW)(hm:A6 "without")(iu:AFP):BCV:=
 A8 (AN gV vm z3v zq1 (by
  have nd:=vm.nd;show AS bM;exact(AFY (ACy (vY (own:= Avl) (N' := Abv) (by show cX AS4 _ Avl [0,1,2,3] (aV YW) Abv;symm_saturate) rfl #[oR (AOT Χ Ρ)] #[AHg Abv Abv,_] #[tQ,_] #[bN (AV wC) (ADo (NM (L4 DT E2) Χ) (NM Awq Ρ)) n5,_])))) (AU z32)) hm F.kp (AM (by show AY8;exact rfl))
theorem vo:BFH "ahead" "lead" "ahead" YX:=AE
theorem z13(F:AB "cleared" "cleared" YX)(hm:A6 "cleared")(rF:BCV)(dg:Ag4):BHT:=
 A8 (AN gV vo z3f zqn (by
  have nd:=vo.nd;show AS bM;exact(bO (Sk 3 (ABL Χ Ρ))
   (AYM (vY (own:= AuP) (N' := Abf) (by show cX ["table","place","ahead","lead"] _ AuP AHn (aV YX) Abf;symm_saturate) rfl #[oR (An1 PD)] #[AHg Abf Abf,_] #[tQ,_] #[Vh (qL P2 Χ BG J') Ρ (AL1 rF Ρ E2 BG DT),_])))) (AU z7w)) hm F.kp (AM (by show qa;exact rfl))
theorem sJ:Go ["top","bottom","common"] "top" "bottom" zkt:=AE
theorem zws(F:AB "fraction" "fraction" zkt)(hm:A6 "fraction")(jo:AZ zqz):BDc:=
 A8 (AN gV sJ z2k zpg (by
  have nd:=sJ.nd;show AS bM;exact(bO #[tM (OG P2 Ρ aP)
   AUf
   FY]
   #[bO (Y3 2 jo Χ Ρ)
   #[bO #[tM (OG (AV GK) Ρ aP)
   (kg 2 #[G3 (qv 2)])
   FY]
   A9J]])) (AU z1z)) hm F.kp (AM (by show Cf;exact rfl))
theorem qy:BFH "spot" "other" "spot" zil:=AE
theorem zug(F:AB "exchanged" "exchanged" zil)(hm:A6 "exchanged")(bI:lP):BIF:=
 A8 (AN gV qy zwb zlp (by
  have nd:=qy.nd;show AS bM;exact(bO (A1Y PD)
   #[bO (A9d #[qv 1] (ABL Χ BG))
   #[bO (A9d AUw (ABL Χ Ρ))
   (VT 3)]])) (AU zx6)) hm F.kp (AM (by show qa;exact rfl))
theorem IW:Go ["table","place","spot"] "table" "place" yhe:=AE
theorem yk3(F:AB "led" "led" yhe)(hm:A6 "led")(oh:BIF)(cG:AFO)(aQ:KK):BDd:=
 A8 (AN gV IW yl8 yd8 (by
  have nd:=IW.nd;show AS bM;exact(bO #[z45 rfl rfl cG (Ara Ρ fq) AAZ
   (IR (tM (OG AMV (L4 (L4 Χ BG) Ρ) aP)
   (I_ (A5e oh))
   FY))]
   AUf)) (AU yl6)) hm F.kp (AM (by show Cf;exact rfl))
theorem wZ:Go Ar5 "rows" "rights" TY:=AE
theorem z7s(F:AB "solved" "solved" TY)(hm:A6 "solved")(ou:A_Y)(rH:BHT)(bh:AZ TJ)(Ja:BDd)(cG:AFO)(aQ:KK)(iu:AFP)(dg:Ag4):BDg:=
 A8 (AN gV wZ yaq ztz (by
  have nd:=wZ.nd;show AS bM;exact(bO (ib (im 2 (own:= AGL) (N' := AGL) (by show cX Ar5 _ AGL [] (aV TY) AGL;symm_saturate) rfl #[oR (AOT Χ Ρ)] #[AHg AGL AGL,_] #[tQ,_] #[Î ou (JU (iw #[VG Χ (iw (Á Ρ))])),_]))
   (A7 (bO (LG 3 aP)
   (A7 (bO #[Rm rfl rfl cG #[au (pP (AV vX) rfl aQ boot_len AhK) aN] (dq 4)
   #[bO (LG 2 (AKP rH (Jn Ja BG E2) E2 DT))
   (kg 3 (ABL Awq E2))]]
   (AYM (vY (own:= AGv) (N' := AGv) (by show cX Ar5 _ AGv [] (aV TY) AGv;symm_saturate) rfl #[oR (An1 AhK)] #[AHg AGv AGv,_] #[tQ,_] #[F7 bh AW9 (L4 Ρ Χ),_])))))))) (AU z9w)) hm F.kp (AM (by show Cf;exact rfl))
theorem oA:A4s YZ:=AE
theorem zpy(F:AB "sheets_with" "sheets_with" YZ)(hm:A6 "sheets_with"):BDV:=
 A8 (AN gV oA zrz zid (by
  have nd:=oA.nd;show AS bM;exact(AFY (ACy (vY (own:= ["sheet"]) (N' := ["sheet","hand"]) (by show cX nK _ ["sheet"] [0] (aV YZ) AY5;symm_saturate) rfl #[FD Ρ] #[GI AY5,_] #[Ke (ykk yy Ρ Χ ő),_] #[qv 0,_])))) (AU zrm)) hm F.kp (AM (by show Cf;exact rfl))
theorem qC:Go ["step","bound"] "step" "bound" zi2:=AE
theorem zvk(F:AB "is_within" "is_within" zi2)(hm:A6 "is_within"):BDW:=
 A8 (AN gV qC zwc zlw (by
  have nd:=qC.nd;show AS bM;exact(Pw (z9x (AV Vo) (AV Vo) sL Χ sL))) (AU zwe)) hm F.kp (AM (by show Cf;exact rfl))
theorem vp:FK ASY ASY T3:=AE
theorem z1v(F:AB "reached" "reached" T3)(hm:A6 "reached")(fZ:AZ zl1)(wV:GS "any"):BCW:=
 A8 (AN gV vp z23 zqy (by
  have nd:=vp.nd;show AS bM;exact(AFY (ACy (vY (own:= ["end"]) (N' := AWW) (by show cX ASY _ ["end"] [1,2] (aV T3) AWW;symm_saturate) rfl #[FD Χ] #[GI AWW,_] #[Ke (Ga (BAi (SS (vY (own:= ["start"]) (N' := Anl) (by show cX AWW _ ["start"] [0,2] (z9z _ (aV T3)) Anl;symm_saturate) rfl #[FD Ρ] #[GI Anl,_] #[tQ,_] #[F7 fZ (ADo Ρ Χ) BG,_])))),_] #[qv 0,_])))) (AU z69)) hm F.kp (AM (by show qa;exact rfl))
theorem Dy:APg z7m:=AE
theorem yfa(F:AB "plus" "plus" z7m)(hm:A6 "plus")(bh:AZ TJ):A1e:=
 A8 (AN gV Dy ylb z5v (by
  have nd:=Dy.nd;show AS bM;exact(Pw (F7 bh (d5 qB (NM sL KE)) qB))) (AU yjv)) hm F.kp (AM (by show Cf;exact rfl))
theorem Ad:FK ["some","reached","part"] ["some"] zx2:=AE
theorem ycc(F:AB "total" "total" zx2)(hm:A6 "total")(lK:AZ zqx)(mK:Agt):A'Q:=
 A8 (AN gV Ad yhq zzx (by
  have nd:=Ad.nd;show AS bM;exact(bO (Sk 1 #[qQ (AIZ aP)])
   #[bO #[Lq rfl AMH AAZ
   (kg 1 #[F7 mK Ρ BG])]
   (VT 1)])) (AU yhy)) hm F.kp (AM (by show Na;exact rfl))
theorem Ae:FK BGE BLK Y0:=AE
theorem ycg(F:AB "share" "share" Y0)(hm:A6 "share")(bQ:AZ zey)(jj:AZ ztk)(mK:Agt)(aQ:KK):BCX:=
 A8 (AN gV Ae yeu z0j (by
  have nd:=Ae.nd;show AS bM;exact(bO (Y3 3 bQ Ρ (Jn bQ Χ BG))
   (A7 (bO (A7 (AbA 4 (A7 (AL0 jj (SS (vY (own:= ["sheet"]) (N' := Afx) (by show cX BGE _ ["sheet"] [] (aV Y0) Afx;symm_saturate) rfl #[FD DT] #[GI Afx,_] #[tQ,_] #[qQ (Fh AJc Azq),_]))))))
   (I_ (Vh (qL P2 Χ Ρ J') (Jn mK (uv (Ý DT)) E2) E2)))))) (AU yf7)) hm F.kp (AM (by show qa;exact rfl))
theorem w6:FK Ľ Ľ Y4:=AE
theorem z83(F:AB "shares" "shares" Y4)(hm:A6 "shares")(yj:BCX):BCY:=
 A8 (AN gV w6 ybb zul (by
  have nd:=w6.nd;show AS bM;exact(AFY (ACy (vY (own:= ["other"]) (N' := Apo) (by show cX Ľ _ ["other"] [0,2] (aV Y4) Apo;symm_saturate) rfl #[FD Ρ] #[GI Apo,_] #[tQ,_] #[AKP yj Ρ Χ BG,_])))) (AU z9r)) hm F.kp (AM (by show qa;exact rfl))
theorem Af:APg zwr:=AE
theorem z97(F:AB "minus" "minus" zwr)(hm:A6 "minus")(bh:AZ TJ):A1f:=
 A8 (AN gV Af yed z0y (by
  have nd:=Af.nd;show AS bM;exact(Pw (F7 bh (ADo qB Azg) qB))) (AU yem)) hm F.kp (AM (by show Cf;exact rfl))
theorem qF:vn "sheet" "sheet" ziw:=AE
theorem zut(F:AB "mean_mark" "mean_mark" ziw)(hm:A6 "mean_mark")(bh:AZ TJ)(Jb:GS "sum")(aQ:KK):A_b:=
 A8 (AN gV qF zwv zlv (by
  have nd:=qF.nd;show AS bM;exact(Pw (F7 bh (ygw rfl rfl Jb Χ) Azq))) (AU zxa)) hm F.kp (AM (by show Na;exact rfl))
theorem xq:A4s Y5:=AE
theorem z4t(F:AB "excess" "excess" Y5)(hm:A6 "excess")(jj:AZ ztk)(eF:AZ zm5)(oE:A_b)(bQ:AZ zey):BEw:=
 A8 (AN gV xq yal zvv (by
  have nd:=xq.nd;show AS bM;exact(AOm (AL0 jj (SS (vY (own:= ["sheet"]) (N' := ["sheet","hand"]) (by show cX nK _ ["sheet"] [0] (aV Y5) AY5;symm_saturate) rfl #[FD AvW] #[GI AY5,_] #[tQ,_] #[F7 eF (uv (z8c (hu1 hu) Χ Ρ)) (Sj oE PD),_]))))) (AU z85)) hm F.kp (AM (by show Cf;exact rfl))
theorem jX:Go Abj "hands" "sheets" QV:=AE
theorem zlk(F:AB "group_leanings" "group_leanings" QV)(hm:A6 "group_leanings")(vq:BDg)(vA:BCY)(vB:BEw)(bQ:AZ zey)(aQ:KK):BEx:=
 A8 (AN gV jX zme zff (by
  have nd:=jX.nd;show AS bM;exact(bO (ib (im 2 (own:= ["hand"]) (N' := Ľ) (by show cX Abj _ ["hand"] [0,1] (aV QV) Ľ;symm_saturate) rfl #[FD ArK] #[GI Ľ,_] #[tQ,_] #[A5e vA,_]))
   (A7 (bO (ib (im 3 (own:= ["hand"]) (N' := nK) (by show cX Abj _ ["hand"] [1] (aV QV) nK;symm_saturate) rfl #[FD ArK] #[GI nK,_] #[tQ,_] #[Ak8 vB,_]))
   (A7 (bO (ib (im 4 (own:= ["hand"]) (N' := nK) (by show cX Abj _ ["hand"] [1] (aV QV) nK;symm_saturate) rfl #[FD Χ] #[GI nK,_] #[tQ,_] #[qQ (AIZ (Ý AvW)),_]))
   (I_ (F7 vq (iw #[VG (iw (Á E2)) BG]) (iw #[VG (iw (Á (uv aP))) DT]))))))))) (AU zl7)) hm F.kp (AM (by show Cf;exact rfl))
theorem sO:Ah' BHq Y6:=AE
theorem zxl(F:AB "leanings" "leanings" Y6)(hm:A6 "leanings")(vC:A_p)(iH:BEx)(cQ:AZ Yw)(bI:lP)(iu:AFP):A_q:=
 AUU (AN Hv sO z2m zpl (by
  have nd:=sO.nd;show AS bM;exact(bO (Ą z75 1 ATG)
   (A7 (bO (A7 (Lq rfl #[AL2 vC.fn] AAZ
   (A7 (bO (A7 (AbA 3 (AP2 iw (zz7 rfl rfl bI (AL0 cQ.fn (SS (vY (own:= ["row"]) (N' := ["row","hands"]) (by show cX BHq _ ["row"] [2] (aV Y6) Auu;symm_saturate) rfl #[FD Χ] #[GI Auu,_] #[Ke (qL (AV Oi) KE Ρ ő),_] #[qv 0,_])))))))
   (IR (Vy rfl #[AOT BG (Jn iH BG DT)] (Aa1 4 5)
   (IR (ycp (i:=1) yy rfl D8 #[qv 4] #[qv 5]))))))))
   BCs)))) (AU z1a))
theorem zmi:FK ["self","work","apart"] ["self","work","apart"] zd4:=AE
theorem zmj(F:AB "__init__" "Open.__init__" zd4)(M:BGB c.Open)(hm:TD "Open" c.Open)(jk:Ajn)(fB:Avw)(dY:Avx):BJY:=
 ⟨f,fd,z7u F rfl zmi jk fB dY Δ AN9 AN9 AN9 (AV rfl) (AV rfl),M.1,M.2,jk,hm,AM (by show qa;exact rfl)⟩
theorem Ag:APg zyg:=AE
theorem z9e(F:AB "times" "times" zyg)(hm:A6 "times")(bh:AZ TJ):A1g:=
 A8 (AN gV Ag yho zze (by
  have nd:=Ag.nd;show AS bM;exact(Pw (F7 bh qB qB))) (AU yh3)) hm F.kp (AM (by show Cf;exact rfl))
theorem Dz:APg z48:=AE
theorem ye0(F:AB "over" "over" z48)(hm:A6 "over")(bh:AZ TJ):A1h:=
 A8 (AN gV Dz yi2 z3s (by
  have nd:=Dz.nd;show AS bM;exact(Pw (F7 bh qB qB))) (AU ykj)) hm F.kp (AM (by show Cf;exact rfl))
theorem vD:FK ["left","right","x","part"] ["left","right","x"] zob:=AE
theorem z2x(F:AB "between" "between" zob)(hm:A6 "between")(yq:A1g)(mK:Agt)(eF:AZ zm5)(rJ:AZ z5e):BIH:=
 A8 (AN gV vD z7v zqv (by
  have nd:=vD.nd;show AS bM;exact(bO (Y3 3 yq (Jn eF BG KE) Axb)
   (I_ (F7 mK KE (Jn rJ DT Axb))))) (AU z8f)) hm F.kp (AM (by show qa;exact rfl))
theorem mW:AJr ["self","x","left","right"] "x" zev:=AE
theorem zoc(F:AB "scaled" "Scale.scaled" zev)(M:Meth K c.Scale "scaled" f)(bR:AT3)(rK:BIH)(iu:AFP)(bF:ADQ)(aL:ARq):BH6:=
 Ê (AN gV mW zp6 zhf (by
  have nd:=mW.nd;show AS bM;exact(bO #[tM #[N5 (Ga (ů (bi (bi AOs)) Ρ))]
   (I_ (dB (bi AOs) aP ABd))
   FY]
   #[bO #[Vy rfl #[AOT AOs (z50 AOs (Gb aP) LC)] (Aa1 2 3)
   (IR (tM #[Ga (F7 bR Ρ (bi DT))]
   (I_ (AKP rK BG DT Ρ))
   FY))]
   (I_ (dB (L4 AOs AJc) aP ABd))])) (AU zp8)) (AM (by show Cf;exact rfl))
theorem jC:AJr (ABn "hand") "hand" zc4:=AE
theorem zji(F:AB "leaning" "Sitting.leaning" zc4)(M:AAl "leaning")(aA:fA)(aO:BKh):BDu:=
 Ê (AN gV jC zkm zeo (by
  have nd:=jC.nd;show AS bM;exact(Pw (yhm yy (lh aO) Ρ (uv aP) (MQ rfl rfl rfl)))) (AU zkw)) (AM (by show Cf;exact rfl))
theorem DG:vn "some" "some" z5t:=AE
theorem yge(F:AB "mean" "mean" z5t)(hm:A6 "mean")(rJ:AZ z5e)(jj:AZ ztk)(aQ:KK):A'S:=
 A8 (AN gV DG ykz z4f (by
  have nd:=DG.nd;show AS bM;exact(Pw (F7 rJ (Sj jj PD) (uv fq)))) (AU yll)) hm F.kp (AM (by show Na;exact rfl))
theorem mX:vn "rule" "rule" zew:=AE
theorem zny(F:AB "least_number" "least_number" zew)(hm:A6 "least_number"):A'O:=
 A8 (AN gV mX zpm zgs (by
  have nd:=mX.nd;show AS bM;exact(Pw (Vh (qL P2 Χ Bw J') aP aP))) (AU zqb)) hm F.kp (AM (by show Na;exact rfl))
theorem Ah:vn "two" "two" zx5:=AE
theorem yby(F:AB "width" "width" zx5)(hm:A6 "width")(eF:AZ zm5):A'R:=
 A8 (AN gV Ah yf9 zzr (by
  have nd:=Ah.nd;show AS bM;exact(Pw (F7 eF KE KE))) (AU yf8)) hm F.kp (AM (by show Na;exact rfl))
theorem vG:FK ["order","best","place","two"] ["order"] zoa:=AE
theorem z2h(F:AB "nearest" "nearest" zoa)(hm:A6 "nearest")(bR:AZ Qy)(mL:AZ zyj)(cG:AFO)(aQ:KK):A'T:=
 A8 (AN gV vG z3e zqu (by
  have nd:=vG.nd;show AS bM;exact(bO (Sk 1 (Ĳ (Kg Χ LC (Gb aP))))
   #[bO #[z45 rfl rfl cG (Ara aP AzS) AAZ
   #[bO (Sk 3 (BII BG BG))
   (IR (tM #[N5 (Ga (ů (Sj mL Y1) (AL0 mL DT)))]
   (kg 1 #[qv 3])
   FY))]]
   (VT 1)])) (AU z3r)) hm F.kp (AM (by show Na;exact rfl))
theorem DK:Go ["order","gap"] "order" "gap" z3d:=AE
theorem yfz(F:AB "pair" "pair" z3d)(hm:A6 "pair")(rM:A'T)(bR:AZ Qy)(mL:AZ zyj)(aQ:KK)(jl:Aqc):BGU:=
 A8 (AN gV DK yjt z6y (by
  have nd:=DK.nd;show AS bM;exact(bO #[tM #[NZ (ydr (qL P2 fq aP J') (z73 (Ga (ů Ρ (Sj mL PD)))))]
   (BAe jl.1 jl.2)
   FY]
   (I_ (AL2 rM)))) (AU yle)) hm F.kp (AM (by show Cf;exact rfl))
theorem xu:vn "order" "order" zs2:=AE
theorem z54(F:AB "middle" "middle" zs2)(hm:A6 "middle")(aQ:KK):A'P:=
 A8 (AN gV xu yaw zt6 (by
  have nd:=xu.nd;show AS bM;exact(bV #[fH (BII (t6 AzS) (t6 fq))])) (AU yai)) hm F.kp (AM (by show Na;exact rfl))
theorem xG:FK A_t ["some"] Y7:=AE
theorem z6f(F:AB "rising" "rising" Y7)(hm:A6 "rising")(bR:AT3)(aQ:KK):A_Z:=
 A8 (AN gV xG yab zum (by
  have nd:=xG.nd;show AS bM;exact(bO (AWq 1)
   (A7 (bO (A7 (Lq rfl AMH AAZ
   (A7 (bO (A7 (AbA 3 (A7 (ygl (AK8 (Ý (SS (vY (own:= ["other"]) (N' := ["other","part"]) (by show cX A_t _ ["other"] [2] (aV Y7) AyD;symm_saturate) rfl #[FD Ρ] #[GI AyD,_] #[AqP (ů Ρ Χ),_] #[qv 0,_]))))))))
   (Adb 1 z33 PySem.F.slot_list_insert PySem.F.type_list_insert (Ara DT BG))))))
   (VT 1))))) (AU z94)) hm F.kp (AM (by show Na;exact rfl))
theorem Ai:FK AS1 ["rule","marks","gap"] Lb:=AE
theorem ygg(hr:AI5 6 "worth" (aV Lb))(mO:Agu)(cR:Agv)(AtG):qP (eU NE P w K mg base AS1 "worth" (aV Lb) f cdv A outer s H E) F0 H (xH Lb) (zsv K c):=by
 have nd:=Ai.nd;show APn "worth" Lb
 exact(bO #[tM (OG (AV GK) Ah8 (Sj cR PD))
 (BAe lM.1 lM.2)
 FY]
 #[bO #[tM (OG P2 Χ Bw)
 (Ahz Y1)
 FY]
 #[bO #[tM (OG P2 Χ Bw)
 (Ahz (JU (AL0 jD Avv)))
 FY]
 (Ahz (JU (Jn pL Avv (Vh (qL (AV Vp) BG NT J') (yk8 rfl jE) BG))))]])
theorem ybh{f:Addr}{fd:FuncData}{tV:Addr}(c:Cls)(F:BFP)(mO:Agu)(cR:Agv)(AtG):K0 fG NE 7 f fd AS1 (nq K (S9 c)):=
 AN abm Ai yhc zsv (ygg c hr mO cR pL jD eY aQ lM jE) (AU yfs)
theorem z9s(A_S){tV:Addr}{O8:IE}{dn:Nat}{O9:vz}(c:Cls)(F:BFP)(hT:K.lookup tV=some (AsC (List.toArray [Ω])))(hm:A6 "worth")(mO:Agu)(cR:Agv)(AtG):BGR:=by
 have FO:=BCh ybh P c F mO cR pL jD eY aQ lM jE;have kp:=F.kp;obtain⟨oc,od,kV,doc,pm,an,cdv,ct,osl,e0,lk,hcd⟩:=F.ex;subst e0;refine⟨f,_,FO,hm,kp,BAf,BAf⟩
 ·match us,hl with | [_,_,_],_=>exact BindsTo.of_defaults rfl (X _ _ hT) rfl rfl rfl
 ·have hl2:us.length=2:=A0 hl
  match us,hl2 with | [_,_],_=>exact BindsTo.of_defaults rfl (X _ _ hT) rfl rfl rfl
theorem je:FK ["self","work","sheet","levels"] ["self","work","sheet"] Y8:=AE
theorem zi1(F:AB "reckoned" "Sitting.reckoned" Y8)(M:AAl "reckoned")(fQ:BJY)(jF:BH6)(eF:AZ zm5)(gP:BDu)(yr:BGR)(jl:Aqc)(lM:Ad5)(bF:ADQ)(aA:fA)(aY:BKi)(bA:ja "rule")(bJ:ja "gap")(kJ:Az9)(oF:A2I)(rN:Az'):BDv:=
 Ê (AN gV je zkc zd5 (by
  have nd:=je.nd;show AS bM;exact(bO (ib (im 3 (own:= Atk) (N' := AZu) (by show cX ["self","work","sheet","levels"] _ Atk [0] (aV Y8) AZu;symm_saturate) rfl #[oR (yb1 BG)] #[AHg AZu AZu,_] #[tQ,_] #[F7 eF (uv Ρ) (RB gP aA JJ BG (au Χ aN)),_]))
   (IR (ygu rfl rfl rfl rfl jl.1 jl.2 rfl lM.1 lM.2 (Υ F0 (CC (Pw (RB jF bF JJ (lh aY) (JU (ya6 yr JJ rfl (au (lh bA) (Fh DT (lh bJ)))))))))
   BIb
   BIb)))) (fun ds Q Ex h=>zj2 ⟨(jl.2).k,(lM.2).k,kJ,oF,rN⟩ h)) (AM (by show qa;exact rfl))
theorem jG:Go ["marks","counts","order"] "marks" "counts" Y9:=AE
theorem zjj(F:AB "borders" "borders" Y9)(hm:A6 "borders_borders")(eY:AZ zi8):BDi:=
 A8 (AN gV jG zlg zen (by
  have nd:=jG.nd;show AS bM;exact(bO (LG 2 (AL2 eY))
   (AYM (vY (own:= ["count"]) (N' := ["count","order"]) (by show cX ["marks","counts","order"] _ ["count"] [2] (aV Y9) AyE;symm_saturate) rfl #[FD (iw #[Kg Ρ LC (Gb (G3 aP))])] #[GI AyE,_] #[tQ,_] #[Vh (qL ATd Χ aP J') (L4 Ρ (G3 Χ)) NT,_])))) (AU zk7)) hm F.kp (AM (by show Cf;exact rfl))
theorem Aj:Alk ["some","bounds","lists","bound"] zxx:=AE
theorem yat(F:AB "reach" "reach" zxx)(hm:A6 "reach")(lK:AZ zqx):BDh:=
 A8 (AN gV Aj ygp z0t (by
  have nd:=Aj.nd;show AS bM;exact(bO (Ą Ln 2 (Á (iw (Á aP))))
   #[bO #[Lq rfl #[qv 1] (dq 3)
   (Aq2 2 (Ä (Sj lK (au Χ (Fh (ykc (i:=2) rfl D8 AJc ABd) DT)))))]
   (VT 2)])) (AU yew)) hm F.kp (AM (by show Cf;exact rfl))
theorem jH:AJr ASJ "reach" QX:=AE
theorem zka(F:AB "__init__" "Barred.__init__" QX)(BJs):K0 fG NE 4 f fd ASJ (Wx K c.bK "reach" (S6 c)):=by
 have nd:=jH.nd;refine z57 F rfl jH dZ gQ iM.1 bZ rfl AN9 (qq yag) Δ (Ab5 ?_)
 show APn "Barred.__init__" QX
 exact⟨rfl,rfl,D5,zeq K c,CC (ybf (own:= ["counts"]) (N' := Afy) (by show cX ASJ _ ["counts"] [] (aV QX) Afy;symm_saturate) rfl #[FD Ρ] #[GI Afy,_] #[tQ,_] #[AK9 VB PD,_]),BHH ycr⟩
theorem zjf(F:AB "__init__" "Barred.__init__" QX)(M:BGB c.bK)(hm:TD "Barred" c.bK)(BJs):BIZ:=
 ⟨f,fd,zka c F dZ gQ iI bI iM bZ,M.1,M.2,dZ,hm,AM (by show Cf;exact rfl)⟩
theorem oG:Go ["least","marks"] "least" "marks" Za:=AE
theorem zpz(F:AB "number_from" "number_from" Za)(hm:A6 "number_from")(bR:AT3)(aQ:KK):BDe:=
 A8 (AN gV oG zto zic (by
  have nd:=oG.nd;show AS bM;exact(AOm (Ý (SS (vY (own:= ["mark"]) (N' := ["mark","least"]) (by show cX ["least","marks"] _ ["mark"] [0] (aV Za) Avj;symm_saturate) rfl #[FD Ρ] #[GI Avj,_] #[AqP (Jn bR Χ Ρ),_] #[qv 0,_]))))) (AU zrv)) hm F.kp (AM (by show Cf;exact rfl))
theorem DN:vn "marks" "marks" Zb:=AE
theorem yht(F:AB "ends" "ends" Zb)(hm:A6 "ends")(kO:BDe)(bT:AJp)(wX:GS "set"):A_c:=
 A8 (AN gV DN yjx z66 (by
  have nd:=DN.nd;show AS bM;exact(AFY (ACy (yei rfl rfl bT rfl wX (au (SS (VG (iw (Á aP)) (SS (vY (own:= ["mark"]) (N' := ["mark","marks"]) (by show cX ["marks"] _ ["mark"] [0] (aV Zb) Avi;symm_saturate) rfl #[FD Χ] #[GI Avi,_] #[tQ,_] #[Ak8 kO,_])))) aN))))) (AU yj5)) hm F.kp (AM (by show Na;exact rfl))
theorem mY:Alk A5h Zc:=AE
theorem zpd(F:AB "rests_behind" "rests_behind" Zc)(hm:A6 "rests_behind")(iI:AZ zmt)(bI:lP)(jJ:GS "reversed"):A'd:=
 A8 (AN gV mY zpx zgw (by
  have nd:=mY.nd;show AS bM;exact(bO (ib (im 2 (own:= AS') (N' := Aml) (by show cX A5h _ AS' [0] (aV Zc) Aml;symm_saturate) rfl #[oR (zw5 rfl rfl jJ PD)] #[GI Aml,_] #[tQ,_] #[bN (AV GJ) AW9 Χ,_]))
   #[bO (Y3 3 iI BG (iw #[z24 rfl rfl bI rfl jJ Y1]))
   (AIM (Ĳ (Kg (iw #[z24 rfl rfl bI rfl jJ AhL]) (Gb aP) LC)))])) (AU zpn)) hm F.kp (AM (by show Cf;exact rfl))
theorem lN:Alk Asu T4:=AE
theorem zma(F:AB "greatest_cuts" "greatest_cuts" T4)(hm:A6 "greatest_cuts")(jK:A'd)(fZ:AZ zl1)(iu:AFP)(Jc:GS "max"):A'e:=
 A8 (AN gV lN znb zf6 (by
  have nd:=lN.nd;show AS bM;exact(bO (Ą Ln 2 (Á aP))
   (A7 (bO (A7 (Vy rfl #[Rz rfl rfl iu (AKJ (Jn jK Χ Ρ))] (Aa1 3 4)
   (A7 (bO (A7 (z88 (i:=5) nd rfl rfl (own:= AS') (N' := Ank) (by show cX Asu _ AS' [2,3] (aV T4) Ank;symm_saturate) rfl (AK8 (oR (rZ Χ))) #[GI Ank,_] #[Ke (Ga (Jn fZ (ADo Χ AW9) BG)),_] #[qv 0,_]))
   (AP2 bV (Oh (i:=2) (AV VF) PySem.F.slot_list_append PySem.F.type_list_append rfl D8 (A7 (JU (pP (AV (ykt rfl)) rfl Jc boot_max (au (SS (vY (own:= ["end"]) (N' := Apq) (by show cX Asu _ ["end"] [0,4] (aV T4) Apq;symm_saturate) rfl #[FD n5] #[GI Apq,_] #[Ke (qL (AV Oi) (ADo AW9 Χ) BG ő),_] #[qv 0,_])) aN))))))))))
   (AIM (Ĳ (Kg BG (Gb aP) LC))))))) (AU zoy)) hm F.kp (AM (by show Cf;exact rfl))
theorem DP:Go ["marks","bounds","some","lists"] "marks" "bounds" z37:=AE
theorem ygz(F:AB "cuts" "cuts" z37)(hm:A6 "cuts")(gR:BIZ)(Cp:A_c)(iI:AZ zmt)(iT:A'e)(aQ:KK):BEW:=
 A8 (AN gV DP yir z3t (by
  have nd:=DP.nd;show AS bM;exact(bO (LG 2 (AL2 Cp))
   #[bO (Y3 3 iI BG Ρ)
   #[bO #[tM #[qL (AV yme) fq (L4 DT AJc) ő]
   (IR (z3j rfl gR JJ rfl AhL))
   FY]
   (I_ (F7 iT BG Ρ))]])) (AU yi6)) hm F.kp (AM (by show Cf;exact rfl))
theorem jf:FK BJF Afs Ld:=AE
theorem zjp{f:Addr}{cdv:Value}{A:Around}{outer:GB}{s:Shared}{H H1:Hp}{E:XK}{F0:Hp}(c:Cls)(hr:AI5 8 "Sitting.__init__" (aV Ld))(AtD):qP (eU NE P w K mg base BJF "Sitting.__init__" (aV Ld) f cdv A outer s H E) F0 H1 (xH Ld) (zch K c):=by
 have nd:=jf.nd;show APn "Sitting.__init__" Ld
 exact(bO (AXX bA AUw)
 #[bO (AXX bJ #[qv 3])
 #[bO (AXX aY #[z0u aZ JJ rfl (JU (iw #[AK9 VB (JU (yE bF aL E2))]))])
 #[bO (AXX aO #[yf5 #[zrr fV JJ rfl Y1]])
 #[bO (Aux bx #[zrr cQ JJ rfl Y1])
 #[bO (Aux aK ATG)
 #[bO #[Lq rfl (Ĳ (zzg (fun F0 H0=>(CC (zzd rfl rfl bT (JU (lh bx))))))) (dq 6)
 (IR (KA ya7 0 j 6 yy aA aK #[z2s bL aA JJ (AK8 Χ) (AK8 (Fh AEq (z8c (hu1 hu) (lh bx) AEq)))] rfl D8 rfl D8))]
 #[bO (Sk 7 (Ĳ (zzg (fun F0 H0=>(CC (zz7 rfl rfl bI AV2))))))
 (IR (Ws (i:=0) aA aD #[F7 bU į (Jn pN į n5)] rfl D8))]]]]]]])
theorem zih(F:AB "__init__" "Sitting.__init__" Ld)(AtD):K0 fG NE 9 f fd Afs (Dm K (M9 c)):=
 abv F jf (fun _ _ _ _ h=>z5s h) fun cdv A outer s H E hr F0 H0=>⟨zch K c,BJr (zjp c hr aZ fV cQ bL bU pN),fun a bs t ds Q Ex h=>z8t h⟩
theorem zi0(F:AB "__init__" "Sitting.__init__" Ld)(M:Mk K c.ak f)(hm:TD "Sitting" c.ak)(AtD):BH7:=
 ⟨A8 (BJr (zih c F aZ fV cQ bL bU pN)) M hm (AM (by obtain⟨_,_,_,_,_,_,rfl⟩:=abG hl;exact rfl)),i3 z5a⟩
theorem iQ:AoS zcj:=AE
theorem zh3(F:AB "must_have" "Sitting.must_have" zcj)(M:AAl "must_have")(aA:fA)(aK:ARO):A_f:=
 Ê (AN gV iQ zie zdm (by
  have nd:=iQ.nd;show AS bM;exact(bV #[tM #[z8o yy Ρ AV2 ő]
   AUf
   FY])) (AU zig)) (AM (by show Cf;exact rfl))
theorem mZ:AoS zeu:=AE
theorem zns(F:AB "mark" "Sitting.mark" zeu)(M:AAl "mark")(fL:A_f)(aA:fA)(aK:ARO):A_g:=
 Ê (AN gV mZ zpw zgt (by
  have nd:=mZ.nd;show AS bM;exact(bO #[yg9 #[RB fL aA JJ Χ Y1]]
   (I_ (z8c (hu1 hu) AV2 Ρ)))) (AU zps)) (AM (by show Cf;exact rfl))
theorem lO:Go ["some","mark","place","border"] "some" "mark" zec:=AE
theorem zmk(F:AB "grade" "grade" zec)(hm:A6 "grade_borders")(bR:AT3)(dg:Ag4)(aQ:KK):BDf:=
 A8 (AN gV lO znr zf2 (by
  have nd:=lO.nd;show AS bM;exact(bO #[Vy rfl #[An1 PD] (Aa1 2 3)
   (IR (tM #[NZ (ydr (qL (AV yl9) DT NT J') (z73 (N5 (Ga (ů Ρ DT)))))]
   (VT 2)
   FY))]
   (I_ (pP (AV vX) rfl aQ boot_len PD)))) (AU zop)) hm F.kp (AM (by show Cf;exact rfl))
theorem lQ:AoS zd7:=AE
theorem zmf(F:AB "grade" "Sitting.grade" zd7)(M:AAl "grade")(iU:BDf)(dI:AZ zgc)(aA:fA)(aD:Adf):A_h:=
 Ê (AN gV lQ znu zf3 (by
  have nd:=lQ.nd;show AS bM;exact(Pw (F7 iU (lh aD) (RB dI aA JJ Χ (au Ρ aN))))) (AU znj)) (AM (by show Cf;exact rfl))
theorem lR:A1I Zd:=AE
theorem zl5(F:AB "table" "Sitting.table" Zd)(M:AAl "table")(dI:AZ zgc)(iV:A_h)(bT:AJp)(aA:fA)(aK:ARO):A's:=
 Ê (AN Hv lR zn8 zf4 (by
  have nd:=lR.nd;show AS bM;exact(AFY (Wg (A7 (yhr (A7 (vY (own:= ["work"]) (N' := ["work","self"]) (by show cX AdQ _ ["work"] [0] (aV Zd) Avh;symm_saturate) rfl #[FD (iw #[zzd rfl rfl bT (JU AV2)])] #[GI Avh,_] #[tQ,_] #[AXs (Fh (AxQ dI) (AxQ iV)),_]))))))) (AU zoj)) (AM (by show Na;exact rfl))
theorem jL:A1I zc6:=AE
theorem zkf(F:AB "borders" "Sitting.borders" zc6)(M:AAl "borders")(bI:lP)(aA:fA)(aD:Adf):A't:=
 Ê (AN Hv jL zlm zep (by
  have nd:=jL.nd;show AS bM;exact(bV #[Wg #[yhr #[AK9 VB (JU (lh aD))]]])) (AU zk6)) (AM (by show Na;exact rfl))
theorem sU:FK ["_law_rows","_law_rule","_law_gap","_law_bounds_here","_law_far","_law_scale","_law_told_here","_law_sitting","e"] BL0 zk2:=AE
theorem zx3(F:AB "_law_told" "_law_told" zk2)(hm:A6 "_law_told")(aZ:AZ zca)(fW:BH7)(iW:A's)(gU:A't)(Cq:A'V)(vH:A'W)(aA:fA)(fB:Avw)(dY:Avx)(bZ:BLX)(jk:Ajn)(dZ:Aej)(rO:lW K c.Open=true)(oH:lW K c.bK=true)(oJ:A0G)(kY:A2H)(iY:Az_):BCZ:=
 A8 (AN gV sU z2u znd (by
  have nd:=sU.nd;show AS bM;exact(bO (oz 4 ZP aP aP)
   #[bO (LG 5 (z0u aZ JJ rfl (JU (iw #[yK (Fh (A0W A1n A1n) (A0W E2 E2))]))))
   #[bO (LG 6 NT)
   #[bO #[z9d (i:=8) rfl rfl rfl nd rfl rfl rfl Cq.1 jk.cls rfl vH.1 dZ.cls (Υ F0 (CC (bO (Ą yfu 7 #[yf4 fW JJ rfl (au Χ (AI9 Ρ BG n5 DT))])
   (kg 6 #[qQ (au Bw (Fh (BGL iW) (BGL gU)))]))))
   (Afe (LG 6 (qQ (au Bw (Fh (zzu (i:=8) jk fB rfl D8) (zzu (i:=8) jk dY rfl D8))))))
   (Afe (LG 6 (qQ (au Bw (Fh (yf0 (i:=8) dZ bZ rfl D8) NT)))))]
   (VT 6)]]])) (fun ds Q Ex h=>z2w ⟨rO,oH,oJ,kY,iY⟩ h)) hm F.kp (AM (by show AY8;exact rfl))
theorem qG:FK AEM AEM ziq:=AE
theorem ztx(F:AB "_law_moved" "_law_moved" ziq)(hm:A6 "_law_moved")(dJ:AZ zhv):BCa:=
 A8 (AN gV qG zwh zlr (by
  have nd:=qG.nd;show AS bM;exact(bO #[tM (OG (AV Vp) Χ NT)
   (I_ NT)
   FY]
   (I_ (F7 dJ (NM (d5 At7 (NM Ρ KE)) DT) At7)))) (AU zyh)) hm F.kp (AM (by show AY8;exact rfl))
theorem vI:FK AsR BLL T5:=AE
theorem z1x(F:AB "_law_due" "_law_due" T5)(hm:A6 "_law_due")(jY:BCa):BCb:=
 A8 (AN gV vI z65 zqq (by
  have nd:=vI.nd;show AS bM;exact(bO #[tM (OG AMV KE Bw)
   (VT 0)
   FY]
   (A7 (bO (ib (im 4 (own:= AuY) (N' := APp) (by show cX AsR _ AuY AHn (aV T5) APp;symm_saturate) rfl #[FD KE] #[Aal APp APp APp,_] #[tQ,_] #[AXs (Fh (AL1 jY Ρ DT E2 n5) BG),_]))
   (A7 (AOm (qQ (au Bw (Fh E2 (SS (vY (own:= ["_law_one"]) (N' := AEM) (by show cX AsR _ ["_law_one"] AHn (aV T5) AEM;symm_saturate) rfl #[FD KE] #[GI AEM,_] #[tQ,_] #[Î jY (AI9 Χ Ρ BG DT),_]))))))))))) (AU z4l)) hm F.kp (AM (by show AY8;exact rfl))
theorem Jd:AtP APs wz:=AE
theorem ymi(hr:AI5 11 "law" (aV wz))(fY:Ags)(aR:ALc)(AtC):qP (eU NE P w K mg base APs "law" (aV wz) f cdv A outer s H E) F0 H (xH wz) (z3u K c):=by
 have nd:=Jd.nd;show APn "law" wz
 exact(bO (LG 1 (AKP fY Χ AlD AlD))
 (A7 (bO A3p
 (A7 (bO (Sk 3 (ABL (iw #[yK (au Bw (Fh Bw Bw))]) (kN BG)))
 (A7 (bO (Y3 4 dJ AYO (d5 aP AYO))
 (A7 (bO (LG 5 (AL2 dR))
 (A7 (bO (LG 6 (Î dU (AI9 Ρ DT E2 n5)))
 (A7 (bO (Sk 7 (ABL (L4 Ρ (P5 qT ACz Ah8)) aP))
 (A7 (bO (oz 8 vW aP AxC)
 (A7 (bO (ib (im 9 (own:= AG3) (N' := APl) (by show cX APs _ AG3 [7,8] (aV wz) APl;symm_saturate) rfl #[FD Ρ] #[Aal APl APl APl,_] #[tQ,_] #[AXs (AKJ (AsB BG E2 (Lk P2 Ρ DT J'))),_]))
 (A7 (bO (A7 (AbA 10 (A7 (Ý (SS (vY (own:= AG3) (N' := APb) (by show cX APs _ AG3 [7] (aV wz) APb;symm_saturate) rfl #[FD Ρ] #[Aal APb APb APb,_] #[Ke (qL P2 Ρ DT J'),_] #[qv 1,_]))))))
 (A7 (bO #[tM (OG AMV (AL1 dU ATV DT E2 n5) (Sj f9 (au AEq (au (NM wq (qv 10)) (AIZ Ah8)))))
 (I_ yfi)
 FY]
 (A7 (bO (oz 11 vW aP AxC)
 (A7 (bO (ib (im 12 (own:= AG3) (N' := APJ) (by show cX APs _ AG3 [11] (aV wz) APJ;symm_saturate) rfl #[FD Ρ] #[Aal APJ APJ APJ,_] #[tQ,_] #[AXs (AKJ (NM BG DT)),_]))
 (I_ (Lk P2 (AL1 dU (qv 12) DT (Jn dJ (NM (bi E2) (qv 11)) (bi E2)) n5) (AL1 f9 AEq aP aP (qv 11)) J')))))))))))))))))))))))))))
theorem yc6(F:AB "law" "law" wz)(fY:Ags)(aR:ALc)(AtC):K0 fG NE 12 f fd BMH (nq K (zz1 c)):=
 AN gV Jd ylz z3u (ymi c hr fY aR dJ dR dU f9 aQ n6) (AU yl7)
theorem ymn(F:AB "law" "law" wz)(hm:A6 "law")(fY:Ags)(aR:ALc)(AtC):QQ "law" 12 "_law_script" zz1:=
 AUU (yc6 c F fY aR dJ dR dU f9 aQ n6)
#where
theorem yjh{l:W.OpenLaw}{w:World}{K:W.Frag}{h:Heap}{mg:B7}{fa:Addr}(O:APf)(X:Ll)(G:Aje)(hfa:TD "law" fa):
 ∃fd:FuncData,(∀(s:Shared) (v:Value),BindsTo s fd (E6 [v]) [("_law_script",v)])/\BAo (fG l.prog w K mg base (eO l.prog w) 12 fa fd BMH (nq K ZX)):=by
 show B' B L Prod.mk.inj O;show B' L M Prod.mk.inj L;show Η KQ 0;show Η Yx 1;show Η Ak 2;show Η Je 3;show Η Al 4;show Η KR 5;show Η Ez 6;show Η Jf 7;show Η Jg 8;show Η Jh 9;show Η Ji 10;show Η Jj 11;show Η Jk 12;show Η Cr 13;show Η Cu 14;show Η Cw 15;show Η Cy 16;show Η Cz 17;show Η CG 18;show Η aL 19;show Η fB 20;show Η dY 21;show Η aO 22;show Η aY 23;show Η bA 24;show Η bJ 25;show Η bZ 26;show Η bx 27;show Η aK 28;show Η aD 29;show Η Jl 30;show Η EY 31;show Η Fb 32;show Η Fd 33;show Η Fe 34;show Η Fg 35;show Η Fi 36;show Η Fj 37;show Η CJ 38;show Η Am 39;show Η Ao 40;show Η Aq 41;show Η Ar 42;show Η Av 43;show Η Aw 44;show Η Ax 45;show Η vJ 46;show Η vK 47;show Η vL 48;show Η a9 49;show Η n9 50;show Η a34 51;show Η n34 52;show Η a38 53;show Η n38 54;show Η a39 55;show Η n39 56;show Η a48 57;show Η n48 58;show Η a51 59;show Η n51 60;show Η a57 61;show Η n57 62;show Η a58 63;show Η n58 64;show Η a59 65;show Η n59 66;show Η a61 67;show Η n61 68;show Η a62 69;show Η n62 70;show Η a63 71;show Η n63 72;show Η a49 73;show Η a60 74;show Η KY 75;show Η Yy 76;show Η Ay 77;show Η Qz 78;show Η Jm 79;show Η KZ 80;show Η Yz 81;show Η YB 82;show Η YC 83;show Η YD 84;show Η YF 85;show Η K1 86;show Η YG 87;show Η QB 88;show Η Jo 89;show Η YH 90;show Η Az 91;show Η YJ 92;show Η CK 93;show Η YK 94;show Η Fl 95;show Η Fo 96;show Η kJ 97;show Η oF 98;show Η rN 99;show Η rO 100;show Η oH 101;show Η oJ 102;show Η kY 103;show Η iY 104
 let c:Cls:={Apart:=AAx "Apart",vP:=AAx "Few",dX:=AAx "HallError",Open:=AAx "Open",bK:=AAx "Barred",Scale:=AAx "Scale",ak:=AAx "Sitting"}
 have bF:ADQ:=⟨Jf,Jg,Jh,Ji⟩;have aA:fA:=⟨Cr,Cu,Cw,Cy⟩;have jl:Aqc:=⟨AOp KQ,KY⟩;have lM:Ad5:=⟨AOp Yx,Yy⟩;have iM:BLv:=⟨AOp Ak,Ay⟩;have Cq:A'V:=⟨AOp Je,Qz⟩;have vH:A'W:=⟨AOp Al,Jm⟩;have jk:Ajn:=⟨Jl,⟨EY,Fb,Fd,Fe,Fg⟩,Fi,Fj⟩;have dZ:Aej:=⟨CJ,⟨Am,Ao,Aq,Ar,Av⟩,Aw,Ax⟩;have gQ:Hs K c.dX:=⟨vJ,vK,L3.isV_of vL⟩;show al cG "range" KZ;show al n6 "int" Yz;have aQ:KK:=AIV YB;show al u6 "abs" YC;have IV:GS "all":=AIV YD;show al iu "zip" YF;show al qw "tuple" K1;show al wV "any" YG;have bI:lP:=AIV QB;show al bT "sorted" Jo;show al wX "set" YH;show al dg "enumerate" Az;have Jb:GS "sum":=AIV YJ;show al jJ "reversed" CK;show al Jc "max" YK;have jE:BKz:=Hd.glb_tup X G Fl Fo AYG
 show BC l0;show BB f0 fd0 a0 Ba l0;show BC l1;show BB f1 fd1 a1 CN l1;show BC l2;show BB f2 fd2 a2 CP l2;show BC l3;show BB f3 fd3 a3 wg l3;show BC l4;show BB f4 fd4 a4 Fp l4;show BC l5;show BB f5 fd5 a5 yt l5;show BC l6;show BB f6 fd6 a6 K3 l6;show BC l7;show BB f7 fd7 a7 Jp l7;show BC l8;show BB f8 fd8 a8 CQ l8;show BC l10;show BB f10 abT a10 QC l10;show BC l11;show BB f11 abU a11 Jq l11;show BC l12;show BB f12 abV a12 Fq l12;show BC l13;show BB f13 abW a13 Jr l13;show BC l14;show BB f14 abX a14 Ft l14;show BC l15;show BB f15 abY a15 Bb l15;show BC l16;show BB f16 abZ a16 Fw l16;show BC l17;show BB f17 ab0 a17 Fy l17;show BC l18;show BB f18 ab1 a18 CT l18;show BC l19;show BB f19 ab3 a19 Bc l19;show BC l20;show BB f20 ab4 a20 YL l20;show BC l21;show BB f21 ab5 a21 Js l21;show BC l22;show BB f22 ab6 a22 wj l22;show BC l23;show BB f23 ab7 a23 Bf l23;show BC l24;show BB f24 ab8 a24 FJ l24;show BC l25;show BB f25 ab9 a25 QD l25;show BC l26;show BB f26 acd a26 K4 l26;show BC l27;show BB f27 ace a27 K5 l27;show BC l28;show BB f28 acf a28 Jt l28;show BC l29;show BB f29 acg a29 K6 l29;show BC l30;show BB f30 ach a30 Bg l30;show BC l31;show BB f31 aci a31 Ju l31;show BC l32;show BB f32 acj a32 rP l32;show BC l33;show BB f33 acn a33 CV l33;show BC l35;show BB f35 aco a35 K7 l35;show BC l36;show BB f36 acp a36 QH l36;show BC l37;show BB f37 acq a37 FN l37;show BC l40;show BB f40 acr a40 QJ l40;show BC l41;show BB f41 acs a41 vM l41;show BC l42;show BB f42 acu a42 K8 l42;show BC l43;show BB f43 acv a43 FP l43;show BC l44;show BB f44 acw a44 QK l44;show BC l45;show BB f45 acy a45 Jv l45;show BC l46;show BB f46 acz a46 Jw l46;show BC l50;show BB f50 acA a50 K9 l50;show BC l52;show BB f52 acB a52 wu l52;show BC l53;show BB f53 acC a53 QL l53;show BC l54;show BB f54 acD a54 vN l54;show BC l55;show BB f55 acE a55 tD l55;show BC l56;show BB f56 acF a56 QM l56;show BC Tz;show BB f64 acG a64 CW Tz;show BC l65;show BB f65 acH a65 Bh l65;show BC l66;show BB f66 acI a66 FQ l66;show BC l67;show BB f67 abH a67 Nj l67;show OH l9;show Pl fd9 rQ l9;show OH l34;show Pl acJ tE l34;show OH l38;show Pl acK oK l38;show OH l39;show Pl acL jZ l39;show OH l47;obtain⟨f47,_,_,_,_,_,a47,La,abI⟩:=Hd.funM_at l47;show OH l48;show Pl acM jM l48;show OH l49;show Pl acN qH l49;show OH l51;show Pl acO qI l51;show OH l57;show Pl acP pO l57;show OH l58;show Pl acQ jg l58;show OH l59;show Pl acR oM l59;show OH l60;show Pl acS tG l60;show OH l61;show Pl acT m7 l61;show OH l62;show Pl acU m8 l62;show OH l63;show Pl acV j4 l63;have e:=hfa.symm.trans (OP a67);cases e;show CF abH (Hd.start_binds Nj (fun _ _ _ _ _ _ _=>rfl)) (Κ base kb nb);show ABP jV zt7 Ba a0 cG n6;show Hn aR zxo CN a1 aQ;show ABQ fY zw9 CP a2 jV aR cG;show Hn kE zpu wg a3 u6;show Hn dJ z1g Fp a4 kE;show ABP dR zts yt a5 aR cG;show AO8 bR yax K3 a6;show Hn vd z4z Jp a7 bR;show w4 jB zx8 CQ a8 vd IV aQ iu;have aZ:=i5 zko c rQ ⟨Jj,AIh a9,n9,Jk⟩ (AUS KR) jB qw bF aL;show Hn yh ygo QC a10 wV;show w4 vg z7a Jq a11 yh bI bT wX;show AO8 cQ z1s Fq a12;show w4 vC z8e Jr a13 vg cQ bT bI;show Hn jo z1i Ft a14 u6;show Hn ou zv9 Bb a15 jo;show Hn rF z1c Fw a16 iu;show ABP rH z13 Fy a17 rF dg;show Hn bh zws CT a18 jo;show Hn oh zug Bc a19 bI;show ABQ Ja yk3 YL a20 oh cG aQ;have vq:=ND z7s c Js (OP a21) ou rH bh Ja cG aQ iu dg;show AO8 bQ zpy wj a22;show AO8 fZ zvk Bf a23;show ABP lK z1v FJ a24 fZ wV;show Hn mK yfa QD a25 bh;show ABP jj ycc K4 a26 lK mK;show w4 yj ycg K5 a27 bQ jj mK aQ;show Hn vA z83 Jt a28 yj;show Hn eF z97 K6 a29 bh;show ABQ oE zut Bg a30 bh Jb aQ;show w4 vB z4t Ju a31 jj eF oE bQ
 have iH:=ND zlk c rP (OP a32) vq vA vB bQ aQ;have fV:=ND zxl c CV (OP a33) vC iH cQ bI iu;have fQ:=ND zmj c tE ⟨AIh a34,n34⟩ (AUS Je) jk fB dY;show Hn yq z9e K7 a35 bh;show Hn rJ ye0 QH a36 bh;show w4 rK z2x FN a37 yq mK eF rJ;have jF:=i5 zoc c oK (wT a38 n38 oK.kp) bR rK iu bF aL;have gP:=i5 zji c jZ (wT a39 n39 jZ.kp) aA aO;show ABQ mO yge QJ a40 rJ jj aQ;show AO8 cR zny vM a41;show Hn mL yby K8 a42 eF;show w4 rM z2h FP a43 bR mL cG aQ;have pL:=ND yfz c QK (OP a44) rM bR mL aQ jl;show Hn jD z54 Jv a45 aQ;show ABP eY z6f Jw a46 bR aQ;have yr:=ND z9s c La abI (OP a47) mO cR pL jD eY aQ lM jE;have bL:=i5 zi1 c jM (wT a48 n48 jM.kp) fQ jF eF gP yr jl lM bF aA aY bA bJ kJ oF rN;show Hn bU zjj qH (AQF a49) eY;show Hn iI yat K9 a50 lK;have gR:=ND zjf c qI ⟨AIh a51,n51⟩ (AUS Al) dZ gQ iI bI iM bZ;show ABP kO zpz wu a52 bR aQ;show ABQ Cp yht QL a53 kO bT wX;show ABQ jK zpd vN a54 iI bI jJ;show w4 iT zma tD a55 jK fZ iu Jc;have pN:=ND ygz c QM (OP a56) gR Cp iI iT aQ;have fW:=i5 zi0 c pO ⟨Cz,AIh a57,n57,CG⟩ (AUS Ez) aZ fV cQ bL bU pN bT bI aA bF bA bJ aY aO bx aK aD aL;have fL:=i5 zh3 c jg (wT a58 n58 jg.kp) aA aK;have dI:=i5 zns c oM (wT a59 n59 oM.kp) fL aA aK;show ABQ iU zmk tG (AQF a60) bR dg aQ;have iV:=i5 zmf c m7 (wT a61 n61 m7.kp) iU dI aA aD;have iW:=i5 zl5 c m8 (wT a62 n62 m8.kp) dI iV bT aA aK;have gU:=i5 zkf c j4 (wT a63 n63 j4.kp) bI aA aD;have dU:=ND zx3 c CW (OP a64) aZ fW iW gU Cq vH aA fB dY bZ jk dZ rO oH oJ kY iY;show Hn jY ztx Bh a65 dJ;show Hn f9 z1x FQ a66 jY;exact ND yc6 c Nj fY aR dJ dR dU f9 aQ n6
theorem hd_wit:lw.row.toRowW.promised:=by w_witness2
theorem hd_w:W.WalkO vw loose BMu (fun w h=>∃K:W.Frag,Ll/\APf) lw.row.toRowW (Hd.recOf wz) [] (fun f vs=>Ae8):=
 P9 Hd.walk_ex n 63 k 12 x "_law_script" CX (HZ (eO lw.prog w)) (sp:=fun K=>nq K ZX) (Fx:=fun w K=>APf) rfl Δ hd_z ⟨rfl,AQ,AQ⟩ (Ait) (fun w K mg fa h O X G hm=>yjh O X G (hd_n ▸ hm)) (fun K H a ns hl hO hS=>z3y hl hS) (AlP z (yb4 z))
#print Lw
end
theorem PySem.Challenge.cw_hall_k96_whole_higher_hand_same_grades_holds : PySem.Challenge.rw_hall_k96_whole_higher_hand_same_grades.Holds :=
 Hd.holds Lw.hd_said (Hd.left Lw.hd_e Lw.hd_f Lw.hd_A Lw.hd_B Lw.hd_C Lw.hd_D) Lw.hd_d Lw.hd_p Lw.hd_k Lw.hd_ok Lw.hd_bare Lw.hd_wit rfl Lw.hd_w
