import PyProof.Rows.All
import Wide.All
import OpenK.AllK
import Wide.FinOn
import Lean
import PyProof.EqAt
import PyProof.EqKinds
import PyProof.TupleCall
import PyProof.NeKinds
import PySem.Challenge.RW_hall_k93_whole_order_kept
set_option Elab.async false
set_option linter.all false
set_option maxRecDepth 100000
set_option maxHeartbeats 4000000
set_option compiler.extract_closed false
open Lean in
local macro_rules|`(command|mutual $cs* end)=>do
 let cs:=cs.map fun c=>c.raw
 unless cs[0]!.isOfKind ``Parser.Command.where do Macro.throwUnsupported
 let ps:Array Name:=#[`ε,`ζ,`η,`θ,`ι,`ν,`ξ,`ο,`π,`ρ,`τ,`υ]
 let ap:= ``Parser.Term.app
 let un:=fun(s:Syntax)=>if s.isOfKind `par then s[0] else s
 let more:=fun(f:Syntax)(as:Array Syntax)=>if as.isEmpty then f else if f.isOfKind ap then .node .none ap #[f[0],mkNullNode (f[1].getArgs++as)] else .node .none ap #[f,mkNullNode as]
 let put:=fun(b:Syntax)(as:Array Syntax)=>b.rewriteBottomUp fun s=>match s with
  |.ident _ _ n _=>match ps.idxOf? n with
   |some i=>.node .none `par #[as.getD i s]
   |none=>s
  |.node i k l=>
   if k==ap&&s[0].isOfKind `par then
    let f:=s[0][0]
    more (if f.isOfKind ``Parser.Term.paren then f[1] else f) (s[1].getArgs.map un)
   else .node i k (l.map un)
  |s=>s
 let ex:=fun(tb:Std.HashMap Name (Nat×Syntax))(c:Syntax)=>c.rewriteBottomUp fun s=>
  let spl:=fun(l:Array Syntax)(k:SyntaxNodeKind)=>if l.any (·.isOfKind `spl) then l.flatMap fun x=>if x.isOfKind `spl then if k==nullKind then x.getArgs else #[x[0]] else #[x] else l
  match s with
  |.ident _ _ n _=>match tb[n]? with
   |some (0,b)=>b
   |_=>s
  |.node i k l=>
   if k==ap then match s[0] with
    |.ident _ _ n _=>match tb[n]? with
     |some (m,b)=>let as:=s[1].getArgs;more (put b (as.extract 0 m)) (as.extract m as.size)
     |_=>s
    |f=>if f.isOfKind ap then more f s[1].getArgs else s
   else if k== ``Parser.Tactic.show&&s[1].isOfKind ``Parser.Term.byTactic then .node .none `spl s[1][1][0][0].getArgs
   else if k== ``Parser.Term.explicitBinder&&s[2].getNumArgs==0 then
    let as:=s[1].getArgs
    match s[1][0] with
    |.ident _ _ n _=>match tb[n]? with
     |some (_,b)=>.node .none `spl (put b (as.extract 1 as.size))[1].getArgs
     |_=>s
    |b=>if b.isOfKind ``Parser.Term.forall then .node .none `spl b[1].getArgs else s
   else if k== ``Parser.Term.paren&&s[1].isOfKind ``Parser.Term.typeAscription then s[1]
   else .node i k (spl l k)
  |s=>s
 let mut tb:Std.HashMap Name (Nat×Syntax):={}
 for a in cs[1]![1][3][0][0][0].getArgs do
  let b:=ex tb a[3]
  let b:=if b.isOfKind ``Parser.Term.paren&&b[1].isOfKind ``Parser.Term.byTactic then b[1] else b
  let mut n:=0
  for x in b.topDown do
   if ps.contains x.getId then n:=n+1
  tb:=tb.insert a[1][0][0].getId (n,b)
 let mut au:Array Syntax:=#[]
 let mut o:=#[]
 for c in cs.extract 2 cs.size do
  if c.isOfKind ``Parser.Command.print then o:=o.push (<-`(command|end $(⟨c[1]⟩):ident)).raw
  else if c.isOfKind ``Parser.Command.where then o:=o.push (<-`(command|end)).raw
  else
   let c:=ex tb c
   for b in c.topDown do
    if b.isOfKind ``Parser.Term.binderTactic&& !au.contains b[2] then
     au:=au.push b[2]
     o:=o.push (<-`(command|theorem $(mkIdent (.str (.mkSimple "_root_") s!"_a{au.size}")) (h:True:=by $(⟨b[2]⟩)):True:=h)).raw
   let v:=au
   o:=o.push (c.rewriteBottomUp fun d=>match d with
    |.atom _ v=>.atom .none v
    |.ident _ r n p=>.ident .none r n p
    |.node _ k l=>
     let d:=Syntax.node .none k l
     if k== ``Parser.Command.declaration&&(d[1].isOfKind ``Parser.Command.definition||d[1].isOfKind ``Parser.Command.abbrev)&&d[1][1][0].getId != `lw then d.setArg 0 (d[0].setArg 4 (mkNullNode #[.node .none ``Parser.Command.noncomputable #[mkAtom "noncomputable"]]))
     else if k== ``Parser.Term.explicitBinder&&d[3][0].isOfKind ``Parser.Term.binderTactic then
      match v.idxOf? d[3][0][2] with
      |some i=>(d.setArg 3 (mkNullNode #[])).setArg 2 (mkNullNode #[d[2][0],.node .none ap #[mkIdent ``autoParam,mkNullNode #[d[2][1],mkIdent (.str (.str (.mkSimple "_root_") s!"_a{i+1}") "_auto_1")]]])
      |none=>d
     else d
    |s=>s)
 return mkNullNode o
mutual
#where
def q
|Τ=>fun ε=>ζ|AH=>.ref ε|AX=>(ε:Int)|Β=>(by decide)|χ=>(by omega)|C3=>.int ε|Ν=>fun ε ζ η=> ?_|BN=>ε ->ζ ->Prop|B7=>ε X F0 H0 ζ η|BQ=>Τ _ ε|An=>(ε:Rat)|GS=>ε b=some ζ|Α=>List Str|ω=>by omega|EE=>ε[ζ]?=some η|LU=>cC (C3 ε)|ψ=>∀(K:W.Frag)(c:Cls),_|Φ=>.none|Μ=>decide (ε)|SI=>ε ζ (aj η ak)|Δ=>List D|OK=>Inv X pins σ ε ζ|Θ=>by rw[ε];exact ζ|Ρ=>(cV 0)|DV=>(by trivial)|FC=>(ε:Nat)|Ψ=>(qv 0)|F6=>Option ε|CY=>fun _=>ε|B8=>.lst ε|Ω=>ε ->ζ ->η ->θ ->ι|DB=>ε ->Prop|AJ=>fun ε ζ=> ?_|Η=>List V|D1=>cB ε ζ (LU η)|BU=>some ε|KM=>.type ε|Ch=>EE ε i ζ|Ε=>(cV 1)|C5=>.Name ε ζ|UZ=>List (ε×ζ)|Cl=>ε a=some ζ|Au=>(ε ζ).map|iN=>OK H ε|Ξ=>fun z=>ε|BH=>ε<=sizeLine|Κ=>(qv 1)|AY=>if_neg ε|BD=>if_pos ε|FD=>fun _ ε=>ζ|OL=>(hr.mono Β)|DZ=>SI aj ε ζ|E3=>au ε (au ζ aL)|Χ=>(by simp)|CM=>by obtain⟨ε,ζ⟩:=η θ|BB=>r.2.1|KO=>ε z E cx|pk=>ε P w K mg base ζ η θ ι|EM=>fun b ε ζ=>η|DC=>ε x=some ζ|AD=>r.1|DD=>by refine⟨ε,ζ,η⟩|Ι=>iN s|FX=>(AH f)|AA=>ε P w K mg base c|E4=>ε=false|ABW=>{cls:= ε,data:= ζ}|AI=>if ε then ζ else η|A8=>by refine⟨ε,ζ⟩|AR=>.ref a|LV=>bJ (BQ ε) ζ η|B9=>by simpa using ε|FY=>pk cH ε ζ η (θ c)|Ο=>List Value|C6=>by exact ε|D8=>ε (ζ :=η) (θ :=ι) (ν:= ξ)|Ζ=>by have ε:=Hd.ix B ζ rfl|Bz=>B7 QE ε ζ|Ee=>(model prog w)|B1=>⟨_,ε,ζ⟩|DE=>z6 (m:=ε)|E5=>GS ε o|av=>CY Ex|aw=>Hd.adr (W.nsIn K mainGlobals ε)|AE=>.non|A3=>p.1|BS=>by obtain⟨ε,ζ,η⟩:=θ ι|AB=>List Rat|BE=>#[bK ε]|DF=>(e::es)|CF=>AX (FC ε)|iO=>(FD _ rfl)|A0=>List α|FE=>fun _ _ ε=>ζ|BI=>.pu (C3 ε)|B2=>(ε ζ).length|Ap=>by rw[if_neg ε]|APv=>ε X.prog X.w|B_=>show ε from ζ|D9=>.inl ε|AHw=>ABW (KM ε) (.ζ η)|ID=>mg ε =none|iP=>BN ε (DB ζ)|ax=>.Call ε ζ [] η|pp=>fun _ _ _ ε=>ζ|Υ=>d7 K ε ζ η f fd|CH=>⟨_,ε⟩|A1=>List Rw|ABX=>ε K c (ζ Q) η av|KP=>by decide+kernel|As=>by simpa using ε|AS=>by decide|A7=>eval ε X.env|ay=>{ε with heap:=ζ}|LW=>dD ε ζ iO|GT=>Nat ->ε|At=>List Nat|E6=>aA ε ζ (aX η)|iS=>ds.length=ε|KS=>ε b=none|AT=>E4 (ε==(ζ :Str))|AHx=>pp h (ε h)|Da=>hName ε|CI=>by exact ε|BM=>i+1|a_=>Same F ε|D'=>by refine z6 (ε ζ)|iX=>#[ε nd rfl DV ζ]|BF=>by rw[<- ε];exact ζ|A6=>ε (X:=X.wsh z)|zo=>fun ε ζ E=>η Γ (fun θ ι=>ν) E|BG=>by simp [ε]|FF=>GS ε u|Mb=>ABX ε fin ζ|AO=>List Addr|KU=>Au List.range ε|E7=>(X.wsh z)|B5=>by refine⟨ε,ζ,η,θ⟩|AC=>by nofun|A9=>by show DD ε ζ ?_|AHy=>wpAny ε A ζ Q E s|KW=>⟨F,Γ,_,R,h,ε⟩|AU=>List Int|LX=>F6 Value|AF=>F.binds fun _ _ _ _ _ _ us hl=>ε|SK=>(APv model)|AG=>∀{c:Cls}{ds P E}(h:ε c ds P E),_|Ab0=>fun cdv A outer s H E hr F0=>ε|bE=>SR K F0 H0 ε ζ σ η|AQ=>(cV 2)|E8=>Ν b ε ζ|Mc=>ε K ζ=true|AK=>ε F ζ (AHx η) (Ab0 ⟨θ K c,ι,ν⟩)|IE=>⟨ε,ζ,η,rfl,θ⟩|GU=>ε a=none|AV=>by simp|AL=>by have hu:=ε hr|AM=>∀{K:W.Frag}{c:Cls}{ds Q Ex}(h:ε c ds Q Ex),_|AN=>fun ds Q Ex h=>ε h|Md=>W.mg_of X G ε|A_=>.no|Cb=>(AH a)|Bi=>(i+1)|bP=>LW ε aP|BV=>z7 (α:=_)|BDX=>D8 ε P ζ w w base base|B'=>Θ ε ζ|Eg=>fun _ ε=>ζ|BC=>by rw[ε] at this|GV=>⟨ε,[]⟩|A2=>List Expr|pr=>Nat ->ε ->ζ|Me=>iX (gQ (i:=ε)) ζ|LY=>BDX ε l.prog|Kb=>.type ε|GW=>.ref C|HH=>∀b,ε ->ζ|Ki=>LV ε ζ aP|Mm=>Mb ε (aF ζ ds)|ia=>cF ε OL rfl ζ|AW=>⟨f,fd,ε,ζ,η,θ⟩|LZ=>.builtin ε|BA=>(qv 2)
|AZ=>mg ε =some FX|DH=>.inr ε|pv=>Ν ε s1 ζ|Db=>by rw[if_pos ε]|FG=>upd H ε ζ|Iq=>aK K F ε ζ|IF=>au ε aL|AHz=>AH (aw ε)|ib=>BN ε Hp|bS=>by obtain⟨ε,rfl⟩:=ζ|bc=>Ch ε x|A4=>by obtain⟨ε,ζ,η,θ⟩:=Hd.fun_at ι|OM=>ay s ε|A5=>by show CM ε L Hd.seen_cons L|HI=>if ε= ζ then η else θ|Uf=>List (List ε)|bi=>.Attribute ε ζ η|DI=>fun ds P _=>ε|EN=>by obtain⟨ε,ζ,rfl,η,θ⟩:=ι|CA=>List Row|CB=>by exact .inl ε|Ix=>Cl H ε|Iy=>(.dK kvs)|br=>(fB P w)|E9=>fun b hb=>ε|Pp=>fun b o ε ζ=> η|B0=>Str ->LX|ic=>fun ε H1=>ζ|D3=>(zN _)|I_=>(match ε with | ζ=>η | _=>False)|DJ=>fun j=>ε|DL=>List Key|HK=>by simp [ε]|E_=>(AH C)|EF=>starEach ε X.env|EG=>(false,ε)::ζ|JA=>⟨ε,ζ,rfl,η,θ⟩|CO=>fun i=>ε|bv=>r.2.2|Ps=>(by rcases zU.mp ε with ζ | η)|ie=>#[ε ζ OL rfl η]|D4=>fun h=>ε|EO=>⟨rfl,ε⟩|BO=>by unfold ε at h|C7=>.int i|IG=>by exact False.elim ε|b9=>bE ε ζ Γ|EH=>if ε=true then ζ else η|DM=>fun ε ζ η θ=>by obtain⟨F,Γ,ι,R,h,k⟩:=ν;exact ξ|AH0=>pr Nat ε|CS=>by obtain⟨ε,ζ,η⟩:=θ ι ν|Ev=>(ε ζ η).trans|ABY=>(aX st)|BY=>_::_|Be=>∀(_:Cls),_|zt=>{ε with heap:=ζ,toks:=η}|CC=>.nil|Bn=>by cases h|CU=>by exact .inr ε|By=>BE #[fU ε]|Fc=>EM o e ε|FH=>(by rfl)|FI=>(k+1)|pz=>BH (FC ε)|B3=>by have ε:∀ζ∈η,θ:=fun ι ν=>ξ|AH1=>ax ε ζ pos|ON=>zo Γ P ε ζ Γ1 η|Mn=>⟨_,ε,ζ,η⟩|Cn=>X.calm=true|CD=>by show A8 ε ?_|C8=>a_ F'|Ff=>AHy Ee ε|II=>fun b hb=>ε|Kj=>.dic|F7=>Q (AH ε) ζ|Mo=>(aY _)|B4=>BD rfl|CL=>Str ->Rat|HL=>ia ε (E3 ζ η)|Lc=>by show bS t ε|FA=>UZ α (β×Int)|EA=>fun w=>ε|B6=>(cV 3)|Cc=>by rw[ε] at ζ;cases η|C9=>CH rfl|F8=>ε (X:=X.wsh z) (ζ:=η)|FB=>by rw[ε];rfl|D5=>P ε Γ1|p_=>kW rows w|ABZ=>KW (fun ε Γ1 F1 H1 ζ R1 s1 r1 h1=>η)|De=>fun ε ζ η θ ι=> ?_|Do=>if_neg (ε)|D6=>BN ε Shared|Pw=>B7 QS ε ζ|JE=>An (AX ε)|ii=>ie cF ε ζ|EQ=>by rw[List.length_map]|IJ=>(LU 1)|ij=>ε pins s σ H _ I h|P1=>⟨o,ε,ζ⟩|ER=>fun ε ζ η θ=> ?_|Dx=>(qv 3)|Cf=>AX k|DO=>(KO ha)|F9=>by exact absurd ε ζ|BEm=>show(ε:Α).Nodup by show KP|C_=>h.1|OO=>∀b∈ε,ζ|Co=>by split at h|My=>.leaf ε|DA=>List Pt|b_=>(s1.heap.objs.size+1)|zw=>D1 cA ε 1|ik=>bi ε ζ apos|U1=>zt s ε ζ|FK=>aq (ε c) (DZ ζ η)|im=>List.getElem?_eq_getElem ε|Fh=>AX i|OP=>SI iw ε ζ|AH2=>UZ Str ε|SL=>SR X.K F0 H0 ε ζ σ η|F_=>E6 ε [ζ,η] θ|Fk=>KU n|Ll=>(ε b hb).1|OQ=>z9 _ rfl|Ct=>by obtain⟨_,_,rfl⟩:=len2 hl|qA=>⟨ε,g,d,ζ,os⟩|Lm=>by rw[ε ζ];exact η|ES=>Array Value|M0=>ε _ _ _ _|AH3=>.bool false|HP=>∀{ε:ζ} {η:θ},ι ->ν|APw=>by obtain⟨_,rfl⟩:=ε|DS=>α ->Rat|DT=>iS 2|DU=>a::l|P2=>Sz 4000 ε|ET=>(.refl _)|SO=>ε P w K mg base ζ η θ|BFJ=>(backTo ε (starEach ζ X.env)).η|M1=>absurd ε ζ|IL=>ε (fun ζ=>η)|JI=>D1 bQ ε ζ|M3=>∀b∈ε,ζ|U2=>upd H1 ε ζ|z_=>DC ε c|P3=>AX ε≠0|HQ=>by show B5 ε ζ η ?_|M_=>k.nx _ _ _ _ ε ζ η|AH4=>B7 QA ε t|Lo=>gM Γ σ b|IM=>if ε then ζ else 0|GY=>∀{ε :ζ},η ->θ|D7=>#[pZ]|Kk=>by obtain rfl:=ε|ABa=>s1.trans ε|EI=>List T|M'=>FY ε ζ [η] θ|OR=>(by rcases zT.mp ε with ζ | η)|io=>ε (BQ ζ) rfl η θ|Lu=>OM h'|NA=>bU ε (pv ζ η)|U_=>eval ε X.env|IN=>fun σ H Q=>ε σ H (ic ζ η)|D_=>b9 F H|BFT=>#[.ref ε,Φ,Φ,Φ,ζ,Φ]|SS=>[.lst ε]|cE=>.fields ε|U'=>X.mg ε=none|EJ=>Ω ε ζ η (θ) ι|HR=>B1 ε rfl|NB=>(Da 0)|Kt=>(bP Ψ)
|ABb=>(AHz "Sitting")|Ab1=>iP D D|Fm=>Iq ds vs|AH5=>BFT ε AH3|AH6=>blk X sc N' ε|E2=>fun ε=> ?_|Fr=>by obtain⟨ε,ζ,η⟩:=h|Gc=>by rw[ε,ζ]|GA=>List Env|Go=>List Bd|EB=>by exact h.elim|Fs=>Τ z ε|ip=>(ε==ζ)=true|IO=>(zV.mp ε).1|JJ=>by show D' ε ?_|À=>ε=pure false|EC=>bc X.N|ED=>by intro pins s σ H Q I h|iq=>aM K c.ao ε|ABc=>BFJ ε ζ any (·.1)=false|JO=>⟨ε,rfl,ζ⟩|EU=>⟨ε,?_⟩|JP=>by rfl|Á=>by cases z|Lv=>H ε=some ζ|ABd=>ε rows w|Kx=>F6 Int|OS=>(B8 vs)|GB=>by have:=ε;omega|HU=>(C5 x npos)|G0=>IE ε _ ζ η|VA=>Ki mZ ε|cK=>fun b ε hb ζ=>η|OT=>AH0 Int|EK=>E8 u e|EL=>D ->Ab1|OU=>cX Γ σ H b|K0=>(ε).length|EV=>by cases this|ST=>by obtain⟨ε,ζ,η,θ⟩:=h|G1=>by rename_i q|NC=>s1.heap.objs.size+1|EW=>(cV 4)|FL=>AX n|HV=>cB cA ε ζ|EX=>Nat.zero_le _|FM=>BD q|ND=>AHw ε fields ζ|NE=>An ε/ An ζ|cS=>z8 _ e|FR=>Uq rows|L4=>by refine z6 (ε ζ η ?_)|VC=>AHw "tuple" seq ε|P4=>ii ε (E3 ζ η)|L5=>∀r∈rows,ε|ir=>ε K F0 H0 ζ|IP=>(ws.map (kW rows))|EZ=>by obtain⟨_,_,rfl,_⟩:=h;rfl|SU=>(fu br P w K mg base N qual ABY f cdv A outer s H E)|G_=>(-1)|L6=>.free|Â=>(ε ζ).objs.size|P5=>ε (ζ:=η) (θ:= ι) (ν :=ξ) (ο :=π)|JS=>H ε=none|NF=>(n+1)|GE=>.pu (.str ε)|L7=>EE ε j ζ|JU=>EM ε q ζ|GG=>by by_cases e:ε=ζ|NG=>B1 rfl ε|L8=>(D9 rfl)|HA=>KS H|K2=>dt rs ε|ABe=>ε (C6 (ζ (C6 η)))|P6=>by show Ps ε rfl ζ|Ã=>wpAny SK X.A ε ζ X.xe s|AH7=>ε=vs.length|qB=>if ε then ζ b else η|NH=>by rw[ε,ζ];exact η|NI=>fun i ε=>ζ|L9=>Τ ε (ζ - η)|NJ=>OK (FG ε ζ) η|cc=>by show ε;omega|K_=>by obtain⟨ε,ζ,η,θ⟩:=id ι|AH8=>Bz ε te|SV=>(bP Κ)|OV=>HH ε (ζ b=η b)|K'=>ib St|APx=>W.findIn K ε ζ =some (BU η)|APy=>(dg rows w).ε|qE=>(ks.zip vs)|HC=>show ε=ζ by omega|HE=>Gl X x|ce=>bG X.prog X.w ε ζ η θ|Ä=>k _ _ F H (Gr.refl sF) ε ζ|FS=>by by_cases q:ε|L_=>ε=some u|VI=>fun r ε=>ζ|AH9=>show ε by decide|Fu=>EM u e ε|FU=>∀(c:Cls),_|IQ=>b≠a|qS=>D1 cA ε 0|qV=>∀b o,ε ->ζ|HZ=>Uf Str|ABf=>ε+1<cLine|FV=>AJ b hb|ABg=>["self",ε]|GH=>List β|L'=>(by show KP)|GI=>(qv 4)|cf=>absurd ε (ζ η)|IR=>.ref p|MA=>cB cI ε ζ|GL=>zN _|ABh=>KM "list"|SW=>Cl h.get? ε|IS=>ID "len"|i3=>ax ε ζ cpos|VM=>mg ε=some (AH ζ)|qa=>Apart σ ε ζ|i4=>(a::bs)|qc=>I_ ds ε ζ|ABi=>rZ X.K ε|i5=>bC (gP e ε)|VO=>cQ (fun ε ζ=>η) θ|i6=>SI aq (ε c) ζ|MB=>[AR]|OW=>fun r=>ε|NL=>ε<=9000|i7=>by obtain⟨ε,ζ,rfl,η,θ,ι⟩:=ν|OX=>fun v ε=>ζ|LA=>AX 0|VQ=>GS H ε|i8=>Θ ε q|Hb=>F6 Addr|i9=>by rw[ε,ζ];rfl|IU=>(KO he)|Å=>Hd.adr (W.findIn K ε ζ)|VS=>.refl _|GM=>iS 1|ABj=>zo ε Γ ζ η Γ1 θ|SY=>(IF Ψ)|VT=>ε I.hok e|Ab2=>ε=Value.ref a|P7=>(ABa s2)|qf=>by by_cases hb:b=ε|LE=>Rep K F d v|ci=>[a,b]|GN=>fW (i:=0) (BEm ε) rfl DV|ABk=>DecidableEq ε|i_=>.cell|JY=>by obtain⟨ε,e⟩:=ζ|Hc=>⟨ε,ζ,rfl⟩|i'=>Ne.symm ε|LG=>.ref l|NM=>Ν ε ζ e|SZ=>.inl (D9 ε)|VU=>DB Δ|Jn=>(KO hb)|He=>β ->Rat|NN=>E5 s.heap.get?|ck=>(match ε with | ζ=>η | _=>false)|MC=>fun b u ε ζ=>η|cn=>.pu (qD ε)|APz=>pz 2|cq=>(.frz o Iy)|MD=>iP Δ Δ|Æ=>Pp e n ε|NO=>fun ε ζ P hp=> η|HG=>#[qW (wG ε)]|Ab3=>io qg ε aU boot_len (au ζ aL)|Ab4=>Ctx E7 F0 H0 E|BG5=>fun _ _ _ _ _ _ q=>ε|NR=>by obtain⟨u,ε,ζ⟩:=η|Hk=>by rw[ε]|qh=>Τ b ε|ME=>An bv|NS=>(ε&&ζ)=true|qi=>EE ε q ζ
|Ç=>(B8 [])|VV=>Same F1 ε|LH=>AY q|jI=>LV qL ε ζ|P8=>.bl _|qo=>PE X e ε|NU=>DE (ε _)|OY=>GT Nat|È=>by obtain rfl:Ab2 ε:=ζ|Hm=>CI h|J_=>zG e|VW=>JA ε vs ζ η|Hn=>by refine z6 (ε ζ ?_)|P9=>by refine⟨ε,ζ,η,θ,?_⟩|jS=>∀x∈ε,x∈ζ|ja=>OP lB ε|AP0=>hb (HK ε)|H_=>by show APw (len1 hl)|VX=>by refine DE ε (ζ ?_)|É=>z_ X.env.cells.lookup|LJ=>AH4 DF|Ê=>Eg _ False|jb=>(BQ (mF hu))|IY=>(by rcases ε with z | z)|Ë=>cN s x|Sb=>AH9 (P3 ε)|MG=>∀{K:W.Frag},_|IA=>by have s1:=wW|P_=>∀b u,FF ε ->ζ|IB=>by have ε:=LY ζ c η (Md θ) ι|cr=>ε (aq (ζ c) (DZ η θ))|IC=>#[fW (i:=ε) nd rfl DV]|NV=>⟨ε,ζ,rfl,η⟩|qq=>(ε).natAbs|Sc=>by obtain⟨v,ε,ζ⟩:=η|NW=>by obtain⟨ε,ζ,e⟩:=η|Se=>show ε=ζ from η|Ì=>⟨ε,rfl⟩|LL=>(ε ζ η).length|VY=>B7 ε e ζ|MH=>.pu (B8 ε)|VZ=>s.2.1|jn=>(BU Cb)|MI=>P (.bl ε)|OZ=>P ε Γ'|Í=>CF (B2 ε ζ)|IZ=>Mm ε 2|jp=>bc xs|js=>h∈s|ML=>by refine⟨ε,ζ,η,θ,ι,ν,ξ,?_⟩|Ic=>A.handled=none|Of=>∀b o,ε ->ζ ->η|J'=>RelV y u|ABl=>Rep K F' ε ζ|KA=>lZ fun ε _=>ζ|Î=>.ins C dx ε|jv=>(ABd dg)|Id=>qK X.env.scope x|Sf=>(z8 _ e)|QP=>aj ε ak|qr=>cK o e ε|j_=>sp ε (Τ ζ η) fun θ=>ι|NX=>.pu (d9 rows)|QQ=>ABZ ds vs ε|V_=>∀{ε:ζ} {η :θ},ι ->ν ->ξ|j'=>ε (z ▸ ζ)|NY=>P (C3 ε)|cy=>Γ.set i ε|kA=>rows[i]|kB=>KS F|KB=>by refine z6 ?_|AH_=>List (Option ε)|q_=>a::bs|KE=>by obtain⟨F,Γ,P,R,h,k⟩:=ε|Si=>cW i|MM=>Uf α|cz=>.int ε 0|ABm=>ε (t' :=s.toks)|Sj=>∀b u,ε ->ζ ->η|KF=>x::xs|LM=>RelV v u|kC=>.tr as ε|AH'=>j9 X (compareOp .ε) ζ|V'=>fun a ha=>ε|KG=>e _ _ ?_|AIA=>ABc pos es|KI=>∀j,j<ε ->ζ|rL=>Ab3 xJ ε|Ab5=>ε X.K F0 H0 t|AP1=>fun ds P=>ε|KK=>∀{K:W.Frag}{F:Hp},_|kD=>by show EH ε _ _|rS=>ε pins s σ H|Na=>(fr t b).2|KL=>by subst hP hw hK|AP2=>∀z E,Ab4 ->ε|BHv=>(AH6 C s₀ H₀ fp)|QU=>.int|Nc=>.cons|rV=>fun c=>ε|On=>by obtain⟨o,ε,ζ⟩:=η|Ï=>ε<sizeLine|Ð=>⟨fun ε=>ζ,η⟩|QY=>by simp [ε,ζ]|LN=>by grind|WA=>(ε ζ).toArray|Nd=>fun c ε=>ζ|MO=>Τ h ε|LO=>K.In h|Ñ=>OK H' ε|Ò=>Same ε H'|ABn=>(List.nodup_cons.mp ε).1|Ab6=>(C5 x p)|Qb=>(.tup xs)|Nl=>by obtain rfl:ε=ζ:=ω|Qr=>by show EN ε us ζ η θ|AIB=>s.heap.get? ε=some o|Sk=>Fc cS|Ó=>AH1 (C5 ε p) ζ|Op=>by show Lc rx|rX=>by have:=ε;rwa [ζ] at this|MQ=>(zw Ρ)|re=>c::post|rh=>by refine bU ε (Ν ζ η θ)|AIC=>DC ε .local|LP=>by obtain⟨ε,ζ⟩:=η;exact⟨θ,ι⟩|WB=>ε b o e|Sl=>bO K ε ζ=true|Sm=>jH rs|rq=>kE (k:=ε)|LS=>by refine⟨ε,ζ,η,θ,ι,?_⟩|c0=>aK X.K ε ζ vs|LT=>by obtain⟨x,H1,I1,r1,q1⟩:=ε|MR=>AH8 e|c8=>seqObj "list" ε ζ|WC=>fun p hp=>ε|AP3=>⟨ε,iter,ifs,0⟩|Os=>(fr t b).1|AIE=>by rw[List.length_map,ε]|Oy=>by obtain⟨ε,ζ,q⟩:=η|MS=>by unfold ε at e|c9=>.bool ε|MT=>by exact⟨ε,ζ,η⟩|Nn=>fun ε _=>ζ|Q1=>fun ε ζ=> ?_|r6=>GS ε ob|MU=>F6 V|MV=>D1 dw ε ζ|Ô=>Ch ε v|Sn=>BH xs.length|MW=>by intro _;rfl|r8=>LV rO ε ζ|kF=>b≠0|MX=>ps[i]|Q2=>E5 h.get?|c_=>(.dK qE)|Õ=>Ki vf ε|ABo=>by show ε;decide|r9=>FY ε 1 [ζ,η] θ|Ö=>E9 ⟨ε,ζ⟩|So=>x BB|Ø=>bC (gP q ε)|MY=>iP Δ D|Q3=>P (qD ε)|AIF=>AHw "list" seq ε|ABp=>Ff (ε (AH ζ))|WE=>OO fp ε|O0=>My d|Q4=>(ε+ ζ).toNat|Ù=>NA ε ζ hz1|Ab7=>fW (i:=ε) nd rfl DV|Q_=>AH7 ks.length|r_=>fun a b=>ε|kG=>ε _ _ _ _ ζ|AIH=>comb ε rs j|Ú=>h0∈p_|Û=>D.nx σ ε|No=>(Τ y (AP0 y))|MZ=>by show BS u rfl rx vals1 r
|ABq=>#[pH ε ζ η Mo]|Ü=>pB a b=true|AP4=>Int.gcd μ d|AII=>Ce (i:=ε) (m:=ζ)|Nw=>Me ε #[bJ (BQ ζ) η θ]|Ab8=>ABW GW (.fields (AH5 ε))|sA=>[.Call ε ζ [] η]|Ab9=>{ε with nx:=ζ,ct:=η,bk:=θ}|AP5=>ε P w K mg base ζ η θ ι (ν c)|AIJ=>s.heap.push ε|ABr=>.function|N0=>⟨o,ε⟩|O_=>by refine .inr ε|Ý=>P.below ε|ABs=>by simp at ε|kH=>by cases ε|dA=>by rw[ε] at ζ⊢;exact η|N1=>by subst e;exact ε|WF=>Τ j ε|Þ=>Τ w ε|Sr=>(AH x)|PD=>AX 1|kK=>.int bv|WG=>CY False|dC=>(BU v)|kL=>∀p∈ε,ζ|PF=>Nat ->Rat|kM=>cW j|AIK=>C6 (ε (C6 ζ))|Ab_=>("self" :Str)|sB=>E5 h'.get?|dE=>dg rows w|AIL=>fun i H=>ε|WH=>GU F'|Su=>Me ε (P4 ζ η θ)|PH=>.tup xs|WI=>UZ Key V|N3=>by show IG hq|S4=>l.length/2|PM=>ε b u e|N4=>by refine⟨ε,ζ,η,θ,ι,ν,?_⟩|N9=>fW (i:=ε) (BEm ζ) rfl DV|RA=>Vals xs us|S_=>U1 h' tk|RC=>by have ε:(ζ η).get? θ=some ι:=ν|N_=>(I.ok.hd hc)|ß=>qa Γ ε|dL=>ε σ H1 fun ζ H2=>η|TC=>ABj D ε ζ η|OA=>by show qf a|OB=>aV ε (aq (ζ c) (DZ η θ))|OC=>bK #[fU ε]|ABt=>SO fY br ε f fd ζ (η K θ)|AP6=>W.mg_none_of X G ε|RE=>aW (dX ε)|à=>∀s∈S,ε|AIM=>.obj C' fs ds|RF=>wpAny_field ε ζ (x:=η)|OE=>∀(I:Ι),_|PP=>ON t ds ε|AP7=>(ik e "values")|á=>(oA qs).getD|WJ=>Gr F H F' H'|PQ=>Bz a ta|OF=>by obtain⟨_,rfl,_⟩:=h;rfl|ABu=>by obtain⟨ε,ζ,rfl,η⟩:=lR θ|Ab'=>by obtain rfl:b=ε:=As hb|OG=>Pm n p|RH=>Sat lt n ε ζ|AcA=>ε ->BN Hp VK|TD=>AHw "dict" dict #[]|AIO=>(II (k b (zW _ hb)))|OH=>fun z E cx=>ε ζ (DM η σ H θ D2 ι ν)|OI=>Μ (W.nsIn K mainGlobals ε =some none)|AIP=>IsZip ε z TI TO ζ|BIv=>F8 rR i i ε hv hd hcd|AP8=>∀C s₀ H₀ fp F0 H0,ε BHv F0 H0 ζ η|â=>Value ->ε|ã=>⟨GW,ε,ζ,η⟩|PR=>by split at h1|PU=>List Stmt|ä=>Τ i ε|TH=>by rw[List.mem_singleton.mp ε]|WN=>B7 QT ε ζ|RI=>Lp lt p ε ζ=true|RO=>.int _|sC=>(model P w)|PV=>Ed _ _|kN=>GT D|ABv=>GT Row|kP=>a_ F1|AP9=>FF h'.get?|AP_=>GV Ê|RR=>LB rows|å=>FY ε 2 [ζ,η] θ|æ=>Ix u|PY=>by intro pins s σ H D I h|WO=>UZ κ V|AIQ=>ε (t' :=s1.toks)|kQ=>Pw (.Assign ε ζ pos) η|WP=>(zw Ε)|ABw=>M1 ε Χ|dP=>M_ ε s1 ζ|PZ=>by have hl:=rv.length|ABx=>∀a∈as,ε|Pc=>aC l f|kR=>(0,0)|AcB=>(.own b_)|kT=>Μ (Mc ε (aw ζ))|AIS=>qA h (t+1)|dQ=>qV (E5 ε) ζ|RS=>ABf X.A.units|TK=>fun r hr=>ε|sD=>(xq st)|kU=>eF X (LZ ε) ζ|TL=>(AH1 Ab6 DF)|AIT=>fun σ H Q=>ε|Pe=>t::ts|Pf=>(by rcases ε with h | h)|WS=>∀(he:starEach DF X.env=EG (A7 e) (EF es):=by rfl) (hpl:AIA:=by rfl),_|ABy=>AP1 (qc ε ζ)|Pi=>by refine ε (bU ζ (pv η θ))|Pl=>ou P w H h|dS=>ε fun o e=>ζ|AP'=>fk S n bs ε|RU=>Mn OQ rfl rfl|TM=>(match ε with | ζ=>η | θ=>ι | _=>False)|TN=>(ofM rows m)|Po=>by show CM ε M yX M|sK=>qd ε (qd ζ Dz)|RY=>fun b=>ε|WU=>by rw[List.map_map]|TU=>(by rcases ε with ζ | q)|TZ=>by rw[ε,ζ] at this|kX=>h.get? ε=some ζ|Tb=>(ε ζ).symm|Rc=>AX j|da=>AX AP4|ç=>.ref s.heap.objs.size|Re=>Ν h' ε ζ|sL=>An (FC ε)|è=>Μ (W.findIn K ε ζ =some none)|é=>Hd.fnO K ε ζ|Th=>AY Bool.false_ne_true|Rl=>by show CM ε ζ Hd.fun_of η|Rs=>(KO h)|WV=>ws[i]|R_=>.str _|ka=>PE X (.ε ζ η pos) θ|kg=>DE (ε _ _)|ABz=>CF Y.natAbs|AIU=>(C5 x np)|sN=>AHy SK ε|dc=>GU H|AB_=>z8 _ q|SA=>Mm ε 4|WZ=>by show Db rfl|We=>DI (∃(ε:ζ) (η:θ),ι)|AB'=>by show CB rfl|di=>v= AR|Tk=>im hi
|Tl=>AH2 NameKind|ê=>Ll hn|SB=>d::ds|AIV=>SS xs|ACG=>qA h t|AQA=>Ã ε (ζ X pins σ Q)|AIW=>(tY qs)|Wp=>by show BS ε ζ rfl zB.mp η|AIX=>APy length|sQ=>BB∈m|SC=>RelV x v|ki=>L2.Cls K c.ao|ko=>(j::cs)|SD=>∀(qs:AB),_|SE=>qo te|Tm=>Ì t|dk=>fun j hj=>ε|ë=>decide (ε)|To=>frs X.stack|ì=>wpAny SK X.A ε ζ η θ|SG=>by show HQ (fun i Γ=>ε) ζ ?_|Ts=>ABl d v|kq=>AP2 (ε E7 ζ (Ab5 η E))|AcC=>cZ ε (A.deeper ζ)|SH=>AJ p hp|Tu=>ABZ d v ε|sR=>(ms.take i).flatten|kr=>[Ab_,a1,a2]|Tx=>by show d8 _ ε _|Ty=>∀(K:W.Frag),_|ACH=>IE ε H I ζ|ACI=>yE (j:=ε) rfl|AIY=>aK K F' ε vs|W_=>fV rows x r|AQB=>∀x c,É ->ε|T0=>(.ListComp elt [AP3 tg] sc pos)|AIZ=>cF ε OL rfl ζ|AQC=>(ir SR F H σ Γ)|T1=>nomatch e|T_=>fun x=>ε|ACJ=>by obtain⟨o',ε⟩:=ζ|T'=>by subst this|dl=>⟨r,ε,ζ⟩|W'=>s.heap.objs.size<=ε|UA=>ε<s.heap.objs.size|AcD=>by obtain⟨_,rfl,_,ε⟩:=ζ|UB=>by apply List.ext_getElem|UC=>by kernel_rfl|ACN=>h'.get? ε=some ζ|XA=>(ε ζ).trans|AIa=>by rw[ε,<- ζ];exact η|XB=>fun ε s' =>ζ|UD=>(cV 6)|UE=>(cV 5)|AIb=>BN Nat ε|í=>B7 QF ε ζ|UF=>(s.heap.objs.size+1)|sT=>(LU 0)|dq=>I.hok ε _ ζ|XE=>SI mG ε ζ|AQD=>I.tok _|sd=>Ch Γ ε|ku=>.inr x|UH=>AY χ|UI=>.lst xs|XG=>P (B8 ε)|XI=>(ε ζ η θ).length|î=>(APv pG)|XL=>au ε (E3 ζ η)|ky=>fun i hi=>ε|XN=>Array Nat|se=>(LZ id)|kz=>by unfold ε;grind|XT=>(IF Κ)|XU=>HI i ε ζ η|dr=>EO rfl|sf=>h'.get? ε=some o|UK=>by rw[ε];grind|UM=>by have ε:ζ≠0:=Ξ η|ï=>b∈as|ð=>P1 e ε|UN=>by have hi' :i<ε:=ζ|k7=>Q v H'|du=>JI ε 3|BJC=>U2 s1.heap.objs.size ε|sg=>(l.map qD)|ñ=>∀a∈l,ε|AQE=>∀x,x∈ε↔ζ|AIc=>[.int ε,.int ζ]|UO=>r::rs|k8=>IsPair ε TO ζ η|UP=>by have ε:aC ζ (Τ η (θ*ι))=ν:=ξ|k9=>ABk κ|XX=>ON te d ε|AQF=>fj K F H ε ζ as|XY=>(ja Ρ)|ò=>wpAny Ee A ε Q E ζ|k_=>fun i j=> .int ε|si=>cZ k X.A|AcE=>À (swapsWith ε ζ pos.line X.env)|lI=>ABn nd|AQG=>.Name y py|dy=>t σ H Q|AQH=>HT.sIx xs.length ε ζ|ACO=>(ns.map .int)|ACP=>ck b ε ζ|XZ=>PE X a ta|ACQ=>fun b hb u q=>ε|UQ=>(BIv hN)|Xs=>∃r∈rows,ε|sj=>by have ε:=AII ζ η Β|UR=>f::fs|US=>by have ε:ID ζ:=AP6 η|ó=>cC (.str (Str.ofString ε))|X0=>aM X.K C f|UT=>(x h - Ë)|UU=>FE x x|sq=>ip apos.endLine cpos.line|d4=>gH s o a|ACR=>(HL aN Ψ aP)|UV=>B_ (ce _ ε _ ζ) η|ô=>bE F' H' Γ'|X2=>attributeBase e ε X.env (U_ e)|UX=>by obtain⟨hp,g,d,tk,os⟩:=ε|õ=>BR ε I ζ η S n ep|AId=>qm knd kf ε o ks es ep t|UY=>by obtain⟨f0,f1,f2,f3,f4,f5⟩:=hf it Χ|X9=>Inhabited ε|AIe=>Hd.adr_of ε|ACS=>.local|d5=>by obtain⟨sl,ε⟩:=ζ|X_=>by obtain⟨rfl,ε⟩:=ζ|YA=>by split at q|AQI=>Hd.adr_of ε|YE=>List κ|lL=>(by grind)|YI=>ε ->ζ ->Ω η θ ι ν ξ|d6=>(ε ζ).Nodup|ö=>fun vs ε=>ζ|AQJ=>s.toks+1|lP=>(AH I)|d_=>(AH s.heap.objs.size)|ø=>(C3 0)|YN=>List.getElem?_eq_getElem h|lS=>H1 ε=none|ù=>.int j|lT=>CY 0|ú=>(B8 xs)|sv=>by rw[ε];omega|AQK=>bs.length - ε|û=>C5 "self" ε|sw=>.inr (DH ε)|la=>Cl ε o|AIf=>BH kvs.length|YO=>BD χ|AIg=>some i_|YR=>.lst ts|YU=>by show A8 ε (AJ ζ η)|ACT=>Value.ref a|AcF=>E4 (ε==sysModules)|YV=>by show Ap Β|YY=>iS 3|ACU=>KS H'|Ya=>CI n.elim|s0=>by show D' ε (ζ ?_)|Yf=>by show A9 _ ε|eA=>AHy M ε|ü=>(pG P w)|Y1=>.bl b|eB=>GU H0|Y2=>by rw[q] at e|eC=>iQ (C6 ε)|Y3=>Mm ε 3
|Y_=>by show Db (B9 ε)|s_=>h∈p_|ý=>(.bl false)|lc=>show ε by omega|tF=>l.getD ε 0|tI=>Pp ε ζ ?_|ZA=>cW d|ZE=>JA ε _ ζ η|þ=>Vals ε us|eD=>AH0 Bool|tJ=>eval ε env|tN=>∀h',ε ->ζ ->η|lf=>by have:=ε;simpa using ζ|ZH=>(ij ha)|ZI=>bC hb|AIh=>(kW rows w).ε|AcG=>im hi'|ZN=>Lm bC ε ζ|ZO=>IO hi|ACV=>j9 X (binaryOp .ε) ζ|ZT=>∀h∈m,ε|BJD=>W.Looks.here (s:=ε)|ACW=>VI s' ε|eI=>(c::ds)|ZU=>i6 ε Ρ|ACX=>L2.upd H a ε|ZY=>(g i j)|lh=>FE _ False|AcH=>Μ (Hd.isRef (W.findIn K ε ζ)=true)|li=>BG5 q.elim|ZZ=>Int.gcd t b|Zl=>cr aW ε ζ η|AIi=>Sem Value|lj=>FE q q|Zp=>mX K H a xs|Zs=>(ps.map pD)|Z3=>X.fn x=true|eJ=>(rL Ψ)|Z_=>AIC X.env.scope.names.lookup|AQL=>(Rat.divInt t b).ε|Z'=>∀(te:cD),_|tP=>Ä FH h|ÿ=>n8 c.ao ε Ρ|aE=>ABq ε ζ aP|tS=>Ad aB ε Ψ|BJE=>["hand",ε,"sheets"]|lm=>-(2^62)|tT=>(hn a ε).1|tj=>∃t,u=ε|aI=>by have ε:(ζ==η)=false:=θ|ACY=>ns.getD i 0|AIj=>∀r∈rows,ε|aS=>by have ε:ζ:=fun b hb=>η|eK=>PI X tg ε ζ|aT=>by show È u rx|ACZ=>ε pins s1 σ H1 _ I1 q1|Ā=>a==b|tm=>dX (eO ε)|ACa=>⟨F1,Γ1,_,R1,ε,ζ⟩|AIk=>AcC ε (envOfC ζ η s.heap.objs.size f cdv)|ACb=>by show wpAny _ _ ε _ _ s|ā=>h0::hs|AQM=>∃m',m' <m/\ε|AIl=>aC S fun s=>(IM ε ζ)|AIm=>(BJC AcB)|ac=>k _ _ L8 e|tq=>Binds K fd ps []|BJF=>ABm I.turned (qr ε) f0 f1 f3 f4 f5|ad=>by obtain⟨_,_,_,rfl⟩:=vK hl|ACc=>wC (E3 ε aP)|AIn=>Int ->Int ->ε|AcI=>BN Hp VK|AQN=>An s.2.2|ae=>by obtain⟨_,_,_,rfl,_⟩:=h;rfl|AIo=>by show APw b;exact⟨ε,ζ,η⟩|af=>by show Kk b;exact⟨ε,ζ,η⟩|AcJ=>Μ (Mc W.isFn (AH ε))|ah=>Ord lt n|ai=>(lo+hi)/2|lr=>ε Γ1 (fun ζ Γ2=>η) E|ACd=>fG 2 (aZ ε (aZ (Da ζ) fD))|AIp=>(upd H2 acc Ç)|eL=>fun x y P=>ε|ly=>gR xs ys|AIq=>ε X.prog X.w X.K X.mg X.base ζ η θ|al=>by show OR hb hb hb|AQO=>qZ ε d es ep|am=>∀x,foldedSetIterable ε X.env x=pure x|AIr=>{cls:= ABh,dict:=ε,data:= ζ,slots:= η}|eP=>wpAny _ _ ε _ _ _|tw=>kA.1|tz=>fun e=>ε|eQ=>⟨ε,ζ,rfl,η,θ,ι⟩|AQP=>by rw[List.length_map] at ε|Ă=>⟨ε,h1,ζ⟩|eR=>by obtain⟨ε,ζ,η⟩:=hz1|AQQ=>by rw[List.getElem?_map,ε] at ζ|eS=>by rw[<- this]|AQR=>by with_unfolding_all rfl|ef=>List Slot|l_=>by rw[ε,ζ]|l'=>s.heap.objs.size+1|t6=>Τ r ε|t9=>(AH it)|eg=>(cV 7)|ă=>(qv 6)|eh=>(qv 5)|ei=>(qv 7)|e9=>if_neg h|ACe=>(ε b hb).2.1|e_=>absurd (ε ζ) η|fA=>.inl ⟨ε,ζ⟩|mB=>(BU 1)|fE=>Ξ (j' ε ζ)|fF=>Same ε H|fI=>(Nat.zero_le _)|t_=>AY hb|uA=>some v|AIs=>DC mg ε|fN=>by show DD ε ?_ ζ|fR=>by cases r;rfl|fS=>by show Lc r;rfl|AIt=>(FD _ False)|mE=>by show Ap (B9 ε)|Ą=>ID "list"|ą=>ay s' ε|fT=>GT Int|fc=>a_ H|fe=>(C5 x pos)|fg=>Array GenState|AIu=>JE ε/ An ζ|AcK=>ε/ An s.length|fh=>.str x|fq=>h∈hs|uB=>hS b hb|ft=>by intro pins s σ H R I h|uC=>aM K C ε|fw=>UZ Str V|AIv=>by rw[ε];omega|f_=>by refine z6 (wpAny_mono ε ζ η)|mI=>HL bB ε ζ|Ć=>Iq xs vs|gE=>E8 u q|gI=>(ij he)|gL=>c::cs|gN=>by have ε:ζ:=fun q=>η|mM=>B8 (ε .leaf)|mP=>AH2 Addr|AIw=>DC ε .cell|mS=>iP D Δ|gS=>Pp q n ε|AQS=>(qs.map qD)|gT=>by show JJ z7|AIx=>VA (Õ ε)|AIy=>fun σ2 H2=>ε|AQT=>R1.sl i _ ε|gc=>cc APz|ć=>APy map|uS=>(mJ w)|Ĉ=>(qS Ρ)|mT=>RelV x u|gf=>(.ow ds)|ACf=>Q () s'|ACg=>BG5 q|ua=>(n,k)|AQU=>VV F2|AQV=>.BoolOp .And ε pos|ACh=>dM f hs|gi=>Mc m5 C
|gu=>AH' ε (ABi ζ)|ma=>TR K F' H' ε ζ η|ĉ=>mY ε i=some ζ|gy=>rX ε List.length_map|g6=>by show rh ε ζ s2 η|md=>IN ta x ε|ub=>ε X.K H ζ ys|AQW=>Ø hn|AQX=>Û H|me=>["hand","sheets"]|g9=>(frs X.stack)|AcL=>APx E_ ε FX|g_=>AcA Η|mh=>(hu1 hu)|AIz=>Ν r s' ε|ue=>by with_reducible refine wpAny_loadPart_at ε ?_|Ċ=>bC (Ne.symm ε)|ċ=>dB (DZ ε IJ)|ui=>AQB (c≠ε)|mi=>mY (ε ζ) η=some θ|mo=>Bz b tb|ACi=>(ks++ [kk])|hG=>(hn b hb).2|uj=>FK xV Ρ (LU ε)|AI0=>AP5 DR c.ao ε ζ η θ|AI1=>SL F1 H1 Γ1|hV=>α×β×Int|AQY=>BJD AIS|AI2=>d8 one ε P|mr=>EP X pins σ Q ε ζ|AcM=>by obtain⟨oc,od,kV,doc,pm,an,cdv,ct,osl,rfl,lk,hcd⟩:=ε|ACj=>ABe fU iQ ε|hW=>by show P6 hb hb|hZ=>Μ (Hd.isRef (W.nsIn K mainGlobals ε)=true)|ACk=>ε X vs H Q|AI3=>sIx items.size 0 lo|AI4=>Ab9 D ε ζ D.nx|h_=>⟨VS,ε,ζ,Æ (by rw[e] at n;cases n)⟩|BJG=>AcE value (BU ε)|AcN=>upd ε b_ (.ins C s1.heap.objs.size ζ)|ACl=>GJ I hg hm ε|iA=>fun _ _ _ h=>ε h|Č=>by show AcD k2 b;exact⟨ε,ζ,η⟩|AcO=>oF X pins H b|iE=>by obtain⟨v,_,rfl,⟨p,vs,rfl,hq,rs⟩,rfl⟩:=rs|AQZ=>∀F Γ P,AQC ->(t Γ P E) ->(ε) ->ζ|iF=>ε pins s σ H ζ _ η θ Q I rx ry ι|BJH=>BT n A ε d tb rs fs ix|uk=>.next|ul=>⟨ε,ζ,h2,η⟩|ut=>fun k=>ε|ACm=>fun hb=>ε|č=>by rw[ε,List.length_map,ζ]|Ď=>by obtain⟨ε,rfl,ζ⟩:=η|ď=>by obtain⟨ε,ζ,rfl⟩:=η|ACn=>X.s₀.heap.objs.size<=ε|mt=>(by rcases ε with rfl | ζ)|mv=>by exact h1.elim|mw=>(AH acc)|my=>(cV 8)|m3=>(qv 8)|m4=>by rw[decide_eq_false ε]|m_=>by rw[decide_eq_true ε]|nE=>An 0|ACo=>.pu S|nI=>ε (i:=i)|ACp=>(B8 ds)|ACq=>by show AIE ε;omega|uu=>i<xs.length|AcP=>ε K mainGlobals ζ|nK=>Ξ ?_|AI5=>ε _ _ (ζ _ _ e)|uv=>(ε b hb).2.2|nL=>.lst _|AI6=>DC X.mg ε|nN=>by show DD ε rfl ζ|AI7=>ε rows AD|u7=>KU NF|Đ=>m.map fun ε=>ζ|đ=>(a::rs)|nX=>by show A9 ε rfl|Ē=>.bl true|ng=>fun ds P E=>ε|nk=>by show BC e|nr=>Me 1 ε|u8=>(Kb T)|nv=>by unfold ε;rw[ζ,η]|ny=>(AHz "Open")|u_=>(AHz "Scale")|AI8=>OM (AIJ ε)|n9=>by rw[AY ε] at h|n_=>by rw[BD ε] at h|AQa=>D4 (qD (ε h))|vE=>UZ DL V|oB=>by show IG hq'|vF=>(by simp;omega)|oC=>ε (t' :=tk)|ACr=>by show F9 rfl ε|oP=>by refine bU ε (pv ζ η)|oQ=>Loc X.env.scope x|AQb=>Pv (BM)|ē=>NJ s.heap.objs.size ε ζ|AQc=>.Compare ε [ζ] η pos|AQd=>ABg "work"|oS=>SW o|oa=>lQ rs f|vS=>L2.Cls X.K C|Ĕ=>jO X.K C|AI9=>(kW rows)|AI_=>(yW rows)|ACs=>ε A3=some p.2|BJI=>(ε W.emptyDict).push|vT=>wpAny_call_entry ε ζ η ?_ (θ _)|AQe=>qh (HI b a ε ζ)|og=>VW p ε ζ|om=>dv t b|oq=>jS ε U|AcQ=>(XO a C none)|AQf=>XO a C (BU ε)|va=>x≠ "__name__"|AQg=>(ε).map .leaf|vb=>AH_ Rat|vc=>cz 0|ox=>AIB S|oy=>.dic ks ts|ve=>fun c xs ε=>ζ|ACt=>Ù ε us|oz=>Gd ps|AI'=>⟨ω,ω⟩|BJJ=>[ε,"ahead","bound"]|vi=>cT (cB ε ζ η)|AcR=>(Ý χ)|ACu=>[.Subscript ε ζ pos']|vj=>∀l:A0,ε|ACv=>NE X b|o4=>R.sl i _ e0|BJK=>ε K F0 H0 t E σ H Q|ĕ=>fun v s1 ε=>ζ|Ė=>AQA ε EP|ACw=>Inv E7 pins σ ε ζ|ACx=>by have e' :L_ ε:=e|ė=>AIY ds|Ę=>AIZ ε (E3 ζ η)|AcS=>Ch ys y|AJA=>(vs++ [v])|AJB=>AQE ε (x∈ζ)|AcT=>behindInMarks ε b=false|AJC=>KV kvs vs|AcU=>ε f ts vs bs AIO h|ACy=>Slot.tr ε (Kj ζ η)|AcV=>.builtin "type.__call__" ε|vk=>(bH.mp hr).1|AQh=>AcF a|o5=>aq (ε c) (aj ζ (DZ η θ))|AQi=>(gP eb n1)
|ACz=>k _ _ _ _ _ ε ζ η θ|o6=>bG P w H h a ε|vn=>Array (Option Value)|AQj=>ε∈gk S n bs.reverse ζ|o_=>by rw[List.append_nil] at hbs|AQk=>∀{l:A0},ε|pE=>ε=decide (ζ)|ę=>(FD z Á)|pM=>pr At Rat|Ě=>AQF ts vs|pS=>by have ε:=LY ζ c η (Md θ) ι ν ξ ο|vt=>(ε b u ζ).stay|ě=>iC t ε it l i|AJD=>ε K sp vs H Q E|vv=>BJH p|AC_=>{nx:=ε,rt:=ζ}|pT=>∀F0 H0,ε|pV=>∀m∈ms,ε|pb=>Array (Int×Value)|pd=>#[au ε aL]|Ĝ=>(ε b hb).2|AQl=>(fs++ [f])|AJE=>aC jv ε/ An AIX|ĝ=>(Same F H)|pe=>(jI Kt SV)|vx=>rV (iV A k c*ε)|AJF=>fun ε Γ2 F2 H2 ζ R2 s2 r2 h2=>η|pf=>by have ε:=LY ζ c η (Md θ) ι ν|AcW=>ha ε pins s σ H _ I h|Ğ=>(sW p s i)|ph=>(p AD+q BB)|pj=>P5 ε mg mg P l.prog w w base base|vy=>.NotIn|AJG=>by obtain⟨hb,ε⟩:=ζ|vz=>by obtain⟨ε,e2⟩:=ζ|ğ=>⟨ε,q⟩|Ġ=>(by rcases ε with ζ | ⟨⟨xs,η⟩,θ⟩)|v4=>Nat.ne_of_gt ε|v6=>by trivial|v_=>by show KP|ġ=>by rw[e]|Ģ=>wpAny_mono ε ζ η|wE=>by cases rx;exact ε|AQm=>(List.range ε).ζ|AJH=>AX at_|wP=>AX qs.length|wS=>if_pos h|ģ=>.ref b|Ĥ=>B7 QN ε ζ|ĥ=>(cC AE)|AJI=>GS H' ε|AcX=>v.scannable=true|AQn=>Μ Ú|wT=>.int k|AJJ=>Ch Γ1 ε|AC'=>iN s'|ADG=>Ξ (ε (ζ z))|Ħ=>(I.tok _)|ħ=>(B9 h1)|wb=>.exc _|wc=>.ptr _|we=>BI b|AJK=>wpAny Ee A ε ζ E s|wf=>BG iM|wn=>FF H|AJL=>(a::cs)|wo=>by rw[i5 ε];exact ζ|AJM=>b≠X.env.locals|wp=>GU F|Ĩ=>Me ε #[ζ]|wq=>(DH h)|wt=>by unfold ε;rw[ζ]|ww=>(AHz "Barred")|ADH=>ib It|ADJ=>cols p|wx=>by show IG h1|wy=>h.get? ε=some o|AJN=>by rw[ε];decide|AQo=>(bH.mp ε).2|AQp=>F7 s.heap.objs.size ε|w4=>congrArg ε e|AcY=>Int.gcd i j|w8=>Γ[i]?|AQq=>∀x∈ε,C x|ADK=>(.frz o u)|ADL=>ε (HK z)|w9=>by rw[AY ε,AY ζ]|w_=>(.pu d)|AQr=>Lv ε (.own ζ)|AJO=>VC us.toArray|ADM=>x' BB|xA=>α ->Bool|ADN=>Â s.heap.push ε|ADP=>Vals xs its|AQs=>by obtain⟨vs,H1,I1,r1,q1⟩:=ε|xB=>(gU qs)|xC=>by show BS ε ζ rfl List.mem_iff_getElem.mp η|ADQ=>U1 h' t'|AJP=>Around.under_plainId ε _|ĩ=>(qS Ε)|xD=>Mn _ rfl ε|ADR=>eF X (Kb ε) ζ|ADS=>L2.Cls K c.Scale|xE=>i9 List.getElem?_map ε|AJQ=>(AH1 (ik o m) DF)|AJR=>(i' hb)|xF=>SZ gG|xI=>k ε Χ _ ζ|AJS=>gH ε jn a|Ī=>(l.map f)|AJT=>qi ws ε|xL=>E6 [ε] [ζ] η|AJU=>(pre++re)|xN=>dM f S|xc=>wB K H a xs|xh=>(iL Ρ)|AcZ=>Value.ref (NC)|xi=>∀i,i<n ->ε|xj=>.qP ks ts|AJV=>oe.data= cE ε|ī=>∀{rows:A1},_|xk=>∀{rows:FA},_|ADT=>r8 aP ε|Ĭ=>List.getElem?_append_right (B9 hi)|xl=>List.getElem?_append_left (B9 hi)|xn=>Ab8 s2.heap.objs.size|ADU=>by by_cases hi:i<ε|ADV=>fun o e=>ε|ADW=>(R1.grow gr)|AQt=>(Þ (jJ ps (u w)))|xo=>∀(i:Nat),_|AQu=>E Γ x|xp=>by show ST ε rfl ζ h|AJW=>qB (b∈bs) ε (ζ b)|AJX=>Un ε ζ H η s.heap θ|xt=>ß a|ADX=>AD=w|xw=>â κ|AQv=>(Ck x)|AJY=>(Hf aP)|ĭ=>codeAny ε ζ (.call η θ) ι ν|xx=>Ch σ o|Aca=>(C5 "set" p2)|xy=>Pv i σ H|xz=>AIT (BJK ε)|Į=>ABy AIV ε|ADY=>ju ds|x0=>wK rows x h|ADZ=>ACH P8 ε|ADa=>AllBare s'.gens|x5=>∀(K:W.Frag)(C:Addr),_|AQw=>∀u,æ ->ε|AQx=>∀ε,JS ζ ->F7 η θ|x6=>AId led|x_=>∀{α:Type},_|yA=>AI ε _ _|į=>zO (rq ε ζ) Β|yB=>cf ε yS _|yT=>by show i7 ε ζ η θ h h|İ=>BJE "hands"|yY=>by intro i h1 h2|ya=>(fK ns ε).fmod|Acb=>(.frz oe (uw a C))|Acd=>AIQ I1.kept ε|yb=>fun q hq=>ε|ye=>i≠j|BJL=>by rw[ε] at z;cases z|yi=>∀{t b:Int}(h:kF),_|yk=>jf S h
|ı=>Í l.map qD|Ĳ=>AcL "__init__"|BJM=>p.2= L6 ->∃c,ε A3=some c|yn=>by show AcM Fn.ex|AJZ=>∃o',GS B.get? o'|yo=>by unfold cutD HT.sIx|AJa=>by rw[List.length_zip,<- ε,Nat.min_self]|AQy=>ε mainGlobals mg|yv=>∀(hc:Cn),_|BJN=>EE vs ε Value.none|ĳ=>p a=true|AQz=>fun Γ P _=>ε|AQ0=>Eg z Á|Ĵ=>bC (ε b hb)|ADb=>[C7,.int j]|yy=>L7 X.N y|ĵ=>fun x y H Q=>ε|AJb=>kG Fn.len hs|Ace=>(F b).isSome|AQ1=>fun C dx H' =>ε|BJO=>ε==NameKind.free&&ζ== ABr|AJc=>by have hl:K0 ε=ps.length:=ζ|yz=>#[zy (au ε aL)]|AQ2=>(Heap.get?_update_other _ _ ε).ζ|y0=>[x,y]|AJd=>ns.length<=63|y9=>(by first | show AB' | show CU rfl)|Ķ=>by subst h1 h2|ķ=>AX (f j).den|ĸ=>(env::outer)|AQ3=>s1.trans (s2.trans ε)|AJe=>gW (cT ε)|AJf=>Μ (APx ε ζ (LZ η))|Ĺ=>Μ (key b=key a)|y_=>∀(hd:AT x "__debug__":=by decide)(hcd:AT x "__classdict__":=by decide),_|ADc=>CQ rows ms|BJP=>(a::b::rest)|zC=>by show Ps ε q q|Acf=>qB Lo ε none|zD=>(l+r)/2|AQ4=>sIx items.size items.size hi|ADd=>(jQ S n)|AJg=>AIF ([]:Ο).toArray|AQ5=>FY ε 3 ["one","other"] ζ|zI=>lC X.N sc own caps X.env N'|AQ6=>(hi _ _ _ q)|ADe=>iG m (a i)|ĺ=>∀{rows:FA}{ws:A0},_|Acg=>fun b o e n ε hx=> ?_|AJh=>by obtain⟨v,_,rfl,ε,rfl⟩:=ζ|Ach=>Inv X pins σ' H' s'|ADf=>∀{P:Program}{w:World}{K:W.Frag},_|Ļ=>fun _ _ _ ε ζ=>η|AJi=>(some (Jd bs))|zS=>.ob C fs ts|ze=>KeyKind prog w κ|zh=>fun F0 H0=>(CI ε)|ADg=>TR K F H t v as|BJQ=>wpAny_callSpecial?_slot (name:=Str.ofString ε)|AJj=>ε C s₀ H₀ fp vh vm AP_ lK Gu pins s σ H Q I q|zk=>by intro pins s σ H x y v u Q I rx ry h|ADh=>⟨BF e d0,BF e (d1 _ b1 b2)⟩|zn=>by obtain⟨a,vs,bs,rfl,rfl,ea,hkl,r⟩:=r|AJk=>fun Γ' =>ε|ļ=>⟨AIe ε,ζ,η⟩|Ľ=>by obtain⟨o',ε,ζ⟩:=η|ľ=>show ε ζ=η from θ|AJl=>⟨ε,kw⟩|Ŀ=>by obtain⟨o,ε,_⟩:=ζ|ŀ=>by rename_i hb|Ł=>#[Kq]|ł=>by rintro⟨ε,ζ,e⟩|AJm=>by exact_mod_cast z|Ń=>List Bool|ń=>(by show AQR)|Ņ=>AX xs.length|AJn=>AX its.toArray.size|ņ=>AX q.den|Ň=>(C3 i)|ň=>Rat.inv_mul_cancel _ ε|ŉ=>(BQ Cr)|ADi=>(s₂.heap.objs.size+1)|Ŋ=>An ABz|ŋ=>OK H1 ε|AQ7=>some b|Ō=>F6 D|ō=>(B8 ys)|Ŏ=>by show EQ;omega|ŏ=>.inl rfl|Ő=>DB D|AJo=>DB Η|ADj=>D1 cI ε ζ|AJp=>Cl H1 ε|ő=>iN Lu|ADk=>au ε (au ζ (E3 η θ))|Œ=>DC bootBuiltins ε|ADl=>j≠0|œ=>d≠0|Ŕ=>(B9 e)|Aci=>ε i Str.empty|ŕ=>fs[i]|Ŗ=>Kj _ _|ŗ=>.kt _|ADm=>E5 (ε ζ).get?|Ř=>B2 ε f|AJq=>ID "sorted"|ř=>ID "range"|BJR=>iS ps.length|Ś=>by refine BV ?_|Acj=>rows.take i|Ack=>B' ε True.intro|ADn=>GV us|AJr=>(Kb "BaseException")|ś=>Mm ε 1|Ŝ=>ia ε SY|ŝ=>ib Bool|AJs=>by have ε:ζ<s.heap.objs.size:=η|ADo=>d9 rows|Ş=>i2 b hb|ş=>Ix Iy|AJt=>Ix cq|Š=>.tup ds|š=>.tup (AIc ε ζ)|Ţ=>W.hideAll_get _ ε ζ|ţ=>bC (gP (ε b u e) ζ)|AQ8=>(ε rows ζ).length|ADp=>(j - 1)|ADq=>decide_eq_true rfl|Ť=>Pw st ε|ť=>P1 ho ε|ADr=>AH2 Value|AJu=>F_ ε "self" ζ η|Ŧ=>P2 g|AJv=>d::post|ADs=>AH4 [a]|ŧ=>by have hl:=kv.length|Ũ=>U' x|ũ=>#[qv 1]|AJw=>HR OQ|Ū=>JO v ε|AJx=>(ws.map .inr)|ū=>(hs.map .inr)|Ŭ=>.qP _ _|AJy=>(VA ACR)|ADt=>f BB|ŭ=>α ->D|ADu=>plainId_quiet ε _|Ů=>lQ rs (DJ ε)|AQ9=>(z7 ?_)|AJz=>i8 AQW|ADv=>R1.g.seq hq|AJ0=>call (LZ ε) ζ|ů=>(p::cs)|Ű=>(r::rs)|ű=>NO ε ζ ?_|Ų=>tW ts|ų=>bC (Ξ ε)|ADw=>jO K C|Ŵ=>I_ d AIM ε|AQ_=>(Î fs)
|ŵ=>(iL Ε)|AJ1=>(ps.map Aq)|Ŷ=>aj ε (aj ζ (DZ η θ))|ŷ=>(cy A_)|Ÿ=>by show kD (Μ (ε< ζ))|ADx=>K.In s.heap|Ź=>Ñ s'|ź=>v::vs|AJ2=>(c9 true)|AQ'=>Ö ê ε|Ż=>ABp pyNext ε|ż=>AIH ks|Ž=>AIK O8 ε|AJ3=>Mc W.keepIn FX|AJ4=>Mc W.isFn FX|ž=>by show Ab' it|ſ=>by show Ab' s1.heap.objs.size|AAG=>k::ks|AAH=>pH jb ε ζ Mo|ARA=>AP' k|AAL=>["left","right"]|ADy=>PS X (.Assign ε ζ pos) η|AAP=>è ABb ε|AAQ=>é (Å ABb ε) ζ|ADz=>D1 qe ε 0|Acl=>Cl H' u|AAR=>Ar rows ws|AD_=>Sz 1900 q|AAS=>fun σ H Q ε=>ζ|AJ5=>ì ε ζ X.xe η|AAT=>by show ACJ e' ε|AAV=>(U2 a AcQ)|BJS=>knd.is k v=true|AD'=>ACQ (i8 ε)|AAX=>standAt apos.atName|AJ6=>(AQK FI)|AAZ=>AIh length|AJ7=>qD (v w)|AAa=>.cons r t|AAb=>AcH ABb ε|Acm=>c0 F1 ds|AEH=>(∀q∈qs,P2 q)|Acn=>AQM (W Bi m' ε ζ)|AJ8=>ABt k ps ε sp|AAc=>Gy (top 72) ε|AAd=>AcJ (Å ABb ε)|ARB=>wpAny_holding (vs:= ε)|AAe=>by show AQP hl|AJ9=>∀S∈Ss,ε|AJ_=>(.dT kvs)|AJ'=>UZ κ Value|Aco=>(hn a ha).2|AKB=>ã od (cE (AH5 ε)) ζ|Acp=>(L9 s AQN (x VZ))|Acq=>W.instObj C ε|AEI=>(ε p hp).1|AEJ=>PE X b tb|ARD=>L.map fun r=> ε|AAf=>Gn X hC|AKC=>Â (ε t1 t2 s.heap l1) l2|ARF=>(i3 AP7 [])|AAg=>VY QN tn|Acr=>fun _ _ _ _ _ st h=>ε|AKD=>AcT op|Acs=>⟨.int ε,H,AQD,ζ,q⟩|AAh=>cZ FI X.A|ARG=>fun i h h' st k=>ε|AEM=>(yJ own.length caps σ)|AKE=>(AcW pos)|AAi=>by refine wpAny_call (codeAny_mono ε ζ)|AAj=>E6 N ε st|AAk=>by show bS t' ry|AAl=>(jx i4 H)|AEO=>GZ B q|AAm=>by refine lZ (AJ r hr)|AKF=>{s with toks:=AQJ}|AAn=>FE h (PassesOwnAt.leavingOf h)|AEP=>Sj (b≠ε) (FF ζ) AP9|Acu=>.tr as (Kj ks ε)|AEQ=>ABW ABh (.seq its.toArray n)|Acv=>BJM env.cells.lookup|AKG=>BJN 2|ARH=>k ε Χ o e|ARI=>LK e ds vs ε|AAo=>fun i h st b hb=>ε|AEU=>Binds X.K fd ps []|AAp=>O6 (i:=ε) nd rfl rfl|AEV=>BJQ "__next__"|AAq=>by show i7 c vs ec hkl rs (MN e1 ε)|AAr=>Hd.adr (AcP W.nsIn ε)|AEW=>(match ε with | true=>ζ | false=>η)|AEX=>[e1,e2]|AKH=>[qD (l.getD ε 0),qD (l.getD ζ 0)]|AAs=>by have hn:=pY|AAt=>by simp only [List.lookup,hb,ε]|AAu=>(Hd.recOf Aa).ε|AAv=>by obtain⟨_,_,_,_,_,rfl,_⟩:=h;rfl|AEZ=>UZ DL (Addr×Value)|AEa=>by rw[ε] at z;cases z|ARJ=>B2 ks.zip vs|AKI=>⟨F,Γ,_,S,q,ε⟩|AKJ=>HP ε ζ vs Η η θ|AKK=>∀j,vH (ε j)|AAw=>(assignEach ε X.env).map|AAx=>.pu (B8 (ns.map .int))|Acw=>sK (Ab7 ε) (Ab7 ζ)|BJT=>fun v z=>(BJL d)|AAy=>backTo pos (starEach ε X.env)|BJU=>{o with dict:=some ε}|AAz=>by obtain⟨hq,hx⟩:=hg|AA_=>by have line:pz ε:=AS|AA'=>by show AQQ AcG hi|ABG=>(AcN AIm [])|AKL=>AQZ ε (ζ t E σ H Q)|AEb=>Lean rows ms x|ABH=>I1.fpOk D3 (I1.hok.fresh D3)|ABJ=>holding [ov] (getMethod ov ε ζ)|ABK=>Value ->Value ->AIi|ABL=>(aK K F ds)|ABM=>by have ε:=LY ζ c η (Md θ) ι ν ξ|BJV=>∃F2 Γ2,SL F2 H Γ2/\AQU/\ε|Acx=>ha z E cx ε pins s σ H|ABN=>⟨f,fd,ε,M,ζ⟩|AEc=>(a::r).filter|AKM=>fun D σ H=>ε σ H (ic ζ η)|ABO=>À (swapsWith e ε pos.line X.env)|AEd=>(AH6 s3.heap.objs.size s3 AIp fp)|BJW=>((SU).wsh (GV (SU).xe))|ABP=>Un fs ex H ε h ζ|ARK=>∀(i:Nat) x y,jp ->AcS ->ε|ABQ=>callWith pos f first ε ζ|Acy=>⟨F1,Γ1,ε,R1,s1,r1,h1⟩|ABR=>∀(P:Program) (w:World) (K:W.Frag),_|ABS=>⟨ε,ζ,η,k.rt,k.rf,k.rT,k.rm⟩|Acz=>#[Ml (i:=ε) (BQ ζ) η θ rfl DV ι]
|ARL=>fun pins s σ H ε I q=>ζ|ARN=>k _ Γ1 F1 H1 _ R1 s1 ε h1|ABT=>∀(cdv:Value) (A:Around) (outer:GA) (s:Shared) (H:Hp) (E:XK),AIk k qual ABY ->ε|ABU=>fun pins σ Γ F H1 s1 e s' I R hx=> ?_|ABV=>by refine bU (Oq (E:=fun C dx H' =>E C dx H') I rfl rfl rfl (hx.imp (ER C dx H' z))) fun _ s'' z=>z|AKN=>xs.length=ε|AEe=>⟨ε,ζ,η,rfl⟩|AKO=>if ε then none else ζ|AEf=>by rw[ε,List.map_append]|ARO=>⟨ε,BG ζ⟩|AEg=>by obtain⟨u,ε,_⟩:=ζ|AEh=>by rw[List.length_map,ε,ζ,η]|AEi=>by obtain⟨ε,_,rfl⟩:=ζ|AEj=>by rintro⟨ε,ζ,rfl⟩|BJX=>(by kernel_rfl)|AEk=>(by size_fits)|Ac0=>(s.heap.push ε).ζ|AEl=>if_pos (ε)|AEm=>(AH z)|AKP=>AX l.length|AEn=>Ν ε ζ hz1|AEo=>(BQ Ew)|Ac1=>(BQ (#[]:ES))|AEp=>(h.objs.size+1)|AEq=>An d|AEr=>.pu (.tup ε)|AEs=>one=true|AEt=>(! ε)=true|AEu=>.int a|AEv=>.int b|AKQ=>zU.mp z|AEw=>by simp;omega|AEx=>.inl i|Ac2=>i<es.size|ARP=>KM "tuple"|AEy=>(KO hi)|AKR=>(B9 h2)|AEz=>ms[i]|AE_=>Ub _ _|AE'=>CF 0|AKS=>CF AcY|Ac3=>BI hands|Ac4=>BI works|AFG=>by show Ap Χ|AFH=>ID "zip"|AKT=>ay s1 ε|AFI=>by show D' wpAny_holding ε|AFJ=>BG uV|AKU=>FF F1|AFK=>x∈f|AKV=>GV MB|AFL=>bK (C6 ε)|AFM=>(.tup ys)|AFN=>by show Db hk|AFO=>ib V|AFP=>ib Η|AFQ=>qy rows|AKW=>(.bl true)|AFR=>hn b hb|AFS=>Ix OS|AFT=>E9 (.inl hb)|AFU=>DJ ?_|ARQ=>by have:=ε;omega|AFV=>decide_eq_false q|AFW=>decide_eq_true q|AKX=>(rows.take i)|AFX=>(l.length - 1)/2|AKY=>.bool true|AKZ=>P (ms.map ε)|AFY=>0<ps.length|AFZ=>A i j|Ac5=>by show ε;decide|ARR=>(mC k)|AFa=>(knd.hash k)|AFb=>Lm List.mem_singleton.mp ε ζ|AKa=>DC ε .free|AFc=>M0 Heap.get?_update_ne|AKb=>W.plainGet K ε ζ=true|AFd=>#[qv 0]|AFe=>#[qv 2]|Ac6=>ip ε Value.none|ARS=>iq "marks"|AFf=>.dik _ _|AKc=>(BQ (Ey hu))|AKd=>VC rest.toArray|AFg=>dE≠ []|AFh=>NG ?_|AFi=>AH7 fs.length|AFj=>(Kz w)|AFk=>(.ptr a::ds)|Ac7=>ABc cpos es|AKe=>(.ow xs)|AFl=>cB cJ IJ ε|AFm=>MC ε ζ ?_|AFn=>cn g|AFo=>Æ ?_|ART=>(n,NameKind.cell)|AFp=>by show VX ε BV|AKf=>wpAny Ee A ε ζ E s₁|ARU=>by simp only [ε];exact ζ|ARV=>hix i hi|ARW=>AH_ FuncData|ARX=>kC (.dic ε ζ)|AFq=>À (swapsWithSole ε ζ pos.line X.env)|AFr=>Ð ε ζ (fun η=>θ)|AFs=>GZ (ε*27720) ζ|AFt=>Ò H|ARZ=>Ò H1|AKg=>Ó ε [a]|Ac8=>r6 s.heap.get?|AKh=>tn i s.heap|AFu=>Ô vs|AKi=>ABo APz|AFv=>ABo (pz 1)|AKj=>Ab8 h.objs.size|AKk=>e∈S|AKl=>n∈S|AFw=>ABs h|AFx=>(ACT::us)|AFy=>(AcZ::us)|ARa=>[.Attribute ε ζ pos']|AFz=>by refine lZ (AJ ε _)|AF_=>AIP ε .ellipsis|AF'=>m∉fs|AGA=>dX (ε dF (aq (ζ c) (DZ η θ)))|AKm=>(C5 "reversed" p2)|AGB=>∃u,ε/\LD u|AKn=>fs c p|AKo=>kQ ε value ζ|AKp=>(M3 fp ACU)|AGC=>kU ε (vg X.K ζ)|AGD=>["row","right"]|AGF=>fun x hx=>ε|AGG=>Fk fun i=>ε|AGH=>∀(a b:Rat),_|AGI=>Δ ->MD|AGJ=>ε (cs:=cs)|AKq=>(gK Γ)|AKr=>(nJ Γ)|AKs=>í ε (mG ζ t)|AGK=>(n - e)|ARb=>(σ.set i dC)|AGL=>ð BJT|AGM=>Up lt p ε|AGN=>ò ε ACG|Ac9=>AQH xs.length ε|AGO=>QI X F0 H0 tg ε ζ|AGP=>r∈rows|AGQ=>ACV ε (ABi ζ)|AGR=>(ACX u)|AGS=>by show ACb (ε>>=_)|AKt=>AIl js ε|AGT=>(ACc aP)|ARc=>j::post|Ac_=>fun o=>(BJU ε)|AGU=>fun w hw=>ε|ARd=>(sF.trans gr.f)|AGV=>bootBuiltins ε =some (Kb ζ)|Ac'=>by rw[ε] at e;cases e|AGW=>AJ q hq|AGX=>(0+ Fh)|AGY=>D.nx (Γ1.set i ε)
|AGZ=>by show L4 wpAny_seqItems ε rfl|AKu=>Es jb ε ζ Mo|AKv=>(.str x t)|AGa=>by show NR hu ru ε|AGb=>AIz hq|AGc=>k a zY _ e3|ARe=>Fg ε=some (ks,xs)|AGd=>∀{K:W.Frag}{F H:Hp},_|AGe=>ε (aj Ρ ak)|ARf=>fun m hm=>ε|ARg=>(compareOp op)|AGf=>∀(q:Rat),_|AGg=>AJ r hr|AKw=>AQa x|ARh=>wd l b|AGh=>by show F9 (B_ (false=true) ε) zJ|AKx=>BJI s1.heap.push|AGi=>(AQf dx)|AdA=>AQg (gD ε xs ζ d)|AGj=>õ ε fst i|BJY=>env.kindOf n==AIg|AGk=>AQk (aC l ε=ζ)|AGl=>Meth K c.ao ε f|AKy=>ε fun a b=>Ü|ARi=>(aK K F ds vs)|AKz=>∀(pins:eE) (s:Shared) (σ:St) (H:Hp) (ε:ζ),Ι ->η ->Ã θ ι|AGm=>(B_ False r).elim|AGn=>["place","row"]|AGo=>fun c hc=>ε|AK0=>l.1<AD|ARj=>by rw[List.size_toArray,<- hl]|AdB=>(rows.map Ca)|AdC=>pk vp ε ζ ["rows"] (η c)|AK1=>PE X o td|AK2=>FE e e|ARk=>E9 (Ll hf)|AGp=>m7 Ss fs|AGq=>nG fs xs ε =some ζ|AGr=>Acd Sk|AGs=>qw S x h|AdD=>ε (m.getD j default)|BJZ=>BJO ε env.scope.kind|AGt=>∃W:AH0 ε,(∃m,ζ)/\η|AGu=>mK ks k=true|AK3=>by show OR hx q q|AGv=>Acg hb|AdE=>by obtain⟨F,Γ,P,S,q,k⟩:=hq2|AdF=>⟨F1,Γ1,P,R1,q,ε⟩|AGw=>by obtain⟨a,vs,bs,e1,rfl,e3,e4,h⟩:=h|AK4=>⟨f,hf,ε⟩|AGx=>by simp [iM] at h|AGy=>.inr (D9 (kE Β))|AGz=>by show BS ε ζ η (Nr (i:=θ) (n:=ι)) Β|ARl=>(.int i t)|AdG=>∀x H',ε i H x H' ->ζ|AG0=>NM x c|AG1=>W.Looks Ee h ε ζ|AK5=>vI rows ws m|ARm=>∀p∈X.pn++pins,A3≠ε|AK6=>⟨AIL ε,fun i H x H' =>ζ,AIL η⟩|AK7=>(ε prog w).is|AG2=>∀(i j:Int),_|AG3=>∀P:VU,ε ->one (f ζ) P|AG4=>Turn P w K tg ε [it] it (NI h ζ)|ARn=>∀ε Γ' F' H' ζ,Ω ô C8 η (OZ θ) ι|AG5=>(JU u AB_)|AG6=>by obtain⟨h1,h2⟩:=ε|AG7=>(Og ry)|AdH=>(ns.map V.int)|ARo=>AIf/\ AQh/\ε|AG8=>Option (List ε)|AG9=>∀(K:W.Frag),_|AK8=>(h0::hs)|AK9=>UZ Α Δ|AG_=>hA _ _ h1|AG'=>FE h' h'.elim|AdI=>swappedStores ε ζ X.env=pure η|ARp=>aM K c.Scale "points"|AdJ=>len _ _ _ hs|AHA=>(List.nodup_cons.mp nd).2|ARq=>yH b _ AQi ε|ARr=>qq bv<2^ε|AHB=>qD (jJ ps ε)|AHC=>Dn lt p ε|AHD=>∀(t b:Int),_|AHE=>(dv t b).natAbs|BJa=>I.list (sF.seq hq)|AHF=>by show dA ε hp hp|AHG=>SL F H Γ|AHI=>eV X.N sc own caps X.env.scope N'|AHJ=>X.env.scope.names.lookup y=some ACS|AHK=>P (d i j)|AdK=>fun vs H Q E=>ε|ARs=>#[qW (ε rfl rfl ζ η)]|AHL=>(ACd NB 1)|AHM=>wpAny SK X.A ε Q E s|AHN=>IL fs.filter f (! ε)|AHO=>iU t1 s.heap l1 xs|AK_=>(AQe none (H' b))|AHP=>[.Tuple [.Name x px,AQG] kt pt]|AHQ=>by refine DE (setField _ _ _) (wpAny_setField h1 h3 Χ ?_)|BJb=>Μ (es.size>1)|AK'=>KT H kvs xs|AHR=>mD K F H H0 s o|AHS=>G0 ç ε (ζ _ (I.hok.fresh D3))|AHT=>fun h' eb=>(EO (BJF (eb b o hb e)))|AHU=>rS ε _ us Q I r ζ|AHV=>js/\o∈s|BJc=>Heap.get?_update_self _ ε (Obj.isFreed_of_fields ζ)|AHW=>by have ε:=LY ζ c η (Md θ)|AHX=>G2 ->BN (BN ε G2) XW|AHY=>uK l r x|AHZ=>Ev hs.2 b (zK (zM (zG e) ε))|AHa=>(Value.ref C::bm).contains|ALA=>V_ ε ζ P VU η (P (θ ι)) (AI2 ν)|BJd=>(pick Str.empty ys is).map|BJe=>ε z TI TO i1 i2 l1 l2|AHb=>by rw[hl] at st hx|AHc=>by simp only [List.mem_cons,List.not_mem_nil,or_false] at ε|ARt=>bD (Gx AIW ε)|AHd=>ε fun _ _ _ _ _ _ _ q=>ζ q|AdL=>oF X pins ε b|AHe=>Qf (hu1 hu) ε ζ|ARu=>∃σ' H',Ach /\ε|AHf=>iU t2 s.heap l2 ys|AHg=>(backToKw pos (keywordEach [] X.env))
|ARv=>(.Tuple elts x1 pt)|AHh=>(.Tuple ci k2 N7)|ARw=>AI Ace (F b) (Acf ε)|AdM=>Nq (dg rows w)|BJf=>∃N:K',(∀σ' H',N σ' H' ->ε)/\ζ|AHi=>by obtain⟨d,d0,bd,hd⟩:=ε|AHj=>by show K_ oi h1 h2 h3 hit|AHk=>by obtain⟨ws,kv,hd⟩:=Td I hq J2|AHl=>by obtain⟨Γ',F',x,R',_,ε,_,ζ⟩:=η|AHm=>by cases b<;>simp [iM] at h<;>simp [h]|AdN=>(lM sc s.heap.objs.size X.env).ε|ARx=>qD (fP IP ε o)|AHn=>Gr F0 H0 F H|AdO=>ND "range" #[.int lo t,.int hi u,.int 1 v]|AHo=>∀ds Q E,sp ds Q E ->BJR|AHp=>by obtain⟨a0,u0,rfl,h0⟩:=lR h|AHq=>by have cx:Ctx BJW F0 H (BQ Ex):=ε|AdP=>[KM "ValueError",KM "Exception",KM "BaseException",KM "object"]|AHr=>(pC x (dg rows w))|AHs=>by refine SQ hit hg O rfl ?_|ARy=>⟨ε,I.os,I.bare,I.base,I.loc,I.cell,I.free,I.freeC,ζ,I.hok,I.len⟩|AHt=>hE x C dx F' H' z1 R'.gr (xr.back R.gr.h)|AdQ=>fun Γ4 F4 H4 σ4 R4 s4 q=>ε|AHu=>by refine Oe lk hcd S (De vs H Q E hq1) fun A outer s H vs Q E hr hq2=> ?_|AHv=>by show A8 ε (fun i H2 F2 s2 s3 _=>(Ð ζ η (AJ d hd)))|BJg=>∀{d:Int}{tb:OT}{rs:CA}{fs:ABv},_|AdR=>hbody cdv A outer s H E hr F0|ALB=>Nat.ne_of_gt ε|ARz=>hacc.1|ALC=>by rw[List.length_map,ε,ζ]|AdS=>by rw[List.length_cons,ε]|ALD=>show ε from rfl|ALE=>by rw[ε,List.getElem?_map] at ζ|ALG=>List.replicate ε ζ|AR0=>I.hok.fresh ε|AdT=>mem_of_lookup ε|ALH=>by exact_mod_cast ε|ALJ=>by cases e|ALK=>(by simp only [List.size_toArray]<;>omega)|AR1=>ε (List.range ζ)|ALN=>s2.heap.objs.size+1|ALO=>(AH p)|ALP=>An Y|ALQ=>Θ ε Bool.false_ne_true|ALR=>Nat.lt_or_ge i ε|ALS=>F6 FuncData|ALU=>F6 Expr|ALV=>CY rfl|ALW=>by rw[ε,ζ];omega|ALX=>DB T|AR2=>DB G2|ALY=>(BU e)|ALZ=>(BU (C5 x pos'))|ALa=>BH ys.length|ALb=>AY Β|ALc=>assign ε X.env|ALd=>some w|ALe=>some u|ALf=>.lst ys|AR3=>(B9 hj)|ALg=>.tup _|ALh=>fun z E cx=>ε ζ|ALi=>(zA.mp ε).1|ALj=>(aw "Open")|ALk=>(aw "Barred")|ALl=>BI z|ALm=>BI k|ALn=>BI sz|AdU=>(match d with | ε=>ζ | _=> η)|ALo=>(match ε with | some ζ=> η | _=> θ)|ALp=>j<xs.length|ALq=>by refine ε (wpAny_mono ζ η θ)|ALr=>BG gR|ALs=>KU (bs.length+1)|ALt=>x∈g|ALu=>a::dx::bs|ALv=>YK rows w|AR4=>b≠s.heap.objs.size|ALw=>Array DictEntry|ALx=>GV (ε::us)|ALy=>.str r|AdV=>.str BB|ALz=>(Kb "object")|AdW=>(Kb "StopIteration")|AL0=>z8 _ Sf|AR5=>HH (S b) ε|AL1=>ia ε (IF ζ)|AR6=>fun z E cx=>Mg ε ζ|AL2=>(.str x)|AL3=>show ε by decide|AL4=>D4 ?_|AL5=>(r - 1)|AL6=>by rw[ε];simp|AL7=>Mn rfl ε ζ|AL8=>by show CD I1.kIn|AL9=>(II ?_)|AL_=>EA AQn|AL'=>ps.length - 1|AMA=>FB List.map_map|AMC=>FB em|AMD=>xs.length<=i|AME=>D6 Unit|AMF=>ii ε SY|AR7=>(ij ho)|AdX=>b9 F' H|AR8=>OO q_ ε|AMG=>ε+1<scanBound|AR9=>b∉ch|AdY=>(fs.zip vs)|AdZ=>Q AE H'|AMH=>z_ env.cells.lookup|AMI=>(ABa sF)|AMJ=>(U_ iter)|AMK=>(ABd kW)|AML=>aC l fun a=>ε|AMM=>∀h∈ā,ε|AMN=>GE L|AMO=>NH List.getD_eq_getElem?_getD ε ζ|AMP=>AH8 o|AMQ=>wpAny Ee A ε ζ AIt η|AMR=>HC ε (CF ζ)|AMS=>ABf A.units|AR_=>ABg "reach"|AMT=>ps[BM]|AMU=>lQ rs g|AMV=>i6 ε Ε|AR'=>VQ Iy|AMW=>ABk α|Ada=>o0∈p_|AMX=>i<=xs.length|AMY=>Sb 3|AMZ=>Sem Bool|AMa=>Se ε ζ rfl|Adb=>FE q q.elim|ASA=>cZ k A|AMb=>own.length=n|AMc=>(xs.map .leaf)|AMd=>Ï kvs.length|AMe=>(ε _).trans
|AMf=>(List.length_filter_le _ _)|ASB=>ε t1 t2 h l1|AMg=>by refine ε ζ (List.map_congr_left η)|ASD=>AIF vs.toArray|AMh=>WE AcO|AMi=>ws.map .inr|ASE=>rawInt 0|AMj=>fun o ho=>ε|Adc=>⟨AI5 s3 s2,ω⟩|AMk=>ABs e|AMl=>(l.drop ε).take|AMm=>by show ST ε ζ rfl h|Ade=>APx E_ ε (LZ ζ)|AMn=>à s.Nodup|ASF=>[e,e2]|AMo=>(ä ACY)|AMp=>D1 cJ ε 1|AMq=>fs s p|AMr=>dP ε h1|AMs=>R.sl i _ e|AMt=>AP' FI|AMu=>sL 0|AMv=>wU rows ws|AMw=>by unfold ε;rw[ζ,η];rfl|AMx=>cW (ε i j)|AMy=>ACI 1|BJh=>ACN s.heap.objs.size ε|ASG=>AIa List.length_map ε ζ|ASI=>by rw[z,ε] at q;cases q|AMz=>cB lJ Ρ ε|AM0=>AIb Heap|AM1=>sd s|ASJ=>(Acj++ [r])|AM2=>Sh t1 t2 s.heap l1|AM3=>ACP ε Ā|AM4=>by show sj ε (z.fdiv ζ) η|AM5=>(x,c)∈ε|AM6=>.cons ε CC|AM7=>þ vs|AM8=>by obtain⟨its,rv,p,hz⟩:=I.list hq|AM9=>AQL den|AM_=>(match ε,ζ with | η,θ=>ι | _,_=>False)|AM'=>Fb led t|ANA=>AQO s.heap|ANB=>ps[BM].1|ANC=>BH ds.length/\ε|ASK=>ACe hn|ANE=>(x - l.1)|ANI=>(AD - l.1)|ANJ=>aC rows (OW ε)|ANK=>AcK (x o)|ANL=>AIw sc.names.lookup|ANM=>AQT e0|ANP=>by show P9 AI' ε ζ ?_|ANQ=>dX (cY 1 ε ζ NB dF η)|ANR=>dX (cY 1 ε ζ NB η Ρ)|ANS=>by have ev:=HW rk|ANU=>BJG (.Subscript ε ζ pos')|ANV=>ds.length - Bi|ASL=>ε (t' :=s.toks) (ζ:= η)|ASM=>AI6 E_|ANW=>hN b (Ξ ε)|ANX=>iX (Kr (i:=ε)) #[zy aL]|ANZ=>E8 o e|Adf=>(c8 #[] 0)|ASN=>BJJ "some"|ANa=>⟨ε,H2,ζ,η,q2⟩|ANb=>AQm ε all|Adg=>.pu (gl m)|ANc=>(FG a o)|ANd=>AQo hr|ANe=>AQp (AI8 ε)|Adh=>by unfold ε;rw[ζ];grind|ANf=>by show AQs hz1|ANg=>fun v σ H Q=>ε|ANh=>kq PE e ε|ASO=>AQw Acl|ANi=>z8 _ (z8 _ ε)|ANj=>gb (both.map f)|ASP=>∃a ε,x= AR/\ζ/\η|ASQ=>(I.freeC x c e)|ANk=>W i m σ H|ASR=>(lN val i)|ANl=>AQz (P ε Γ)|BJi=>(ε (HT.sIx ζ 0 lo)).take|BJj=>fnOf x qual (JM st) sD ABY ε ζ η|ASS=>l.2<=r.2|ANm=>.any C|Adi=>s.heap.get? l=some ε|ANn=>by exact False.elim h|ANo=>(z.fdiv ε).fmod|ANp=>(x::xs)|ANq=>by have ε:ζ=η:=Heap.size_push ..|Adj=>ht _ _ cx|ANr=>ABX ε CT (aF ζ ds)|ANs=>yW rows w ε|ASU=>(Ack e)|ANt=>(fun b z=>(ABw z))|ANu=>b9 F' H'|ANv=>(aW (cC ý))|ASV=>E (AH e) ε|ASW=>M_ R2 P7 ε|ASX=>by (with_reducible refine wpAny_isSubtype_exc ε ?_;rw[ζ])|ANw=>fun vs H Q=>(ACk ε)|ANx=>ir G5 ε E|ANy=>AIK bK (ACj ε)|ANz=>∀i j,i<n ->ε|AN0=>by obtain⟨z,hd,vs,rel,dd⟩:=VT JR|ASY=>ms.Pairwise (r_ Ü)|AN1=>by show Sc hv rv (xG rs ε)|AN2=>Acs ε C9|AN3=>by intro pins s σ H xs us Q I r h|AN4=>IntsAre vs ns|AN5=>∀i,ε<=i ->i<n ->ζ|Adk=>(Acu ts)|AN6=>AQ2 (i' ε) trans|ASa=>j_ ds d (D5 ε) C (E Γ1 C)|AN7=>wL N d q|Adl=>O2 xs ys h.2|AN8=>(AQc a op [b])|AN9=>s1.heap.DictAt î a ws ep|AN_=>#[WX (i:=0) aB ε ζ rfl DV]|Adm=>AIq fY (APv fB) k f fd ps ε|AN'=>(match ε with | some ζ=>η | none=>θ)|AOA=>[topFrame z]|AOB=>fun h hh=>ε|AOC=>by have hlen:=r'.length|AOD=>by have few:=O.few|AOE=>AD - l.1|BJk=>by simp only [ε,Bool.and_eq_true,ζ] at h|AOF=>(Or.inl rfl)|AOG=>A.under (AcV ε)|AOH=>BN Η AO|AOI=>dM ε hs=true|AOJ=>(ε ζ).congr (DJ η)|AOK=>B1 ε (fun v z=>Á)|AOL=>.int i _|AOM=>(M3 bs (Yb 4000 b))|Adn=>R (.ok (.ret ε)) ζ|Ado=>(.tr i4 t)|Adp=>CO (vs.getD i Value.none)|BJl=>WA ps.map (fun(FC ε)=>ζ)|AON=>o.data= cE vs
|AOO=>s3.seq (s2.seq hq)|AOP=>ε X.K H a xs|AOQ=>⟨Sb ε,vJ Β⟩|AOS=>dO.mp ((e ε).mp ζ)|AOT=>I.write (x:=ε) (e:=ζ)|AOV=>D.nx (Γ1.set i (ε ζ η))|ASb=>V ->Η ->AcI|AOW=>Low rs cs a ε|AOX=>oH Γ σ ε a|AOY=>by show Qr v r1 r2 r|Adq=>#[Ho ε (DN aP) JX]|AOZ=>fun i j hij hj=>ε|AOa=>Acr (ε st h)|AOb=>ε P w outer H s E e s'|BJm=>(s.heap.update a (Obj.mapSeq (CY #[]))).ε|AOc=>(zK (zG e))|AOd=>Υ x qual st|AOe=>fun xs H Q=>ε|AOf=>iH.d c S b|Adr=>DI (∃a b:Rat,ε)|BJn=>BJc ε (Obj.data_mapFields ζ _)|BJo=>cx.px pins σ Γ1 F1 ε s1 e s'|AOg=>BJe ZipApart|BJp=>(fk S n bs k)|ASc=>oe.cls= GW|AOh=>[á b 0,á (b+1) 0]|Ads=>ε (H' :=upd H1 a ζ)|AOi=>∀f∈fs,ε|AOj=>ε own.length caps ζ|AOk=>∀(w:World),_|AOl=>by have key:=List.pairwise_iff_getElem.mp ε|ASd=>setField ε ζ (rawInt η)|AOm=>.inl (zO (ε ζ) Β)|AOn=>AJ j hj|ASe=>(AQ4 - AI3)|Adt=>Au oA qs|AOo=>(FD q q)|AOp=>∀f∈fs,ε|ASf=>(m.getD i default)|AOq=>by rw[ε] at h;cases h|AOr=>FE y y|Adu=>(q_++ [p])|AOs=>HH Lo (kB/\ε)|AOt=>HI g f ε ζ|Adv=>(nZ X.K sp)|ASg=>entryFor table ε =some ζ|AOu=>Ao c ps|AOv=>Gr F ε F' H'|AOw=>L5 (wK rows x BB)|AOx=>by show GG A3 k|AOy=>by show P6 ha ha|AOz=>Ν ε s₁ h₁|Adw=>Í Fk (CO ε)|ASh=>(w.params.setOrder S ep)|ASi=>Rep X.K ε d v|AO0=>(n8 c.Scale "points" Ρ)|AO1=>(Ad bI aJ Ψ)|ASj=>Ab9 ε (I (BM)) (I (BM)) ζ|BJq=>(.tup [ø,(C3 1)])|ASk=>fun _ _ _ H _ I h=>ε|Adx=>1+ (z.fdiv 5).fmod 3|AO2=>A6 ε hu ζ η (KO θ)|AO3=>(bs.getD k kR)|AO4=>dv ε Β Β|AO5=>rS ε ζ I h|AO6=>BJF (Ev sb.2 b hb e)|ASl=>fun σ H R=>ta σ H (ic vs ε)|AO7=>∃c,x= .bl c/\ε|AO8=>m8 k ε S h|ASm=>BJG (bi ε f pos')|AO9=>B7 uQ body tb|AO_=>∀{x qual:Str},_|AO'=>AQj LA bs.length|APA=>KW (fun d Γ1 F1 H1 v R1 s1 r q=>ε)|APB=>VJ ε (AHx VL) (FE _ JP)|APD=>attributeBase ε ζ X.env (U_ η)|APE=>(! t.plain&&BJb)|APF=>GY l A0 (ñ ε) ζ|Ady=>OV (¬OU) H2 H'|APG=>by refine DE (setState S) (wpAny_setState_of hg O.dat O.fit ?_)|APH=>by have ε:ζ:=⟨W.mg_of X G (AQI η),θ⟩|APJ=>B7 QG tg g|Adz=>Sz 4000 (gb (ε k))|APK=>by obtain⟨its,rv,pl,hz⟩:=BJa|Ad0=>fun _ _ _ _ _ _ _ _ q=>q.elim|APM=>(fun s o=>y s o - x o)|APN=>by show CM rfl rs S6 ε|ASn=>by rw[ε] at ha;cases ha|Ad1=>OV OU H2 H|Ad2=>⟨ε,R1.gr.h.free ζ,R1.apart η⟩|APO=>(fj K F H ts)|APP=>by intro _ h;cases h|ASo=>sp vs H Q E|APQ=>ABZ d1 v1 (ACa h1 (AJF d2 v2 ε))|APR=>∀(w:World)(os:OsState),_|ASp=>["rule","marks","gap"]|ASq=>(Sum Int Str)|APS=>pick AE ε is|APT=>by refine wpAny_Call_Name_kw (A6 Gk I hg hm ?_ hdb)|APU=>by obtain⟨a,_,rfl,_⟩:=r;rfl|APV=>by show Fr h1 h2 h3|Ad3=>(seqObj "tuple" vs.toArray 0)|Ad4=>(G4 K F H Ex E)|APW=>by obtain⟨v,_,rfl,⟨l,us,rfl,hq,rs⟩,rfl⟩:=r1|APX=>AP8 QG tg g|APY=>AP8 Mh ifs tc|APZ=>(AI (i<0) (-i) i)|Ad5=>VM "Few" c.wF/\nY K c.wF|ASr=>HI kv.1 k (kv.1,ε) kv|BJr=>∀o u,X.H₀ b≠some (.frz o u)|APa=>W.typeIn K FX=some (Kb "function")|ASs=>["row","lead","place","ahead"]|APb=>by cases (B_ (u=Value.ref b) ry)|APc=>E C dx H'|APd=>V ->Kx ->Kx ->AcI|ASt=>Acz ε Sd PySem.F.slot_list_append PySem.F.type_list_append ζ|ASu=>(Heap.SameBut.update s.heap I _).ε|APe=>IsPair ε TI (AH i1) (AH i2)
|APf=>(ε/\AQX)\/ (ζ/\BJf (Acn σ' H') η)|APg=>(∃x∈ε,C x) ->AQq ζ|APh=>["work","hand","mark","found"]|APi=>by simp only [List.mem_cons,List.not_mem_nil,or_false,not_or]|APj=>by obtain⟨⟨old,q⟩,st⟩:=q|BJs=>pk yC ε outer s H|APk=>by show ABu a1 u1 h1 h0|APl=>by obtain⟨o,e,c,d⟩:=st|APm=>obs K=good w|APn=>F_ ["one","other"] "one" "other" ε|APo=>∀{st:Stmt}{f:Addr}{fd:FuncData}{N ps:Α}{k:Nat}{sp:ε},_|APp=>KW (fun t Γ1 F1 H1 v as R1 s1 nd hn ε h1=>ζ)|ASv=>fun x C dx F' H' hE gr xr=>⟨x,F',hE,gr,xr⟩|Ad6=>ds= [qD a,qD b]/\P2 a/\P2 b/\ε|APq=>∀(X:Cx) (vs:Η) (H:Hp) (Q:VK),_|APr=>KW (fun c Γ1 F1 H1 R1 s1 q=>ε)|ASw=>Acx pos (ö H1 (∃F1 Γ1 ds,AI1/\kP/\Acm/\ε)) I (QQ (Acy ds))|BJt=>k d Γ2 F2 H2 v R2 P7 ε ζ|APs=>by have hu:(A.deeper (envOfC ε (aX ζ) s.heap.objs.size f cdv)).units+21<cLine:=GB hr.units|APt=>by obtain⟨e,n,ne,nf,d⟩:=I.pin p hp|ASx=>∀{S:AU}{n:Int}{bs:Go},_|BJu=>∀c o,c≠z ->Ω (c≠TO) (c≠i1) (c≠i2) (AIB c) ε|BJv=>D8 iH.look c c S S b ε|ASy=>(ax (bi AIU "setdefault" ap) [.Name y KZ,.List [] lp] cp)|APu=>by obtain⟨a,b,rfl,⟨a1,a2⟩,⟨b1,b2⟩,h⟩:=h|ASz=>Str.ofString ε|AS0=>Nat.le_succ_of_le ε|AS1=>ε (· < ·)|AS2=>if ε then ζ else η++ [θ]|AS3=>by rw[List.getD_eq_getElem?_getD,ε]|AS4=>by rw[List.map_append]|AS5=>by rw[Rat.add_zero]|AS6=>by rw[Int.zero_add]|AS7=>qs.length<=ε|AS8=>rows.length<=ε|AS9=>ε<=l.length|AS_=>by simp only [Array.length_toList] at ε|Ad7=>by rw[List.getD_eq_getElem?_getD,ε,ζ,η]|AS'=>#[zup]|ATA=>(by rcases ε with (ζ | ⟨o,η⟩) | θ)|BJw=>by simp only [Bool.and_eq_true,ε] at ζ|ATB=>if h:ε then ζ else η|ATC=>s.heap.FunFrames ε ζ|ATD=>Int.toNat ε|ATE=>by ac_rfl|ATF=>by simp [ε,List.find?_cons,ζ]|ATG=>List σ|BJx=>(by cases z)|ATI=>A.frames=some ε|ATJ=>(AH l)|ATK=>(AH sl)|ATL=>(AH S)|ATM=>(AH l1)|ATN=>(cV 9)|ATO=>(qv 9)|ATP=>AX a|ATQ=>AX b|ATR=>AX w|ATS=>AX items.size|ATU=>.ref c|Ad8=>.ref acc|ATV=>An z|ATW=>An (tb s p)|ATY=>(LU 2)|ATZ=>st.2.1|ATa=>Μ ((ε a:Key)=ζ b)|ATb=>.int e|Ad9=>List.take_append_drop i ε|ATc=>F6 Bool|ATd=>F6 Rat|Ad_=>CY none|Ad'=>(B8 us)|AeA=>(B8 ws)|ATe=>DB Addr|ATf=>DB (Uf D)|ATg=>Nat.lt_succ_self _|ATh=>Int.le_refl _|ATi=>KM "set"|ATj=>Ch kvs ε|ATk=>.inr w|ATl=>R1.gr.h _ _ ε|ATm=>AY hv|ATn=>BD hb|ATo=>st.2.2|ATp=>by show CM ε ζ Prod.mk.inj η|ATq=>some []|ATr=>(KO hc)|ATs=>by refine codeAny_mono ε ζ|ATt=>.lst ds|ATu=>.lst ACO|ATv=>.lst AQS|ATw=>At ->Rat|ATx=>by cases (B_ ε r);rfl|ATy=>(B9 hu)|ATz=>(B9 hk)|AeB=>(B9 hw)|AT0=>Nat.le_add_right _ _|AeC=>E5 X.s₀.heap.get?|AeD=>(List.of_mem_zip ε).1|AT1=>(aw "Apart")|AT2=>(aw "Few")|AT3=>by show BS ε ζ η List.mem_flatten.mp θ|AT4=>CF 2|AT5=>BI n|AT6=>BI at_|AT7=>.Subscript ε ζ pos|AT8=>ID "abs"|BJy=>wpAny_loadPart' hl|AT9=>A7 a|AT_=>A7 b|AT'=>GT K'|AUA=>KS H1|AUB=>by show D' wpAny_attempt ε|AUC=>KU bs.length|AUD=>(a::(b1++ ([c]++b2)))|AUF=>a::b::t|AeE=>wR rows w|AUG=>isW rows w|AUH=>getD_get? e|AUI=>Md (AQI ε)|AUJ=>GV (GW::ε)|AUK=>.str z|AUL=>.str work|AeF=>(Kb "type")|AUM=>HH HA ε|AUN=>ε ζ (List.mem_cons_of_mem _ η)|AeG=>(DH c3)|AUO=>(DH work)|AUP=>(.bl b)|AUQ=>hN b hb|AUR=>Ix o|AUS=>Ix AQ_
|AUT=>.tup ys|AUU=>o.dict=none|AeH=>A.in1.handled=none|AeI=>by show ε;omega|AUV=>(by unfold IV;omega)|AUW=>zR.mpr rfl|AUY=>EA ?_|AUZ=>EA AdM|AUa=>(aW Ε)|AUb=>JE q.den|AeJ=>(ij hv)|AeK=>(ij hi)|AUc=>P1 ε rfl|BJz=>wpAny_loadPart' hb|AeL=>List.mem_singleton.mp hb|AUd=>im hj|AUe=>by have ε :ζ:=by simpa [η] using θ|AUf=>ε+1<l.length|AUg=>AH2 Stmt|AUh=>M0 setNext|AUi=>b∉X.fs|AUj=>M1 ε Β|AeM=>Q σ' H'|AUk=>(sR++m.take j).map|AeN=>SS AQS|AUl=>(.pu ACp)|AUm=>U' "range"|AUn=>U' "list"|AUo=>U' "reversed"|AUp=>HR _|AUq=>by obtain⟨ε,H1,I1,ζ,q1⟩:=hz1|AUr=>E2 hm|BJ0=>iq "kept_borders"|BJ1=>iq "kept_leanings"|BJ2=>iq "scale"|AUs=>AJ b q|AUt=>Eg _ rfl|AeO=>VC its.toArray|AUu=>α ->β|AUv=>ε C s₀ H₀ fp vh vm AP_ lK Gu pins s σ H ζ η θ I ι ν|AeP=>Â s1.heap.push ε|AeQ=>NG (z7 h)|AUw=>Gl X "range"|AUx=>Gl X "list"|AUy=>Gl X "reversed"|AUz=>bC hb2|AU0=>(d::ds)|AU1=>e _ _ h1|AeR=>ABg "points"|AU2=>by refine List.map_congr_left (AJ ε ζ)|BJ3=>(C5 "range" p)|AU3=>OW kK|AU4=>NL Si|AU5=>(Nm rows)|BJ4=>i9 List.take_add_one ε|AU6=>s.heap.IsList l ε|AU7=>cB cJ ε (MA ζ η)|AU8=>(lt i j)|AeS=>BF e h|AU9=>cn a|AU_=>cn H|AU'=>NU Builtin.Tuple.tupleExact|AVA=>E6 ε ["_law_script"] ζ|AVB=>E6 ε ["rows"] ζ|AVC=>qq Na|AVD=>qq Os|AVE=>storeSet a ε ζ|AVF=>bC (show IQ from ε)|AVG=>h i hi|AVH=>.obj C fs ds|AVI=>(by rcases zU.mp h with ε | h)|AeT=>V.ref (NC)|AVJ=>Mc W.hasDictIn C|AVK=>∀(he:starEach DF X.env=EG (A7 e) (EF es):=by rfl) (hpl:Ac7:=by rfl),_|AVL=>by show kD (!(Μ (ε<ζ)))|AVM=>bs.length<=1000|AVN=>qs.length<=1000|AVO=>Ï xs.length|AVP=>Ï ks.length|AVQ=>Ñ s2|AVR=>W.findIn K E_ ε=some none|AVS=>(cols p)|AVT=>J.go i H|AVU=>J.stop i H|AeU=>(C5 y Ai)|AVV=>ABp pyIter ε|AVW=>Ä FH h.2|AVX=>AIH ms|AVY=>VM ε ζ/\Mc Ep η|AeV=>fun h' hs' =>ε|AVZ=>-(f p/q p)|AVa=>AcA V|AVb=>aZ (Da ε) (aZ (Da ζ) fD)|AVc=>k' ::ks|AVd=>(ε :Str)∉fs|AVe=>(tupleKind_room_in1 hu)|AVf=>Hd.ex "__init__" ε ζ|AVg=>Ch σ jn|AVh=>(M3 fp AcO)|AVi=>kT W.hasDictIn ε|AVj=>dQ X.base.get? ε|AeW=>(f j).num|AVk=>b1++ ([c]++b2)|AeX=>by unfold ε;rw[ζ,η];exact θ|AVl=>Cl F' u|AVm=>(2^105*27720)|AVn=>by unfold ε;rw[ζ,η];grind|AeY=>(hx' b u e)|AVo=>Inv E7 pins σ1 ε ζ|AVp=>ACI 0|AeZ=>pre++post|AVq=>xs.length - 1 - i|AVr=>by rw[ε] at q;cases q|AVs=>AIb G2|Aea=>(ts++ [t])|Aeb=>(rows++ [r])|AVt=>kz aC|AVu=>iG NF (ε i)|AVv=>Rd H a Iy|AVw=>(ó "mean")|AVx=>(x,NameKind.free)∈ε|Aec=>(Obj.mapSeq Ac1)|Aed=>.done (.ret ε)|AVy=>(û p1)|AVz=>sw χ|Aee=>Cl F (.frz o c_)|AV0=>tF (S4)|AV1=>k b u q|AV2=>ACW (r= Φ/\ε)|AV3=>AQL num|AV4=>(ÿ "marks")|AV5=>(tS aH)|Aef=>(AIj (BB∈U))|AV6=>tm (QP ε)|AV7=>ABt FI ps ε sp|AV8=>AIn D|AV9=>AIn V|AV_=>AQO h|AV'=>o.cls= GW|AWA=>by rw[z,ε] at e;cases e|AWB=>AJ q hq0|Aeg=>AIs E_|AWD=>Bz (.Subscript ε ζ pos) η|AWF=>ą h6|AWG=>(Oa K a)|AWH=>AcK 1|AWI=>(AIv List.size_toArray)|AWJ=>IL (BFJ ε ζ all) η (! θ)|BJ5=>M' ε 3 "_law_script" ζ|BJ6=>(.str name t)|AWK=>by show P9 ε (fun i Γ=>ζ) η ?_|AWL=>(AQV (b::rest))|AWM=>(AQV BJP)|AWN=>(.BoolOp .Or (b::rest) pos)|AWO=>(.BoolOp .Or BJP pos)|AWP=>(ċ sT)|Aeh=>(z.fdiv 105).fmod 3
|AWR=>by by_cases hb:S b|Aei=>some (some ε)|AWS=>∃v,ε/\LE|AWT=>aC m f|Aej=>Ev hs'.2 b hb e|Aek=>s.heap.IsCell c v|AWU=>PA X es t|AWV=>PA X DF t|BJ7=>ACs s.heap.get?|AWW=>BJJ "end"|AWY=>by show ACx (AI (b=a) ε (AJW ζ η))|AWa=>KW (fun d Γ1 F1 H1 v R1 s1 rd ε=>ζ)|AWb=>some (.frz o c_)|Ael=>ε ζ (AHx yc5) (FE _ JP)|AWc=>AJE Acp|AWd=>Hv xs.toList|AWe=>X.ex= []|AWf=>l::r::t|AWg=>a∈as|AWh=>fun z hz=>ε|AWi=>by rw[ε,List.getElem?_replicate] at e|AWj=>a.num*b.den|AWk=>by show ε=ζ;grind|BJ8=>(.tup (k.map kV))|Aem=>typeLookup ε ζ =pure η|AWl=>AJN hh|AWm=>fs s j|AWn=>I1.hok.fresh (zN _)|AWo=>I1.hok.fresh (Nat.le_succ _)|AWp=>[(f,v)]|Aen=>AJV (AH5 fv)|AWq=>by show EN a vs hq rs r1|AWr=>I.cell x c e|AWs=>(X.hand b0).wsh|AWt=>JV R1.g ec|AWu=>(AQ3 s3)|AWv=>AJe (FK BZ ε ζ)|AWw=>(hr.make C us [])|AWx=>ou X.prog X.w H' h'|AWy=>ou X.prog X.w H' s'.heap|AWz=>by show G1;rw[FM] at hp;exact hp|AW0=>by show G1;rw[LH] at hp;exact hp|AW1=>s'.os=s.os|BJ9=>(WB e0.bs).1|AW2=>fun f=>ACh|Aeo=>fun hz=>(ARN ε)|AW3=>ε I1.hok ea|BJ_=>(R.unbase g)|AW4=>∀h',ε ->Q none Lu|Aep=>jO K c.bW|AW5=>(1+ Fh)|AW6=>(Aci xs.getD)|AW7=>HH OU BJr|AW8=>f.getD k 0|AW9=>iW f f[i]|AW_=>by refine z6 (wpAny_newObj_type ?_ ε)|AW'=>(B8 (BJd .str))|AXA=>⟨v,vs',ε,ζ,rfl,η,θ,ι⟩|AXB=>∀(i:Nat)(t:ε),_|AXC=>(MA Ĉ WP)|AXD=>(L2.upd H' a Acb)|AXF=>(n,k)::r|AXG=>TC te d ε|AXH=>by show EN p vs hq rs r2|AXI=>uM a1 b2|Aeq=>ARB [_]|AXJ=>PA X [a] ta|AXK=>(ARD (.inr BB))|Aer=>SR X.K F1 H1 ε ζ σ η|AXL=>ARI h4|Aes=>BJV (I i Γ2)|AXM=>k∈ks|AXN=>["group","hands"]|AXO=>fun u hu=>ε|AXP=>by simp only [List.lookup_cons,hx]|AXQ=>(qN false)|AXR=>zK (Nat.lt_succ_of_lt ε)|AXS=>pure (ForInStep.yield ε)|AXT=>(l::t)|Aet=>("self" ::ps)|AXU=>Kj _ ts|AXV=>Θ (i5 ε) e|AXW=>∀s',ε ->ACf|AXX=>(cellsFrom ε ζ η).lookup|AXY=>(LW Κ AJY)|AXZ=>(b*b')|AXa=>(Ac5 APz)|AXb=>Ac6 (Value.ref d)|Aeu=>mX K H1 a xs|AXc=>zO (Ks ?_) ε|AXd=>cc (pz 3)|AXe=>by have e:wM ε G_=some ζ:=η|AXf=>call FX (.ref ε::ζ)|AXg=>by by_cases q:g=f|AXh=>P_ h.get? AP9|AXi=>Of ε NN sB|AXj=>QY iM (O1 xs)|AXk=>Su ε aN Ψ ζ|AXl=>qK X.env.scope y|AXm=>mK ks k|BJ'=>(ts++ [.lst []])|AXn=>(z6 (z7 ?_))|AXo=>tI e hx|AXp=>⟨ε,H,I,ζ,h⟩|AXq=>by refine z6 (wpAny_field ε hd ζ ?_)|AXr=>ACu HU k|Aev=>(ax Aca [a] pos2)|AXs=>(kvs.any fun kv=>(Μ (kv.1=k)))|Aew=>(HV Ε (cU fZ IJ))|AXt=>k8 s.heap a b|AXu=>(yD xs lo hi)|AXv=>by ·rintro C s₀ H₀ fp pins s σ H Q I ⟨vh,vm,q⟩;exact AJj ht|Aex=>(∃k,BJS)/\AcX|AXw=>#[Cm (RQ ε (RP ζ))]|AXx=>AdK (AJD ε)|AXy=>by obtain⟨Ss,F,p⟩:=G.pi|AXz=>AdL H'|BKB=>AdN cells.lookup|AX0=>[.Name x pos']|AX1=>(jP ps).2<=ε|Aey=>fs.length<1000|AX2=>⟨h1,h2⟩|AX3=>k*7 % ns.length|AX4=>(A6 eV.cs S)|AX5=>.ext (D4 ε)|AX6=>fun H s=>ε|AX7=>Value.int i t|AX8=>by refine wpAny_newObj_type ?_ ε|AX9=>∃m,m<n/\ε|Aez=>PE X i ty|AX_=>Value.str x t|AX'=>.pu (Jb bs)|Ae0=>Do (ACm (Ac' ε))|AYA=>(Qy qs).mem_iff.mp|AYC=>by show È v r1|AYD=>(z.1).symm|Ae1=>D.rt v H|AYE=>(Q1 x hx)|AYF=>(List.range' ε n).map|AYG=>à (jS s hs)|AYH=>AIP s.heap Φ|AYI=>(ABx (WH/\dc))|AYJ=>by obtain⟨z,hd,xs,rel,dd⟩:=VT Oh|AYK=>AIu (-1) (FC ε)
|Ae2=>HI k' k ε y|Ae3=>∀z,j9 E7 ε (ABi g)|AYL=>(start N vs)|AYM=>fs.lookup f=some v|AYO=>nF xs=some ns|AYP=>ACw H s|AYQ=>by show AJh rfl rs|AYR=>zo Γ P t c Γ' ε|AYS=>ql ε qM (QP ζ)|AYT=>uQ SU F0 H ε t|AYU=>AJX ε [] H' s'.heap|AYV=>(rel.val k).mq|AYW=>EM u eb (yH b u ε ζ)|AYX=>(M3 as (kB/\KS H0))|AYY=>by have e:b=it:=As hb|AYZ=>fun b u q n ε=>ζ|BKC=>(jm.t c S AJi)|AYa=>qR fun i j=> .bl (ë ε)|AYb=>A6 ε (hc z) hg hm ζ DO η θ he|AYc=>by obtain⟨t,ht,hq⟩:=AdR|Ae4=>BJm push|AYd=>∀b ob,Ac8 ->r6 h'.get?|AYe=>BJo H1|AYf=>fun ds Q _=>ε|AYg=>∀c∈cs,f c=0|AYh=>by have hlt:=zG e|Ae5=>mX K F a vs|AYi=>(.UnaryOp .Not a pos)|AYj=>by show Sc h1 h2 (wv r hr)|AYk=>k _ _ _ _ R1 s1 q|AYl=>by show EN ε r h1 h2 h|AYm=>SP ε pins D f ζ|AYn=>AdG ε (g x σ H' ζ)|AYo=>by obtain⟨⟨h1,h2⟩,h3⟩:=hg|AYp=>(AI (r=mL) 2 1)|AYq=>by show CS r hr e F.of S hS|AYr=>yF K F0 H0 ε D2 D|AYs=>BJs A|AYt=>cand S n bs k BJp|AYu=>by obtain⟨v,us,bs,cs,e1,rfl,h1,h2⟩:=h|AYv=>BJu (sf c)|AYw=>BJv b|AYx=>by intro wh pins s σ H Q I h|AYy=>σ ->A0|AYz=>St ->BN Hp (ε)|AY0=>show ε by rw[ζ];exact η|Ae6=>(p_,ć fun r=> kK)|Ae7=>[.Name w Ti]|AY1=>[d1,d2]|AY2=>["sheet","hand"]|AY3=>[(0,60),(0,60)]|AY4=>bs++cs|AY5=>x.2≠y.2|AY6=>by rw[Oo e1,List.set_set] at ε|BKD=>["table","place",ε]|AY7=>by obtain⟨_,_,e,_⟩:=hS b z|AY8=>∃f∈fs,ε|AY9=>ElemsOf knd ε|AY_=>(s1.heap.push W.emptyDict)|BKE=>(Str.ofString "abcdefghijklmnopqrstuvwxyz").ε|AY'=>BN Int Int|AZA=>s2.trans (s3.trans ε)|AZB=>rB qs ε=true|AZC=>.inl (sF.seq hq)|AZD=>(k - l)|AZE=>(r.2 - l.2)|AZF=>by obtain⟨_,_,_,_,rfl,_⟩:=h;rfl|AZG=>by obtain⟨_,_,_,_,_,_,rfl,_⟩:=h;rfl|AZH=>.inr (uz sF hq)|AZI=>Heap.get?_update_other _ _ AJR|AZJ=>BX rows h|AZK=>ofM rows m|AZL=>fun _ H Q=>ε|Ae8=>xU b (e - s)|Ae9=>PE X value tv|AZM=>B2 iR AIW|AZN=>(z9 _ rfl)|AZO=>iX (zt4 (i:=ε)) #[S5]|AZP=>by have hr' :=jd.mp hr|AZQ=>(B' List.append_nil hl)|Ae_=>(FG acc Ç)|AZR=>Heap.get?_update_self _ ε rfl|AZS=>zt s2 ε s2.toks|AZT=>ON tn t ε|Ae'=>PySem.call f vs|AZV=>by have ε:ζ[j]=η:=by simpa [List.getElem?_eq_some_iff] using (zV.mp θ).2|AZW=>gX X.K g|AZX=>tX X.K tc|BKF=>∀x∈a,x∉b|AZY=>Μ (BB=h)|AZZ=>QD rows x m|AZa=>#[LQ (BL ε)]|AZb=>R J H'|AZc=>L5 (AD∈ws)|AZd=>(fV rows x)|AZe=>zK (Nat.lt_succ_self _)|AZf=>if_neg (Nat.lt_irrefl _)|AfA=>T.keep _ _ _ ε fun b hb o e=>ζ|AZg=>(L2.upd F a OS)|AZh=>(s2.heap.push AJO).push|AZi=>Μ (W.mroIn K ε ζ=some true)|AZj=>by by_cases q:BB=h|AZk=>Me ε #[dD ζ η iO]|AZl=>by show VX setsByText zk0|BKG=>(b∈X.ex\/ACn b)|AZm=>by show JY t (B_ (tj ε) r);cases e;rfl|AZn=>Heap.SameBut a s.heap ε|AZo=>(Î ((AQl).zip AJA))|AZp=>ε K F0 H0 t E σ H R|AZq=>AH' ε (Kf fun i j=> .bl (ë ζ))|AZr=>by obtain⟨_,_,_,_,o,_,_,e,_⟩:=k;exact CH e|AZs=>(x.1).isSome|AZt=>ji kvs k|AZu=>I.base.there b o e hx|AZv=>["hand","mark","self"]|AZw=>z1e h h2|AZx=>by rw[Do (show¬(ε) from Bool.false_ne_true)]|AfB=>Ν x H' y|AZy=>(yZ _ _ _ ?_)|AfC=>∀{Q:dW}(I:Ι),_|AfD=>∃o,ε/\∀v,o.data≠ .cell v|AfE=>(es.getD p (0,Φ)).2|AZz=>by show s0 z6 wpAny_onRaise|AfF=>Nk rows ws ps|AZ0=>Bz (.Constant ε j pos) ζ|BKH=>h p (zW _ hp)
|AZ1=>iU t s.heap l xs|AfG=>K.lookup f=some ⟨oc,od,ε,ζ⟩|AZ2=>qD (m8 AI9 AI_ ws h)|AZ3=>#[DG rfl (Acw ε ζ)]|AZ4=>∀(rows:A1)(w:Str),_|AZ5=>by show AJG eb (nH b u eb)|AZ6=>by generalize An a.num=x at*|AZ7=>by generalize An b.num=y at*|AZ8=>by generalize JE b.den=v at*|AZ9=>by generalize JE a.den=u at*|AfH=>List.zipWith ε as bs|AZ_=>σ ->α ->Rat|AZ'=>lt ε (p.getD ζ 0)|AaA=>AJK (tJ ε) (fun ζ s₁=>η)|AfI=>GY cs At (ε) ζ|AaB=>U i j hij ε|AaC=>(ZL b o e hx)|AaD=>AJf ε "__setattr__" "object.__setattr__"|AaE=>ne c _ z (FE w (kH w))|AfJ=>ne c _ z (Eg w (kH w))|AaF=>(fs.zip vs).lookup|AaG=>rR (pos:=ε) (i:=ζ)|AfK=>(.tr as (.ob C fs ts))|AfL=>.int (gj bs ε)|AaH=>h _ (I.tok _)|AaI=>ARG (dS st.at (ARH it))|AaJ=>iC t1 s.heap i1 l1 k1|AaK=>iC t2 s.heap i2 l2 k2|AaL=>Ka (Μ (ε=AJH)&& ! one)|AaM=>by obtain⟨a,vs,h0,h1,h2⟩:=h|AaN=>AIy (tb (AI4 N N) σ2 H2)|AaO=>W.methodCall_KW (pl:=pl)|AfM=>Ac0 oM update|AaP=>gR xs ys=true|AaQ=>CF (sIx n 0 lo)|AfN=>HI ε p 1 0|AaR=>by refine z6 (wpAny_typeNameOfWhole_keyiter hit.typeIs AQ9)|AfO=>(L2.upd F' acc OS)|AaS=>∀w,w∈ws↔ε|AaT=>(U7 r ta tb)|AfP=>.cons (B_ (RelV ε (Value.ref ζ)) rfl) r|AaU=>AQY J.type (z6 (AQY ε ζ))|AfQ=>(.Raise (BU (i3 AIU DF)) none pos)|AaV=>ε g tc ζ (qj own.length caps Γ)|BKI=>Pa K mg "NO_GAP" BJq|AaW=>AdI ε e none|BKJ=>⟨_,rfl,"set_iterator",_,ε,sJ.lookup,ζ⟩|AfR=>fun σ H R hq2=>by show AdE;exact ε|BKK=>(pC x (dg ε w)).map|AaX=>∀(K:W.Frag) (sp:ε) (vs:Η) (H:Hp) (Q:VK) (E:XK),_|AaY=>by have n:=Xe (t:=t) h|AaZ=>Vy (BQ ε) (CY JP)|Aaa=>h.Ns1 dx mA|Aab=>putK kvs k ε|Aac=>holding ε (eval ζ X.env)|AfS=>g ε Γ (Τ Γ' ζ) E|Aad=>mX K H a AdH|Aae=>ce ε s.heap b u|Aaf=>AP8 QE elt te|AfT=>BJh (AIr none (.seq ε ζ) #[])|Aag=>RX X F0 H0 tg iter ti|AfU=>tN ε (s.heap.UpToSlots h') (Q () Lu)|Aah=>∀ds Q Ex,sp ds Q Ex ->t ε (gJ N ds) av|Aai=>∀(qs:AB)(bs:Go),_|AfV=>by rw[typeLookup_type,builtinLookup_eq_fast];kernel_rfl|AfW=>BJj ε Φ Φ|BKL=>by show BJk iM decide_eq_true_eq|BKM=>∃S' ∈ε,AJB S S'|Aaj=>(by have ε:(op==ζ)=false:=by cases op<;>first | rfl | show ACr η)|Aak=>by refine S7 AcR AcR (P.ne χ χ χ) ?_|AfX=>fun d v F' H' gr rv hp=>ε|BKN=>sQ ->∀h∈AI7 kW,h∈m|BKO=>EE Γ' 0 (.pu (.ptr a))/\ε|Aal=>(by rcases hq with hq | hq)|Aam=>(RG I.hok eb)|Aan=>∀{elts:A2}{x1},_|Aao=>∀[k9](val:GT κ),_|Aap=>ε H2 (s2.trans s3)|Aaq=>ε ζ es1 (SetTable.grown es1.size)|Aar=>DK d d' =true|Aas=>zM ε (Nat.pow_le_pow_right Β ζ)|Aat=>by show CM p1 p2 List.pairwise_cons.mp ε|Aau=>TR K F H t v ε|Aav=>pW n m a|Aaw=>qt H F' a|Aax=>T.obj _ _ ε b hb|BKP=>∃es,o.data= .dict es ep|Aay=>zj8 I S e|Aaz=>⟨0,0,0,0⟩|AfY=>NS (BJZ k0) BJY|BKQ=>by (obtain⟨_,_,z,_⟩:=r';cases z)|Aa0=>Tg hA ts vs bs n h|Aa1=>sW p s i|AfZ=>(ä (Sum.inr (xs.getD i Str.empty):Key))|Aa2=>yH c _ (Τ hc ?_) q|Aa3=>∀(hs:Α)(x:CL),_|Aa4=>by show AIo (M0 .ε) (M0 .ζ) (M0 .η)|Aa5=>by show AIo (.ε _ _ k1 hu0) (.ζ _ _ k1 hu0) (.η _ _ k1 hu0)|Aa6=>wpAny sC X.A (pyNext (AH it)) (VI s1 ε) E s|Aa7=>by show Č (.ε _ _ k2 hu0) (.ζ _ _ k2 hu0) (.η _ _ k2 hu0)|Aa8=>(Jg ws AQt bs)|Aa9=>by show Op;exact ε a t' b t
|Aa_=>(JN lo n).ε i H|Aa'=>#[V9 (BQ ε) rfl cj boot_list ζ]|AbA=>by show AJc (us++ []) (AIa List.append_nil r.length AJb)|AbB=>zn4 (d:=ε) (ky ζ)|AbC=>μ*d.fdiv da|AbD=>dt rs (cols p)|Afa=>nsIn K mainGlobals x=some (BU FX)|AbE=>∀{n:Nat}{f:kN},_|Afb=>(NI v (∃h:Ac2,v=es[i].key))|AbF=>uJ knd kf led ε a ζ|AbG=>Ev far b (RK hT hdT q n)|AbH=>fj.there ts vs bs h a ha|AbI=>by obtain⟨_,_,_,q⟩:=hs;exact False.elim q|AbJ=>nW.some_of (v:=v) (o:=ε)|AbK=>obs (cut s.heap n)|Afc=>.inl (IE _ kk (JV ε ec) ζ)|AbL=>IL (backToKw ε (keywordEach [] X.env)).ζ x η|AbM=>.ow (Au (KU k) nm .str)|AbN=>by rw[hc,ea] at q;cases q|AbO=>ACz R1 s1 FH q|AbP=>⟨o,es,ε,h2,h3,h4⟩|Afd=>["_law_one","_law_other","_law_mine","_law_theirs"]|AbQ=>by obtain⟨U,hU,hr⟩:=O.hs|AbR=>by obtain⟨b1,b2,b3,b4⟩:=ε|AbS=>by exact NG (main _ _ Β Β)|AbT=>ε X.prog X.w s.heap.objs.size ns|Afe=>ε pm an cdv ct|AbU=>W.excIn K ε AdP "ValueError.__new__" =true|AbV=>.ask i j k|Afg=>ε pins s2 σ H2 _ I2 q2|Afh=>∀{t1 t2:Bool}{z TI TO i1 i2 l1 l2:Addr}{k1 k2:Nat},_|BKR=>Mn (BJn ho hd) ((Obj.cls_mapFields ..).trans hc) ε|BKS=>F8 rR i j ε hv2 hd2 Cu|Afi=>BJi ε xs.length (Ac9 hi - AQH 0 lo)|AbW=>by obtain⟨z,its,n,r,e⟩:=ε|AbX=>by show ABu a2 u2 h2 h1|AbY=>∀kvs,u≠ .dK kvs|Afj=>SR K F0 H0 F' H' σ' Γ'|AbZ=>["spot","row","place","ahead","lead"]|Aba=>DI (∃ns:AU,ds= SS ACO/\AJd/\ε)|Abb=>AdQ ⟨F4,Γ4,R4,s2.trans (s3.trans s4),q⟩|Abd=>["hands","sheets","lefts","rights","numbers"]|Afk=>show its.toArray.any (Ck x)=its.any AQv by simp|Abe=>Pw (.For tg ε body [] pos) (ζ η g tb)|Afl=>∀{n p:Nat}{A:OT}(BJg),_|Abf=>[ACo,Ac3,Ac4,BI way,BI most,.pu (B8 (nms.map .str)),.pu (B8 (K9.map .str)),.ow AdB,ε,ζ,x10,A_]|Abg=>∀(t1 t2:Bool)(h:Heap)(l1 l2:Addr),_|Abh=>(match k with | ku=>x | .inl _=>Str.empty)|Abi=>[z,TI,TO,i1,i2]|Afm=>["_law_way","_law_w","_law_h","_law_hands","_law_cell_here"]|BKT=>hq ds Pd Ex hsp|Abj=>Μ (ε+ ([]:List Keyword).length+ (AI ([]:List Keyword).isEmpty 0 1)<30)
|Abk=>∀(hline:sq:=by rfl)
 (he2:starEach (sA AP7 [] cpos) X.env=EG (A7 ARF) (EF []):=by rfl),_
|BKU=>∀(q:Nat) w p,AJT w ->qi ps p ->ε|Abl=>A6 Z1 cx.po hc ε (KO hg) Jn hs|BKV=>Steps prog w A I S ε ep o
|Abm=>by
 show On p1 p2 ε;show DD o p1 (RJ p2 ET ζ);have:η:=Ξ (by subst z;exact θ)
 rw[bC this];exact ι
|Abn=>AdF (fun d Γ2 F2 H2 v R2 s2 r p=>(BJt r p))|Abo=>∀(G:ε X.prog X.w X.K X.mg X.base x k ps sp)(hr:si)(hg:HE)(ha:LJ)(hdb:AT x "__debug__":=by decide)(WS),_|Afn=>["self","rows","rule","gap","scale","bounds"]|Abp=>["part","head","row","lead","place","ahead"]|Abq=>by show ML _ _ _ rfl AS AS AS|Abr=>Bz AJQ (ε C m sp te t)|Afo=>(match xs[j]?,ys[j]? with | some a,AQ7=>iM a b | _,_=>false)|Abs=>⟨p,vs,rfl,ε,Hq h1 r1,Wb rs h2,Ä (FB (Hr h1 r1 rs h2)) h3⟩|Afp=>ε K C f sp vs H Q E|BKW=>∀{tb:OT}{rs:CA}{fs:ABv}{ix:OY},_|Abt=>by obtain⟨q1,q2,⟨u,v,q3⟩,q4,q5⟩:=q|Abu=>∀(P:Program) (w:World) (K:W.Frag) (mg:B0),_|Afq=>∀(w:World) (K:W.Frag) (mg:B0) (base:Heap),_|Abv=>by ·obtain⟨F,ds,P',Ex,_,rs,hs,_⟩:=hq1;rw[<- Sm];exact AdJ|Abw=>∀(X:Cx),Ω (X.prog=P) (X.w=w) (X.K=K) ε (∀(i:Nat) (pins:eE) (s:Shared) (σ:St) (H:Hp) (E:dW),ζ)|Abx=>fun _ _ _ _ _ _ _ _ _ q=>q.elim|Aby=>by have:=D8 (Xj (rs:=rs) (cs:=ε)) ks ks ss rs r ζ fun s hs=>hs|Abz=>(by rcases g with ⟨kvs,k,e,ey,l⟩ | ⟨kvs,k,b,e,ey,eb,l⟩)|Afr=>(match r with | ε=>ζ | η=>θ)|Afs=>s1.heap.objs.size+ε|Aft=>(Ji L (ε w hw)).1|Afu=>["sheet"]|Afv=>["counts"]|Afw=>if ε then ζ else none|Afx=>by rw[ε,ζ,η,θ,List.getD_eq_getElem?_getD,ι]|Afy=>by rw[List.map_cons]|Afz=>by rw[Heap.size_push]|Af0=>by rw[List.pairwise_append]|Af1=>ε<=fs.flatten.length|Af2=>by obtain⟨_,_,_,_,e⟩:=ε|Af3=>by obtain⟨_,_,_,e⟩:=ε|Af4=>by obtain⟨_,_,_,e,_⟩:=ε|Af5=>by obtain⟨_,⟨_,_,_,e,_⟩,_⟩:=ε|Af6=>⟨ε,trivial⟩|Af7=>by simp only [List.length_map] at ε|Af8=>Int.gcd_dvd_left ..|Af9=>Int.gcd_dvd_right ..|Af_=>by simp only [List.lookup_cons,ε] at ζ|BKX=>ε (Heap.SameBut.update _ ζ _)|Af'=>by simpa [ε] using ζ|AgA=>by injection ε|AgB=>List Obj|AgC=>List L2.Key|AgD=>(by injection z)|AgE=>by show NW ε ζ η;exact θ|AgF=>beq_eq_false_iff_ne.mpr h|AgG=>I.list h|AgH=>beq_iff_eq.mpr h|AgI=>List.drop_eq_getElem_cons h|AgJ=>.ref s1.heap.objs.size|AgK=>Nat.mul_le_mul_right _ ε|AgL=>(BQ none)|AgM=>An s.length|AgN=>by have ε:=List.mem_range.mp ζ|AgO=>(LU 10)|AgP=>Μ sQ|AgQ=>Μ s_|AgR=>.int (lo+i)|AgS=>Θ beq_eq_false_iff_ne ε|AgT=>(B8 xs.reverse)|AgU=>by show Ap χ;omega|AgV=>DB Heap|AgW=>i<m.length|AgX=>SeqAt.EqAt.same _|AgY=>by rw[e];rfl|AgZ=>by subst r;rfl|Aga=>.inr tw|Agb=>Cl s.heap.get? ε|Agc=>iN ADQ|Agd=>Ξ BJx|Age=>BH its.size|BKY=>BH vs.length|Agf=>BH items.size|Agg=>BH z.length|Agh=>BH es.size|Agi=>BH rest.length|Agj=>(hm.push _)|Agk=>this.2.2|Agl=>(KO h1)|Agm=>(KO hk)|Agn=>.lst (ε .leaf)|Ago=>DC h'.get? ε|Agp=>AA zyf|Agq=>AA zyo|Agr=>AA zea|Ags=>(B9 hx)|Agt=>by exact List.nodup_append.mpr ε|Agu=>by have ε:=Heap.get?_update_self ζ η rfl|Agv=>IsTup.new _ _|Agw=>List.length_filter_le _ _|Agx=>.none_bool _|Agy=>.bool_none _|Agz=>W.handedIn ε=true|Ag0=>CF BM|Ag1=>(D9 hy)|Ag2=>ID "enumerate"|Ag3=>Υ "__init__" ε ζ|Ag4=>(.dK [])|Ag5=>CI dr|Ag6=>by show D' wpAny_standAt ε|Ag7=>by refine wpAny_truthy_bool ?_|Ag8=>by refine Calls.spliced_nil ?_|Ag9=>by refine Calls.spliced_cons ?_|Ag_=>BG hkl|Ag'=>(a::dx::bs)|AhA=>by (show F9 ε zJ)|AhB=>.bl false|AhC=>GU B.get?
|AhD=>by rw[Int.natAbs_mul] at e|AhE=>ws.take i|AhF=>B' List.length_map ε|AhG=>(DH hy)|AhH=>by unfold ε;show WZ|AhI=>(IF BA)|AhJ=>(IF Dx)|AhK=>ib Kx|AhL=>Uf Int|AhM=>by rw[List.pairwise_cons] at h|AhN=>L.hS b hb|AhO=>List.getElem?_eq_getElem χ|AhP=>decide_eq_false χ|AhQ=>List.drop_eq_getElem_cons χ|AhR=>zx.up Β|AhS=>(HK hh)|AhT=>beq_eq_false_iff_ne.mpr q|AhU=>hstop rfl|AhV=>ns.length<=n|AhW=>b∈X.fs|AhX=>ε ζ a its.toArray|AhY=>vs.length<=i|AhZ=>D6 Flow|Aha=>D6 Result|Ahb=>P1 ε O.ex.1|Ahc=>by show TH hb;exact⟨ε,ζ⟩|Ahd=>z_ BKB|Ahe=>AH4 ci|Ahf=>by have hl:=r.length|BKZ=>U' "sorted"|Ahg=>(hf b hb)|Ahh=>(Adt qD)|Ahi=>Gc (Ui (x:=ε)) ζ|Ahj=>(Fs Á)|Ahk=>by show JJ wpAny_handled|Ahl=>GB ARV|Ahm=>(Av.map .inr)|Ahn=>((A3).map .inr)|Aho=>.none_int _ _|Ahp=>.none_str _ _|Ahq=>.bool_bool _ _|Ahr=>.int_none _ _|Ahs=>.str_none _ _|Aht=>(VA Ψ)|Ahu=>L5 BKN|Ahv=>(z8 _ e1)|Ahw=>Ã ε (FD s' ζ)|Ahx=>by rw[z,ε] at ζ;cases η|Ahy=>cc (pz 1)|BKa=>Gl X "sorted"|Ahz=>.ow (KU ε fun j=>ζ)|Ah0=>cf ε Rat.not_lt.mpr ζ|Ah1=>Cls X.K C|BKb=>wpAny_truthy_bool ⟨ε,ζ,η⟩|Ah2=>NL kM|Ah3=>k<ns.length|Ah4=>VQ BJ8|Ah5=>i9 List.getD_eq_getElem?_getD ε|Ah6=>VT zyy|Ah7=>i<=ds.length|Ah8=>Nat.lt_or_ge j ε|Ah9=>by show ARj;exact ε|Ah_=>(pre++ARc)|Ah'=>(pre++d::re)|AiA=>(pre++c::AJv)|AiB=>(Î AdY)|AiC=>by show BS u rfl rx vals1 r1|AiD=>pK x=true|AiE=>ABm I.laid|AiF=>kC BKC|BKc=>K.In s₁.heap|AiG=>(i4).Nodup|AiH=>F.to r hr|AiI=>qD (x' h)|AiJ=>WC BKH|AiK=>rows.take t|AiL=>rows.drop t|AiM=>by show AIE List.take_length|AiN=>(topStub p)|BKd=>tn i s'.heap|AiO=>Ô its|AiP=>(l.map .int)|AiQ=>a=X.env.locals|AiR=>["hand","group"]|AiS=>(frs outer)|AiT=>(g.unbase gr)|AiU=>fun b hb u e=> ε|AiV=>(BIv hi)|AiW=>B.StaysIn h'|AiX=>by have hi:i<vs.length:=ε|AiY=>by have hi:i<Γ.length:=ε|AiZ=>.seq its n|Aia=>Array.getElem?_eq_getElem hi|Aib=>X.env.cells.lookup y=some ε|Aic=>ka Subscript ε ζ η|Aid=>(zW _ hx)|Aie=>(200*27720)|Aif=>ws.map s|Aig=>wpAny_execs_nil ⟨ε,ζ,η,θ⟩|Aih=>List.nodup_cons.mpr ⟨ε,ζ⟩|Aii=>(FB q)|Aij=>by have ε:BH vs.length:=ζ|Aik=>ε X.env.scope w|Ail=>(R++ [r])|Aim=>rows.filter fun r=>ε|Ain=>(du Ρ)|Aio=>(U2 a cq)|Aip=>Rd H a AJ_|Aiq=>KV kvs ws|Air=>rv.up s1|Ais=>(ks.map kV)|Ait=>(e - ARA)|Aiu=>la s.heap.get?|Aiv=>FE h h|Aiw=>ws.map fun w=> ε|Aix=>ws.filter fun w=>ε|Aiy=>K2 AJU*f j|Aiz=>AcH ε "__init__"|BKe=>BJE "other"|Ai0=>(ACZ hb)|Ai1=>(ACZ ho)|Ai2=>(fK ns ε).fdiv|Ai3=>AcJ (Å ε "__init__")|Ai4=>ε (by show AJm)|Ai5=>tz (kf e.2)|Ai6=>UZ Key Value|Ai7=>.lst (bs.map ε)|Ai8=>(Rx K a)|Ai9=>(Ite K a)|Ai_=>xs.getD j 0|Ai'=>uC name|AjA=>(AIv List.length_take)|AjB=>(AIx Dx)|AjC=>(AIx ă)|AjD=>.obj _ _ _|AjE=>.bool_str _ _ _|AjF=>.str_bool _ _ _|AjG=>(hn a h).2|AjH=>r1.up s2|AjI=>z.natAbs<=B|AjJ=>∀(ha:WN a tA),_|AjK=>∀(ha:PT X a tA),_|AjL=>(xs.map .str)|AjM=>DC h.get? o|AjN=>h'.IsCell c v|AjO=>ē ε (U1 h2 ζ)|BKf=>BJI s.heap.push|AjP=>AcU fj.move|AjQ=>AcU fj.rep|AjR=>AcU fj.repN|AjS=>(AcV (AJl (GW::us)))|BKg=>(aK K F ds rest)|AjT=>o.data= .dict es ep|AjU=>(vs= [.ref q])|AjV=>a<h.objs.size|AjW=>h.FunFrames ε l
|AjX=>W.looks_clsIn X ε|AjY=>W.looks_findIn X ε|AjZ=>o=some Cb|Aja=>AJJ Adk|Ajb=>ADN AdO|Ajc=>ADR "list" ε|Ajd=>fun vs σ H Q=>ε|Aje=>(ADT AJy)|Ajf=>by show ADU ds.length|BKh=>AQy base.Ns|Ajg=>AQy h.Ns|Ajh=>(I2.env0.make C us [])|Aji=>R1.g.trans sH|Ajj=>seqIndex_neg χ ε|Ajk=>jO K c.Open|Ajl=>B' ε (Nat.le_succ _)|Ajm=>p.getD k 0|Ajn=>F7 acc H'|BKi=>by have:=ε;show BC ζ;omega|Ajo=>List.getElem?_eq_none (B9 h)|Ajp=>(L2.upd F2 a Acb)|Ajq=>k b o hc e|Ajr=>∀i,i<m.length ->ε|Ajs=>by show Nl i ds.length|Ajt=>AQ' (h b hb)|Aju=>uM a2 b2|Ajv=>uz R1.g hq|Ajw=>PA X ci ta|Ajx=>(Acq dx)|Ajy=>AKC zH4|Ajz=>oG f v (ε::r)|Aj0=>iC t1 ε i1 l1 (k1+1)|Aj1=>iC t2 ε i2 l2 (k2+1)|Aj2=>(by rcases Nat.lt_or_gt_of_ne ε with q | q)|Aj3=>(by rcases Rat.mul_eq_zero.mp ε with q | q)|Aj4=>by refine wpAny_passesOwn hp (bU (ε _ ζ η) θ)|Aj5=>(N*M)^rs.length|Aj6=>ps.map Aq|BKj=>vs.length=ps.length|Aj7=>1<ps.length|Aj8=>BM<ps.length|Aj9=>by show Ap Bool.false_ne_true;exact ε|Aj_=>Same H H1|Aj'=>pC x jv|BKk=>BF r.length z|AkA=>E8 xs q|AkB=>(D1 cA Ρ 2)|AkC=>(D1 cA Ε 2)|AkD=>hs.map fun h=> ε|AkE=>(ARQ a.den_pos)|AkF=>Pw (.Expr ε pos) ζ|AkG=>∀r∈rs,AKK r|AkH=>JI (uj ε) 4|AkI=>Gc (bC ne) gG|AkJ=>Gc (Ċ n2) gG|AkK=>Lv p ú|AkL=>(HV Ρ Ε)|AkM=>(k,x)::r|AkN=>I.base.keep b o e n|AkO=>ztr (t:=ε) (b:=ζ)|AkP=>.none_tuple k2 hu0|AkQ=>.none_list k2 hu0|AkR=>.tuple_none k1 hu0|AkS=>.list_none k1 hu0|AkT=>by obtain⟨its,r',pl,hz⟩:=I.list hq|AkU=>by obtain⟨its,r',pl,hz⟩:=I.tuple hq|AkV=>.bool_tuple _ k2 hu0|AkW=>.bool_list _ k2 hu0|AkX=>.tuple_bool _ k1 hu0|AkY=>.list_bool _ k1 hu0|AkZ=>bt.lead (N:=16)|Aka=>Ac_ hp.objs.size|Akb=>fun D Γ _=>ε|Akc=>fun D Γ E=>ε|Akd=>Ă x h2|Ake=>(gR xs ys)|Akf=>(mH xs ys)|Akg=>Hi K F Ku (ε a o qE) ζ|BKl=>VO ε ds (ζ*K2 (j::ds)) cs|Akh=>(S0 w os)|Aki=>by by_cases q:ADX<;>simp [q]|Akj=>.tuple_list k1 k2 hu0|Akk=>.list_tuple k1 k2 hu0|Akl=>ARu (ε σ' H')|Akm=>(ARw H1)|Akn=>ARy ε I.pin|Ako=>by show ST σ' H' I q;exact⟨σ',H',V0 I,q⟩|Akp=>by show ST σ' H' I q;exact⟨σ',H',V1 ok I,q⟩|Akq=>W.KasT α|Akr=>T s.heap|Aks=>t.dummies= #[]|Akt=>by show AdS Nat.add_mul|Aku=>by rw[List.map_cons,List.map_cons]|Akv=>by rw[List.zip_cons_cons,List.lookup_cons]|Akw=>⟨0,ε,AV⟩|Akx=>⟨#[c]⟩|Aky=>(AdT hk)|Akz=>(I.base.free b o e n hx)|Ak0=>(.nt ts)|Ak1=>An (AX ε)|Ak2=>(as++cs)|Ak3=>AJ w _|Ak4=>(ME - ADM)|Ak5=>Au ws.take i|Ak6=>B2 sU ns|Ak7=>B2 ys.map V.str|Ak8=>by intro pins s σ H Q I hw|Ak9=>D2.nx (Γ1.set i ε)|Ak_=>by show EQ;have:=ε;omega|Ak'=>NE Y (AX Adx)|AlA=>NJ l ε S_|AlB=>qV NN sB|AlC=>P_ H' AJZ|AlD=>by obtain⟨its,rv,pl,hz⟩:=I1.list hq|AlE=>by by_cases hlt:i<ds.length|AlF=>by rw[List.getElem?_set_self ε] at e2|AlG=>b1++ (cs++b2)|AlH=>TR.move ε t v as ζ η|AlI=>.qP _ ts|AlJ=>aC rows (Τ r (ε*W_))|AlK=>(hg x).mpr (D9 ε)|AlL=>cutD sg (BU ε) (some ζ)|AlM=>ARK (uV n x y)|AlN=>(X.wsh z).Ok|AlO=>by show CM h1 h2 zA.mp ε|AlP=>ABj _ t ds ε|AlQ=>(kL ps (Gw 300 p))|AlR=>by show A8 Adc (Ν y H' z)|AlS=>(AI Lo none (F' b))|AlT=>(Ny w hw).2|AlU=>Adw ADe|AlV=>qD (ME - So)|AlW=>by have:=ε;show Cc ζ this this
|AlX=>Adz qs.take|AlY=>qK (aX st) "self"|AlZ=>VO d es (s d*h es) ε|Ala=>fun _ _ _ _ _ ε=>ζ|Alb=>by obtain⟨vs,H1,I1,r,F1,Γ1,ds,R1,sF,rs,q⟩:=hz1|Alc=>sc.kind= ABr|Ald=>⟨uq,mk,ε⟩|Ale=>by show BJw decide_eq_true_eq ε|Alf=>s.TypeIs ε "dict"|Alh=>Shared.TypeIs ε ζ "set"|Ali=>F' acc=none|Alj=>by rw[List.drop_eq_getElem_cons hi']|Alk=>∀(K:W.Frag)(ta:TA),_|Alm=>#[Wv #[z6s (i:=ε) rfl DV]]|Aln=>#[zxp (ie Ww ε ζ)]|Alo=>∀xs,ε ->jp|Alp=>AJ k hk|Alq=>AJ x hx|Alr=>Ch ds d|Als=>(ns.getD i 0)|BKm=>xs.all pK=true|Alu=>(ws++ [w])|Alv=>by refine PyProof.Rows.callWith_type1 ε ζ rfl|Alw=>hs.map fun h=> ε|Alx=>by show c∈_;simp|Aly=>Iq es us|Alz=>by have ε:ζ=η:=by rw[Heap.size_push,θ]|Al0=>F_ ε "some" "bounds" ζ|Al1=>by show Kk (List.eq_nil_of_length_eq_zero ε)|Al2=>JO rfl ?_|Al3=>Lv l ú|Al4=>∀j,f j=a j+g j|Al5=>i.natAbs<2^k|Al6=>L7 Γ1 (.pu ARR)|Al7=>List.getElem?_append_right (Nat.le_refl _)|Al8=>(Tr a b)|Al9=>BJ4 AcG|Al_=>VY QF tf|Al'=>WA is.map Adp|AmA=>aC rows (t6 So)=0|AmB=>(kL names Acv)|AmC=>X.xe e s'|AmD=>dl hr e|AmE=>dq p hk|AmF=>AIu ε (AX (a.den*b.den))|AmG=>Fg S.marks=some (ks,ys)|AmH=>.str x _|AmI=>lt i j=true|AmJ=>Ę ε Ψ Κ|AmK=>dt đ ko|AmL=>(rv.up s2).up|AmM=>mids (oA qs)|AmN=>AQr dx a|AmO=>Heap.SameBut ε s.heap h'|AmP=>fun b ob q _=>ε|AmQ=>KU m fun j=> .int (ε j)|AmR=>sY qs r v|AmS=>.ob _ _ ts|AmT=>(.Tuple elts x1 pos)|AmU=>ji kvs k=some ε|AmV=>by show Kk (zj9 rs hns)|AmW=>a.free c ob q n|AmX=>(Hy X.prog X.w q ns)|AmY=>fun w hw q=>ε|AmZ=>by rw[List.nodup_cons,List.nodup_cons] at nd|Ama=>.lst (Đ o (ARx h))|Amb=>rk S bs i|Amc=>iD ks ε k=some d|Amd=>Adr (Ad6 (Q3 ε))|Ame=>Cj s.heap x dx C mA|Amf=>by obtain⟨a,dx,vs,bs,e1,rfl,e3,e4,e5,e6,h⟩:=h|Amg=>∀(s:Shared) (ε:Value),ζ|Amh=>BKE cps.toList|Ami=>(Τ j (oh rows ws m i j*AdD x))|Amj=>NH (i5 ε) (i5 ζ) e|Amk=>(cX Γ σ H)|Aml=>ka Constant ε j (tC ζ)|Amm=>SR K F0 H0 F H ε (cy ζ)|Amn=>by obtain⟨a,dx,vs,rfl,ea,hl,rs⟩:=rd|Amo=>by have nab:a∉bs:=lI|BKn=>⟨F2,Γ2,_,R2,h2,ε⟩|Amp=>(zH1 t1 ε l1).objs.size|Amq=>by obtain⟨o,kvs,e1,e2⟩:=uB|Amr=>by refine Call_ (ACl ε (PyProof.Rows.callWith_type1 (ACt AKE) hs rfl))|Ams=>[NX,kC (gF sR x),Adg,ε,y4,y5]|BKo=>Ab.k (k:=ε) ζ (by show AJa hkl;exact η)|Amt=>(startM N.length Ado ds)|Amu=>∀i,i∈ms↔i∈ε|Amv=>by obtain⟨a,vs,bs,e1,rfl,e3,h⟩:=h|Amw=>(BKS WT)|Amx=>by exact hb pins s1 σ H1 Q I1 q1|Amy=>BKV es.size|Amz=>by obtain⟨a,dx,vs,h0,h1,h3,h4⟩:=h|BKp=>kX C (excClassObj nm qn C N bs bm hdct sn sub ab col dd k0 k1 k2 k3 k5 ε)|Am0=>Hd.cB pg|Am1=>r.inj r'|Am2=>B.StaysIn s'.heap|Am3=>X.env::X.outer|Am4=>(Sum.inr:Str ->Key)|Am5=>xs.length+ys.length|Am6=>["end","some"]|Am7=>Ú/\Ada|Am8=>AIC sc.names.lookup\/ε|Am9=>∃u,ACN e u|Am_=>A.units<cLine|Am'=>U.length<60|AnA=>⟨vw,hd⟩|AnB=>by have Tc:=kv.length|BKq=>by simp only [ε,Bool.false_eq_true,if_false]|AnC=>by rw[List.length_map,List.take_length] at ε⊢|AnD=>let ⟨o,ho,r⟩:=x;P1 (ε o ho) r|AnE=>by wp_walk using BJy,BJz|AnF=>l.length % 2|AnG=>by dsimp only at e1 e2|AnH=>seqIndex_of h0 ε|AnI=>(newList [])|AnJ=>(ys.map Qm)|AnK=>(cols (p+1))|AnL=>Ev EY.2 _ ε ζ
|AnM=>Slot.tr ε (.ob C fs ts)|AnN=>by rw[Se ε ζ rfl];constructor<;>grind|AnO=>X.env.frame=some X.env.locals|AnP=>A.handled=some Cb|AnQ=>l.most=some n|AnR=>env.frame=some L|AnS=>(p::ADJ)|AnT=>(acc::as)|AnU=>by have p:=List.nodup_append.mp ε|AnV=>∀H1,a_ H1 ->ε|AnW=>(xs++ys)|AnX=>.inl ⟨rfl,ε,SZ ζ⟩|AnY=>AJ i hi|AnZ=>AJ c hc|Ana=>operate ε (getItem ζ η)|Anb=>.inr (E9 (ε hb))|Anc=>X _ _ ho|Ane=>R1.g _ _ ea|Anf=>Sz 1000 x|Ang=>.lst (BKK rows qD)|Anh=>Bz value tv|Ani=>W.notCls o=true|Anj=>B2 rows.take i|BKr=>BF (jH r1) h1.1|Ank=>by have ε:ip g ζ:=beq_iff_eq.mpr η|BKs=>AHy sC (pyIter (AH it))|Anl=>z1s r ht|Anm=>Ak.there b o eb ε|Ann=>S.filter fun e=>ε|Ano=>.pu (uL S)|Anp=>(ε _ z).2.1 rfl|BKt=>AH1 (ik ε "__init__") ζ|Anq=>Ff (call (Kb ε) ζ)|Anr=>(lD.mp hr).2|Ans=>(h pins s σ H _ I hw)|Ant=>absurd rfl h|Anu=>eX X.K te|Anv=>by unfold ε;show WU;rfl|Anw=>by have ε:ζ AJr=true:=by rw[List.contains_cons,η,Bool.or_true]|Anx=>(fu br P w K mg base kr qual ABY f cdv A outer s H lh)|Anz=>JO [] (DJ ε)|An0=>by by_cases hb2:b=s1.heap.objs.size|An1=>L5 (wK rows x' BB)|An2=>Â s2.heap.push AJg|An3=>PS X st t|An4=>JU ob AB_|BKu=>fun a b=>D.bl (ε a b)|An5=>(Qa a Ex)|BKv=>min v.toNat n|An6=>(OX _ (v= Ē))|An7=>(iw g t)|An8=>qi ks k|An9=>(jI SV Kt)|An_=>AKG\/ε≠none|An'=>(iQ (Adq Ψ))|BKw=>.dic (jw ks ε) (AdA ks ζ)|AoA=>by cases h;subst r;rfl|AoB=>(y,k)::r|BKx=>(V' (k a ha).2)|AoC=>(m.getD j default)|AoD=>Mt (DZ Ρ ε)|AoE=>AIH (rs.map lT)|AoF=>["end","found","bound"]|AoG=>["start","end","bound"]|AoH=>(old b o eb)|AoI=>RF hos hds ε|AoJ=>QI X F0 H0 ARv ε ζ|AoK=>(σ[j]?).join|AoL=>ne b _ q AQ0|AoM=>no b _ q ę|AoN=>TK (by(cases (hr)))|AoO=>(ha pins s1 σ H1 _ I1 q)|AoP=>Uv (H x)|AoQ=>by refine ε (wpAny_pyIter_list pl.isList ?_)|AoR=>(z.fdiv 15).fmod 7|AoS=>Δ ->iP (ε) XV|AoT=>by have sH:Same H1 ε:=Fc ζ|AoU=>uM b1 a2|AoV=>model prog w|BKy=>by refine BV ⟨ε,codeAny_builtin ζ ?_⟩|AoW=>fun C' Mu H' =>ε|BKz=>(by rw[isSubtype_type];kernel_rfl)|AoX=>{s with drawn:=d}|AoY=>by obtain⟨t,hx⟩:=VT SX|AoZ=>(p.getD m 0)|Aoa=>fs.Pairwise (r_ BKF)|Aob=>Cl F (.frz o (uw a C))|Aoc=>∀(n:Nat)(f:OY),_|Aod=>∀{rows:A1}{ws:Α},_|Aoe=>(AIj (ARr 40))|Aof=>fun D σ H=>ε|BK0=>(gF (ws.take i) (EA (jJ ps (v w))))|Aog=>#[iQ #[Ho Ψ ε (DN ζ)]]|BK1=>fun σ H R=>te σ H (ic v ε)|Aoh=>by show L4 (seqEpoch_at (n:=ea)) ε rfl|BK2=>s1.heap.push (ND ε #[AR])|Aoi=>(ε d0 bd).up Β|Aoj=>by show Fr hl hb h|Aok=>∀{k:Nat}{A:Around},_|Aol=>∀(rows:A1)(ws:Α),_|Aom=>Hi K F Hx ε ds|Aon=>by refine DE (setField _ _ _) (wpAny_setField g1 g3 Χ ?_)|Aoo=>∀(pins:eE) (s:Shared) (σ:St) (H:Hp) (Q:ε),Ι ->dy ->ζ|Aop=>(pC x L)|Aoq=>by subst h;simp [aK]|Aor=>lZ fun r hr=>ε|Aos=>OV (¬OU) H1 H|Aot=>(z8 _ (z9 _ rfl))|Aou=>zo Γ P ta d Γ' ε|BK3=>fun ys hy=>(Θ (ε hy hq) hx)|Aov=>IsPart vl lo|Aow=>IsPart vu hi|BK4=>newExc AdW []|Aox=>Heap.SameBut ε h1 h2|Aoy=>(B_ (AJS (Slot.ow ds)) rfl)|Aoz=>(h2 a h).2|Ao0=>(B' z (yS _))|Ao1=>k b ob q|Ao2=>∀(h:Heap)(H:Hp),_|Ao3=>by show Ps hb e hb|Ao4=>by show Ps hx e hx|Ao5=>tb Γ' P E|Ao6=>AJu AQd "work" ε|Ao7=>(hi - lo).toNat
|Ao8=>k b o (Fs (ADL hc)) e|Ao9=>AJ9 (BKM J4)|Ao_=>∀(C:Addr)(f:Str)(ε:ζ),_|Ao'=>[(false,ε),(false,ζ)]|ApA=>Ka (true&& ! false)|ApB=>H' acc=some OS|ApC=>by subst hb;rw[gG] at e;cases e;exact ε|ApD=>(.dik ks (kj ts))|ApE=>kE (zL ε Β)|ApF=>⟨_,_,_,_,ε,ζ⟩|ApG=>(ps++ [(ACv,H)]).map|ApH=>bC (ne b _ q AQ0)|ApI=>bC (hm b _ q (Ξ z))|ApJ=>∀{rows:A1}{m:Α},_|ApK=>∀{rows:A1}{ms:HZ},_|ApL=>ABw (B_ (b∈ ([]:AO)) ε)|ApM=>by refine NU typeOf (wpAny_typeOf ε ?_)|ApN=>(AI ï (H' b) (F' b))|ApO=>(AI ï (H1 b) (F1 b))|ApP=>Uh ε (zL Β (pw 4000 Β)) Β|BK5=>Uh ε (pw 4000 Β) Β|ApQ=>RE (cY 1 ε ζ NB dF η)|ApR=>VO c ds (ε*K2 ds) cs|ApS=>NH Q7 decide_eq_true_iff ε|ApT=>["other","hand","sheets"]|ApU=>(ji kvs k)|ApV=>AX (B2 ns.map D.int)|ApW=>zU.mp (I.stkSub b ε)|ApX=>EE X.N l w|ApY=>R'.sl 0 _ e0|ApZ=>#[Sx rfl rfl iT ε]|BK6=>E Γ1 (.pay C [fl] [tr])|BK7=>NV r hr rfl|Apa=>Ade "__setattr__" "object.__setattr__"|Apb=>kX e (AKB t #[])|Apc=>(X.wsh ⟨xe,z.pn++pins⟩)|Apd=>e=x\/AQr e x|Ape=>(setAttr Sr name v)|Apf=>by unfold dN;rw[ih];grind|Apg=>(kS hl1 hs1.extBut D.l1z)|Aph=>AC_ (CY (Q AE)) Q|Api=>Adh aC (ε (l:=l))|Apj=>∀{hs:Α}{h:Str},_|Apk=>I.base.slot b o e n hb hx|Apl=>by refine kg specialOf (wpAny_specialOf hT2 ε ?_)|Apm=>(pA Ρ (n6 IJ) pI)|Apn=>by obtain⟨o,e3,w,rfl,nd,hn,r⟩:=AQT e2|Apo=>BJl p (rawInt p)|BK8=>[My d1,My d2]|Apq=>BindsTo s fd (GV [u]) [(x,u)]|Aps=>fB X.prog X.w X.stack H s ε e s'|Apt=>∀k v,BJS ->kf v=k|Apu=>Rat.mul_nonneg lL k0|Apv=>Adi (AIr ε (.seq items n) ζ)/\GS s.heap.get? η/\Adn θ ι|Apw=>List.mem_range.mp (a1.mem_iff.mp hi)|Apx=>by subst z;rw[ε] at mu;exact mu|Apy=>∃xs x,ε/\jp|Apz=>GY qs AB (∀q∈qs,ε) ζ|BK9=>W.codeIn K cdv qual=true|Ap0=>by have hlk:es.size=ε:=As O.key.length_eq|Ap1=>Ads fj.move ε ET ts vs bs ζ r|Ap2=>by show Oy rfl Wh q|Ap3=>Ö (Ll k) (Ĝ h)|Ap4=>∀(rows:FA)(w:α),_|Ap5=>is.map fun i=>ε i AE|Ap6=>by show Wp w hw hq|Ap7=>uV n d d'|Ap8=>Vals (ns.map QU) its|Ap9=>zO (kE (ε r hr)) Β|Ap_=>(vals.map kf).Perm ks|Ap'=>Ė (call se (ε::us))|AqA=>cutD (l.map qD) ε (BU ζ)|AqB=>(qh (qB (S b) H2 (H' b)))|AqC=>AKI (fun ds Γ1 F1 H1 vs R1 s1 r1 h1=>ε)|AqD=>∀(f:Str)(v:V),_|AqE=>{nx:=WG,rt:=WG,rT:=ε}|AqF=>∃f fd,AJ8 ε/\AIs FX/\AJ3/\tq|AqG=>I.un (h' :=s.heap) (t' :=ε)|AqH=>(Nat.le_of_eq (Heap.size_push _ _))|AqI=>by show Cc (R1.g _ _ q) n1 n1|AqJ=>aj (dB (DZ ε ζ)) ak|BK_=>We rows A1 U Α ε|AqK=>ε f t v bs (II (k b (zP _ hb))) h1|BK'=>∀{K:W.Frag}{F:Hp}{a:Addr}{vs:Η},_|AqL=>AKM tv y (dL ta x ε)|AqM=>by have h1:=Eu a.den b.den;have:=ha.2;have:=hb.2;omega|AqN=>by show B3 hr p r Acv p hp (hh p (zW _ hp))|AqO=>∀{rows:A1}{r:Rw}{w:Str},_|AqP=>fun a ha b hb n e=>ε|AqQ=>by obtain⟨h',g',d',tk',os'⟩:=s'|AqR=>BKR (by rw[Obj.data_mapFields hd];simp [rawInt])|AqS=>ε X.prog X.w X.K X.mg X.base C m k ps sp|AqT=>⟨vs,v,ε,hv⟩|AqU=>(match t with | false=>ε | true=>ζ)|AqV=>if c then a else b|AqW=>by by_cases hk:ip k NameKind.free|AqX=>fun σ H=>(BJV (I Bi Γ2))|AqY=>∃its:Ο,ADP/\ε/\Sn|AqZ=>["end","some","rests"]|Aqa=>(by (repeat (any_goals (first | assumption | wp_step))))|Aqb=>∀{xs ys:Δ},ε
|Aqc=>by rw[ε,List.length_cons,List.length_cons,<- Sm,ζ]|Aqd=>by rw[List.length_cons,<- r.length,<- List.length_cons (a:=ε),ζ]|Aqe=>(l.Pairwise (r_ (a.1≠b.1)))|Aqf=>(L2.start kr [AR,v1,v2])|Aqg=>lM sc ε X.env|Aqh=>I.tuple (uz sF ε)|Aqi=>(cB g ta tb)|Aqj=>An (AQ8 BX h)|Aqk=>.pu (Ao c ps)|Aql=>.pu (wU TN ws)|Aqm=>Q (.int ε s.toks) AKF|Aqn=>by refine zt7 (Τ e ?_) (CY ε)|Aqo=>(hμ r hr).2|Aqp=>OM (s.heap.push (Kz w))|Aqq=>by obtain rfl:g' =s.gens:=hm.gens|BLB=>fun ε s₃ h₃=>z6 (ζ (z7 h₃))|Aqr=>{s with heap:=ε,drawn:=d}|BLC=>(BX rows h).map|Aqs=>g ε σ H (AIy (tb (AI4 AQb AQb) σ2 H2))|Aqt=>zQ _ (zR.mpr rfl)|Aqu=>SL F' H' Γ'|Aqv=>∃ks xs,ARe d/\ε|Aqw=>by show OR hf hf hf|Aqx=>(AH6 s.heap.objs.size s H fp)|Aqy=>jL F0 F b|Aqz=>by show L4 wpAny_lookBehind hoD (B' hdD (pastItsLine_dict (zO hcD ε)))|Aq0=>Cds (IV m.length) m x|Aq1=>.cons ε (Nc ζ CC)|Aq2=>pB (hdS a) (hdS b)=true|Aq3=>List.nodup_append.mpr ⟨nd,AV,ε⟩|Aq4=>by have ε:ps.length=es.size:=As hps.length_eq|Aq5=>by show NW s hs ((ε w).mp hw)|Aq6=>Τ y (HI y name uA ε)|Aq7=>LL pC x L|Aq8=>(letOwnedTupleGo tg t9 u)|Aq9=>WC (ABw (B_ (p∈ ([]:eE)) hp))|Aq_=>Mi (LQ (BL ε))|Aq'=>Q4 Fh (AX m*1)|ArA=>AIT (∃F0 H0,ε K F0 H0 t lK σ H Q)|ArB=>sN (setAttr Cb f u)|ArC=>by show BKL;rw[C_,Adl]|BLD=>Gr F0 H0 F' H|ArD=>ε f ts vs bs (II (k b (zW _ (zW _ hb)))) h|ArE=>ACP (.ε ks' ys) (Μ (ks=ks')&&ly)|ArF=>by have hit2:=hit.Pk (rawInt ε)|ArG=>(kI h1 hs1.extBut D.i1z)|ArH=>VO d es (ε*h es) cs|ArI=>VM "Apart" c.Apart/\nY K c.Apart|BLE=>VM "HallError" c.fM/\nY K c.fM|ArJ=>(putK kvs k v)|ArK=>aC m (f a)|ArL=>by show Ď c q1 q1|ArM=>oh rows ws m ε|ArN=>(ACy Adu ACi BJ')|ArO=>[.Tuple [.Name x px,AQG,.Name w pw] kt pt]|ArP=>(items.toList.drop (sIx items.size 0 lo)).take|BLF=>W.fnOf x qual (JM st) sD ABY ε kV doc|ArQ=>∀{f:Addr}{fd:FuncData},_|ArR=>by rw[q] at h;cases h;rw[ε r q];rfl|ArS=>AKJ ds Δ Fm ε|ArT=>#[au ε (au ζ aL)]|ArU=>zm4 hq' rfl ε kp|ArV=>by refine DE (newFields _ _) (wpAny_newObj_type (BV (BKJ AJw ?_)))|ArW=>by show RC hS s.heap.push ε s.heap.objs.size ζ OQ|ArX=>Sq t1 K H a xs|ArY=>Sq t2 K H b ys|ArZ=>ARf (hg m hm).ε|Ara=>by show CS v hv rv MF kv hw|Arb=>ARo (∃vs,AJC/\h.DictOf ü a vs)|BLG=>j_ (AIM::es) r (P r Γ2) Cx (E Γ2 Cx)|Arc=>ARs Sx iT (E3 Ψ ε)|Ard=>by have h1:dt (f::rs) ko=f j*K2 cs:=zto z|Arf=>∃q,Cl h'.get? q|Arh=>(by rcases mf f hf with hf | rfl)|Ari=>(relabel sc X.env).names.lookup|Arj=>by show EN l xs hq q q1|BLH=>ON ta d (I_ d (.exc C0) ((ε)/\D5 ζ))|Ark=>∀x y c,ε ->ζ ->x=y|Arl=>∀k,k<n ->∀j,(ε k j).natAbs<=ζ|Arm=>∀d v F' H',WJ ->ε ->ζ ->k7|Arn=>by show AJs R9 p (by obtain⟨o,n,e,_⟩:=pl;exact J_)|Aro=>by refine wpAny_Call_Name_kw (ACl hb ?_ Β Β)|BLI=>absurd (zG e) (yS _)|Arp=>VO x es (g x (c::d::es)) post|Arq=>(fore treeTable topGo p w os)|Ars=>0::qs.map fun m=>(AX (iW qs m))|Art=>by obtain⟨xs,hq,hx⟩:=hg|Aru=>(by rcases ε with z | ⟨z1,z2,z3⟩)|Arv=>(revObj l (AJn - 1))|Arw=>(relayAll t2 es1 (SetTable.grown es1.size))|Arx=>∀(q:Rat)(l:AB),_|Ary=>Ctx X F0 H0 E|Arz=>fun i s o a e=>ε
|Ar0=>(AI (k=f) ((k,v)::r) ((k,x)::oG f v r))|Ar1=>by show BS u hu ru rv.get hx|Ar2=>⟨F2,Gr.refl s3,rv.up s2⟩|Ar3=>zB.mpr ⟨s,hs,e⟩|Ar4=>by show ď bs e (zE.mp h)|Ar5=>#[qg (BQ ybc) rfl pQ boot_abs ε]|Ar6=>ARL Q (h pins s σ H Q I AQ6)|Ar7=>∀b xs,VQ Qb ->AJI Qb|Ar8=>∃i j,x= C7/\y= ù/\C i j/\ε|Ar9=>(by simp only [Rep] at r;subst r;cases d' <;>simp only [Rep] at r' <;>first | (cases hf;done) | (cases r';done) | (cases r';exact VP _) | show BKQ)|BLJ=>(Fc (kp b o (Fs ?_) Sf))|Ar_=>(AdU C7 (ARt i.toNat) AE)|Ar'=>⟨ARP,Qj,.seq ε dn,Qk⟩|AsA=>fun xs ds P=>(qc ε ζ)|AsB=>by obtain⟨od,J,hl⟩:=I.look|AsC=>by obtain⟨n1,n2,n3⟩:=nd|AsD=>∃(its:Ο) (n:Nat),ε|AsE=>by rename_i dd cd sl ho|AsF=>ε bT gZ aU aB|AsG=>yac ndk hq hu'|AsH=>∀{S:MM}{hs:A0},_|AsI=>∀{rs:CA}{cs:At},_|BLK=>Calls.callWith_builtin rfl (PySem.evalArgs_none ?_)|AsJ=>Itz K t1 t2 a|AsK=>.int (gj bs (jJ ps ε))|AsL=>∀σ H,Pv ε σ H ->AQX|AsM=>∀(X:Cx)(F0 H0:Hp)(tg e:Expr)(t:cL),_|AsN=>by obtain⟨F1,H1,I1,L,n0⟩:=lent I R|AsO=>HP rs CA cs At ε ζ|AsP=>∃cs t',EE Γ 0 (.tr AJL t')/\ε|AsQ=>∀j,ZB M (r j)|AsR=>Ob ha hb I h|BLL=>(V' (Ad2 (tT ha) Aco Aco))|AsS=>AP2 (ε E7 tg e (Ab5 ζ E))|AsT=>AD=w/\BB=h|AsU=>by show ABu a3 u3 h3 h2|AsV=>Sq t X.K H a ε|AsW=>(by refine kg firstArgMember (wpAny_of_eq (a:=Value.none) (by first | rfl | (simp only [firstArgMember];rfl)) ?_))|AsX=>wpAny_isInstance (T:= "StopIteration") (b:=true)|AsY=>∀a F,Ip pl F a ->uQ (X.hand a) F H0 ε ζ|AsZ=>k a zY _ (ε f g AIO h)|Asa=>PassesOwn SK X.A X.env X.xe|Asb=>AQx l l l (FG l ε)|Asc=>AQx p p p (FG p ε)|Asd=>by obtain⟨I,i0,turn,done⟩:=h1|Ase=>["rows","rights","table","ahead","place"]|Asf=>∀{x qual:Str}{st:Stmt},_|Asg=>(OX H' (ARZ /\∃H2,(Ad1)/\ (Ady)/\Q v H2))|Ash=>j_ (AIM::es) r (qX r/\P r Γ) x (Fi x/\AQu)|Asi=>by obtain⟨xs,x,hq,hx⟩:=hg|Asj=>h b (zW a hb)|Asl=>∀{ta:TA}{p pos:Pos},_|Asm=>nW (fs.lookup f) (mA f)|Asn=>(AQ1 (∃x F',E Γ1 x/\Gr F1 H1 F' H' /\BK X.K F' H1 H' C dx x))|Aso=>bt.small (N:=16) ba χ h1 hi|Asp=>s.heap.IsSliceOf sl vl vu Φ|Asq=>(f ARl (QU j u))|Asr=>∀{A:OT}{d:Int}(BKW),_|Ass=>∀(K:W.Frag)(F H:Hp),_|Ast=>ε f ts us cs (II (k b (zQ _ hb))) h2|Asu=>by obtain⟨b,_,_,rfl,e,_⟩:=h;cases (e);rfl|Asv=>∀(i:Nat) s o a,Ch ε s ->¬d4|Asw=>by refine zf3 ε (De i x u e1 e2)|BLM=>⟨F1,Γ1,R1,VS,i0⟩|BLN=>⟨ε,H1,I1,r,z,q⟩|Asx=>∀C s₀ H₀ fp,ε BHv ζ η|Asy=>by obtain⟨⟨k,u⟩,hw⟩:∃p,Ch ws p:=ARO WV hx|Asz=>(I.ok.cab x c hfn hc)|As0=>(sliceBounds lo hi none n)|As1=>(.Slice lo hi none p2)|As2=>ε I hg hm (EO ?_) hd|As3=>ε a _ o kvs ep ⟨es,h3⟩|As4=>(K4 (z ε χ) (z ζ χ)).up Β|As5=>OO ch (BKG/\AJM/\ (ui b)/\ARm b)|As6=>(fu CX P w K mg base N qual scope f cdv A outer s H E)|As7=>by show K_ oj g1 g2 g3 hit2|BLO=>cf h (Hl i s o a) e|As8=>∃i j,x= C7/\y= ù/\ε|As9=>p.2.2 b hb b Χ rfl|BLP=>entryFor_alias (id' := ε) BJX rfl L' BJX|BLQ=>(ACW (r= .ok (.ret AJ2)/\OldK s₁.heap s'.heap/\s'.os=s₁.os/\ADa))|As_=>∀(a:Addr)(o:Obj)(kvs:WI),_|As'=>Made rows r g ws u|AtA=>∀(t:T) (v:V) (as:AO),(ABx ε) ->ADg ->ζ|AtB=>∀(ts:EI) (vs:Η) (as:AO),(ABx ε) ->Ě ->ζ|AtC=>fun a ha b hb e=>ε (ζ)
|AtD=>⟨_,Adj,F0,gJ N ds,ε,RV sF rs,BKT,ζ⟩|AtE=>∀{m n:Nat}{a b:Rat}(ha:Sz m a)(hb:Sz n b),_|AtF=>by have hlz:ARJ=ε:=by rw[List.length_zip,hkl,Nat.min_self]|AtG=>∀Γ F' H σ,AdX ->C8 ->ε Γ ->ζ|AtH=>D8 I.step g' s.gens d' s.drawn ch ε|AtI=>M2 X o ε apos e f cpos|AtJ=>fun b ob eb=>Ah b ob (ε b ob eb)|AtK=>["some","bounds","found","bound","rests","steps"]|BLR=>y s h - cN (k s) (y s)|AtL=>(by rcases hc with rfl | rfl | rfl | rfl | rfl)|AtM=>D8 ε knd (pG X.prog X.w) kvs ws ep ep|BLS=>fun Γ5 F5 H5 σ5 R5 s5 q=>ε|AtN=>by show CS hT hN hsm Vj I1 (D9 ⟨kvs,ε⟩)|AtO=>fun d v F' H' gr r h=>ε|AtP=>(cY n caps ti g tc te)|AtQ=>fun Γ3 F3 H3 σ3 R3 s3 p=>ε|AtR=>by obtain⟨v,vs',a1,a2,rfl,rfl,q1,q2⟩:=h|AtS=>by obtain⟨go,yl⟩:=hgo ds[i] (zZ hlt)|AtT=>vd ds g tb D0 E Γ1|BLT=>∃as ws ps x y z,ε/\Γ= [NX,ARX AJx AJ1,x,y,z]|AtU=>CE outer P w H s Q u s'|AtV=>h F1 ε z lK (O7 cx) pins s σ|AtW=>fun Γ F' H' σ R s h=>ε Γ F' H' σ BJ_ s h|AtX=>fun Γ F1 H σ R s1 h=>ε Γ F1 H σ R (s.trans s1) h|BLU=>∀(o:Obj)(kvs:WI)(ep:Nat)(J2:BKP),_|AtY=>Walks.list (toI (I.ok.hd hc)) s.heap.objs.size p (zK R9) its.toArray|AtZ=>by obtain⟨j,h1,h2,h3,h4,h5⟩:=zzi he|Ata=>wpAny_mono (zyx (I:=I) hh hQ ε) (Adb) lj|Atb=>⟨fun Γ F' H' σ R' _ q=>hQ _ _ _ _ R'.gr FH q,ACg,ACg,fun d v F' H' gr rv q=>hQ d v F' H' gr rv q,li,ε,Ad0⟩|BLV=>fun v u s2 x y H2 I2 rx ry q=>ε|Atc=>by rename_i C' bm k0 k1 k2 k3 n k5 hm hs|Atd=>∀(aR:AA Uj)(dY:AA zf6)(c7:AA Y5)(bR:AA zcm)(cu:AA zcy)(qF:AA zx3)(bZ:AJq)(cj:Ą)(aB:ki)(bI:ADS)(bF:iq "rule")(bN:iq "gap")(bw:BJ2)(aO:BJ1)(bA:iq "sheets")(aH:ARS)(aQ:BJ0)(aJ:ARp),_|Ate=>∀(cR:AA zdu)(gY:AA zjc)(dZ:AA ze5)(eZ:AA zgi)(aR:AA Uj)(aN:AA Rh)(bT:AA zco)(gZ:AA zjq)(aU:IS)(aB:ki),_|Atf=>∀(i j:Int) (t u:Tok) (s:Shared) (Q:dW) (E:dW),ε|Atg=>∀(qC:AA zx8)(jW:AA zqp)(gq:AA zkr)(aU:IS)(mV:Ad5)(jX:BKI),_|BLW=>of_decide_eq_true ε|BLX=>Nat.lt_succ_of_lt ε|BLY=>ε s1.heap.objs.size|BLZ=>@W.check_slot|BLa=>[s1.heap.objs.size]|BLb=>["_law_script"]|BLc=>by rw[PySem.W.Fast.te15667345088766844465,ε,ζ]|BLd=>by unfold Builtin.«sorted»|BLe=>by rw[List.pairwise_iff_getElem]|BLf=>by simp only [Bool.and_eq_true] at ε|BLg=>eval_ListComp ..|BLh=>by simp only [ε,decide_eq_true_eq]|BLi=>by simp only [List.length_map]|BLj=>(by rcases zof hc with ε | ⟨_,_,_,ζ,_⟩ | ⟨_,_,_,η,_⟩)|BLk=>by apply Array.toList_inj.mp|BLl=>PySem.mem_of_lookup ε|BLm=>Nat.pos_of_ne_zero ε|BLn=>List.mem_range.mp ε|BLo=>by split<;>omega|BLp=>by split<;>decide|BLq=>(by assumption)|BLr=>(by rw[List.size_toArray]<;>omega)|BLs=>Int.neg_dvd.mpr (ε)|BLt=>ε (List.eq_nil_of_length_eq_zero ζ)|BLu=>s₂.heap.objs.size+1|BLv=>rows.length+1|BLw=>AX ps.length|BLx=>(C3 ns.sum)|BLy=>decide_eq_false h|BLz=>List.mem_iff_getElem.mp h|BL0=>Nat.min_eq_left h|BL1=>Rat.mul_inv_cancel _ ε|BL2=>(s2.heap.objs.size+1)|BL3=>(rows.length+1)|BL4=>An l.length|BL5=>(ε (b,o) (zQ _ (zQ _ (Z0 hb e)))).2.1|BL6=>Θ List.length_map ε|BL7=>F6 W.CFound|BL8=>of_decide_eq_true z|BL9=>Int.natAbs_eq_zero.mp z|BL_=>by unfold scanBound;omega|BL'=>Nat.le_succ _|BMA=>List.Perm.refl _
|BMB=>Int.natCast_nonneg _|BMC=>Heap.get?_update_self _ ε ζ|BMD=>BH ns.length|BME=>(Nat.le_refl _)|BMF=>(Nat.le_succ _)|BMG=>(ItemsOf.nil _)|BMH=>(args_sorted1 _)|BMI=>(FD _ True)|BMJ=>List.pairwise_singleton _ _|BMK=>E5 s₁.heap.get?|BML=>E5 s2.heap.get?|BMM=>(aw "HallError")|BMN=>List.mem_cons_of_mem _ ε|BMO=>Code.quiet_builtin _ ε|BMP=>ID "tuple"|BMQ=>ID "reversed"|BMR=>decide_eq_true hl|BMS=>decide_eq_false e|BMT=>of_decide_eq_true e|BMU=>Except.error e|BMV=>by rw[List.getElem?_map] at e|BMW=>(AHz "HallError")|BMX=>List.set_eq_of_length_le χ|BMY=>Int.natAbs_of_nonneg χ|BMZ=>Rat.num_divInt_den q|BMa=>(Int.gcd_eq_zero_iff.mp ε).2|BMb=>Int.mul_nonpos_of_nonneg_of_nonpos ε h|BMc=>FB List.map_append|BMd=>FB List.any_map|BMe=>D5 xs.reverse|BMf=>JE qs.length|BMg=>JE both.length|BMh=>IntMulOk i j|BMi=>I.ok.funs.mem hb|BMj=>Lm beq_false_of_ne ε ζ|BMk=>List.filter_congr fun ε _=>ζ|BMl=>U' "enumerate"|BMm=>subscriptTail_builtinR (x:=ε)|BMn=>(ks.map .inr)|BMo=>Eg _ trivial|BMp=>Paired.length r|BMq=>Vals xs its.toList|BMr=>Gl X "enumerate"|BMs=>slotArgs _ _ _|BMt=>(I1.ok.hd hc)|BMu=>List.mem_filterMap.mpr ⟨ε,ζ,η⟩|BMv=>(M0 hb ?_)|BMw=>List.getElem?_set_self hq|BMx=>List.getElem?_append_left hq|BMy=>i<=t.place.toList.length|BMz=>((BQ 0)::rs)|BM0=>by rwa [List.take_length] at this|BM1=>ε (List.mem_cons_of_mem _ ζ)|Ath=>(pre++x::post)|Ati=>cZ k callerA|Atj=>NY xs.length|Atk=>Mc W.plainOver C|Atl=>Mc W.makesIn C|Atm=>K.In s'.heap|Atn=>K.In s₂.heap|Ato=>(sc.names.map (·.1)).Nodup|Atp=>List.range_succ (n:=ε)|Atq=>fs.length<=1000|Atr=>l.length<=1000|Ats=>rows.length<=1000|Atu=>QY Builtin.List.listSameRef ε|Atv=>(WB I.ok.GD)|Atw=>by show AIE List.length_range|Atx=>(behindTheImports p)|Aty=>Ô its.toArray|Atz=>Ab8 s₂.heap.objs.size|At0=>["hand","mark"]|At1=>(R2.grow gr)|At2=>(R3.grow gr)|At3=>PM R6.gr.h|At4=>PP (j_ ds ε (D5 ζ) C (E Γ1 C))|At5=>s'.heap.UpToSlots h'|At6=>(s.heap.objs.size+2)|At7=>AIQ I1.kept|At8=>dQ s1.heap.get? ε|At9=>(f j).den_pos|At_=>decide_eq_true h2|At'=>List.getElem?_set_ne hj|AuA=>scope.names.lookup y=some ε|AuB=>List.getElem?_set_ne (Ne.symm ε)|AuC=>sL both.length|AuD=>AllBare s.gens|AuE=>W' h1.objs.size|AuF=>(ó "pair")|AuG=>(ó "middle")|AuH=>(x,NameKind.cell)∈ε|AuI=>xs.length<64|AuJ=>vs.length<64|AuK=>sv sizeLine_eq|AuL=>sv List.length_take|AuM=>sv List.length_reverse|AuN=>cf ε Nat.not_lt_zero _|AuO=>by obtain⟨its,rv,p,hz⟩:=I.tuple hq|AuP=>(ÿ "sheets")|AuQ=>(AIj (BB∈K9))|AuR=>AIw X.env.kindOf|AuS=>(.BoolOp .Or [a] pos)|AuT=>Í qs.map qD|AuU=>∃o',GS h'.get? o'|AuV=>Array.getElem?_eq_getElem hlt|AuW=>by show č ε Array.length_toList|AuX=>(binaryOp op)|AuY=>W.of_hideAll _ q|AuZ=>ACq List.length_take|Aua=>ACq hms.length_eq|Aub=>ACq List.length_range|Auc=>DC s.heap.get? o|Aud=>(i3 (ik e "items") [])|Aue=>(c8 vs.toArray 0)|Auf=>(c8 vals.toArray 0)|Auh=>fun _ _ _ _ _ q h=>ε|Aui=>X.env.kindOf n==AIg|Auj=>(yJ own caps σ)|Auk=>Hv t.place.toList|Aul=>d.params.defaults= []|Aum=>["spot","row"]|Aun=>by rw[List.getD_eq_getElem?_getD,ε] at e
|Auo=>(.tup (ks.map kV))|Aup=>fun h' eb=>(EO (ASL ztz fp ε I ζ hf))|Auq=>BJO ε X.env.scope.kind|Aur=>(WB I.ok.bs).1|Aus=>by rw[AJP PyProof.Rows.F.plain_set_update_loop]|Aut=>by rw[AJP PySem.F.plain_proto_collect]|Auu=>by rw[AJP PySem.F.plain_list_iadd]|Auv=>xs.toList[k]|Auw=>Nat.le_mul_of_pos_right _ χ|Aux=>Int.fmod_eq_emod_of_nonneg _ χ|Auy=>(Aci ns.getD)|Auz=>(Ki qL Κ)|Au0=>u=Value.bool b|Au1=>(aW (cC AKW))|Au2=>by (with_reducible refine wpAny_loadPart_at ε ?_;rw[ζ])|Au3=>(Acq s.heap.objs.size)|Au4=>(Acq s1.heap.objs.size)|Au5=>IntsAre its ns|Au6=>s.heap.DictAt î a ws ep|Au7=>#[zz8 (i:=0) aB ε ζ rfl DV]|Au8=>AKN us.length|Au9=>ws.length=ps.length|Au_=>["row","hands"]|Au'=>by simp only [Int.toNat_natCast,hx]|AvA=>(s.heap.objs.size+4)|AvB=>BF rel.length z|AvC=>AKa X.env.kindOf|AvD=>(HV Ρ AQ)|AvE=>(NI v (Ô vals))|AvF=>NS (! ε) (Builtin.List.listTooLong (ζ))|AvG=>P_ s.heap.get? AP9|AvH=>(AKg "enumerate")|AvI=>(ts++ [.lst [O0]])|AvJ=>(.cons rfl r)|AvK=>Ac_ h.objs.size|AvL=>AKy ws.Pairwise|AvM=>fj K F' H' ε vs (b1++ (ζ++b2))|AvN=>fun σ H R ε=>by obtain⟨F,Γ,P,S,q,k⟩:=ζ;exact η|AvO=>l.Pairwise R|AvP=>s₁.gens= #[]|AvQ=>NH List.length_map ε ζ|AvR=>by rw[List.zip_cons_cons,List.find?_cons]|AvS=>(beq_iff_eq.mp hf)|AvT=>o.dict=some dx|AvU=>if_pos (List.mem_singleton.mpr ε)|AvV=>by rw[List.getElem?_eq_getElem hi]|AvW=>by rw[List.length_eraseIdx_of_lt hi]|AvX=>Θ (List.mem_singleton.mp h) ε|AvY=>Au ks.take i|AvZ=>(Array.getElem?_eq_some_iff.mp h1).1|Ava=>(jd.mp h1).1|Avb=>Vals ys its'|Avc=>by show EQ;simp;omega|Avd=>(I.hok.fresh (zN _))|Ave=>(HL bV Ψ Κ)|Avf=>listUpdate_at (n:=ea)|Avg=>by obtain⟨its,rv,pl,hz⟩:=I.list hq|Avh=>(kL ps (Gw 4000 p))|Avi=>(AI Lo none (AfO b))|Avj=>ASg ε Builtin.«dict_keyiterator.__iter__»|Avk=>Good i (as i)|Avl=>sF.trans wH.f|Avm=>sF.trans BP.f|Avn=>Value.builtin "BaseException.__getattribute__"|Avo=>Value.builtin "object.__getattribute__"|Avp=>hc.keeps keep|Avq=>u=Value.none|Avr=>ks.length=rs.length|Avs=>["work","self"]|Avt=>["mark","marks"]|Avu=>["mark","least"]|Avv=>["part","multiple"]|Avw=>["part","head"]|Avx=>show ε by show EQ;omega|Avy=>(s.heap.push TD)|Avz=>by simp only [h,if_true]<;>omega|Av0=>by simp only [h,if_false]<;>omega|Av1=>Int.fmod_eq_emod_of_nonneg _ Β|Av2=>wH.h _ _ ha'|Av3=>BP.h _ _ ha'|Av4=>(B' hsz hb)|Av5=>(ia gq XT)|Av6=>(OP rP Ρ)|Av7=>(.ob C AQl Aea)|Av8=>(.ob C AQl (ts++ [O0]))|Av9=>kT m5 "Open"|Av_=>kT m5 "Barred"|Av'=>(cB bQ Ρ Ε)|AwA=>(XE rQ Ρ)|AwB=>k_ (i.fmod j)|AwC=>k_ (i.fdiv j)|AwD=>by refine wpAny_call (codeAny_of_tree ?_)|AwE=>fun b ob q _ _ _=>ε|AwF=>congrArg Prod.fst f|AwG=>congrArg Prod.snd f|AwH=>AEP e h.get?|AwI=>ε it d Bi es.size ep|AwJ=>∀(hbase:X2 "items"=A7 e:=by rfl)(hline:sq:=by rfl),_|AwK=>by show L4 wpAny_dictEntries hod hdd|AwL=>by show L4 wpAny_dictEpoch hod hdd|AwM=>AfA ε (ζ (b,o) (zQ _ (zQ _ (Z0 hb e)))).1|AwN=>s.heap.IsTupleIter it l i|AwO=>by exact CH (B_ (GS h.get? _) k)|AwP=>by exact CH (B_ (GS s2.heap.get? _) k)|AwQ=>(zqs f y fs)|AwR=>RelV (kV k) key|AwS=>sp (.ob C [] []) ds ε Ex
|AwT=>l.take (cnt q l)|AwU=>l.drop (cnt q l)|AwV=>(B_ (s.heap.IsTuple a its.toArray) p)|AwW=>(B_ (s1.heap.IsTuple a its.toArray) p)|AwX=>∀(k:Nat) (h:k<xs.length),ε ->ζ|AwY=>∀(k:Nat) (h:k<xs.toList.length),ε ->ζ|AwZ=>Afi xs.drop|Awa=>ms.Pairwise (· <= ·)|Awb=>ε (ADG ζ List.map_eq_nil_iff.mp)|Awc=>(by intro q;cases q)|Awd=>(Int.gcd_eq_zero_iff.mp z).2|Awe=>c<=qs.length|Awf=>DX (SI sO (T5 c) ε)|Awg=>PySem.Slot "set_iterator" ε ζ|Awh=>ε kindOf (P.zip vs) m x=some v|Awi=>BN World Heap|Awj=>(s.heap.objs.size+3)|Awk=>(BU (LZ "type.__getattribute__"))|Awl=>Au hs.map AKw|Awm=>some (LZ "ValueError.__new__")|Awn=>some ⟨KM "type",_,ε,ζ⟩|Awo=>by refine wpAny_isTrue_Compare1 (bU ε (ĕ ζ η)) θ|Awp=>(bs.getD i false)|Awq=>(LW BA GI)|Awr=>(a::dx::(b1++ ([c]++b2)))|Aws=>(B' P.size hm)|Awt=>(Ki Gs eJ)|Awu=>h a List.mem_cons_self|Awv=>(R1.g _ _ ea)|Aww=>(hte _ _ cx)|Awx=>g5.get? c=some o|Awy=>by rw[ε,List.length_cons,List.length_cons];omega|Awz=>by refine codeAny_builtin PyProof.Rows.F.entry_set_update_loop ?_|Aw0=>(OP WY Ρ)|Aw1=>(B8 (ms.map .int))|Aw2=>VM d.name fa|Aw3=>(Ab3 z4h Ψ)|Aw4=>(Ó "zip" ci)|Aw5=>Sl c.bW c.bW|Aw6=>Sl c.wF c.wF|Aw7=>(c8 #[] ea)|Aw8=>by funext j;unfold comb;grind|Aw9=>(kL ex BJ7)|Aw_=>(∀q∈l,AD_)|Aw'=>(D1 fO XY 1)|AxA=>(.tup [kV k,v])|AxB=>s.heap.Ns X.env.locals m|AxC=>(W.hideAll h ε).get?|AxD=>lf rv.length this.symm|AxE=>by show č List.length_map List.length_range|AxF=>ε q (List.mem_of_mem_take hq)|AxG=>List.map_congr_left fun i hi=>ε|AxH=>(ACt (ASw (ASa d)))|AxI=>vj (ε (l.map f)=l.map ζ)|AxJ=>BKi ε Array.length_toList|AxK=>(OX H' (v= AE/\F7 b_ H'))|AxL=>KA w (by by_cases q:ε<;>simp [q])|AxM=>(AD' (Ĵ na))|AxN=>(z7 (z7 AeQ))|AxO=>AR1 is.Perm vs.length|AxP=>(XL Ψ Κ BA)|AxQ=>(WF (r j+comb ks ss j))|AxR=>by show Ad7 List.getD_eq_getElem?_getD Tk ε|AxS=>PySem.Within mA (fs.map (·.1))|AxT=>(l.map fun x=>D.bl (f x))|AxU=>l.any fun s=>Ae8|AxV=>(HL dU SV Kt)|AxW=>(L9 h (x h) Ë)|AxX=>Vals (xs.map V.str) vs|AxY=>by obtain⟨m,hn,hl⟩:=I.loc|AxZ=>ji kvs k=none|Axa=>by refine plainObj_wpAny_Assign_Attribute (Ù AeJ ε) hs|Axb=>(AI (i=p) _ _)|Axc=>codeAny Ee A (.builtin ε ζ) η s|Axd=>SJ ε aB OL Κ (au Ψ aL)|Axe=>Afc R2.g rfl|Axf=>ALA l A0 (ñ (∀P,ε ->one (f a) P)) ζ g Ī|Axg=>fun z E cx pins s σ H Q I hq=>ε|Axh=>BKp "ValueError.__new__"|Axi=>zsg (bs:=bs)|Axj=>by show BKq bne_self_eq_false|Axk=>(aX st).names.lookup|Axl=>ε r (pm.mem_iff.mp hr)|Axm=>Ν k hk hle|Axn=>W.isFn X.K FX=true|Axo=>(Itv K a xs)|Axp=>by obtain rfl:os' =s.os:=hm.os|Axq=>(pH AKc Kt SV Mo)|Axr=>.ob C fs (vB fs ts f (BKw ε ζ))|Axs=>⟨R'.gr.h,H2,e1,e2,ε⟩|Axt=>∃a kvs,v= AR/\AJp Iy/\ ε|Axu=>gQ (i:=3) nd rfl DV ε|Axv=>(.BinOp a op b pos)|Axw=>(.IfExp c a b pos)|Axx=>st (I.hok b u q)|Axy=>[MH sg,MH (AKH b (b+1)),ε,ζ]|Axz=>(PIE X pins σ tg R)|Ax0=>ASt ε #[au (wC (E3 ζ η)) aL]|Ax1=>XI yJ own.length caps σ|Ax2=>(.fresh 0 0 uS)|Ax3=>fun D σ H=>te σ H ε|Ax4=>WN (AQc a ε [b]) (vi ζ ta tb)|Ax5=>fun c o hb e=>EY.extBut c o No ε|Ax6=>(by rcases Cg hkey with ⟨j,t,rfl,rfl⟩ | ⟨x,t,rfl,rfl⟩)|Ax7=>(Z sh BK0 ms x)
|Ax8=>by refine(zsv (B:=27720) ε).mono (Nat.mul_le_mul_right _ W.1)|Ax9=>BLP "dict_keyiterator.__iter__"|Ax_=>fun s Q E hit hg _ hQ=>ε|Ax'=>∀(F:Hp) (ks:DL) (R:AJo) (v:V),_|AyA=>fun i s Q E hi hit hg _ hQ=>ε|AyB=>zpw R1 hJ hx ha h1 fun ys F' H' vs R' sF a1 a2 a3 rs ap hp=>ε|AyC=>wpAny_truthy_bool hQ|AyD=>Z4 fun _ _ _ _ _ _ _ hc q=>ε|AyE=>s2.heap.push AJg|AyF=>w.params.followText "set-order"|AyG=>raiseNew (<- BK4)|AyH=>unsupported "internal:set_iterator"|AyI=>zqz O.tok.ris|AyJ=>pre.getLast hne|AyK=>h'.objs.size=l'|AyL=>i.length+j.length|AyM=>items.size+items2.size|AyN=>its.toArray.size+its2.toArray.size|AyO=>(WB I.ok.bs).2|AyP=>["other","part"]|AyQ=>["rows","found"]|AyR=>["count","order"]|AyS=>[NC,s1.heap.objs.size]|AyT=>by rw[List.length_append,List.length_singleton]|AyU=>by rw[if_pos (by simp;omega)]|AyV=>⟨ε,ndc,fun x hx y hy e=>dis x hx ζ⟩|AyW=>s1.heap.objs.size≠NC|AyX=>Si+kM<=100000000|AyY=>s.heap.objs.size<h'.objs.size|AyZ=>show AeH from hh|Aya=>⟨ω,vJ χ⟩|Ayb=>by have f3:=AutoSeq1.sub_list_list|Ayc=>by have SF:=PySem.F.store_ValueError|Ayd=>by have Fv:=PySem.F.excBase_ValueError|Aye=>f j - f p/q p*q j|Ayf=>x h0 - x' h0|Ayg=>by simp only [List.getElem_map,List.getElem_range]|Ayh=>by rw[List.map_cons,List.sum_cons,ε,ζ]|Ayi=>by rw[List.any_cons,List.any_cons,ε,ζ]|Ayj=>by unfold cW Builtin.Int.intBits|Ayk=>let ⟨q,_,_,hq,_⟩:=JT;⟨q,hq⟩|Ayl=>by replace ε:AIP ζ (rawInt g5.objs.size):=η|Aym=>by cases v<;>try (cases h)|Ayn=>by rw[<- ε,List.flatten_append,List.nodup_append] at ζ|Ayo=>by rw[<- Ad9 ε,List.nodup_append] at ζ|Ayp=>(compareOp op')|Ayq=>(I.ok.hd hh)|Ayr=>(s2.trans s3)|Ays=>(Builtin.«zip.__next__» (GV [.ref z]))|Ayt=>by rw[<- e,Int.natAbs_mul];exact ε|Ayu=>by obtain⟨o,_,_,_,e,_⟩:=hS;exact ε|Ayv=>(Τ f (! ACh))|Ayw=>(Τ zs (P (ys++zs)))|Ayx=>.ref (Â (ASB ε) l2)|Ayy=>.pu (.exc C)|Ayz=>by have z:=Int.dvd_gcd_mul_iff_dvd_mul.mpr ε|Ay0=>ε (Int.ne_of_gt hb)|Ay1=>zzl (pm.mem_iff.mpr ε) ζ|Ay2=>Θ (Ċ Tj) gG|Ay3=>FC (t.place[i]+1)|Ay4=>(B8 (xs.set j v))|Ay5=>Cl s₁.heap.get? ASD|Ay6=>Au ms.map gl|Ay7=>Au l.filter p|Ay8=>Au ps.drop 1|Ay9=>Ξ (by(cases z))|Ay_=>(true==true)|Ay'=>BH (B2 BJd V.str)|AzA=>hA b (by rw[q];simp)|AzB=>(rb.getD i kR)|AzC=>(⟨#[ch]⟩:Str)|AzD=>(W.plainGet_of hg).1|AzE=>(Array.getElem?_eq_some_iff.mp h3).1|AzF=>w.params.followText "set-order" =true|AzG=>BI (num j)|AzH=>B2 ps.map pD|AzI=>B2 gs.map hdS|AzJ=>(ps++ [([],[])])|AzK=>(iH.fs++ [("kept_borders" :Str)])|AzL=>(W.of_hideAll _ q)|AzM=>(Nat.mul_le_mul_right _ h12)|AzN=>CH (get?_update_seq ε (BQ ζ))|AzO=>ay s₂ ((s₂.heap.push ε).push ζ)|AzP=>(.dK ((ACi).zip AJA))|AzQ=>(b.num*a.den)|AzR=>BF B.len hq|AzS=>by refine wpAny_call (codeAny_call_builtin ε ζ η)|AzT=>(B' hk (B1 I' q))|AzU=>(B' Q7 ADq)|AzV=>HH (b∈bs) IQ|AzW=>HH (Best l b) (XG (AKH b (b+1)))|AzX=>OM (pushCells (s.heap.push TD) ε)|AzY=>E9 (uv hn)|AzZ=>.tup (k.map mC)|Aza=>(HK (I.ok.hd hc))|Azb=>EO (Θ e tP)|Azc=>(AH1 (ik o m) [])|Azd=>Ff (AJ0 "sorted" ε)|Aze=>by have e' :ε=ζ:=by exact_mod_cast e.symm|Azf=>W.tail_of_in X ht
|Azg=>w.params.followText "set-order" =false|Azh=>Builtin.Dict_items.ownsTuple "dict_keyiterator" =false|Azi=>h.DictOfH (tupleKind ü) a ε|Azj=>∀x∈AeZ,f x=0|Azk=>OO (b1++b2) (b≠c)|Azl=>by refine call_reversed_list pl.isList ?_|Azm=>qD (X (m.idxOf h))|Azn=>Μ (a.1<b.1)|Azo=>JI (cB cJ ε (ADj ζ η)) 2147483647|Azp=>(M3 (a::cs) (KS F'/\jx i4 H b=none))|Azq=>yL Γ σ H b|Azr=>W.tailIn K Kc ε=true|Azs=>W.readsIn K ε AeF=true|Azt=>(∀a∈b1++b2,ASO)|Azu=>NE z (AX 27720)|Azv=>[AdV,.int bv]|Azw=>L7 ys ys[j]|Azx=>R2.sl i _ e2|Azy=>(MA ĩ MQ)|Azz=>SW (W.methodObj FX ε)|Az0=>Gr F H (qh (AKO Lo ε)) ζ|Az1=>i9 List.length_append hl|Az2=>(Å u_ "scaled")|Az3=>(yw s₁.heap H)|Az4=>P_ AK_ (IQ/\FF H')|Az5=>MH (fs.map gl)|Az6=>(Î (oG f y fs))|Az7=>QQ ⟨BKr,WC ε⟩|Az8=>by rw[size_push',Heap.size_update];exact ε|Az9=>CO (ns.getD i 0)|Az_=>CO (bs.getD i false)|Az'=>Ks (j:=27720)|A0G=>s.TypeIs v T|A0H=>by rw[q] at e;cases t<;>(cases e;exact D4 h)|A0I=>Sl c.Apart c.Apart|A0J=>Sl c.Open c.Open|A0K=>oT.data= cE ts|A0L=>zB.mp (List.mem_of_mem_take hq)|A0M=>ABp Builtin.SmallTypes.nextOf it|A0N=>(WF (AdD f))|A0O=>RH ε (fun q=>Pm n q/\Up lt q n)|A0P=>(.ListComp elt [AP3 target] scope pos)|A0Q=>SetTable.below xs j|A0R=>Fe (Θ List.length_map ε)|A0S=>e (h1.trans z)|A0T=>Ν j s' q|A0U=>Ν r' s' hq'|A0V=>∃u,AKU/\LDn u|A0W=>by show TZ List.Nodup List.pairwise_map|A0X=>by rw[q] at n;cases n|A0Y=>dk (k j (zW _ hj))|A0Z=>(dB (DZ sT (LU 60)))|A0a=>by rw[List.mem_append,List.mem_singleton]|A0b=>XA up4.trans up5|A0c=>∀(x:Option (Option Value)),_|A0d=>isIn m b=false|A0e=>p.2= i_ ->A3≠x|A0f=>Xs (AJB ε (AI7 wR))|A0g=>s.heap.get? p=some AEQ|A0h=>ms.map fun w=>AJ7|A0i=>Rep X.K F d x|A0j=>eK iter wi|A0k=>AIl (h∈k s) BLR|A0l=>Ă ob h2.2.1|A0m=>⟨AS,NK (k:=ε) Β⟩|A0n=>(SetTable.below xs j)|A0o=>(l_ (im hq) e)|A0p=>(.List es pos)|A0q=>Inv X pins ARb H s'|A0r=>r=none/\iN s1|A0s=>ABW ABh (.seq its'.toArray n')|A0t=>by subst e;rw[Rat.div_mul_cancel hp];grind|A0u=>(mI Kt SV)|A0v=>h s (zW _ hs)|A0w=>h b (zW _ hb)|A0x=>h u (zW _ hu)|A0y=>ĉ z.cps.toList c|A0z=>md (dL tb y (r x y H2 ε))|A0_=>z7 (hQ _ ε (Heap.SameBut.update ..))|A0'=>ut (BK5 (gs k))|A1G=>∀o w,u≠ .frz o w|A1H=>Prod.ext e1 e2|A1I=>(pJ n (CO (A i n)))|A1J=>(l.map f).sum|A1K=>(Array.perm_iff_toList_perm.mp ε).trans P|A1L=>((ACi).zip (vs++ [IR]))|A1M=>Gr F0 H0 F' H'|A1N=>⟨.str ε,H,AQD,C9,q⟩|A1O=>AJE (L9 s AQN (x' VZ))|A1P=>pure (none:LX)|A1Q=>tn 0 s2.heap|A1R=>tn Bi s2.heap|A1S=>DA ->Rat ->Rat|A1T=>Ĥ value tn|A1U=>(ax BJ3 [a] pc)|A1V=>(kvs.map fun kv=>(ASr y))|A1W=>AJS (ACy i4 ks ts)|A1X=>(V' (mine a ha))|A1Y=>SlO K F H H0 ds o|A1Z=>by refine DE (setEpoch S) (wpAny_setEpoch_of hg O.dat O.fit ?_)|A1a=>AQ3 (gr.f.trans (s4.trans ε))|A1b=>h b (List.mem_cons_of_mem _ hb)|A1c=>AQ5 "plus" QH|A1d=>AQ5 "minus" Iz|A1e=>AQ5 "times" Xu|A1f=>AQ5 "over" TV|A1g=>⟨F1,Γ1,D2,R1,q,k.mono s1⟩|A1h=>AJk (ε (Γ'.set i A_))|A1i=>AJk (AQM (W m' Γ'))|A1j=>release [v,ov,iv] []|A1k=>(.ref b_::vs)|A1l=>Gj X body tb|A1m=>QD rows x' m|A1n=>(bi HU f Qc)|A1o=>(j - i).toNat
|A1p=>∀i j,i<m ->j<m ->ε ->i=j|A1q=>(.Subscript HU k pos')|A1r=>∀i,s<=i ->i<s+n ->ε|A1s=>AIq fY (APv fB) k fa fd ps Adv|A1t=>∀i∈is,uu|A1u=>lN AfZ xs.length|A1v=>xa u (BF z e)|A1w=>z6 (wpAny_standAt ?_)|A1x=>pure (some true)|A1y=>ε Aeb w=ζ++ (AI (AD=w) [BB] [])|A1z=>E4 (bO K c.bW c.Open)|A1_=>E4 (bO K c.wF c.Apart)|A1'=>CF (sIx n n hi)|A2G=>(.Tuple es k pos)|A2H=>AKT (BK2 "dict_items")|A2I=>(NA AR7 u Ol)|A2J=>(L2.upd H p OS)|A2K=>(lc (X.natAbs<=30))|A2L=>AKt (x h - Ë)|A2M=>AKu BA (LV mZ ε Dx)|A2N=>Ev far b (Ξ (ASI hB))|A2O=>ARq (Ak.tups b xs eb)|A2P=>(HJ X.prog X.w q xs)|A2Q=>ADl/\NL kM|A2R=>⟨u,As e1,e2⟩|A2S=>⟨q,W.cellsFrom_some _ _ _ (D9 q)⟩|A2T=>⟨AQJ,Gc List.size_toArray ε⟩|A2U=>["work","hand","mark"]|A2V=>Ord lt vs.length|A2W=>s'.heap.get? ADi=some oe|A2X=>zU.mp ((h ε).mpr zY)|A2Y=>(cB fO Aew Ρ)|A2Z=>R1.sl 0 _ h0|A2a=>I.base.oE b ps e|A2b=>Ak.oE b ps eb|A2c=>.tup [.str AD,AdV,ε]|A2d=>∀j,ε ->j<k ->RI k j|A2e=>∀j,ε ->b<j ->ARh<wd l j|A2f=>hz _ (Ua hj)|A2g=>hz _ (zoc χ)|A2h=>U1 (AIJ AdO) tk|A2i=>U1 (AIJ AeO) s.toks|A2j=>∀j,cW (g j)<=143|A2k=>E Γ1 (.pay C [f1,f2] BK8)|A2l=>NV rfl rfl rfl|A2m=>Ξ (q (Tb List.mem_singleton.mp z))|A2n=>(.xd [(f1,v1)])|A2o=>((X.hand a).wsh ⟨xe,z.pn⟩)|A2p=>(SF.args Sr BJ6 v)|A2q=>aC rows (Τ r (g r*g r))|A2r=>ul r h1 h3|A2s=>Of AeC (b∉X.fs) AJZ|A2t=>cutD sg none (some 2)|A2u=>WF (r j+comb (k::ks) ε j)|A2v=>Option (Shared×Thread)|A2w=>absurd (zG ε) (Nat.not_lt.mpr hle)|A2x=>VO x ds (g x (a::ds)) ε|A2y=>VO d es (s d*h (c::es)) ds|A2z=>Rv (s:=Lu) e c d Β ⟨ε,H,I1,ζ,η,Θ hl hit',ARk⟩|A2_=>B2 ε qs=qs.length|A2'=>[W.topFrame Hd.z]|A3G=>Mp ε (ADV (EY.extBut _ o ζ e))|A3H=>D ->D ->Bool|A3I=>mA name=some v|A3J=>(zT.mp hp).elim|A3K=>(ms.take Bi).flatten|A3L=>kj (ps.map Aq)|A3M=>(e _).mpr (dO.mpr BK7)|A3N=>(fun t Γ' =>(BKO (Q t)))|A3O=>Ν x H2 y|A3P=>Ν x hx n|A3Q=>Ν ms x G|A3R=>BN (B0) Heap|A3S=>B7 VF es gs|A3T=>.pay c.bW ["reach"] ε|A3U=>Q () (qA h' tk')|A3V=>∀v∈vs,(∃k,AK7 ε k v=true)/\AcX|A3W=>(∀v∈vals,Aex)|A3X=>W.mroIn K C ε=some true|A3Y=>W.takerIn K C ε=some none|A3Z=>(AeI (ABf (A.units+1+n)))|A3a=>Mn _ _ rfl|A3b=>AeP (ND "dict_values" #[AR])|A3c=>JU ps ⟨#[],by rw[ε,q];simp⟩|A3d=>Ä (hd i j F) hp|A3e=>AeV (IE Ad8 H' (I5.turned (t' :=ε) (it:=C) (qr Aej) c1 c2 AeG c4 c5) ζ)|A3f=>(sy env scope.names [])|A3g=>(sy X.env sc.names [])|A3h=>BJ5 "_law_rule" Yw|A3i=>BJ5 "_law_scale_points" Yx|A3j=>Pp hb e (ε b o (MO (AP0 h)) e)|A3k=>fun _ ob q _ _ _=>(ğ ob.slots)|A3l=>dg rows w= []
|A3m=>by
 show IY (zU.mp h)
 ·cases (z);exact M1 rfl ε
 ·show CB z
|A3n=>(fun a F0 hA=>(CI (bK (Ĩ 5 RM))))|A3o=>AIQ I1.laid (Fu cS) D3 ?_|A3p=>AK6 (AJt/\i<kvs.length) (H' =H/\ε) (AJt/\kvs.length<=i)|A3q=>(Ļ _ n n)|A3r=>zxs l χ χ|A3s=>(atKey xs k).isSome|A3t=>by have hbs:=hb s1 us I1.kIn hl|A3u=>ASd lP 1 (Fh+1)|A3v=>ASk (ε ⟨ζ,H,AQD,C9,h⟩)|A3w=>s.heap.IsKeyIter it d i es.size ep|A3x=>fun s3 I3=>⟨σ,_,I3,q2⟩|A3y=>(fun j hj P hP=> ?_)|A3z=>(fun i hi P hP=> ?_)|A3_=>r9 "under" "one" "other" BZ|A3'=>r9 "divisor" "one" "other" TQ|A4G=>(AfH (BKu g))|A4H=>(AfP (AH b_) b_)|A4I=>DC H (XO x C none)|A4J=>∀w' s',AC' ->ε ->Q w' s'|A4K=>(.xd [(f1,v1),(f,y)])|A4L=>(.xd [(f1,v1),(f2,v2)])|A4M=>∀{i j:Int}(h1:Si<=4000)(h2:kM<=4000),_|A4N=>∀{i j:Int}(h1:Si<=8000)(h2:kM<=8000),_|A4O=>SO fY br k f fd ps (ε K C fl sp)|A4P=>SO fY br FI f fd Aet (ε K C fl sp)|A4Q=>SlT K F H H0 as t o|A4R=>SlN K F H H0 as ts o
|A4S=>by
 obtain⟨its,r,pl,hz⟩:=I.list hq;refine ε AQv pl.isList (fun w hw=>Vg rx fx r fs w AeB) (ADZ ?_)
 rw[Afk,Vf r fs]
 exact q
|A4T=>(EM ps e ⟨#[],by rw[e];simp⟩)|A4U=>((uk,ε),(true,ζ,good w))|A4V=>fun F=>tR FH (q2 F)|A4W=>by rw[List.length_cons,List.length_nil,sizeLine_eq]|A4X=>by rw[List.getElem?_append_right (by rw[List.length_map,<- hl];omega),List.getElem?_replicate,ε]|A4Y=>⟨AS,į 5 Β⟩|A4Z=>by rw[Ĭ,List.getElem?_map,List.length_replicate] at ε|A4a=>(BKX (ASu trans) I)|A4b=>u=Value.type n|A4c=>(by simpa [Rat.not_lt] using q)|A4d=>∀(rs:A1){k:Nat}(h:k<=rs.length),_|A4e=>by rw[AeL] at e;exact e ▸ ha|A4f=>onTheHeap (Value.ref C)|A4g=>t.slot j= .empty|A4h=>(fun d Γ' =>(BKO (Q d)))|A4i=>UnR X ε (rU fun i=> .int ζ)|A4j=>(Gx (tY qs))|A4k=>OK ε (zt s1 h' tk)|A4l=>(List.range h.objs.size).ε fun a=>ζ|A4m=>∃k,k<n/\r=iV A k|A4n=>I.pins_of fun p hp=>ε|A4o=>PE X (i3 (ik o ε) [e,f]) (ζ td ty tx)|A4p=>(AEc fun b=>Ĺ)|A4q=>(B' I.ok.glob (I.mod.glob.keeps I.bk))|A4r=>D4 (Hc x h)|A4s=>Ev far a (i' hne)|A4t=>ds= ADb/\NY (Int.gcd i j)|A4u=>F_ me "hand" "sheets" ε|A4v=>by refine DE (runValue _) (wpAny_runValue ε)|A4w=>GY is At (∀i∈is,ε) ζ|A4x=>G0 LG (yez I2 d) ε|A4y=>R.put i ε (Eg h h.elim)|A4z=>(L9 j (f j) (f p/q p*q j))|A4_=>(Ν i v hv)|A4'=>fun r s' =>r=w/\mr r s'|A5G=>∀j,ε ->ARh<=wd l j|A5H=>NV a oe (s1 _ _ e2)|A5I=>∃sl,GS h'.get? {o with slots:=sl}|A5J=>ABy ADb (NY (AI ε j i))|A5K=>z52 r _ _ hr|A5L=>sN (AJ0 ε [AR,u,r])|A5M=>AQA (isTrue e X.env ε) TP|A5N=>∀(X:Cx)(F0 H0:Hp)(es:A2)(t:cL),_|A5O=>AIc (AX (B2 qs.map qD)) 1|A5P=>∀(sc:Scope)(x:Str),_|A5Q=>∀a vs,di ->ε ->R vs ->ζ|A5R=>zO (rq 1 Β) χ|A5S=>fun b o eb n q1 q2=> ?_|A5T=>(zL (lc (b.natAbs<=3)) Β)|A5U=>wM xs.length k=some j|A5V=>ma t' Cb AJL|A5W=>ã none (cE (AH5 s2.heap.objs.size)) #[]|A5X=>⟨RO,H,ε,C9,tP⟩|A5Y=>∀{x y:Rat}(h1:vH x)(h2:vH y),_|A5Z=>AQj ARA (AQK k)|A5a=>bindArgs ε ADn=pure (ps.zip us)|A5b=>∀{kindOf:Str ->F6 NameKind}{x:Str},_|A5c=>fun b ob u q=> ?_|A5d=>(qh (qB ï H' (F' b)))|A5e=>Xf (t:=z) (b:=27720)|A5f=>["some","bounds","backward","lists"]|A5g=>m≠0/\NL (cW m)|A5h=>fun h' JT hs=>h _ ?_|A5i=>.tup [.str w,AJ7,AfL (v w)]|A5j=>fj K F H ts vs bs
|A5k=>by
 show Ġ ε z e' z
 ·show AEa gG
 ·rw[gG] at z;cases z;cases e'
|A5l=>∀i j,i<j ->j<r ->ε|A5m=>TF (ns s hS) nh (sub s hS)|A5n=>Rep K (jL F0 F') d v|A5o=>#[wC (E3 (LV vf Ψ BA) (LV vf Κ BA))]|A5p=>(h u _ Ħ ru)|A5q=>ER a ha b hb|A5r=>k b u (hb b n) q|A5s=>DI (∃qs:AB,ds= AeN/\ε/\ AEH/\ζ)|A5t=>⟨as,ε,_,_,_,_,ζ,rfl⟩|A5u=>97+ ((num at_+ ε).fmod 26).toNat|A5v=>setField lP 2 Φ|A5w=>(hd j hj hj)|A5x=>Wn lt (W.kas_sort vs.length)|A5y=>(((Heap.SameBut.update ..).extBut.push _).push _)|A5z=>(BKt Ab6 ASF)|A5_=>AP1 (TM ds AIV ε [PH] ζ)|A5'=>by show BKy (ADu PySem.F.plain_list_iadd) PySem.F.entry_list_iadd|A6G=>by show CS f hf sub p.sub S hS|A6H=>ε (ND (Wg t1) #[.ref l1,vc])|A6I=>∀(C:Addr) (fs:Α) (ts:EI),_|A6J=>by show K_ o ho hc hd hit2|A6K=>∀(K:W.Frag) (C:Addr) (f:Str) (sp:ε) (vs:Η) (H:Hp) (Q:VK) (E:XK),_|A6L=>∀(te:cD)(tl th:Kw),_|A6M=>HF ⟨P,a1,cc (r<=n),a3⟩|A6N=>fun b u e=>wH.h b u AeY|A6O=>∀(K:W.Frag)(C:Addr)(f:Str)(sp:ε),_|A6P=>⟨ε,ds,_,_,R1.g,rs,ζ,η,ASv⟩|A6Q=>∀vs H Q E,ASo ->BKj|A6R=>∀{α:Type}{l:A0}{i:Nat}{d:α}(h:i<l.length),_|A6S=>AfU (xH B ĸ a ε ζ (rawInt L) h')|A6T=>∀{ds:Δ} {vs:Η} {ns:ε},Fm ->ζ ->vs=ns.map η|A6U=>(BLB v wpAny_standAt)|A6V=>by have hlt2:s.heap.objs.size<=l:=zO (Nat.le_of_lt ε) ζ|A6W=>∀b o u,VQ ADK ->AJI ADK|A6X=>by obtain⟨o2,e4,w2,rfl,rk⟩:=R1.sl j _ e1|A6Y=>⟨c,_,[],rfl,rfl,gG,zy3 ε,KC (zps rs rd)⟩|A6Z=>fun ws u bs M zb S e=>ε|A6a=>WalkO q loose XP YP l.row.toRowW d [] (fun f vs=>Ae')|A6b=>(List.zipWith (fun k' y=>(Ae2 v)) ks vs)|A6c=>by have vw:(s1.heap.push (ND "dict_values" #[AR])).IsValuesView s1.heap.objs.size a:=RU|A6d=>by obtain⟨oD,esD,epD,hoD,hdD,hcD⟩:=hn'.count (Within.cons name v ε)|A6e=>ho z E cx pins s σ H (OX H1 (∃F1 Γ1 d,AI1/\kP/\ASi F1/\ ε)) I ζ|A6f=>by obtain⟨x,H',I',rv,sm,H2,e1,e2,hQ⟩:=hq;exact⟨x,H2,L.thaw n0 I' sm e1 e2,rv,hQ⟩|A6g=>N' =own++caps.map fun j=>N.getD j ""|A6h=>w∈ IL BLC r AD|A6i=>FR ->BKU (p=Ae6)|A6j=>(∀a,Good i a ->P [F i a])|A6k=>⟨ε,R.len,R.sl,R.ap⟩|A6l=>(AI a 1 0)==b|A6m=>(hz i him).2|A6n=>fun(AK4 k)=>⟨f,ε hf,k⟩|A6o=>by rw[tk,List.filter_append,List.flatten_append]|A6p=>xs[k1]?=none\/ys[k2]?=none|A6q=>⟨z.1,ht _ _ z.2.1,z.2.2⟩|A6r=>show SW _ from x|A6s=>f p*HM.dt rs cs|A6t=>r j*K2 cs - BKl d (r d)|A6u=>∀{cs:At},cQ (Nd ds ε) cs=ζ|A6v=>by case ε=>subst r;show Lc rv;exact Tm|A6w=>by split at hf<;>(rename_i e;simp [e];omega)|A6x=>nx k % l.length|A6y=>by rw[List.length_zip,<- hkl,Nat.min_self] at ε|A6z=>W.hideAll s'.heap (a::To)|A6_=>SetTable.below t.place slot|A6'=>(hx (Tp,ot) Χ)|A7G=>(W.codeRec_of KX hcd)|A7H=>RB (ε (X.wsh z)) (Ab5 Ou E)|A7I=>by simp [qD,qX,ju]|A7J=>ε ->G2 ->BN (AR2) XW|A7K=>seqIndex? i ε=some j|A7L=>(tupleKind ü).is|A7M=>(h.push TD).update|A7N=>by show AJa KQ;exact hl|A7O=>Except.ok (Flow.ret v)|A7P=>(fun y hy=>k y (zW _ hy))|A7Q=>Ν p hp z|A7R=>(AfM s.heap.objs.size Aec).ε|A7S=>.pu (rC Av u)|A7T=>EE nms v AD|A7U=>(pD (jP ps))|A7V=>(BV (BV h))|A7W=>Μ (AKb (aw ε) Str.empty)|A7X=>Μ (n.fmod 3=1)|A7Y=>Tt (rq 4000 ε) Β|A7Z=>Θ (bC (AfJ)) z|A7a=>(g k*f j - f k*g j)|A7b=>Cl ((ε Ad3).push Adf).get? ζ
|A7c=>by
 split
 ·exact ε (n:=ζ) Β Β
 ·exact K8 (η θ ι ν _) (n:=ξ) Β Β
|A7d=>Calls.spliced_cons (bU (ACZ he) ε)|A7e=>EM q1 q2 (by rw[ε,bC q2,bC q1])|A7f=>∃w,LD w/\GS F0 w|A7g=>∃f,Afa/\ε K f x=some g|A7h=>by by_cases hl:xs.length=ys.length|A7i=>zvs F Good ε (AJ as has)|A7j=>PE X TL (RB r t)|A7k=>(B_ (eP (Builtin.«sorted» _)) ?_)|A7l=>(B_ (s.heap.IsTuple l xs) hl)|A7m=>ε ->Rep X.K F d v ->Rep X.K F d' v ->iM d d' =true|A7n=>(ax BJ3 ci pc)|A7o=>As (congrArg Array.toList d1)|A7p=>(ps.map fun p=>AfE)|A7q=>by simp at h1 h2;show Ķ;cases n<;>simp [uV]|A7r=>IE ε eσ _ (k _ _ _ _ R ET h)|A7s=>aC (dg rows AD) Acp/ An (AQ8 dg AD)|A7t=>2^ (max (cW i) (cW j))|A7u=>pa b hb (by rw[e];simpa using hc)|A7v=>typeOf se=pure (Kb "method_descriptor")|A7w=>fun b z=>(cf z Vb b)|A7x=>OM (BKf (W.instObj C s.heap.objs.size))|A7y=>by obtain rfl:d' =s.drawn:=hm.drawn|A7z=>E9 (by simp at hb;simp [hb])|A7_=>I_ Γ1[i]? (some AKe) (g xs ds fun ys=>ε)|A7'=>EH one 1 0|A8G=>∀s,k<=s ->ε ->a s k=0|A8H=>ne g (zW _ hg)|A8I=>SL F2 H2 Γ2|A8J=>Lm Oo e1 q|A8K=>IL decide_eq_false q (nomatch q)|A8L=>zO (zqm xs lo hi) hz|A8M=>aK K F0 ds vs|A8N=>mK ks k=false|A8O=>VC (BJl i (rawInt i))|A8P=>ε i u (BF Array.getElem?_toList e2)|A8Q=>(NI j (Μ (ACY>ns.getD j 0)))|A8R=>sI ASR (val i)|A8S=>OV (b∉q_) F' F|A8T=>(Ν s6 I6 hz1)|A8U=>qV AJM (Ω ε AR9 NN HA ζ)|A8V=>qD (jf IP h)|A8W=>SW (ABW Φ (.fields ps))|A8X=>(i3 (ik HU name) DF)|A8Y=>SO fY CX k f fd ps ε|A8Z=>OX s1 (AJ5 (pyIter v) ε s1)|A8a=>∀A' :Around,A'.handled=none ->ε|A8b=>by show VX (newList []) wpAny_newObj_type|A8c=>fun v H' =>Dn.nx ARb H'|A8d=>Se (CF (pL t ε)).toNat (pL t ζ) (Int.toNat_natCast _)|A8e=>∀s∈ws.map (kW rows),ε|A8f=>I.kIn a o hk|A8g=>Mod X.K X.mg X.base|A8h=>bG P w ε s'.heap b u|A8i=>AH' ε (fun x y H Q=>y= AE/\Q (.bl ζ) H)|A8j=>(cutD xs l u)|A8k=>WC ⟨(AEI C.sz).up Β,((C.sz p hp).2).up Β⟩|A8l=>by refine Calls.callWith_builtin rfl (Calls.evalArgs_plain ε)|A8m=>#[yfb (i:=3) rfl DV ε ζ]|A8n=>Ö (zp p2 hb).1 (AJ u q')|A8o=>Q3 (NE i j)|A8p=>(Þ (IM s_ (F w)))|A8q=>à (d6 k s)|A8r=>some (assign (C5 y py) X.env)|A8s=>(ABx (WH/\eB/\qa Γ' a))|A8t=>(AI (j<0) (-j) j)|A8u=>BK K F' ε H' C dx x|A8v=>by show Tx (cutD (m.map D.str) mB none)|A8w=>Au H b (.frz (ob b))|A8x=>∀i h,tn i h ->WE (AfD Q2)|A8y=>⟨z,H,I,tQ,q⟩|A8z=>k_ (i^j.toNat)|A8_=>RB (ε K g) (ir Ou t E) σ H Q|A8'=>yb6 (cs:=ε) wr (N:=N)|A9G=>((X.hand a).wsh ⟨z.xe,z.pn⟩)|A9H=>A6 ε IU hbase hline|A9I=>eA (storeName X.env x u)|A9J=>lr t es BLG|A9K=>fun o=> !(Μ (q<o))|A9L=>by rw[e,zsy] at z;cases z|A9M=>aC l (Τ a ((f a+d a)* (f a+d a)))=ε|A9N=>M' "is_scale" 3 "points" XQ|A9O=>M' "mean_mark" 3 "sheet" Yj|A9P=>M' "ends" 3 "marks" X5|A9Q=>ou P w H' s'.heap|A9R=>by rw[BD e,if_pos (h1.symm.trans e)]|A9S=>(.Subscript HU AeU pos2)|A9T=>ER x c e z|A9U=>SeqAt.EqAt A s u v ε|A9V=>AC_ (Eg H' AdZ) Q|A9W=>(vs= .ref x::rest)|A9X=>by rw[List.zip_cons_cons,List.map_cons,ε (B9 h)]|A9Y=>FY "cleared" 2 (BKD "ahead") Xx|A9Z=>FY "reached" 2 ASN X3|A9a=>FY "_law_kept" 2 Afd YC|A9b=>fun d Γ1 F1 H1 v R1 s1 rv h1=>ε|A9c=>lf (h ε (j+1) χ AR3) this|A9d=>AIr dd2 (.seq items2 n2) ε
|A9e=>G0 ε I2 (q _ (I1.hok.fresh D3))|A9f=>∀(ĺ){m:GH}(L:AK5),_|A9g=>E E_ none H1|A9h=>∀h',AIP h' (rawInt s.heap.objs.size) ->ε|A9i=>(AI (v<0) (max (v+ FL) 0) (min v FL))|A9j=>V ->V ->V ->iP Hp Hp|A9k=>HH OU (∃kvs,AR'/\GS H1 (.frz (ob b) Iy))|A9l=>∀{n:Nat}{f:kN}{i:Nat}(h:i<n),_|A9m=>fj.there _ _ _ rs a ε|A9n=>AeW*μ.fdiv ķ|A9o=>aA N ps scope|A9p=>∀(hc:vS)(hm:Meth X.K C m fa),_|A9q=>∃d,ĉ xs d/\P d|A9r=>FY "_law_marked" 1 Afm Ym|A9s=>FY "without" 1 ASs Xw|A9t=>FY "exchanged" 1 (BKD "spot") Xy|A9u=>∀b ps,VQ (.Kd ps) ->∃more,GS H' (.Kd (ps++more))|A9v=>HI BB h ADt 0|A9w=>M' "whole_row" 2 "row" zdt|A9x=>M' "rising" 2 "some" QL|A9y=>M' "_law_bounds" 2 "_law_script" Yv|A9z=>(qQ (cT (ADz Ρ)) (HV Ε (cU fZ Ρ)) ĥ)|A9_=>∀v,v∈ws↔ (ε)\/v=ζ|A9'=>AKo (ARa HU f) (ε C i f ζ)|A_A=>sN (compareOp ε u Cb)|A_B=>AI0 "must_have" 1 AQd Yq|A_C=>AI0 "mark" 2 AQd T7|A_D=>AI0 "grade" 3 AQd Yr|A_E=>AdC "by_work" 1 QZ|A_F=>AdC "groups" 3 Yg|A_G=>AdC "leanings" 8 T5|A_H=>ARq (Ak.mj b o u eb)|A_I=>yC X.prog X.w X.K X.mg X.base X.A X.stack ε ζ|A_J=>Bool×ARW×ARW|A_K=>["some","order","part","place"]|A_L=>⟨ε,_,c,hv,Θ Array.toArray_toList hg⟩|A_M=>(h.push (ND "list_iterator" #[IR,ASE])).ε|A_N=>Calls.spliced_cons (bU (Afg hf) fun fv s3 ε=>Calls.spliced_nil ?_)|A_O=>IE (.bl ε) H1 I1 q1|A_P=>AR5 (∃o kvs,VQ cq/\GS H2 Iy)|A_Q=>∀b,kB ->¬Lo ->KS F1|A_R=>AR8 (kB/\KS H0/\ß b)|A_S=>by rw[AY e,Do (ADG e h1.trans)]|A_T=>∀(X:Cx)(id:String)(r:ASb),_|A_U=>mi u7 f G_ (f n)|A_V=>⟨sl,o,e,p1,hc⟩|A_W=>∀{H:Hp}{a b:Addr},_|A_X=>(hg x).mpr (DH ⟨f,hf,q,ε⟩)|A_Y=>Adm (ε X.K C fl sp)|A_Z=>EqD A s v u (iM d d')|A_a=>ASn (hx acc u e)|A_b=>(Hd.fore treeTable W.topGo pg w os)|A_c=>∀{l r:Pt}(h:AK0)(h2:ASS),_|A_d=>AEW ε (rule "set.scan.the-table-gave-way") (pure ())|A_e=>(vs++ws).toArray|A_f=>Calls.Name_function_global I.ok.kind hg ε hd|A_g=>ε (us:= AR::us) (vs:= AR::ws)|A_h=>.pay c.Open ["work","apart"] [My (.str ε),My (.bl f)]|A_j=>Meets (ε (GV [LG,ģ])) ζ|A_l=>(rel.val k).getD rd|A_m=>IE AeT H' I3 q3|A_o=>Ff (exec (.Raise (BU (i3 (C5 y np) args)) ε pos) env)|A_p=>HP ns AU its Ο ε ζ|A_q=>M' "least_number" 1 "rule" XJ|A_r=>M' "middle" 1 "order" XD|A_s=>M' "total" 4 "some" QJ|A_t=>M' "width" 4 "two" QM|A_u=>M' "mean" 5 "some" QK|A_v=>M' "nearest" 5 "order" XF|A_w=>OX s₁ (AJ5 (U_ b) (fun u s₂=>ε) s₁)|A_x=>zyb I S hk e|A_y=>Nw 3 rO aP (AIx ε)|A_z=>(Jg ws v bs).map|A_0=>fun us s1 (BLN xs)=>(EU BKk)|A_3=>∀ms:Α,ASY ->(ε) ->AKZ .str|A_4=>Aem u8 "__getitem__" (BU se)|A_5=>(Ó "list" (sA AP7 [] cpos))|A_6=>(Ó "list" (sA AKm [a] pos2))|A_7=>Aer K3 Fj Γ1|A_8=>by have KX:ADx:=e0.mod.GC.keeps (Fc BJ9)|A_9=>by have lim:s.heap.NoLimit:=e0.mod.nolimit.keeps (Fc BJ9)|A__=>∀{one:mS}{f g:kN},_|A_'=>∀{rs:CA}{f g:Row},_|A'A=>FY "rests_behind" 4 ["some","bounds"] X6|A'B=>FY "greatest_cuts" 5 ["some","bounds"] X7|A'C=>(ARU Rep (VW l1 h1 q1))|A'D=>sN (getAttr Cb f b)|A'E=>Ae0 (hn b (List.mem_cons_of_mem _ hb)).1|A'F=>∀(MG){F H:Hp}{σ:St},_|A'G=>∀(MG){F0 H:Hp}{N:Α},_|A'H=>Hs K x ε st f fd (AH T)
|A'I=>QS (X.hand b0) F0 H0 (.Raise (BU (i3 AIU AEX)) (BU (.Constant Φ j cp)) pos) (zst C f1 f2 t)|A'J=>AfI (∀c ds,ds.length+1=cs.length ->ε) ζ|A'K=>∀(ho:Ae3 ARg)(ha:PQ)(hb:mo)(hm:AKD),_|A'L=>sp (.ob C [] []) ds (Nn t' (D5 t')) (Eg Cx (E Γ1 Cx))|A'M=>∀{K:Frag}{x:Str}{st:Stmt}(h:ε K x=ex x x st),_|A'N=>∀{K:Frag}{x:Str}{g:FuncData}(h:ε K x=some g),_|A'O=>Ω BKg (sp ds Pd Ex) ((ε)) Ad4 (Afp ζ)|A'P=>∀u s',AC' ->LM ->Q u s'|A'Q=>∀(Afl){ix:OY}(h:vv),_|A'R=>ě h ->Heap.ExtBut c h h' ->it≠c ->ě h'|A'S=>iU t h l ws ->Heap.ExtBut c h h' ->l≠c ->iU t h' l ws|A'T=>k _ Γ1 F1 _ q _ R2 s1 q1 q2 q3 ε ap h1|A'U=>k _ Γ1 F1 _ l2 _ R3 s1 q1 q2 q3 (WD ms) ap ε|A'V=>D.tup [qD (ACv),qD H]|A'W=>⟨v,rfl,nd,AQ' ASK,ε⟩|A'X=>by rw[List.getElem?_append_left (ASG hl hi),List.getElem?_map,e1]|A'Y=>g<wd (oA qs) 0|A'Z=>fun pre c d post=>ε|A'a=>∀(names:Tl) (cs:mP),ε|A'b=>(z96 χ q hq)|A'c=>zos (k:=ε) (ks:=ks)|A'd=>hq H1 (s1.trans s2)|A'e=>P (pW n m (Xv k s a))|A'f=>by show A8 (lim.keeps x.toInCall.keep) (codeAny_func ?_)|A'g=>(zn5 (hf c hc) (zK (ε c hc))).1|A'h=>by show BS q hq e List.mem_iff_getElem.mp ε|A'i=>ay s3 (s3.heap.push (ND "slice" #[vl,vu,Φ]))|A'j=>∀h' e,ε ->(∃o,sf e/\o.cls= KM "StopIteration") ->ASV Lu|A'k=>Pw AfQ (zx4 C fl sp t)|A'l=>ER s us X hl|A'm=>ER h' tk hS hold|A'n=>Q (C3 ((m*m).fmod 2147483629))|A'o=>BKb H1 I1 q|A'p=>∃u,us= [u]/\mT|A'q=>∃l,v= LG/\∃is,ε|A'r=>IsPair h' s.heap.objs.size x y|A's=>fun v hv=>scn v (ε hv)|A't=>iQ #[zy (ADk aP aP aP ε)]|A'u=>IN td x (∃a,x= AR/\IsD H1 a/\dL ty y (tx σ H2 fun z H3=>ε))|A'v=>∀p∈sc.names,p.2= L6 ->ε A3=some i_\/ζ A3=some L6|A'w=>∀base:Heap,K.In base ->BKh ->ε|A'x=>(AI (a<0) (-a) a)|A'y=>eL (TM y AE ε (.bl d) (I_ x (.bl c) (MI ζ)))|A'z=>∀{K:W.Frag}{F F' :Hp}{d:D}{v:V},_|A'0=>Į (∃bs,uH xs=some bs/\MI (ε id))|A'1=>SR K F1 H1 F1 H1 σ AKr|A'2=>AIq ε x C fl k ps sp|A'3=>List.lookup x ((AI AfY ART (n,k0))::_)=_|A'4=>AR6 (A6 ε hg hm DO hs) (AfR ζ)|A'5=>ASW (done _ (Lm jH rs hI))|A'6=>Rv (s:=Lu) e c d Β ⟨x,H,I1,ru,EO (BK3 ε),st',ARk⟩|A'7=>ADy (ARa o f) value (ε C f ta tv)|A'8=>(fun a ha u hu=>mine a u ha hu)|A'9=>BKo kk ea hl|A'_=>fun env he b hb=>zW _ (List.mem_filterMap.mpr ⟨env,he,hb⟩)|BAI=>by show BS cd' hc' hd' W.any_some c.hd|BAJ=>∀{a b:Expr}{ta:TA},_|BAK=>HP i Nat e Int ε AKk|BAM=>io qg (ymb rfl) yc boot_any (au (eC ε) aL)|BAO=>(aW (dB (DZ (cB dw Ρ AQ) (cB dw Ε AQ))))|BAQ=>iQ #[z9v rfl rfl cj rfl j6 ε]|BAS=>(KU bs.length fun k=>uL (rk ADd bs.reverse AJ6))|BAV=>(AcN (upd F' s1.heap.objs.size AcB) [(fl,v)])|BAW=>(names.map fun ua=>if (BJZ k&&BJY) then ART else ua).lookup|BAY=>∃ms:AB,ms.length=rs.length/\∀j,ε|BAZ=>∀{K:W.Frag}{F:Hp}{d:D}{v:V}(h:LE),_|BAa=>(hch c z).2.2.1 x c e rfl|BAb=>⟨i,sl,o,q,e1,hb⟩|BAc=>∀(P:Program) (Afq) (x:Str) (C:Addr) (fl:Str) (k:Nat) (ps:Α) (sp:ε),_|BAd=>KH prog w A E vs (Py xs) ε oneType'|BAe=>by refine call_meetsIn PySem.F.slot_dict_get dd.typeIs PySem.F.entry_dict_get (PySem.F.args_dict_get_3 _ _ _) (ε ζ a η hd r) θ|BAf=>BLH (oJ K C0/\Hg K C0) (.bl ε)
|BAg=>∀(Ty) (F0 H0:Hp) (t:cL) (E:XW) (σ:St) (H:Hp) (R:ADH),_|BAh=>SO Qs ε f fd C f1 f2 a1 a2|BAi=>AfX (kk d Γ1 F' H' v ADW ARd rv hp)
|BAj=>by
 show mE hn
 have e:dv i j=AKS:=by unfold dv;show Ap hn
 exact⟨ADh,ADh,AKi,AeS⟩
|BAk=>by refine⟨"dict","dict.values",PySem.F.plainAttrs_dict,PySem.F.slot_dict_values,PySem.F.type_dict_values,hT,hN,BLK⟩|BAl=>HF (IE rfl GL ε U)|BAm=>qO.k (k:=kk) ea|BAn=>AeX frs List.filterMap_cons hf ε|BAo=>⟨m.base,m.few,m.line,m.trees⟩|BAp=>⟨cs,t',e0,q⟩|BAq=>{oe with data:= cE #[.ref fv,Φ,AR,Φ,AKY,Φ]}|BAr=>by rw[if_pos (z0z C.gd C.len)]|BAs=>fun l hl=>k _ _ l rs hl h|BAt=>fun obj s₁=>obj= ç/\s₁=ε|BAu=>∀i j F,Rep X.K F (d i j) (v i j)|BAv=>by simp only [List.zipIdx_cons,List.zipIdx_nil,List.forIn_cons,List.forIn_nil]|BAw=>by simp only [List.filter_cons,q,ε,ζ,η,List.flatten_nil,List.append_nil]|BAx=>by generalize ε=w at tk hw fresh⊢|BAy=>∀(f m:Nat),1<=m ->m+f<=n ->ε ->ζ|BAz=>∀s₁ (P:dW),P Φ s₁ ->AKf ε P|BA_=>(Ev fz b hb e1)|BA'=>ex d.1 d.1 d.2|BBG=>ztq wH O5 ha'|BBH=>Heap.ExtBut it s.heap h'|BBJ=>putSet_of es' t' hd|BBK=>CV x' ASJ AD|BBL=>(Od inner Rz he2)|BBM=>(x.above y c (PySem.mem_of_lookup h))|BBN=>(zyk qs [] List.Pairwise.nil)|BBP=>(fun f hf=>Q9 (sr f hf))|BBQ=>z1v ε IU (KO hl) (KO hh)|BBR=>Nat.le_of_lt (L.mm r vk)|BBS=>J.type.andThen (W.looks_mroIn X c.g.ob)|BBT=>I1.fpOk hb2 (I1.hok.fresh hb2)|BBV=>aC AK8 (jf S)|BBW=>(W.looks_clsIn X hcd).andThen|BBX=>(hl.add ((h.mul (dt rs AJU)).mul G_))|BBZ=>zum hl _ fun i a b z1 z2=>by simp only [z1,z2]|BBa=>yH p _ pa ep|BBb=>YZ C.gd C.sz (ε Β)|BBc=>(k (lt i j))|BBd=>(AKx (W.instObj C s1.heap.objs.size))|BBe=>ε _ _ e' (n1 b n hb)|BBf=>FY "share" 5 BKe Yh|BBg=>FY "shares" 6 İ Yi|BBh=>FY "between" 4 ["left","right","x"] XR|BBi=>A3=q.1/\Lv q.2.1 (.tup ((A3).map kV))/\RelV p.2 q.2.2|BBj=>(.While c body [] pos)|BBk=>fun ds P E=>sp ds ε E|BBl=>∀{c:Cls}{t ds P E}(h:K6 c t ds P E),_
|BBm=>by
 rw[Th] at q4;refine ε
 simpa using q4
|BBn=>∀{outer:GA}{s ε:Shared},_|BBo=>PIg X tg iter wi|BBp=>OM ((Ae4 Ad3).push Adf)|BBq=>JA l us ADv (Aeo (ε hq rs hz))|BBr=>(fun b u e n=> ?_)|BBt=>Ff (setNext S slot given ε)|BBu=>by have hn:ı=AKP:=by show EQ|BBv=>Pw (.Assign [AQG] T0 spos) ε|BBw=>JE (6* (ABz+1)+ Aeh)|BBx=>by have b:ε (q::qs) k=some q.2:=by simp [ζ,List.find?_cons,e']|BBy=>(.Compare a [op,op'] [b,c] pos)|BBz=>pushCells_keeps _ _ b o Sf|BB_=>far b _ (RK he hd q n) k|BB'=>M' "levelled" 9 "rows" Yz|BCG=>∃f fd,ε/\Meth K C m f/\tq|BCH=>aC l fun a=>(IM ĳ (f a))|BCI=>wpAny SK X.A (call FX us) (EP E7 pins σ Q) z.xe s|BCK=>SI aq (DQ c.Scale "points" (QV c)) ε|BCL=>yep u nw cw h|BCM=>∀x:Str,va ->mb x=bootBuiltins x|BCN=>by have hsz:its.toArray.size=ns.length:=As hl.symm|BCO=>F8 rR i l ε hv3 hd3 PK|BCP=>mD K F' H' H0 s o|BCQ=>s.1=AD/\VZ=BB|BCR=>r8 ε (jI ă (io zod yh9 vL boot_int (au ζ aL)))|BCS=>r9 "_law_names" "_law_cell_here" "_law_many" T6|BCT=>r9 "_law_cell" "_law_script" "_law_k" xV|BCU=>r9 "_law_divisor" "_law_one" "_law_other" Yo|BCV=>r9 "meet" "group" "hands" T4|BCW=>r9 "sheets_with" "hand" "sheets" Np|BCX=>r9 "is_within" "step" "bound" TY|BCY=>⟨_,es',ep',hL,r'⟩|BCZ=>#[z0w (i:=ε) mh rfl DV #[qv 4] ζ]|BCa=>BindsTo s fd ε (ps.zip ζ)|BCb=>∀(b:Expr){op:CmpOp},_|BCc=>å "_law_low" "_law_top" "_law_bottom" Q5|BCd=>å "climbs" "left" "right" XM|BCe=>å "joined" "found" "hands" Ye|BCf=>å "fraction" "top" "bottom" J8|BCg=>å "led" "table" "place" Xz|BCh=>å "number_from" "least" "marks" X4|BCi=>å "grade_borders" "some" "mark" Yd|BCj=>FY "solved" 3 ["rows","rights"] XC|BCk=>FY "reach" 3 ["some","bounds"] QX|BCl=>FY "borders_borders" 3 ["marks","counts"] Yc|BCm=>dS (st.1).at (hk I Χ o e)|BCn=>(gD ks vs k v)|BCo=>dk (by obtain rfl:j=0:=χ;exact ε)|BCp=>⟨x,H1,I1,r1,q1⟩|BCq=>z98 ε h (kn I sF r rv) (kn I sF r' ru)|BCr=>∀F ds P,EJ ĝ ARi (g ds P) ε (ζ K g vs H Q)|BCs=>{o with data:= .set es' (ep+1) t'}|BCt=>A6 z7d IU ε hs hw|BCu=>(ts.set q (Kj (jw PJ k2) (AdA PJ k2)))
|BCv=>by
 rw[e];show AK3
 ·exact zP _ q
 ·exact zQ _ (zW _ q)
|BCw=>fun σ H R=>tl σ H (ic x (∃a,x= AR/\ ((ε)\/ (ζ))))
|BCx=>by
 rw[t_] at e';split at e'
 ·rename_i hm;exact(hn b (zW _ hm)).2
 ·show Cc n e' e'
|BCy=>AI0 "leaning" 1 (ABg "hand") Yp|BCz=>AI0 "reckoned" 8 ["self","work","sheet"] Ys|BC_=>qD (XU 0 (jf IP o) (fP IP ASf o))|BC'=>(ws.map f).set q (f' a)|BDG=>ε pins σ Γ F H s e s'|BDH=>vx (AI (c<p) (- AKn) (AfN c))|BDI=>∀(i:Nat) x Γ,bc ds ->I i Γ ->AfS x (tb (ASj ε ζ) Γ' E)|BDJ=>holding [v,ov,iv] (setItem ov iv v)|BDK=>o.data= .set es ep t|BDL=>pk vp "_law_worths" 10 ["_law_rows_here","_law_rule_here","_law_gap"] (YB c)|BDM=>FY "_law_rows" 2 ["_law_script","_law_hands","_law_works"] Yn|BDN=>(Ó "sum" (sA AP7 [] cpos))|BDO=>∀(ī){ms:HZ}(G:ADc),_|BDP=>∀(ADf){tg:Expr}(a it:Addr),_|BDQ=>∀(ADf){tg:Expr}(a it:Addr)(BLU),_|BDR=>ε<=max (cW i) (cW j)+1|BDS=>fun b o _ hb _ e n=>ε b o e n hb Χ|BDT=>fun x C' Mu F' H' hE gr xr=>⟨x,F',hE,gr.low sH,xr.back sH⟩|BDU=>∀i∈ε,∃k:Nat,i=Cf/\ζ|BDV=>FY "cuts" 6 ["marks","bounds"] X8|BDW=>(bU AeK (ĕ h1 (bU h1 (Ν itv s2 h2))))|BDY=>∀a ds Q Ex,sp ds Q Ex ->ε|BDZ=>AKs (Ó "sorted" (sA Aca [a] pos2)) ε|BDa=>∀(X:Cx)(tg iter:Expr)(wi:TI),_|BDb=>by rw[List.getElem?_append_right (Θ B.len (Nat.le_refl _))] at h2|BDc=>∃m xs ys,n=m+1/\d= ε/\d' = ζ/\ARK (uV m x y)|BDd=>⟨m1++m2,Gc e2 Array.append_assoc⟩|BDe=>∀(m:Nat) (u:PF),(dN m (rV (- u c)))= - dN m u|BDf=>(U i ADp q' χ)|BDg=>(m8 AI9 AI_ ws h)|BDh=>z5n (Y:=Y) (e:=1)|BDi=>fj.move f ts vs as BKx r|BDj=>¬(a.1=b.1/\a.2.1=b.2.1)|BDk=>∀x c v,É ->Aek ->ε|BDl=>(AI (v<0) (Q4 v FL) BKv)|BDm=>Bz TL (aq (DQ C fl sp) t)|BDn=>∀d v F' H,BLD ->ε ->ζ d ->Ae1|BDo=>∀(ASx)(h0:LA∈S)(hn:AKl),_|BDp=>(oG f v fs).map (·.1)|BDq=>∀S:jm,S.marks=gF ws AQt ->ε|BDr=>h2.imp id fun⟨a,o,b,c⟩=>⟨a,o,ω,c⟩|BDs=>∀{op:CmpOp}{r:R2}(ho:j9 X ARg r)(ha:XZ)(hb:AEJ)(hm:AKD),_|BDt=>∀{rows:FA}{x x' :He},_|BDu=>FY "excess" 5 ["hand","sheets"] Yk|BDv=>FY "group_leanings" 7 ["hands","sheets"] Yl|BDw=>by have hez:e≠z:=fun x=>by subst x;rw[ε] at hoe;cases hoe;simp at hce|BDx=>∀{K:W.Frag}{c:Cls}{a:Addr}{ds Q Ex}(h:ε c ds Q Ex),_|BDy=>∀q,lS q ->F7 q (U2 q ε)|BDz=>E6 ["table","place",ε,ζ] ["table","place",η] θ|BD_=>Ael (zuq (C:=ε) (v:=ζ)) (Z4 fun i j _ _ _ _ _ hc q=>η)|BD'=>AKL (ARn d v ε d k7) ζ|BEG=>AKL (ARn ds vs ε ds (Q vs H')) ζ|BEJ=>(ARU Rep ⟨l2,us,ġ,h2,q2⟩)|BEK=>Hs K "worth" "worth" Lx f fd (AH uX)|BEM=>∀{X:Cx}{F0 H0:Hp}{e:Expr},_|BEO=>by have wH:Gr F' H' F4 H4:=gr.trans R4.gr|BEQ=>by have BP:Gr F' H' F5 H5:=gr.trans R5.gr|BER=>fun i a b h1 h2=>ε Bi a b ħ AKR|BES=>(F8 ZV i i hN hi hx hf)|BEU=>fun Γ2 F2 H2 σ2 R2 s2 p=>ε|BEV=>∀{A B:Nat}{p q:Rat}(h1:GZ A p)(h2:AEO),_|BEW=>∀{A B:Nat}{x y:Rat}(h1:ZB A x)(h2:ZB B y),_|BEY=>⟨s',o,q,p1,hb⟩|BEZ=>nextT k s d tb|BEa=>z9p L x hi i0|BEb=>(k a zY _ e3)|BEc=>(Fl k p a i)|BEd=>Ν ε s3 ⟨z,H3,I3,r3,k,e,q3⟩|BEe=>aC hs (qw S x)|BEf=>ε fun v hv=>lI (AeD hv)|BEg=>(h r zY c).mul|BEh=>one x fun ys=>ε one xs fun zs=>P (ys++zs)|BEi=>HP xs Ο as (List ASq) (uY xs=some as) ε|BEj=>∃p ys,xs= [IR]/\ (ub mX p\/ub wB p)/\ε|BEk=>g x Γ0 (Τ Γ1 (tc Γ1 (fun b Γ2=>(EH b ε (P []))) lK)) lK|BEl=>#[DG rfl (qd (Ab7 ε) (Acw ζ η))]|BEn=>HP binds ADr m B0 (∀v,(x,v)∉binds) (ε kindOf binds m x=m x)
|BEo=>(rk ADd bs.reverse AJ6).contains (n - e)|BEp=>RH ε (OW (Pm n r.2/\1<=AD/\AD<=n/\Up lt r.2 AD))|BEr=>⟨_,_,_,rfl,rfl,rfl,hc⟩|BEs=>∀{rows:A1}{ws:Α}{ps:AK9}(B:AfF)(u:FR),_|BEt=>uJ knd kf uS h' s.heap.objs.size (lN val items.size)|BEu=>Gv x=true/\xs.all Gv=true/\MI (AI neg (! inD x xs) (inD x xs))|BEv=>∀(C:Addr)(f:Str)(ta tv:TE),_|BEw=>SR K F ε F' H' σ' Γ'|BEx=>∀{X:Cx}{pins:eE}{σ:St},_|BEy=>(match nsIn K mainGlobals x with | Aei FX=>ε K f x | _=>none)|BEz=>∃f fd,ε/\Ĳ/\AJ4/\ADw/\Aeg/\ζ|BE_=>V_ ds Δ vs Η Fm (ds.all Gv=true) ε|BE'=>∀F ds P Ex,ĝ ->Ω ARi (sp ds P Ex) ((ε)) Ad4 (AJD ζ)|BFG=>∀(BK'){xs:Δ}(hq:Ae5)(rs:Ć)(hz:BKY),_|BFH=>by show O_ ⟨⟨xs,xs[i],q,BG hlt⟩,AQb,fun σ' H' p' =>(JA (xs.length - Bi) ω hlt p'),AfB⟩|BFI=>fun d ds e=>h d eI vF|BFK=>BLS ⟨F5,Γ5,R5,s2.trans (gr.f.trans (s4.trans s5)),q⟩|BFL=>(pC x' (dg AKX AD)).map qD|BFM=>(zx6 hn hg k χ).2|BFN=>APx (AH ε) "__init__" FX/\AJ4|BFO=>fun u' s2 I2 ru=>⟨v,H1,I2,ru,q⟩|BFP=>∀j∈caps,j<N.length/\sc.names.lookup (N.getD j "")=some L6|BFQ=>by simp only [show¬(Fh<0) from ω,if_false,Int.toNat_natCast,ε]|BFR=>["hand","other","sheets","both","through_works"]|BFS=>["found","hands","apart","together","group"]|BFU=>envOfC qual scope s.heap.objs.size f
|BFV=>by
 have:x≠n:=by rintro rfl;exact h v zY
 simp [this]
|BFW=>(backTo cpos (starEach args env))|BFX=>(Kj ks (ts.set q (mM (xs++ [d]).map)))|BFY=>∀{H:Hp}{kvs:vE}{xs:AEZ}(r:AK'),_|BFZ=>zst c.Open "work" "apart" (DZ Ε (cC ε))|BFa=>(Rg H hA ll.1 zl)|BFb=>zsp (g:=ε) (μ r) (dk ζ)|BFc=>wpAny M A ε Q E ACG|BFd=>yd6 R1 h1.2 (k.mono s1)
|BFe=>by
 show d5 e1 ε
 obtain⟨_,o2,e2,nf⟩:=I.ok.funs.mem hf;rw[e] at e2;cases e2;obtain⟨sl',e3⟩:=up b _ e1 nf;exact ζ
|BFf=>Ξ (c4 y a ha' z.symm)|BFg=>BJ7/\JS A3/\A3≠X.env.locals/\A3∉X.fs/\∀v,(p.2).data≠ .cell v|BFh=>pk Pb "worth" 7 ASp (Q6 c)|BFi=>pk Qo "_law_sitting" 11 ["_law_script","_law_rows_here","_law_scale"] (Yy c)|BFj=>(ε (u:= ζ) (tT zY) (hn a zY).2.1 (hn a zY).2.2).frzM|BFk=>FY "pair" 6 ["order","gap"] XH|BFl=>lm<=i/\i<2^62/\ lm<=j/\j<2^62|BFm=>(tb s p*tb Ğ j - tb Ğ p*tb s j).fdiv d|BFn=>k l _ (AR0 hlt2) hms (zt8 a2)|BFo=>by refine z6 (AEV hit2.typeIs F.slot_tuple_iterator_next (vT F.slot_tuple_iterator_next hit2.typeIs F.entry_tuple_iterator_next F.args_tuple_iterator_next_1))|BFp=>⟨boot_heap w.params,Array.mk [],boot_drawn,boot_toks,os⟩|BFq=>qA ((h.push AKd).push AKj) t|BFr=>∀(lo hi:Kx)(n:Nat),_|BFs=>HP l Pt t DA (Gd (l::t)) ε|BFt=>IN ty y (dL td x (ASP o (qO H2 a y o) (Q (.bl ε) H2)))|BFu=>∀a vs bs,di ->Ω (as=q_) ε Q_ (R vs bs) ζ|BFv=>iM (qD a) (qD b)|BFw=>L.back (R1.grow gr) (sF.trans gr.f)|BFx=>by refine W.set_plain (s:=ACG) X J c.sa ?_|BFy=>TR.move ε t0 v a1 (V' (k a (HK ha))) q1|BFz=>HF ⟨ω,h4,fun j a b=>h5 j χ b⟩|BF_=>∀(MG){F0 H0 F H:Hp}{σ:St}{Γ:G2}(R:D_),_|BF'=>∀(MG){F F' :Hp}(e:C8),_|BGA=>(B_ (ce H1 s1.heap a cq) (I1.hok a _ ea))
|BGB=>by
 rw[t_] at e';rw[bC hb];split at e'
 ·exact e'
 ·exact ε b u e'
|BGC=>ji (ks.zip vs) k=some v|BGD=>∀i v,ε ->knd.is (val i) v=true/\AcX|BGE=>j_ ds tr BK6 Cx (E Γ1 Cx)|BGF=>AP5 DR c.Scale "scaled" 5 (ABg "x") XS|BGG=>(by repeat (first | show ue he | show ue hC | show ASX hC hcB | wp_step))|BGH=>∀{k:Nat}{A:Around}(r:ASA),_|BGI=>cx.px pins σ Γ1 F1 H1 s2 ε s'|BGJ=>∀(K:Frag)(f:Addr)(qual:Str),_|BGK=>hq a ds Pd Ex hsp|BGL=>SR K F1 H F1 H σ AKq|BGM=>ir Im F H σ Γ F1 H1|BGN=>envOfC qual scope s.heap.objs.size f cd|BGO=>(ax (bi ASy "append" ap2) Ae7 Xd)|BGP=>ADV (hm.heap S o hw e)|BGQ=>(AQ1 (∃x F',AQu/\WJ /\BK X.K F' H H' C dx x))|BGR=>∀(hA:∀ds vs,ADY ->Fm ->ė),_|BGS=>by refine DE (holding _ _) (Aeq (wpAny_call_entry slot_list_sort (HR hoL) entry_list_sort ε (args_list_sort _)))|BGT=>((V' (k a (by rcases zT.mp ha with z | z<;>simp [z]))))|BGU=>by ·have:=Ak.free b o eb n hx;simp [this]|BGV=>fun a ds Q Ex h=>ε h|BGW=>∀b o,Ω Q2 HA ε (b∉ex) ζ|BGX=>zyh I ASU hs he (ye0 ε hd (rel.put k ζ) JT)|BGY=>∀i h h',tn i h ->(M3 fp (∀o,Q2 ->sB)) ->tn i h'|BGZ=>by refine zp0 e1 ε hob hobc (ζ PySem.F.excBase_ValueError.hasBase) ?_|BGa=>tc Γ2 (fun w Γ3=>g' y w fun d=>P d Γ3) E|BGb=>ASl (∃a xs,vs= MB/\Aeu/\ (Sn ->R ε H1))|BGc=>(AQ1 (∃x F',(Fi x/\AQu)/\Gr K3 Fj F' H' /\BK X.K F' Fj H' C dx x))|BGd=>Ms.extBut _ _ ε (ζ _ _ c4 (hs3.extBut _ _ c2 (hs2.extBut _ _ c3 (hs1.extBut _ _ c1 η))))|BGe=>∀(K:W.Frag)(H:Hp)(a:Addr)(xs:Η),_|BGf=>∀(K:W.Frag) (F:Hp) (R:AJo) (v:V),_|BGg=>ĭ sC callerA (AH fa) AKV BLQ s₁|BGh=>∀{P:Α} {vs:Ο} {i:Nat} {m:B0},ε|BGi=>SlX K F H H0 as C fs ts o|BGj=>∀(Afh){xs ys:ES}{x y a b:Value},_|BGk=>BKU (K0 A3=K0 p.2/\(A3).Nodup/\K0 A3<=rows.length/\∀h,h∈A3↔h∈AeE)|BGl=>by have hp:=(zpa ASh es).length_eq|BGm=>fun c ob q n hc hx=>ε|BGn=>ε q loose (importedModules p.main.body) Xt true s|BGo=>∀(kvs:WO)(k:κ)(v:V),_|BGp=>∀(lt:eD)(p:XN)(r:Nat),_|BGq=>∀(ws:Α)(v:CL)(bs:vb),_|BGr=>fun pins s σ H Q I h=>ε|BGs=>ε c o (I.cne x c e) hc Ux ho ASQ|BGt=>hs i x σ _ (y xs q) p|BGu=>AKz D Ends (t D σ H) (ε st X.env) (SP X pins D)|BGv=>DI (∃(S:AU) (n:Int) (bs:Go),ε)|BGw=>[.Name "self" p6,.Attribute (û p7) fl p8]|BGx=>by show CS r h1 h2 G.hand hm hz;rw[<- h2];exact hr r h1|BGy=>BKn (fun u Γ3 F3 H3 R3 s3 h3=>ε)|BGz=>fun t v as F' H' gr nd hn rt hp=>kk t Γ1 F' H' v as ADW ARd nd BLL rt hp|BG0=>∀{kvs:WO}{vs:AJ'}(r:AJC)(k:κ){y:V}{u:Value}(ry:J'),_|BG1=>BK1 (∃a o kvs,v= AR/\AJp cq/\ (AIf ->R ε H1))|BG2=>∀(hg:HE)(hm:ASM)(hC:Ĕ)(hi:W.findIn X.K E_ "__init__" =some (BU FX)),_|BG3=>BK_ (ds= [ADo]/\FR/\RR/\ε/\ Aef/\∀ms x,AEb ->ζ)|BG4=>Hh acc J AEM (gX K g) (tX K tc) (ε K ζ) Q Ae_|BG6=>∀(A:Around) (i:Nat) (s:Shared) (Q:dW) (E:dW),AKh ->F7 it s ->BKs|BG7=>ε value slice pins s σ H _ _ v u Q I rx ry ⟨p,vs,_,w,rfl,rfl,ζ,ew,Ä tQ hp⟩ hs|BG8=>["rows","found","hands","sheets","hand","leaning"]|BG9=>∀j (g1:j<is1.toArray.size) (g2:j<is2.toArray.size),SeqAt.EqAt A.in1 s is1.toArray[j] is2.toArray[j] ((WF Afo) j)|BG_=>.of_wp fun prog w A R s h=>ε|BG'=>zw4 S hr.hd e0 ε r x|BHB=>Vz K g x y H Q|BHC=>ε (wV a1 b2) (wV b1 a2)|BHD=>∀(hu:RS)(hi:Aez)(ho:AK1),_
|BHF=>∀(he:MR)(hl:B7 QO lo tl)(hh:B7 QO hi th),_|BHG=>∃od,ε/\∀name,W.lookIn name od=some (mA name)|BHH=>(a k k*a i j - a i k*a k j).fdiv p|BHJ=>(fu CX P w K mg base N qual scope f cd A outer s H E)
|BHK=>by
 show Co
 ·subst r1 r2;cases rx;cases ry;exact ε (ADZ tP)
 ·exact h.elim
|BHL=>(backTo cpos (starEach args env)).any (·.1)=false|BHM=>EJ (dx≠x) (DC H' (XO x C (BU dx))) (H' dx=some ε) (∀b,b≠x ->b≠dx ->H' b=ζ b) AdZ|BHN=>fun j y v' e1 e2 e3=> ?_|BHP=>fun s' acc c' hm hS' hacc=> ?_|BHQ=>flat d d' v h r r'|BHR=>QQ ⟨F1,ds,_,R1.g,r1,h1,ε⟩|BHS=>V_ xs Η us Ο RA BKm ε|BHT=>∀{kindOf:Str ->F6 NameKind}{x:Str}{v:Value},_|BHV=>AP5 Qd "Sitting" c.ao 9 Afn K6|BHW=>AP5 Qe c.ao "table" 4 ["self"] Yt|BHX=>z.sameBut hs (cne y c e)|BHY=>XX (lr tl l (th Γ2 (fun u Γ3=>(I_ d ε ζ)) E))|BHZ=>(sortedHeap h a vs out).get?|BHa=>ha F1 H1 z lK (O7 cx) ε pins ζ|BHb=>Et (z16 B.nd l1 l2 (by rw[l1',l2',z]))|BHc=>IN t xs (Sn/\∀p,lS p ->F7 p (U2 p ε))|BHd=>fun D Γ _=>tb D Γ fun Γ1 Cv=>∃C,Cv.cls=C/\oJ K C/\Sl C Cd/\th ε ζ lK|BHe=>∀d z F' H',WJ ->ABl d z ->P d ->Q z H'|BHf=>ARL D (h pins s σ H D I AQ6)|BHg=>fun Γ=>(BLT (Nk (rows.take Bi) ws ps))|BHh=>fun c o c1 c2 c3 c4 e=>ε|BHi=>(by simp only [Rep] at r;obtain⟨a,vs,rfl,h1,_⟩:=r;cases d' <;>simp only [Rep] at r' <;>first | (cases hf;done) | (cases r';done) | (obtain⟨_,_,z,h2,_⟩:=r';cases z;exact(zw6 I ε ζ).elim))|BHj=>∀a vs,Ω di ε Q_ (R vs) (ζ F ks R v)|BHk=>fun i s Q E hi st hQ=>ε|BHl=>DI (∃(rows:A1) (ws:Α) (h:Str),ε)|BHm=>∀{rs:CA}{cs:At}{a f g:Row},_|BHn=>∀Γ' F' H' σ',Afj ->C8 ->P Γ' ->AeM|BHo=>∀{env:Env}{s:Shared}{f:Addr}{y:Str}{np cpos pos:Pos},_|BHp=>(fun a F0 hq=>by have hA:=hq.2 rfl;exact(bK #[zxa hA rfl gV OL (E3 Κ Kq)]))|BHq=>∀{xs:Η} {us:Ο} (n:Nat),RA ->Vals (ε n) (ζ n)|BHr=>∀{ds:Δ} {vs:Η} (n:Nat),Fm ->Iq (ε n) (ζ n)|BHs=>SO Mk2 "Scale" c.Scale "points" 4 AeR (QV c)|BHt=>SO Qn "Barred" c.bW "reach" 4 AR_ (T3 c)|BHu=>∀(hs:starEach ci X.env=EG (A7 a) (EF [b]):=by rfl)(hpl:ABc pos [b]:=by rfl),_|BHw=>TrY h B e cls dd fl
|BHx=>by
 intro hi;show TU (zU.mp ((h i).ε (zW _ hi))) rfl
 ·have:=ζ i hi;omega
 ·exact q
|BHy=>∀{K:Frag}{f:Addr}{x qual:Str}{st:Stmt}(h:ε K f qual=some (AfW Φ Φ none Φ Φ)),_|BHz=>NS (CF AI3==0&&PD==1) (ASe==items.size)|BH0=>v= .ref e/\BKc/\s₁.heap.get? e=some oe/\ASc/\Aen/\ε|BH1=>mH (Fk f) (Fk g)=Fk (CO (.tup [f i,g i]))|BH2=>∀{kvs:WO}{vs:AJ'}(r:AJC)(k:κ),_|BH3=>∀{ks:DL} {xs:Δ} {vs:Η},Ć ->ε|BH4=>∀{pins:eE}{σ:St}{H:Hp}{s:Shared},_|BH5=>fun vals h1 d tk hk hm hlt hold=> ?_|BH6=>[.ExceptHandler (BU (C5 x1 np1)) none (b1::yM) hp1,.ExceptHandler (BU (C5 x2 KZ)) none (b2::yN) hp2]|BH7=>{s with heap:=h',drawn:=d,toks:=tk}|BH8=>∃l xs ws F Pd ds,v= LG/\H2 l=some AeA/\a_ H2/\aK X.K F xs ws/\c0 F ds/\g xs ds Pd/\∀ys us,aK X.K F ys us ->Pd ys ->Q AE (upd H2 l Ad')|BH9=>zhm (scope:=sc) (env:=X.env) sc.names ε|BH_=>(by rcases h with ⟨_,z⟩ | ⟨_,z⟩ | ⟨_,z⟩ | ⟨_,_,_,z,_⟩ | ⟨_,z⟩<;>cases z)|BH'=>fd=BLF ε pm an cdv ct/\AfG (.func fd) osl/\BK9|BIA=>k _ Γ2 F2 H2 R2 P7 hp|BIC=>fun ε pins s σ H Q I q=>h ζ pins s σ H Q I AQ6
|BID=>by
 have hi:i<acc.size:=i8 ARz
 have:=hacc.2 i acc[i] (Array.getElem?_eq_getElem hi);rw[ε,ζ,this]
|BIF=>by refine zwv he I h (Ν v H1 hq) hbase hline|BIH=>Vv K F H H' dx fs ts|BII=>fun i v s' Q' E' hv hQ=> ?_|BIJ=>fun Γ3 F3 H3 σ3 R3 s3 q3=> ?_|BIK=>Tu (ACa h1 (fun l Γ2 F2 H2 R2 s2 h2=>ε))|BIL=>(kS (kS (kS hl2 hs1.extBut D.l2z) hs2.extBut D.l2i1) hs3.extBut D.l2TO)|BIM=>∀(d:D) (v:V),qX d ->LE ->Ts|BIN=>∀(ds:Δ) (vs:Η),ADY ->Fm ->ė|BIO=>fun hz=>k ds Γ1 F1 H1 _ R1 s1 ε h1|BIQ=>∃as fs ts,AJJ AfK/\f∉fs/\Aey/\Er (fs++ [f])=true/\ε|BIR=>∃i vs σ' H',Inv AEd [] σ' H' s' /\BKd/\ AKp/\ε|BIS=>vt ε e (fun c v _ q=>ζ) (Nd q AJz) (ve q AJz)|BIU=>z15 I S ε i x v h1 h2|BIV=>ε (xs:=vs) (fun i σ H=>Aes) BLM (fun i σ H _ hz=>by obtain⟨F2,Γ2,R2,s2,_⟩:=hz;exact ζ) (body ds vs rs I turn) ?_|BIW=>∀{P:Program}{w:World}{K:W.Frag}{mg:B0}{base:Heap},_|BIY=>∀(Fn:Adm Adv)(hr:si)(hb:AEU)(cx:Ab4),_|BIZ=>∀{z:Ov}{xe:dW}{D:Ends}{f:Flow},_|BIa=>∀{E:dW}{pins:eE}{s:Shared}{σ:St}{H:Hp}{x:Str}{u:Value}{pos:Pos}(AfC),_|BIb=>wpAny Ee A.in1 (Builtin.ObjectAttr.storeInDict dx BJ6 name v) (XB fin (fin= Aed Φ/\ACf)) AIt s'|BIc=>(Afe (W.fnOf name qual params body scope dV kV doc))|BId=>Im X.K F0 H0 F H σ Γ F1 H1|BIe=>∀{rows tZ :A1}{ms Nv :HZ}(h:ADc)(h' :CQ tZ Nv)(e:∀r,r∈rows↔r∈tZ),_|BIf=>["self","rows","rule","gap","scale","bounds","work","dealt"]|BIg=>by refine z6 (z0d X hC hi hf (Ģ h₂ (fun r s' hr=>⟨hr.1,z6 (wpAny_holding (wpAny_point (z7 ?_)))⟩) (FE z z)) hlen)
|BIh=>(by
 rw[show its.toArray.size=bs.length by simp [hl],ε]
 refine zn7 (s:=s) (v:= .bl (ζ id)) I BLJ rfl (k _ _ F H (Gr.refl sF) FH h)
 rcases AKQ with rfl | z
 ·exact BLI
 ·cases z)
|BIi=>(kI (kI (kI h2 hs1.extBut D.i2z) hs2.extBut D.i12.symm) hs3.extBut D.TOi2.symm)|BIj=>Ω TB Program World Nat (Ω LX Nat Shared Thread ε)|BIk=>ĵ (∃p xs i v,x= IR/\y= C7/\ε/\ĉ xs v/\Q v H)|BIl=>∀{K:W.Frag}{F:Hp}{a:Addr}{o:Obj}{ks:DL}{vs:Η}{xs:Δ}(e:Aee)(hkl:Q_)(rs:Ć)(hz:BH ARJ),_|BIm=>fun t v as F' H' gr nd hn r q=>ε|BIn=>by refine wpAny_call (z2b (f:=f) I1.kIn M.makes M.init (beq_iff_eq.mp M.fn) ?_)|BIo=>∀{n p M N:Nat}{A:OT}(BJg),_|BIp=>∀(C:Addr)(m:Str)(sp:dI)(te:cD)(t:cL),_
|BIq=>∀(hc:Cn)(hg:BKa)(hm:BKZ)(hg2:Gl X "set")(hm2:U' "set")(ha:ADs)(hb:bootBuiltins "sorted" =some (LZ "sorted"):=by show KP)
 (he:starEach [a] X.env=EG (A7 a) (EF []):=by rfl) (he2:starEach (sA Aca [a] pos2) X.env=EG (A7 Aev) (EF []):=by rfl),_
|BIr=>staticsOk (importedModules p.main.body) (boot_heap w.params) s.heap&&namesBound p s.heap&&gensDone s&&laidKept (boot_heap w.params) s.heap|BIs=>["enumerate","zip","dict_itemiterator","dict_reverseitemiterator","odict_iterator","itertools.zip_longest","itertools.pairwise"].contains|BIt=>∀(kV doc pm:Value) (an:Hb) (cdv ct:Value) (ε:ζ),η|BIu=>["_law_script","_law_rows_here","_law_sitting_here","_law_rule_here","_law_gap","_law_worths_here","_law_table","_law_one","_law_other"]|BIw=>SO Xo2 "Open" c.Open "work" "apart" "work" "apart" 1|BIx=>Ñ {s with heap:=h',gens:=g',drawn:=d',toks:=t'}|BIy=>fin s.heap s.drawn ε [] ζ D3 (AK2) (fun p q=>by cases q)|BIz=>fun pins s σ H v u Q I r q=>rS h v u Q I r (M0 hi q)|BI0=>⟨Gr.refl s2,NH ε List.length_map R.len,NM i s,fun i j a hz=>by obtain⟨s,o,e,_,h⟩:=hz;exact BLO⟩|BI1=>∀(c:Ĕ)(n:X0)(ha:PE X o ta)(hv:Ae9)(hs:ASm o),_|BI2=>BLV (ho pins s2 σ H2 x y v u Q I2 rx ry q)|BI3=>ε (envOfC qual scope s.heap.objs.size f cd).kindOf (ps.zip us) Ad_|BI4=>(.of (owner:= "set_iterator") (n:= ε) (AfV) L' L' L' (by first | show CB L' | show CU L') BKz)|BI5=>∃h' tk acc c',r= .ok (.ret d_)/\s' =S_/\ (Of AR4 (ADm s.heap.push jN) sB)/\AfT acc c'/\ItemsOf Afb acc es.size|BI6=>fun Γ3 F3 H3 σ3 R3 s3 hz=>by obtain⟨m',l,w3⟩:=hz;exact⟨m',l,F3,Γ3,R3,s1.trans (s2.trans s3),w3⟩|BI7=>∀(l b:Addr)(items items2:ES)(n n2:Nat)(dd dd2:Hb)(sl sl2:vn)(x y:Str)(t u:Tok)(h1:EE items 0 AKv)(h2:EE items2 0 (.str y u))(hxy:x≠y),_|BI8=>∀(X:Cx)(pins:eE)(σ:St)(tg:Expr)(R:ADH)(itv:Value)(s2:Shared),_|BI9=>⟨_,_,rfl,rfl,rfl,rfl,rfl,rfl,rfl,AS,AS,AS,AS⟩|BI_=>⟨⟨oc,od,_,_,_,_,_,_,sl,ε,e,c⟩,k⟩|BI'=>⟨fun _ _ _ _ _ _ _ _ _ _ h=>by obtain⟨_,_,_,_,_,_,_,_,_,_,_,_,_,_,_,_,_,_,_,_,h⟩:=h;exact h.elim,ε⟩|BJA=>ε bZ cj aB bI bF bN bw aO bA aH aQ aJ|BJB=>∀(gA:Aep)(iJ:Hz K c.fM)(je:AA zom)(cj:Ą)(jh:BLE)(fL:aM K c.bW "reach"),_
theorem aad{α:Type _}{a:α}{P:Prop}(e:none=some a):P:=T1
theorem aae{α:Type _}{a:α}{P:Prop}(e:GU some):P:=T1
theorem aaf{P:Prop}(e:E4 true):P:=T1
theorem aag{P:Prop}(e:false=true):P:=T1
theorem aah{α:Type _}{a:α}{l:A0}{P:Prop}(e: []=DU):P:=T1
theorem aai{α:Type _}{a:α}{l:A0}{P:Prop}(e:DU= []):P:=T1
theorem aaj{α:Type _}{a:α}{P:Prop}(e:a∈ ([]:A0)):P:=T1
local macro_rules|`(tactic|omega)=>`(tactic|first|lia|omega (splitDisjunctions:=true))
local macro_rules|`(tactic|cases $e:ident)=>`(tactic|first|subst $e|exact aad $e|exact aae $e|exact aag $e|exact aaf $e|exact aai $e|exact aah $e|exact aaj $e|exact False.elim $e|(have hx:=Option.some.inj $e;subst hx)|(have hx:=List.cons.inj $e;obtain⟨rfl,rfl⟩:=hx)|(have hx:=Prod.mk.inj $e;obtain⟨rfl,rfl⟩:=hx)|(have hx:=Prod.mk.inj (Option.some.inj $e);obtain⟨rfl,rfl⟩:=hx)|cases ($e))
local macro_rules|`(tactic|show $t)=>`(tactic|refine(?_: $t))
abbrev dW:=BN PySem.Value PySem.Shared
abbrev eE:=UZ PySem.Addr PySem.Obj
section
open PySem PySem.Spec PyProof.Rows
abbrev z6:= @wpAny_bind
abbrev z7:= @wpAny_pure
abbrev z8:= @Heap.get?_push_of_some
abbrev z9:= @Heap.get?_push_size
abbrev zZ:= @List.getElem?_eq_getElem
abbrev zY:= @List.mem_cons_self
abbrev zW:= @List.mem_cons_of_mem
abbrev zV:= @List.getElem?_eq_some_iff
abbrev zU:= @List.mem_cons
abbrev zT:= @List.mem_append
abbrev zR:= @List.mem_singleton
abbrev zQ:= @List.mem_append_right
abbrev zP:= @List.mem_append_left
abbrev zO:= @Nat.le_trans
abbrev zN:= @Nat.le_refl
abbrev zM:= @Nat.lt_of_lt_of_le
abbrev zL:= @Nat.lt_of_le_of_lt
abbrev zK:= @Nat.ne_of_lt
abbrev zJ:= @Bool.false_ne_true
abbrev zG:= @Heap.lt_size
abbrev zF:= @Option.some.inj
abbrev zE:= @Option.map_eq_some_iff
abbrev zB:= @List.mem_map
abbrev zA:= @List.mem_filter
abbrev yZ:= @Heap.get?_push_ne
abbrev yX:= @List.cons.inj
abbrev yV:= @List.mem_of_getElem?
abbrev yU:= @List.getElem_mem
abbrev yS:= @Nat.lt_irrefl
#where
namespace L2
open PySem PySem.Spec PyProof.Rows
def Gy(s:Stmt)(j:Nat):Stmt:=match s with
 | .ClassDef _ _ _ body _ _ _ _ _ _ _=>body.getD j (.Pass Aaz)
 | _=> .Pass Aaz
def JM(s:Stmt):Arguments:=match s with
 | .FunctionDef _ a _ _ _ _ _ _ _ _=>a
 | _=>{posonlyargs:= [],args:= [],vararg:=none,kwonlyargs:= [],kw_defaults:= [],kwarg:=none,defaults:= []}
def xq(s:Stmt):PU:=match s with
 | .FunctionDef _ _ b _ _ _ _ _ _ _=>b
 | _=> []
def aX(s:Stmt):Scope:=match s with
 | M0 .FunctionDef _ _ sc _ _ _=>sc
 | _=>{kind:= ABr,names:= [],isGenerator:=false,isCoroutine:=false}
#print L2
namespace L3
open PySem PySem.W PyProof.Rows L2
abbrev Kc:Ο:= AdP
def m5(x5):Bool:=ck (K.lookup C) (Awn (.cls cd) sl) (match cd.mro,sl.toList with
  | .ref C' ::bm,[_,_,_,_,some (LZ n),_]=>C' ==C&&n== "ValueError.__new__" && ! cd.hasDel&&W.tailIn K Kc bm
  | _,_=>false)
def bO(K:W.Frag)(C D:Addr):Bool:=ck (K.lookup C) (some (Mn _ (.cls cd) _)) (cd.mro.contains (AH D))
def Ep(x5):Bool:=ck (K.lookup C) (Awn (.cls cd) _) (ck cd.mro (.ref C' ::_) (C' ==C))
def isV(o:BL7)(s:String):Bool:=ck o (some (.val (LZ t))) (t==s)
#print L3
namespace Hd
open PySem PySem.W PySem.Calls PyProof.Rows L2 L3
noncomputable section
def Gz:pr AgB Frag
 | _,[]=> []
 | i,o::r=>AEW o.isFreed (Gz Bi r) ((i,o)::Gz Bi r)
def cut(h:Heap)(_:Nat):Frag:=Gz 0 h.objs.toList
def treeOf:AgB ->Nat ->BT ->BT
 | [],_,t=>t
 | o::r,i,t=>treeOf r Bi (t.ins i o)
abbrev ann:LX:=some (AH 6)
abbrev z:Pos:=Aaz
def env(p:Program):Env:={scope:=p.main.scope,locals:=mainNs,globals:=mainNs,cells:= [],code:= .ref 13,frame:=some 14}
def cB(p:Program):Code:= .body (behindTheImports p) (env p)
def S0(APR):Shared:=BFp
def Sa(x:A2v)(w:World)(os:OsState):Shared:=AN' x y y.1 (S0 w os)
def Ta(s:Shared):SharedT:=⟨treeOf s.heap.objs.toList 0 CC,15,s.heap.life,s.gens,s.drawn,s.toks,s.os⟩
abbrev TB:=String ->F6 Builtin
abbrev GoT:=BIj A2v
abbrev aak:=TB ->Ω Program World Nat LX (Ω Nat Nat SharedT Thread (Option (Flow×SharedT×Code×Pos)))
abbrev aal:=BIj (F6 Shared)
def fore(tb:TB)(GO:GoT)(p:Program)(w:World)(os:OsState):Shared:=Sa (GO tb p w 11 ann 12 Akh AiN) w os
def shot{α:Type}(tb:TB)(GO:GoT)(RUN:aak)(TOP:aal)(EXS:PU ->Env ->Sem Flow)(p:Program)(obs:Shared ->α)(w:World)(os:OsState):Option ((Flow×Code)×α):=
 (RUN tb p w 11 ann 1 30000 (Ta (fore tb GO p w os)) ⟨(EXS Atx (env p)).wrap doneF deadEnd id id,cB p,z,AOA⟩).bind (T_ ((TOP tb p w 11 ann 2 (x.2.1).abs ⟨doneF .next,x.2.2.1,x.2.2.2,AOA⟩).map fun s=>((x.1,x.2.2.1),obs s)))
def rest{α:Type}(SEEN:YI Program Α Α (Shared ->Bool) Bool Shared α)(p q:Program)(loose:Α)(Xt:Shared ->Bool){β:Type}(obs:Frag ->β)(n:Nat)(w:World)(s:Shared):Bool×α×β:=
 (BIr,BGn SEEN,AbK)
def adr(A0c):Addr:=match x with | Aei FX=>f | _=>0
def isRef(A0c):Bool:=ck x (Aei (AH _)) true
def allB:Ń ->Bool
 | []=>true
 | b::l=>AEW b (allB l) false
def nth(l:Ń)(i:Nat):Bool:=match l,i with
 | [],_=>true
 | b::_,0=>b
 | _::l,BM=>nth l i
def bare(fd:FuncData):FuncData:={fd with kwdefaults:= Φ,doc:= Φ,pyModule:= Φ,annotations:=none,code:= Φ,closureTuple:= Φ}
def fnO(BGJ):ALS:=ALo (K.lookup f) (Mn _ (.func fd) _) (AEW (codeIn K fd.code qual&&keepIn K FX) (some (bare fd)) none) none
def Ul(K:Frag)(v:Value):Bool:=ck v (.ref T) (ck (K.lookup T) (some ⟨KM t,_,.seq xs _,_⟩) (t== "tuple" &&(ck xs.toList [Φ] true)))
def fnD(BGJ):ALS:=(fnO K f qual).bind fun fd=>(AEW (Ul K fd.defaults) (some {fd with defaults:= Φ}) none)
def Um(K:Frag)(x:Str):ALS:=BEy fnO
def fnM(K:Frag)(x:Str):ALS:=BEy fnD
abbrev ex(x qual:Str)(st:Stmt):ALS:=some (AfW Φ Φ none Φ Φ)
abbrev d(x:Str)(s:Stmt):Str×Stmt:=(x,s)
def seen(K:Frag)(ds:AUg):ARW:=ds.map fun d=>Um K d.1
def due(ds:AUg):ARW:=ds.map fun d=>BA'
def recOf(s:Stmt):DefRec:=match s with
 | .FunctionDef n a b _ _ _ sc _ _ ps=>⟨n,a,b,sc,ps⟩
 | _=>⟨Str.empty,JM s,[],aX s,z⟩
def uY:Ο ->AG8 ASq
 | []=>ATq
 | AOL::r=>Au uY r (.inl i:: ·)
 | AmH::r=>Au uY r (.inr x:: ·)
 | _=>none
def tupO(K:Frag)(a:Addr):AG8 ASq:=ALo (K.lookup a) ⟨KM t,_,.seq xs _,_⟩ (HI t "tuple" (uY xs.toList) none) none
def pW(w:World)(kvs:AH2 Α):AG8 (Int×Str×Α):=some (kvs.map fun p=>(hashStr w A3,A3,p.2))
#where
#print Hd
local macro_rules | `(tactic| nofun)=> `(tactic| exact ⟨rfl,rfl,rfl,by decide+kernel,rfl,by decide+kernel,by decide+kernel⟩)
namespace Lw
open PySem PySem.Spec PyProof.Rows L2 L3
def top(xo):Stmt:=PySem.Challenge.pw_hall_k93_whole_order_kept.main.body.getD i (.Pass Aaz)
abbrev zcl:Stmt:=AAc 3
abbrev ze8:Stmt:=AAc 4
abbrev zze:Stmt:=top 18
abbrev zet:Stmt:=top 25
abbrev zes:Stmt:=AAc 5
abbrev Zj:Stmt:=AAc 2
abbrev zjb:Stmt:=top 77
abbrev zmz:Stmt:=top 74
abbrev zic:Stmt:=top 78
abbrev zl4:Stmt:=top 79
abbrev zf4:Stmt:=top 75
abbrev zpp:Stmt:=top 76
abbrev zmg:Stmt:=top 82
abbrev zs9:Stmt:=top 59
abbrev Zk:Stmt:=top 58
abbrev Uo:Stmt:=Gy (top 61) 0
abbrev Zm:Stmt:=top 32
abbrev Zn:Stmt:=top 31
abbrev zqn:Stmt:=top 28
abbrev zth:Stmt:=top 30
abbrev zo4:Stmt:=top 12
abbrev Zo:Stmt:=top 35
abbrev Zq:Stmt:=top 39
abbrev Zr:Stmt:=top 38
abbrev zme:Stmt:=top 13
abbrev zjd:Stmt:=top 37
abbrev yir:Stmt:=top 36
abbrev Ur:Stmt:=top 34
abbrev Zt:Stmt:=top 44
abbrev zju:Stmt:=top 67
abbrev Us:Stmt:=top 66
abbrev z70:Stmt:=top 14
abbrev zzn:Stmt:=top 19
abbrev Zu:Stmt:=top 46
abbrev Zv:Stmt:=top 45
abbrev zy0:Stmt:=top 15
abbrev zjl:Stmt:=top 48
abbrev Zw:Stmt:=top 47
abbrev Rt:Stmt:=top 43
abbrev Zx:Stmt:=top 41
abbrev zeh:Stmt:=Gy (top 9) 0
abbrev zzh:Stmt:=top 16
abbrev z4n:Stmt:=top 17
abbrev zou:Stmt:=top 60
abbrev ze7:Stmt:=Gy (top 61) 1
abbrev zdi:Stmt:=AAc 6
abbrev z40:Stmt:=top 20
abbrev zfc:Stmt:=top 52
abbrev zy2:Stmt:=top 56
abbrev zpe:Stmt:=top 55
abbrev z5q:Stmt:=top 54
abbrev zsr:Stmt:=top 53
abbrev Zy:Stmt:=top 21
abbrev Lx:Stmt:=top 51
abbrev Zz:Stmt:=AAc 1
abbrev ZC:Stmt:=top 23
abbrev zyg:Stmt:=top 65
abbrev Ru:Stmt:=Gy (top 8) 0
abbrev ZD:Stmt:=top 64
abbrev ZF:Stmt:=top 63
abbrev ZG:Stmt:=top 70
abbrev Ut:Stmt:=top 69
abbrev z8t:Stmt:=top 68
abbrev Ly:Stmt:=AAc 0
abbrev zhz:Stmt:=top 81
abbrev zgj:Stmt:=top 83
abbrev ZJ:Stmt:=top 42
abbrev zhh:Stmt:=top 84
abbrev zc4:Stmt:=top 80
abbrev zm0:Stmt:=top 85
abbrev Aa:Stmt:=top 86
def ds:AUg:= [Hd.d "under" zze,Hd.d "_law_names" zjb,Hd.d "_law_cell" zmz,Hd.d "_law_marked" zic,Hd.d "_law_rows" zl4,Hd.d "_law_divisor" zf4,Hd.d "_law_low" zpp,Hd.d "_law_rule" zmg,Hd.d "climbs" zs9,Hd.d "is_scale" Zk,Hd.d "meet" Zm,Hd.d "joined" Zn,Hd.d "by_work" zqn,Hd.d "groups" zth,Hd.d "divisor" zo4,Hd.d "whole_row" Zo,Hd.d "without" Zq,Hd.d "cleared" Zr,Hd.d "fraction" zme,Hd.d "exchanged" zjd,Hd.d "led" yir,Hd.d "solved" Ur,Hd.d "sheets_with" Zt,Hd.d "is_within" zju,Hd.d "reached" Us,Hd.d "plus" z70,Hd.d "total" zzn,Hd.d "share" Zu,Hd.d "shares" Zv,Hd.d "minus" zy0,Hd.d "mean_mark" zjl,Hd.d "excess" Zw,Hd.d "group_leanings" Rt,Hd.d "leanings" Zx,Hd.d "times" zzh,Hd.d "over" z4n,Hd.d "between" zou,Hd.d "mean" z40,Hd.d "least_number" zfc,Hd.d "width" zy2,Hd.d "nearest" zpe,Hd.d "pair" z5q,Hd.d "middle" zsr,Hd.d "rising" Zy,Hd.d "reach" zyg,Hd.d "number_from" ZD,Hd.d "ends" ZF,Hd.d "rests_behind" ZG,Hd.d "greatest_cuts" Ut,Hd.d "cuts" z8t,Hd.d "_law_bounds" zhz,Hd.d "_law_sitting" zgj,Hd.d "levelled" ZJ,Hd.d "_law_worths" zhh,Hd.d "_law_scale_points" zc4,Hd.d "_law_kept" zm0,Hd.d "law" Aa]
def fts(AG9):Ń:= [
 hZ "Apart",
 hZ "Few",
 hZ "HallError",
 hZ "Open",
 hZ "Barred",
 hZ "Sitting",
 hZ "Scale",
 A7W "Sitting",
 AVi "Sitting",
 kT W.plainOver "Sitting",
 AaD ABb,
 kT W.makesIn "Sitting",
 Μ (Mc W.keepIn ABb),
 A7W "Scale",
 AVi "Scale",
 kT W.plainOver "Scale",
 AaD u_,
 kT W.makesIn "Scale",
 Μ (Mc W.keepIn u_),
 AAP "marks",
 AAP "kept_borders",
 è u_ "points",
 è ny "work",
 è ny "apart",
 AAP "kept_leanings",
 AAP "scale",
 AAP "rule",
 AAP "gap",
 è ww "reach",
 AAP "sheets",
 Av9,
 AJf ny "__getattribute__" "BaseException.__getattribute__",
 è ny "__getattr__",
 AJf ny "__class__" "object.__class__",
 AZi ALj ALz,
 AZi ALj AJr,
 AaD ny,
 AVi "Open",
 Av_,
 AJf ww "__getattribute__" "BaseException.__getattribute__",
 è ww "__getattr__",
 AJf ww "__class__" "object.__class__",
 AZi ALk ALz,
 AZi ALk AJr,
 AaD ww,
 AVi "Barred",
 Μ (W.specialIn K BMW "__getattribute__" =some Awk),
 Μ (Azs BMM),
 Μ (L3.isV (W.findCls K BMW AeF "__init__") "ValueError.__init__" =true),
 AAb "must_have",
 AAd "must_have",
 AAb "mark",
 AAd "mark",
 AAb "grade",
 AAd "grade",
 AAb "table",
 AAd "table",
 Aiz u_,
 Ai3 u_,
 Aiz ny,
 Ai3 ny,
 AcH u_ "scaled",
 AcJ Az2,
 AAb "leaning",
 AAd "leaning",
 AAb "reckoned",
 AAd "reckoned",
 Aiz ww,
 Ai3 ww,
 AAb "__init__",
 AAd "__init__",
 hZ "grade_borders",
 hZ "borders_borders",
 Μ (AbU AT1),
 Μ (AbU AT2),
 Μ (AbU BMM),
 kT Ep "Open",
 kT Ep "Barred",
 OI "enumerate",
 OI "len",
 OI "sorted",
 OI "range",
 OI "int",
 OI "abs",
 OI "all",
 OI "zip",
 OI "tuple",
 OI "any",
 OI "list",
 OI "set",
 OI "sum",
 OI "reversed",
 OI "max",
 hZ "NO_GAP",
 Μ (Hd.tupO K (Hd.adr (AcP W.nsIn "NO_GAP"))=some [.inl 0,.inl 1]),
 Μ (Sl AT1 AT1),
 Μ (E4 (bO K AT2 AT1)),
 Μ (Sl AT2 AT2),
 Av9,
 Av_,
 Μ (Sl ALj ALj),
 Μ (E4 (bO K ALk ALj)),
 Μ (Sl ALk ALk)]
def obs(AG9):A_J:=(Hd.allB (fts K),
 Hd.seen K ds,[AAQ "must_have" "Sitting.must_have",
  AAQ "mark" "Sitting.mark",
  é (aw "grade_borders") "grade",
  AAQ "grade" "Sitting.grade",
  AAQ "table" "Sitting.table",
  é (Å u_ "__init__") "Scale.__init__",
  é (Å ny "__init__") "Open.__init__",
  é Az2 "Scale.scaled",
  AAQ "leaning" "Sitting.leaning",
  Hd.fnM K "worth",
  AAQ "reckoned" "Sitting.reckoned",
  é (aw "borders_borders") "borders",
  é (Å ww "__init__") "Barred.__init__",
  AAQ "__init__" "Sitting.__init__"])
def good(AOk):A_J:=(true,Hd.due ds,
 [Hd.ex "must_have" "Sitting.must_have" zcl,
  Hd.ex "mark" "Sitting.mark" ze8,
  Hd.ex "grade" "grade" zet,
  Hd.ex "grade" "Sitting.grade" zes,
  Hd.ex "table" "Sitting.table" Zj,
  AVf "Scale.__init__" Uo,
  AVf "Open.__init__" zeh,
  Hd.ex "scaled" "Scale.scaled" ze7,
  Hd.ex "leaning" "Sitting.leaning" zdi,
  Hd.ex "worth" "worth" Lx,
  Hd.ex "reckoned" "Sitting.reckoned" Zz,
  Hd.ex "borders" "borders" ZC,
  AVf "Barred.__init__" Ru,
  AVf "Sitting.__init__" Ly])
abbrev pg:Program:=PySem.Challenge.pw_hall_k93_whole_order_kept
abbrev lw:W.OpenLaw:=PySem.Challenge.rw_hall_k93_whole_order_kept
abbrev vw:Program:=W.view pg [86]
def loose:Α:=pg.boundNames.filter fun x=>x != "law"
theorem hd_e:W.opening pg=W.plainProg pg.main.scope.names:=UC
theorem hd_f(s:Shared):PySem.fenceModules? pg s=some s:=UC
theorem hd_A(APR):W.topGo treeTable pg w 11 Hd.ann 12 (Hd.S0 w os) (W.topStub pg)=some (Hd.fore treeTable W.topGo pg w os,⟨denote treeTable (Hd.cB pg),Am0,Hd.z,A2'⟩):=by
 show BLc PySem.W.Fast.te11892475500146522536 PySem.W.Fast.te14364793385576792824;kernel_rfl
theorem hd_B(APR):W.segRun treeTable pg w 11 Hd.ann 1 1 A_b (W.blockOf (W.behindTheImports pg) (Hd.env pg) (Hd.cB pg) Hd.z A2')=some (uk,Hd.fore treeTable W.topGo pg w os,Am0,Hd.z):=by
 show BLc PySem.W.Fast.te14374325043358763698 PySem.W.Fast.te14364793385576792824;kernel_rfl
theorem hd_C(APR):(Hd.Ta A_b).abs=Hd.fore treeTable W.topGo pg w os:=by
 rw[PySem.W.Fast.te15667345088766844465,PySem.W.Fast.te14364793385576792824];kernel_rfl
theorem hd_D(APR):Hd.shot treeTable W.topGo W.segRunT W.topRun execs pg (Hd.rest W.openSeen pg vw loose (BQ true) obs 1500 w) w os=some (A4U Am0 (W.openGood vw loose)):=by
 rw[PySem.W.Fast.te15667345088766844465,PySem.W.Fast.te10110043849684766642,PySem.W.Fast.te14082659384304107361,PySem.W.Fast.te12563942051412417395,PySem.W.Fast.te4187177175401517315,PySem.W.Fast.te14364793385576792824];kernel_rfl
theorem hd_s:lw.row.wellSaid=true:=UC
theorem hd_said:lw.wellSaid=true:=by
 unfold W.OpenLaw.wellSaid;rw[hd_s]
 kernel_rfl
theorem hd_ok:NS (W.chainsOk vw&&W.opensWell lw.row.prog) (W.frees lw.row.toRowW&&lw.row.within.isEmpty):=UC
theorem hd_bare:lw.row.prog.bare:=eQ rfl rfl rfl rfl v_
theorem hd_d:W.defOf vw lw.row.name=some (Hd.recOf Aa,[]):=UC
theorem hd_p:lw.row.prog.theDef lw.row.name=some (AAu params,AAu body,AAu scope):=UC
theorem hd_k:W.kwWritten? (AAu params.kwonlyargs) (AAu params.kw_defaults)=some []:=UC
theorem hd_n:AAu name= "law" :=UC
theorem hd_z:AAu params.defaults= []:=UC
#print Lw
namespace L2
open PySem PySem.Spec PyProof.Rows
abbrev Key:=Sum Int Str
def uZ:Key ->Value ->Bool
 | .inl k,v=>Value.isInt k v
 | ku,v=>Value.isStrOf x v
def aam(AOk):Key ->Int
 | .inl k=>hashInt k
 | ku=>hashStr w x
theorem Cg:HP k Key v Value (uZ k v=true) ((∃i t,k=Sum.inl i/\v=AX7)\/ (∃x t,k=Sum.inr x/\v=AX_))
 | AEx,v,h=>by
  show JY t (Value.isInt_shape (k:=i) (v:=v) h);exact .inl (NV i t e)
 | ku,v,h=>by
  show JY t (Value.isStrOf_shape (x:=x) (v:=v) h);exact .inr (NV x t e)
theorem z6l(i:Int)(t:Tok):uZ (D9 i) ARl=true:=QY uZ Value.isInt
theorem z5i(x:Str)(t:Tok):uZ (DH x) AKv=true:=QY uZ Value.isStrOf
theorem ylw(a b:Int):ATa Sum.inl Sum.inl=(a==b):=by
 show GG a b
 ·subst e;simp
 ·show gN h (¬(Sum.inl a:Key)=Sum.inl b) (e (Sum.inl.inj q));rw[BLy];exact Tb beq_eq_false_iff_ne.mpr e
theorem yl5(a b:Str):pE (ATa Sum.inr Sum.inr) (a=b):=by
 show GG a b
 ·subst e;simp
 ·show gN h (¬(Sum.inr a:Key)=Sum.inr b) (e (Sum.inr.inj q));rw[BLy,BMS]
theorem ykp(a:Int)(b:Str):E4 (ATa Sum.inl Sum.inr):=A8K
theorem yj1(a:Str)(b:Int):E4 (ATa Sum.inr Sum.inl):=A8K
def pG(prog:Program)(w:World):PySem.KeyKind prog w Key where
 is:=uZ
 hash:=aam w
 inj:=fun v a b ha hb=>by
  rcases Cg ha with ⟨i,t,rfl,rfl⟩ | ⟨x,t,rfl,rfl⟩
  ·rcases Cg hb with ⟨j,u,rfl,e⟩ | ⟨y,u,rfl,e⟩
   ·injection e with e1 _;rw[e1]
   ·exact T1
  ·rcases Cg hb with ⟨j,u,rfl,e⟩ | ⟨y,u,rfl,e⟩
   ·exact T1
   ·injection e with e1 _;rw[e1]
 byValue:=fun k v h=>by
  rcases Cg h with ⟨i,t,rfl,rfl⟩ | ⟨x,t,rfl,rfl⟩<;>rfl
 pyHash:=fun hv h=>by
  rcases Cg hv with ⟨i,t,rfl,rfl⟩ | ⟨x,t,rfl,rfl⟩
  ·exact wpAny_pyHash_int h
  ·exact wpAny_pyHash_str h
 eqBool:=fun hu hv h=>by
  rcases Cg hu with ⟨i,t,rfl,rfl⟩ | ⟨x,t,rfl,rfl⟩
  ·rcases Cg hv with ⟨j,u,rfl,rfl⟩ | ⟨y,u,rfl,rfl⟩
   ·rw[ylw] at h;exact wpAny_eqBool_int h
   ·rw[ykp] at h;exact SeqAt.EqAt.int_str i t y u _ _ _ _ h
  ·rcases Cg hv with ⟨j,u,rfl,rfl⟩ | ⟨y,u,rfl,rfl⟩
   ·rw[yj1] at h;exact SeqAt.EqAt.str_int x t j u _ _ _ _ h
   ·rw[yl5] at h;exact wpAny_eqBool_str h
 «strs»:=fun k x t v h=>by
  rcases Cg h with ⟨i,u,rfl,e⟩ | ⟨y,u,rfl,e⟩
  ·exact T1
  ·injection e with e1 _;subst e1;cases v<;>rfl
theorem zym(prog:Program)(w:World)(i:Int)(t:Tok):AK7 pG (D9 i) ARl=true:=z6l i t
theorem zpr(prog:Program)(w:World)(x:Str)(t:Tok):AK7 pG (DH x) AKv=true:=z5i x t
inductive V where
 | non | bl (b:Bool) | int (i:Int) | str (x:Str) | Uu (b:Array UInt8) | flt (b:UInt64) | ref (a:Addr) | ty (n:String)
 deriving DecidableEq
def RelV:BN V Value
 | AE,u=>Avq
 | Y1,u=>Au0
 | C7,u=>tj AX7
 | fh,u=>tj AX_
 | .Uu b,u=>tj (Value.bytes b t)
 | .flt b,u=>tj (Value.float b t)
 | AR,u=>Ab2 u
 | .ty n,u=>A4b
abbrev Vals:BN Η Ο:=Paired RelV
theorem Vals.length{xs:Η}{us:Ο}(r:RA):Au8:=BMp
theorem Vals.get:∀{xs:Η} {us:Ο} {i:Nat} {x:V},RA ->jp ->∃u,Ch us u/\mT
 | _,_,_,_,CC,e=>AMk
 | _,_,0,_,.cons r _,e=>by simp at e;subst e;exact NG r
 | _,_,BM,x,Nc _ t,e=>by
  show CS u h1 h2 (Vals.get (i:=i) (x:=x)) t Ŕ
  exact⟨u,As h1,h2⟩
theorem Vals.set{x:V}{u:Value}(r:mT):∀{xs:Η} {us:Ο} (i:Nat),RA ->Vals (xs.set i x) (us.set i u)
 | _,_,_,CC=> CC
 | _,_,0,Nc _ t=> AAa
 | _,_,BM,.cons q t=> .cons q (Vals.set r i t)
theorem Vals.append:∀{xs ys:Η} {us ws:Ο},RA ->Vals ys ws ->Vals AnW (us++ws)
 | _,_,_,_,CC,s=>s
 | _,_,_,_,AAa,s=> .cons r (Vals.append t s)
theorem Vals.take:BHq xs.take us.take
 | _,_,0,_=> CC
 | _,_,_+1,CC=> CC
 | _,_,n+1,AAa=> .cons r (Vals.take n t)
theorem Vals.drop:BHq xs.drop us.drop
 | _,_,0,r=>r
 | _,_,_+1,CC=> CC
 | _,_,n+1,Nc _ t=>Vals.drop n t
def nW:BN MU LX
 | uA,ALe=>LM
 | none,none=>True
 | _,_=>False
def KV{κ:Type}:BN WO AJ':=Paired fun(p:κ×V) (q:κ×Value)=>A3=q.1/\RelV p.2 q.2
def kV:Key ->V
 | AEx=> C7
 | ku=> fh
inductive HO where
 | lst (xs:Η)
 | tup (xs:Η)
 | dK (kvs:WI) | dT (kvs:vE)
 | set (S:Int ->Bool) (n:Nat)
 | ins (C dx:Addr) (fs:fw)
 | own (x:Addr)
 | xd (fs:fw)
 | met (f x:Addr)
 | rng (lo hi:Int)
 | frz (o:Obj) (u:HO)
 | Kd (ps:ES)
 | ext (φ:AgV)
abbrev Hp:=Addr ->F6 HO
def upd(H:Hp)(a:Addr)(o:HO):Hp:=RY (HI b a (some o) (H b))
theorem gG{H:Hp}{a:Addr}{o:HO}:upd H a o a=some o:=AhH upd
theorem bC(A_W){o:HO}(h:IQ):upd H a o b=H b:=wt upd e9
theorem ym0(A_W){o u:HO}(h:AUR)(h' :wn)(d:o≠u):a≠b:=by
 intro e;subst e;rw[h] at h';exact d (zF h')
theorem gP{H:Hp}{a b:Addr}{o:HO}(h:AUR)(h' :HA):a≠b:=by
 intro e;subst e;rw[h] at h';cases h'
section
variable(P:Program)(w:World)
def bG(H:Hp)(h:Heap)(a:Addr):DB HO
 | UI=>Sn/\AsD (ADP/\SW AEQ)
 | PH=>Sn/\∃its:Ο,ADP/\AhX IsTup h
 | .dK kvs=>Arb
 | .dT kvs=>ARo (∃xs:AEZ,
   Paired (fun(p:DL×V) (q:DL×Addr×Value)=>BBi) kvs xs/\
   ∃o es ep,oS/\o.ExactDict/\AjT/\es.toList=xs.map (entryOfKey (tupleKind ü))/\ (xs.map (·.1)).Nodup)
 | .set S n=>h.SetOf (intKind P w) a S n
 | .ins C dx fs=>AmN/\Atq/\dx≠a/\SW Ajx/\
   ∃mA,Aaa/\ (∀f,Asm)/\AxS
 | .own _=>∃o,oS
 | .xd fs=>∃mA,h.Ns1 a mA/\∀f,Asm
 | .rng lo hi=>∃t u v,SW AdO
 | .frz o u=>oS/\bG H h a u
 | .Kd ps=>A8W
 | .met f x=>Azz Sr
 | .ext φ=>φ h/\ (∃o,oS)/\∀h1 h2:Heap,φ h1 ->(∀o,la h1.get? ->la h2.get?) ->φ h2
def ou(H:Hp)(h:Heap):Prop:=∀a o,AUR ->o6 o
#where
section
variable{P:Program}{w:World}{H H' :Hp}{h h' :Heap}{a:Addr}{o:HO}
theorem bG.lt(x:o6 o):AjV:=by
 cases o with
 | lst xs=>show Af2 x;exact J_
 | tup xs=>obtain⟨_,_,_,p⟩:=x;exact p.lt
 | dK kvs=>obtain⟨_,_,_,_,o,_,_,e,_⟩:=x;exact J_
 | dT kvs=>obtain⟨_,_,_,_,o,_,_,e,_⟩:=x;exact J_
 | set S n=>obtain⟨o,_,_,_,e,_⟩:=x;exact J_
 | ins C dx fs=>show Af4 x;exact J_
 | own y=>obtain⟨_,e⟩:=x;exact J_
 | xd fs=>show Af5 x;exact J_
 | rng lo hi=>show Af3 x;exact J_
 | frz ob u=>obtain⟨e,_⟩:=x;exact J_
 | Kd ps=>exact zG (A6r)
 | met f y=>exact zG (A6r)
 | ext φ=>obtain⟨_,⟨_,e⟩,_⟩:=x;exact J_
theorem Paired.mapP{α β:Type}{F G:BN α β}:∀{l₁:A0} {l₂:GH},Paired F l₁ l₂ ->(∀a b,F a b ->G a b) ->Paired G l₁ l₂
 | _,_,CC,_=> CC
 | _,_,AAa,f=> .cons (f _ _ r) (Paired.mapP t f)
theorem bG.stay(x:o6 o)(k:Sj (b=a\/VQ (.own a)) (FF h.get?) AP9)
  (ho:HH (VQ (.own a)) (AJI (.own a))) (ht:Ar7):bG P w H' h' a o:=by
 induction o with
 | lst xs=>show AbW x;exact⟨z,its,n,r,ac⟩
 | tup xs=>obtain⟨z,its,r,ob,e,c⟩:=x;exact⟨z,its,r,ob,ac,c⟩
 | dK kvs=>obtain⟨z,y,vs,r,ob,es,ep,e,c⟩:=x;exact⟨z,y,vs,r,ob,es,ep,ac,c⟩
 | dT kvs=>
  obtain⟨z,y,xs,r,ob,es,ep,e,c⟩:=x;exact⟨z,y,xs,Paired.mapP r fun p q z=>A6q,ob,es,ep,ac,c⟩
 | set S n=>obtain⟨ob,es,ep,t,e,c⟩:=x;exact⟨ob,es,ep,t,ac,c⟩
 | ins C dx fs=>
  obtain⟨d,z,ne,e,mA,⟨od,es,ep,e2,c⟩,r⟩:=x;exact⟨ho _ d,z,ne,ac,mA,⟨od,es,ep,k _ _ (DH d) e2,c⟩,r⟩
 | own y=>show JY ob x;exact⟨ob,ac⟩
 | xd fs=>obtain⟨mA,⟨od,es,ep,e,c⟩,r⟩:=x;exact⟨mA,⟨od,es,ep,ac,c⟩,r⟩
 | rng lo hi=>obtain⟨t,u,v,e⟩:=x;exact⟨t,u,v,ac⟩
 | frz ob u ih=>show LP e q x ac (ih q)
 | Kd ps=>
  have e:A8W:=x;exact k a _ L8 e
 | met f y=>
  have e:Azz (AH y):=x;exact k a _ L8 e
 | ext φ=>obtain⟨p,⟨o,e⟩,st⟩:=x;exact⟨st _ _ p fun o q=>k _ _ L8 q,N0 ac,st⟩
theorem ou.lt(x:Pl)(e:AUR):AjV:=(x a o e).lt
theorem ou.fresh(x:Pl)(e:h.objs.size<=a):dc:=by
 cases q:H a with
 | none=>rfl
 | some u=>exact yB (zM (x.lt q) e)
theorem ou.kept(x:Pl)(k:AXh):ou P w H h' :=fun a o e=>
 (x a o e).stay (fun b u _ q=>AV1) AOo lj
theorem ou.laid(x:Pl)(k:AXh)(hp:h.objs.size<=a)(new:bG P w ANc h' a o):ou P w ANc h' :=Fu (by
 have hn:=x.fresh hp;show OA
 ·show ApC new
 ·rw[ZI] at e;exact BIS x (k c v q))
#where
def Rd(H:Hp)(a:Addr)(u:HO):Prop:=æ\/∃o,Ix ADK
theorem Rd.ok{P:Program}{w:World}{H:Hp}{h:Heap}{a:Addr}{u:HO}(r:Rd H a u)(x:Pl):o6 u:=by
 rcases r with r | ⟨o,r⟩
 ·exact x a u r
 ·obtain⟨_,q⟩:=x a _ r;exact q
def Uv:DB (F6 HO)
 | some (B8 _)=>True
 | some (.dK _)=>True
 | some (.dT _)=>True
 | some (.set _ _)=>True
 | some (.ins _ _ _)=>True
 | some (.ext _)=>True
 | some (.xd _)=>True
 | _=>False
section
variable{P:Program}{w:World}{H:Hp}{h h' :Heap}{x e:Addr}{o' :HO}
theorem ou.write(ok:Pl)(mu:AoP)(he:Apd)(k:AwH)(heo:Am9)
  (new:bG P w (FG x o') h' x o'):ou P w (FG x o') h' :=JU u (by
 have Uw:∀c y,AQr c y ->c≠x:=fun c y r z=>(Apx r)
 have aan:∀c xs,Lv c Qb ->c≠x:=fun c xs r z=>(Apx r)
 show qf x
 ·subst hb;rw[gG] at q;cases q;exact new
 ·rw[ZI] at q;by_cases hbe:b=e
  ·have q' :VQ (.own x):=by
    show IY he
    ·exact e_ hbe.trans z hb
    ·rw[hbe];exact z
   rw[q] at q';cases q';obtain⟨v,hv⟩:=heo;exact⟨v,Θ hbe hv⟩
  ·refine vt ok q (fun c v hc r=>k c v ?_ r) (Nd r (ZN (Uw c b r) r)) (ve r (ZN (aan c xs r) r))
   show mt hc hc
   ·exact hbe
   ·rintro rfl;show IY he
    ·exact Uw c b hc z
    ·rw[hc] at z;cases z;exact hb rfl)
#where
structure Un (fs ex:AO) (H H' :Hp) (h h' :Heap):Prop where
 keep:BGW (b∉fs) sB
 slot:BGW (b∈fs) A5I
 free:qV Q2 (HA ->b∉ex ->ACU)
 there:Of Q2 (b∉ex) AuU
 tups:Ar7
 mj:A6W
 oE:A9u
section
variable{fs fs' ex ex' :AO}{H H1 H2:Hp}{h h1 h2 h' :Heap}{a x e:Addr}{o:HO}
theorem Un.any(u:ABP H1 h1){b:Addr}{ob:Obj}(q:r6 h.get?)(n:HA)(hx:b∉ex):∃sl,GS h1.get? {ob with slots:=sl}:=by
 by_cases hb:b∈fs
 ·exact u.slot b ob q n hb hx
 ·exact⟨ob.slots,u.keep b ob q n hb hx⟩
theorem Un.trans(a:ABP H1 h1)(b:Un fs ex H1 H2 h1 h2):ABP H2 h2 where
 keep:=BGm (b.keep c ob (a.keep c ob q n hc hx) (AmW hx) hc hx)
 slot:=BGm (by
  show d5 e1 (a.slot c ob q n hc hx);show vz sl' (b.slot c _ e1 (AmW hx) hc hx);exact⟨sl',e2⟩)
 free:=fun c ob q n hx=>by
  show ACJ e1 (a.there c ob q hx);exact b.free c o' e1 (AmW hx) hx
 there:=fun c ob q hx=>by
  show ACJ e1 (a.there c ob q hx);exact b.there c o' e1 hx
 tups:=fun c xs q=>b.tups c xs (a.tups c xs q)
 mj:=fun c ob xs q=>b.mj c ob xs (a.mj c ob xs q)
 oE:=fun c ps q=>by
  obtain⟨m1,e1⟩:=a.oE c ps q;show vz m2 (b.oE c _ e1);exact BDd
theorem Un.kept(k:AXh):ABP H h' :=
 ⟨AwE Ao1,AwE ⟨ob.slots,Ao1⟩,Ļ n _ n,AmP ⟨ob,Ao1⟩,lj,fun _ _ _ q=>q,fun _ ps q=>⟨#[],AL6 q⟩⟩
theorem Un.refl:ABP H h:=Un.kept lj
theorem Un.laid(k:AXh)(hp:h.objs.size<=a)(hn:dc):ABP ANc h' where
 keep:=fun b u q _ _ _=>AV1
 slot:=fun b u q _ _ _=>⟨u.slots,AV1⟩
 free:=AYZ _ (Θ (bC (Nat.ne_of_lt (Nat.lt_of_lt_of_le (Heap.lt_size q) hp))) n)
 there:=MC q _ ⟨u,AV1⟩
 tups:=JU xs AJz
 mj:=MC xs q AJz
 oE:=A3c AQW
theorem Un.write(mu:AoP)(he:Apd)(k:AwH)(heo:Am9):ABP (FG x o) h' :=by
 have hx:AUM (b≠x):=EM n z (Apx n)
 have hb:AUM (b≠e):=EM n z (by
  subst z;rcases he with r | r
  ·exact hx b n r
  ·show Cc n r r)
 have hm:Sj wn (¬Uv (some u)) (b≠x):=fun b u q nm z=>by subst z;rw[q] at mu;exact nm mu
 refine⟨fun b u q n _ _=>A5r,fun b u q n _ _=>⟨u.slots,A5r⟩,AYZ _ (Θ (bC (hx b n)) n),AFm q _,
  JU xs (i8 ApI),MC xs q (i8 ApI),A3c ApI⟩
 by_cases hbe:b=e
 ·subst hbe;exact heo
 ·exact⟨u,k b u hbe q⟩
#where
def xu(Ao2):AO:=A4l filter (H a).isSome
def yw(Ao2):Heap:=W.hideAll h (xu h H)
theorem z6d(Ao2):(yw h H).objs.size=h.objs.size:=W.hideAll_size _ _
theorem ydv{h:Heap}{H:Hp}{b:Addr}{o:Obj}(e:Q2)(n:HA):E5 (yw h H).get?:=
 Ţ e (fun hm=>by
  have q:(H b).isSome=true:=(zA.mp hm).2;rw[n] at q;simp at q)
theorem ygt{h:Heap}{H:Hp}{b:Addr}{o:Obj}(e:E5 (yw h H).get?):Q2/\HA:=by
 have e' :Q2:=W.of_hideAll (xu h H) e;show CD e';cases q:H b with
 | none=>rfl
 | some x=>
  have hm:b∈xu h H:=zA.mpr (ARO (List.mem_range.mpr (zG e')) q)
  have z:KS (yw h H).get?:=W.hideAll_none (xu h H) hm;rw[z] at e;cases e
def yh7(g h:Heap)(L:Addr):eE:=A4l filterMap (AKO (a=L\/ (g.get? a).isSome=true) (Au h.get? a fun o=>(a,o)))
def rest(g h:Heap)(L d:Addr):eE:=(yh7 g h L).filter fun p=>(Μ (A3≠d))
structure Mod (K:W.Frag) (mg:B0) (base:Heap):Prop where
 GC:K.In base
 glob:BKh
 blt:∃mb,base.Ns builtinsNs mb/\BCM
 nolimit:base.NoLimit
structure Cx where
 prog:Program
 w:World
 K:W.Frag
 mg:B0
 base:Heap
 A:Around
 N:Α
 s₀:Shared
 H₀:Hp
 env:Env
 outer:GA
 stack:GA
 ex:AO
 fn:Str ->Bool
 calm:Bool
 pn:eE
 xe:dW
def frs(l:GA):AO:=l.filterMap (·.frame)
abbrev Cx.fs(X:Cx):AO:=frs X.outer
def qK(A5P):Prop:=Am8 (ANL\/AKa sc.names.lookup)
def Loc(A5P):Prop:=Am8 ANL
def Look(env:Env)(h:Heap)(m:B0)(x:Str)(u:Value):Prop:=
 (AIC env.kindOf/\DC m u)\/ ((AIw env.kindOf\/AKa env.kindOf)/\∃c,AMH/\h.IsCell c (some u))
structure Cx.Ok (X:Cx):Prop where
 mod:A8g
 kind:X.env.scope.kind= ABr
 glob:X.env.globals=mainGlobals
 blt:X.env.builtins=builtinsNs
 above:ACn X.env.locals
 inj:Ark É (Aib c)
 has:∀x,(AuR\/AvC) ->∃c,É
 cab:∀x c,Z3 ->É ->ACn c
 hd:Cn ->X.A.handled=none
 frames:X.A.frames=some X.stack
 stk:X.stack=X.outer\/ (X.stack=Am3/\AnO)
 ZK:OO X.ex (AJM/\ui b)
 bs:AVj (AeC/\KS X.H₀)
 bsz:X.base.objs.size<=X.s₀.heap.objs.size
 GD:AVj (b∉X.ex)
 GF:OO X.ex AUi
 funs:X.s₀.heap.FunFrames X.base X.outer
 frf:OO X.fs (KS X.H₀)
structure Inv (X:Cx) (pins:eE) (σ:AH_ V) (H:Hp) (s:Shared):Prop where
 ok:X.Ok
 os:s.os=X.s₀.os
 bare:AuD
 base:Un X.fs X.ex X.H₀ H X.s₀.heap s.heap
 loc:∃m,AxB/\∀(i:Nat) (x:Str) (v:V),EC ->Ch σ dC ->Id ->∃u,LM/\Look X.env s.heap m x u
 cell:AQB (∃v,Aek)
 free:JS X.env.locals
 freeC:AQB (JS c)
 pin:∀p∈X.pn++pins,BFg
 hok:ou X.prog X.w H s.heap
 len:σ.length=X.N.length
section
variable{X:Cx}{pins:eE}{σ:AH_ V}{H H' :Hp}{s:Shared}{h' :Heap}
theorem Cx.Ok.nofr(ok:X.Ok){b:Addr}{o:Obj}(e:E5 X.base.get?):AUi:=ACm (by
 have:=(ok.funs.mem hb).1;show nk;show EV)
theorem Inv.bs(OE):AVj (NN/\HA):=Fc ⟨I.base.keep b o Aur AyO (I.ok.nofr e) Atv,I.base.free b o Aur AyO Atv⟩
theorem Inv.bk(OE):AVj NN:=Fc (WB I.bs).1
theorem Inv.mod(OE):A8g:=I.ok.mod
theorem Inv.kIn(OE):X.K.In s.heap:=I.ok.mod.GC.keeps I.bk
theorem Inv.lt(OE):UA X.env.locals:=let ⟨_,hn,_⟩:=I.loc;hn.lt
theorem Inv.sz(OE):ACn s.heap.objs.size:=zO I.ok.above (Nat.le_of_lt I.lt)
theorem Inv.nofs(I:Ι){a:Addr}(h:W' a):a∉X.fs:=ACm (by
 obtain⟨_,o,ho,_⟩:=BMi;exact yB (zM (zG ho) (zO I.sz h)))
theorem Inv.cne(OE):ui X.env.locals:=fun x c e z=>by
 obtain⟨v,o,ho,hd⟩:=AWr;obtain⟨m,⟨o',es,ep,ho',hd',_⟩,_⟩:=I.loc;rw[z,ho'] at ho;cases ho;show Cc hd' hd hd
theorem Inv.funs(OE):ATC X.base X.outer:=by
 have all:∀(l:GA),(M3 (frs l) AhW) ->X.s₀.heap.FunFrames X.base l ->s.heap.FunFrames X.base l:=by
  intro l;induction l with
  | nil=>intro _ _;trivial
  | cons env r ih=>
   intro hs hl;obtain⟨hk,⟨L,o,hf,hn,ho,hd⟩,hr⟩:=hl;have hL:L∈X.fs:=hs L (BAn zY)
   show JY sl (I.base.slot L o ho (I.ok.frf L hL) hL (Ξ (I.ok.GF L z hL)));exact⟨hk,⟨L,_,hf,hn,e,hd⟩,ih (II (hs b (BAn (zW _ hb)))) hr⟩
 exact all X.outer (FD hb hb) I.ok.funs
theorem Inv.stack(OE):ATC X.base X.stack:=by
 rcases I.ok.stk with e | ⟨e,hf⟩
 ·rw[e];exact I.funs
 ·rw[e];obtain⟨m,hn,_⟩:=I.loc;refine Nc (by rw[I.ok.kind];decide) hf hn ?_ I.funs
  exact Heap.get?_none_of_le (zO I.ok.bsz I.ok.above)
theorem Inv.stkSub(OE):OO To (b∈X.env.locals::X.fs):=E9 (by
 rcases I.ok.stk with e | ⟨e,hf⟩
 ·rw[e] at hb;exact zW _ hb
 ·rw[e] at hb;unfold frs at hb;rw[List.filterMap_cons,hf] at hb;exact hb)
theorem Inv.stkFree(OE):OO To HA:=E9 (by
 rcases ApW hb with e | hb
 ·rw[e];exact I.free
 ·obtain⟨_,o,ho,_⟩:=BMi;exact I.base.free b o ho (I.ok.frf b hb) (Ξ (I.ok.GF b z hb)))
theorem Inv.step{g' :fg}{t' :Nat}{d' :Drawn}{ch:AO}(I:Ι)
  (hch:As5)
  (keep:A8U AUi sB)
  (slot:A8U AhW A5I) (free:qV AR9 (NN ->HA ->ACU))
  (there:Of AR9 NN AuU)
  (tups:Ar7) (mj:A6W) (oE:A9u)
  (ns:∀m,AxB ->h'.Ns X.env.locals m) (hok:AWx) (hg:AllBare g'):
  BIx:=by
 have neL:dQ X.s₀.heap.get? AJM:=Fc (zK (zM (zG e) I.ok.above));have ZL:Of AeC (b∉X.ex) AR9:=fun b o e hx hb=>by
  show IY (Ll hch)
  ·exact hx z
  ·exact yB (zM (zG e) z)
 have cellK:AQB (∀v,Aek ->AjN):=fun x c e v (ť hd)=>by
  have Ux:c∉ch:=Ξ BAa;by_cases hc:c∈X.fs
  ·show d5 q (BGs slot);exact B1 q hd
  ·exact P1 (BGs keep) hd
 refine⟨I.ok,I.os,hg,⟨AGv,AGv,De b o e n hx,AXo,fun b xs e=>tups b xs (I.base.tups b xs e),Pp xs e (mj b o xs (I.base.mj b o xs e)),E8 ps e⟩,?_,AG0,?_,AG0,SH,hok,I.len⟩
 ·exact keep b o (WB neL) hb AaC (AkN hb hx) Akz
 ·show d5 e1 Apk;show vz sl' (slot b _ (WB neL) hb AaC e1 Akz);exact⟨sl',e2⟩
 ·show ACJ e1 AZu;exact free b o' AaC e1 Akz
 ·show ACJ e1 AZu;exact there b o' AaC e1
 ·obtain⟨m1,e1⟩:=A2a;show vz m2 (oE b _ e1);exact BDd
 ·show AxY;show DD m (ns m hn) (fun i x v e1 e2 e3=> ?_);show NR r l (hl i x v e1 e2 e3);show A9 u r;rcases l with l | ⟨k,c,e,z⟩
  ·show CB l
  ·show CU ⟨k,c,e,cellK x c e _ z⟩
 ·show LP v z AWr v (cellK x c e v z)
 ·obtain⟨m,⟨o,_,_,ho,_⟩,_⟩:=I.loc;exact free _ o (Fs (Anp hch)) ho I.free
 ·obtain⟨v,o,ho,hd⟩:=AWr;exact free c o (Fs BAa) ho ASQ
 ·show APt;have Ux:A3∉ch:=Ξ ((hch A3 z).2.2.2 p hp rfl);exact⟨keep A3 p.2 ne nf Ux e n,free A3 p.2 Ux e n,ne,nf,d⟩
theorem Inv.un{t' :Nat}(I:Ι)(u:AJX X.fs [] H' h')(hok:AWx):Ñ ADQ:=by
 obtain⟨m,⟨o,es,ep,ho,r⟩,_⟩:=id I.loc;show d5 hL (u.any ho I.free Χ)
 exact AtH [] (FD z (nomatch z)) (BDS u.keep) (BDS u.slot) (fun b o _ e n=>u.free b o e n Χ) (fun b o _ e=>u.there b o e Χ) u.tups u.mj u.oE (fun m' hm=>by
  obtain⟨o',es',ep',ho',r'⟩:=hm;rw[ho] at ho';cases ho';exact BCY) hok I.bare
theorem Inv.call{g' :fg}{t' :Nat}{d' :Drawn}{ch:AO}(I:Ι)(u:AJX g9 ch H' h')(hok:AWx)(hg:AllBare g')
  (hch:As5):
  BIx:=by
 obtain⟨m,⟨o,es,ep,ho,r⟩,_⟩:=id I.loc;show d5 hL (u.any ho I.free (Ξ (Anp hch)));exact I.step (ch:=ch) hch (fun b o hL hb hc e n=>u.keep b o e n (Fs ((zU.mp (I.stkSub b z)).elim hL hb)) hc) (fun b o _ _ hc e n=>u.any e n hc) (fun b o hc e n=>u.free b o e n hc) (fun b o hc e=>u.there b o e hc) u.tups u.mj u.oE (fun m' hm=>by
  obtain⟨o',es',ep',ho',r'⟩:=hm;rw[ho] at ho';cases ho';exact BCY) hok hg
theorem Inv.turned{t' :Nat}{it:Addr}(I:Ι)(k:AXi (b≠it))(hn:JS it)(hL:it≠X.env.locals)
  (h1:it∈X.ex\/ACn it) (h2:ui it) (h3:ARm it):Agc:=by
 have Uy:P_ H (b≠it):=MC e z (AWA hn)
 refine AtH [it] AL9 (fun b o _ _ hc e _=>Ao8) (fun b o _ _ hc e _=>⟨o.slots,Ao8⟩) A3q
  (fun b o hc e=>(N0 Ao8)) (AK2) (pp e e) A4T (Q1 m hm) (EK) I.bare
 ·show AYY
  subst e;exact ul h1 hL h3
 ·obtain⟨o,es,ep,ho,r⟩:=hm;exact⟨o,es,ep,k _ o (i' hL) ho,r⟩
 ·refine vt I.hok e (fun c v hc q=>k c v ?_ q) AOo lj;show IY hc
  ·rw[z];exact PM Uy
  ·exact Uy c _ z
theorem Inv.tok(I:Ι)(t:Nat):iN {s with toks:=t}:=AqG t Un.refl I.hok
theorem Inv.kept{t' :Nat}(I:Ι)(k:AvG):Agc:=I.un (Un.kept k) (I.hok.kept k)
theorem Inv.laid{a:Addr}{o:HO}{t' :Nat}(I:Ι)(k:AvG)(hp:W' a)(new:ce ANc h' a o):
  NJ a o ADQ:=I.un (Un.laid k hp (AR0 hp)) (I.hok.laid k hp new)
theorem Inv.write{x e:Addr}{o:HO}{t' :Nat}(I:Ι)(mu:AoP)(he:Apd)(k:AEP e s.heap.get?)(heo:Am9)
  (new:ce (FG x o) h' x o):NJ x o ADQ:=I.un (Un.write mu he k heo) (I.hok.write mu he k heo new)
theorem Inv.pins_of{tO :eE}(I:Ι)(h:∀p∈tO,BFg):Inv X tO σ H s:=
 ARy I.ok (WC (A3J (Fs (I.pin p (zP _ z))) (h p)))
theorem z1w{N:Α}(hN:N.Nodup){i j:Nat}{x:Str}(a:bc N)(b:L7 N x):i=j:=by
 show CM h1 e1 zV.mp a;show vz h2 (zV.mp b);exact(List.getElem_inj hN).mp (e1.trans e2.symm)
theorem zoo{M:Model}{A:Around}{E:dW}{i:Nat}{x:Str}{v:V}{u:Value}{Q:D6 Unit}(I:Ι)(hN:X.N.Nodup)(hi:EC)(hx:oQ)(r:LM)
  (h:∀s',A0q ->(∃a,AZn s'.heap/\ (AiQ\/DC X.env.cells.lookup a)) ->ACf) (hf:Z3\/Z_:=by first | show AB' | show CU rfl | assumption):A9I:=by
 show BS m hn hl id I.loc;have hcls:(X.env.scope.kind== .class || (X.env.scope.kind== .module&&X.env.locals !=X.env.globals))=false:=FB I.ok.kind
 have hiσ:i<σ.length:=Θ I.len ZO
 have cne:=I.cne;have tracked:V_ a Addr h' Heap (∃o,Aiu/\dc) (AZn h') (ou X.prog X.w H h') :=fun{a h'} ha hs b ob e=>by
  obtain⟨_,_,hfree⟩:=ha;refine(I.hok b ob e).stay (fun c w' hc q=>Ev hs.2 c ?_ q) AOo lj;rintro rfl;show mt hc hc
  ·rw[hfree] at e;cases e
  ·show Cc hfree hc hc
 rcases hx with hk | hk
 ·refine wpAny_storeName_local hk hn (Ν h' hn' hs) hcls;obtain⟨oL,_,_,hoL,_⟩:=id hn;refine h _ ⟨I.ok,I.os,I.bare,⟨AGv,AGv,I.base.free,AXo,I.base.tups,I.base.mj,I.base.oE⟩,B1 hn' BHN,NM y c,I.free,I.freeC,SH,tracked ⟨oL,hoL,I.free⟩ hs,As I.len⟩ (B1 hs ŏ)
  ·exact AHZ I.ok.above (AkN hb hx)
  ·show LP sl e1 Apk sl (AHZ I.ok.above e1)
  ·show LP o' e1 AZu o' (AHZ I.ok.above e1)
  ·by_cases hj:j=i
   ·subst hj;rw[hi] at e1;cases e1;show AlF hiσ;cases e2;exact⟨u,r,fA hk AV⟩
   ·rw[AuB hj] at e2;show Oy u' r' (hl j y v' e1 e2 e3);show A9 u' r';rcases q with ⟨k,e⟩ | ⟨k,c,e,z⟩
    ·refine .inl (EU k);have:y≠x:=tz (hj (z1w hN e1 (e ▸ hi)));simp [this,e]
    ·show CU ⟨k,c,e,BHX⟩
  ·show LP w' z (I.cell y c e) w' BHX
  ·show APt;exact⟨Ev hs.2 A3 ne e,n,ne,nf,d⟩
 ·have hfn:Z3:=by
   show IY hf
   ·exact z
   ·show Cc z hk hk
  obtain⟨c,hc⟩:=I.ok.has x (D9 hk);obtain⟨w',z⟩:=I.cell x c hc;refine wpAny_storeName_cell I.ok.kind hk hc z (Ν h' hc' hs);obtain⟨oc,hoc,aao⟩:=id z;refine h Lu ⟨I.ok,I.os,I.bare,⟨AGv,AGv,I.base.free,AXo,I.base.tups,I.base.mj,I.base.oE⟩,⟨m,hn.sameBut hs (Ne.symm (cne x c hc)),BHN⟩,NM y c',I.free,I.freeC,SH,tracked ⟨oc,hoc,I.freeC x c hc⟩ hs,As I.len⟩ ⟨c,hs,.inr hc⟩
  ·exact AHZ Asz (AkN hb hx)
  ·show LP sl e1 Apk sl (AHZ Asz e1)
  ·show LP o' e1 AZu o' (AHZ Asz e1)
  ·by_cases hj:j=i
   ·subst hj;rw[hi] at e1;cases e1;show AlF hiσ;cases e2;exact⟨u,r,.inr ⟨.inl hk,c,hc,hc'⟩⟩
   ·rw[AuB hj] at e2;show Oy u' r' (hl j y v' e1 e2 e3);show A9 u' r';rcases q with q | ⟨k,c',e,z'⟩
    ·show CB q
    ·show O_ ⟨k,c',e,z'.sameBut hs ?_⟩;rintro rfl;exact hj (z1w hN e1 (I.ok.inj _ _ _ e hc ▸ hi))
  ·by_cases hcc:c' =c
   ·subst hcc;exact CH hc'
   ·show LP w2 z2 (I.cell y c' e) w2 (z2.sameBut hs hcc)
  ·show APt;refine⟨Ev hs.2 A3 ?_ e,n,ne,nf,d⟩;intro q;rw[q,hoc] at e;have q' :oc=p.2:=zF e;exact d w' (BF q' aao)
theorem ZM{M:Model}{A:Around}{E:dW}{i:Nat}{x:Str}{v:V}{u:Value}{Q:D6 Unit}(I:Ι)(hN:X.N.Nodup)(hi:EC)(hx:oQ)(r:LM)
  (h:AXW A0q) (hf:Z3\/Z_:=by first | show AB' | show CU rfl | assumption):A9I:=
 zoo I hN hi hx r (fun s' I' _=>h s' I') hf
theorem Inv.call'{s' :Shared}{ch:AO}(I:Ι)(ho:AW1)(u:AJX g9 ch H' s'.heap)(hok:AWy)(hg:ADa)
  (hch:As5):Ź :=by
 obtain⟨h',g',d',t',o'⟩:=s';have e:o' =s.os:=ho;subst e;exact D8 I.call g' g' t' t' d' d' u hok hg hch
#where
abbrev XK:=â (ib Hb)
abbrev St:=AH_ V
abbrev VK:=AFO
abbrev TE:=AcA St
abbrev TT:=AYz ŝ
abbrev TA:=AYz AFP
structure Ends where
 nx:K'
 rt:VK
 bk:K':=Ê
 ct:K':=Ê
abbrev TS:=Ends ->K'
inductive EP (X:Cx) (pins:eE) (σ:St) (Q:VK) (u:Value) (s' :Shared):Prop
 | mk:∀v H',(Inv X pins σ H' s') ->(RelV v u) ->(Q v H') ->mr u s'
def TP(X:Cx)(pins:eE)(σ:St)(Q:ŝ)(b:Bool)(s' :Shared):Prop:=∃H',Ź /\Q b H'
inductive AP (X:Cx) (pins:eE) (σ:St) (Q:AFP) (us:Ο) (s' :Shared):Prop
 | mk:∀vs H',(Inv X pins σ H' s') ->(Vals vs us) ->(Q vs H') ->AP X pins σ Q us s'
def SP(X:Cx)(pins:eE)(D:Ends)(f:Flow)(s' :Shared):Prop:=
 match f with
 | uk=>Akl D.nx
 | .brk=>Akl D.bk
 | .cont=>Akl D.ct
 | .ret u=>∃v σ' H',Ach /\LM/\D.rt v H'
def PE(X:Cx)(e:Expr)(t:TE):Prop:=
 Aoo VK (Ė (U_ e))
def PT(X:Cx)(e:Expr)(t:TT):Prop:=
 Aoo ŝ (A5M (U_ e))
def PW(X:Cx)(e:Expr)(t:TT):Prop:=
 ∀(whole:AIi) (pins:eE) (s:Shared) (σ:St) (H:Hp) (Q:ŝ),Ι ->dy ->A5M whole
theorem PW.pt{X:Cx}{e:Expr}{t:TT}(h:PW X e t):PT X e t:=h _
def PA(X:Cx)(es:A2)(t:TA):Prop:=
 ∀(pos:Pos) (pins:eE) (s:Shared) (σ:St) (H:Hp) (Q:AFP),Ι ->dy ->AQA (spliced (AAy es)) AP
def PS(X:Cx)(st:Stmt)(t:TS):Prop:=
 BGu exec
def Gj(X:Cx)(st:PU)(t:TS):Prop:=
 BGu execs
theorem bU(x_){t:Sem α}{Q Q' :D6 α}{M:Model}{A:Around}{E:dW}{s:Shared}(h:eA t)(hQ:∀a s,Q a s ->Q' a s):wpAny M A t Q' E s:=wpAny_mono h hQ UU
section
variable{X:Cx}
def NT(xo):TE:=AIT (∃v,Ch σ dC/\Q v H)
def tC(v:V):TE:=AZL (Q v H)
theorem rR{i:Nat}{x:Str}{pos:Pos}(hN:EC)(hv:Id)(y_):PE X fe (NT i):=by
 show ED;show Fr v e h;show AxY;show NR r l (hl i x v hN e hv);have fin:mr u s:=AXp v r;rcases l with ⟨hk,hm⟩ | ⟨hk,c,hc,hcell⟩
 ·exact wpAny_Name (wpAny_loadName_local I.ok.kind hk hn hm fin) hd
 ·rcases hk with hk | hk
  ·exact wpAny_Name (wpAny_loadName_cell I.ok.kind hk hc hcell fin) hd
  ·exact wpAny_Name (wpAny_loadName_free I.ok.kind hk hc hcell fin hcd) hd
theorem ylr{i j pos}:Aml Ň Ň:=A3v wpAny_Constant_int C7
theorem ym3{b j pos}:Aml (c9 b) AUP:=ASk (Constant_bool (ACH Y1 h))
theorem ykb{j pos}:ka Constant Φ j (tC .non):=ASk (Constant_none (ACH AE h))
theorem ykw{x j pos}:Aml AL2 AL2:=A3v Calls.Constant_str fh
def Gl(X:Cx)(x:Str):Prop:=DC X.env.kindOf .globalImplicit
theorem Gk(BIa)(hg:HE)(hm:AI6 u)(h:Q u s)
  (hd:AT x "__debug__":=by decide):AHM (U_ fe):=
 A_f (Calls.loadGlobal_global A4q hm h)
theorem GJ(BIa)(hg:HE)(hm:Ũ)(hv:Œ u)(h:Q u s)
  (hn:va :=by decide) (hd:AT x "__debug__":=by decide):AHM (U_ fe):=by
 obtain⟨mb,h1,h2⟩:=I.mod.blt;exact A_f (Calls.loadGlobal_builtin A4q hm (B' I.ok.blt (h1.keeps I.bk)) (Ev h2 x hn hv) h)
theorem yhu{x:Str}{v:V}{u:Value}{pos:Pos}(hg:HE)(hm:AI6 u)(r:LM)(hd:AT x "__debug__":=by decide):PE X fe (tC v):=
 ASk (Gk I hg hm (AXp v r) hd)
variable{a b:Expr}{ta tb:TE}{pos:Pos}
def PC(X:Cx)(op:CmpOp)(a b:Expr)(t:TE):Prop:=
 AKz Q VK dy (U_ a) (A_w (AJ5 (compareOp op v u) (EP X pins σ Q) s₂))
theorem yc8(BCb)(h:op≠ .In)(h2:op≠ vy):AKD:=by
 show Aaj e1 CmpOp.In h
 show Aaj e2 CmpOp.NotIn h2
 cases b<;>simp [behindInMarks,e1,e2]
def aap(ta:TE):TE:=md (Q (.bl (ë (x= AE))) H1)
theorem RelV.none_iff{x:V}{v:Value}(r:SC):pE (v==Value.none) (x= AE):=by
 cases x with
 | non=>show fR
 | bl _=>show fR
 | int _=>show fS
 | str _=>show fS
 | Uu _=>show fS
 | flt _=>show fS
 | ref _=>show fR
 | ty _=>show fR
theorem yjt{j pos'}(ha:XZ):PC X .Is a (.Constant Φ j pos') (aap ta):=by
 show ED;show oP ZH v yx;show LT yx;exact Constant_none (is_none_gen ⟨P8,H1,I1,FB r1.none_iff,q1⟩)
def tB(t:TE):TT:=IN t x (AO7 (Q c H1))
theorem ZP{op:CmpOp}{t:TE}(h:PC X op a b t)(h1:AKD:=by first | exact yc8 _ Β Β | rfl):PT X AN8 (tB t):=by
 show Ak8;show Awo Ans h1 (bU h1 fun u s2 h2=>bU h2 (AEn c s3)) h1;show LT hz1;show Oy d rfl q1;cases r1;exact A'o
theorem ylh{e:Expr}{t:TE}(h:qo t)(he:∀whole,isTrue e X.env whole=(do let v<- whole;standAt e.pos;holding [v] (truthy v)):=by show MW):PT X e (tB t):=by
 show Ak8;refine isTrue_plain (Ù Ans v) (he _);show LT hz1;show Oy d rfl q1;cases r1;exact A'o
variable{tA Ke :TT}{rest:A2}
def aaq(t u:TT):TT:=IN t c (EH c (u σ H1 Q) (Q false H1))
def tOr(t u:TT):TT:=IN t c (EH c (Q true H1) (u σ H1 Q))
def aar(t:TT):TT:=IN t c (Q (! c) H1)
theorem yig(AjK):PW X (AQV [a]) tA:=by
 show AYx;show Pi isTrue_and (AO5 ha Q) c e;cases c with
 | true=>exact isTrue_and_nil e
 | false=>exact e
theorem ykr(AjK):PW X AuS tA:=by
 show AYx;show Pi isTrue_or (AO5 ha Q) c e;cases c with
 | false=>exact isTrue_or_nil e
 | true=>exact e
theorem yl6(ha:PT X a tA)(hb:PW X AWL Ke):PW X AWM (aaq tA Ke):=by
 show AYx;show Pi isTrue_and ZH c hz1;show eR H1 I1 q1;cases c with
 | true=>exact hb wh pins s1 σ H1 Q I1 q1
 | false=>show MT H1 I1 q1
theorem ymt(ha:PT X a tA)(hb:PW X AWN Ke):PW X AWO (tOr tA Ke):=by
 show AYx;show Pi isTrue_or ZH c hz1;show eR H1 I1 q1;cases c with
 | true=>show MT H1 I1 q1
 | false=>exact hb wh pins s1 σ H1 Q I1 q1
theorem yks(AjK):PT X AYi (aar tA):=by
 show ED;exact isTrue_not (rS ha (Nd H1 (Q (! c) H1)) I h)
def Uz(ta tb:TE):TE:=md (AO7 (EH c (tb σ H1 Q) (Q ý H1)))
def aat(ta tb:TE):TE:=md (AO7 (EH c (Q AKW H1) (tb σ H1 Q)))
def UG(ta:TE):TE:=md (AO7 (Q (.bl (! c)) H1))
theorem yj2{op}{t:TE}(h:PE X a t):ka BoolOp op [a] t:=fun pins s σ H Q I hw=>BoolOp_one (rS h Q I hw)
theorem yji(ha:XZ)(hb:PE X AWL tb):PE X AWM (Uz ta tb):=by
 show ED;show Pi BoolOp_and ZH v Ci;show LT Ci;show ArL;cases r1;show Ag7;cases c with
 | true=>show Amx
 | false=>exact A_O false
theorem yml(ha:XZ)(hb:PE X AWN tb):PE X AWO (aat ta tb):=by
 show ED;show Pi BoolOp_or ZH v hq8;show LT hq8;show ArL;cases r1;show Ag7;cases c with
 | false=>show Amx
 | true=>exact IE Ē H1 I1 q1
theorem yli(ha:XZ):PE X AYi (UG ta):=by
 show ED;show Pi UnaryOp_ ZH v UJ;show LT UJ;show ArL;cases r1;exact not_of (wpAny_truthy_bool (A_O (! c)))
def tIf(t:TT)(ta tb:TE):TE:=IN t c (EH c (ta σ H1 Q) (tb σ H1 Q))
theorem ycq{c:Expr}(hc:PT X c tA)(ha:XZ)(hb:AEJ):PE X Axw (tIf tA ta tb):=by
 show ED;show Pi wpAny_IfExp (ij hc) d hz1;show eR H1 I1 q1;cases d with
 | true=>exact ha pins s1 σ H1 Q I1 q1
 | false=>show Amx
#where
def mX(BGe):Prop:=
 Rd H a ú\/
  ∃(o:Obj) (its:ES) (n:Nat),la K.lookup/\o.cls= ABh /\AUU/\o.data= AiZ/\Age/\BMq
def wB(BGe):Prop:=
 Rd H a Qb\/
  ∃(o:Obj) (its:ES) (n:Nat),la K.lookup/\o.cls= ARP /\o.data= AiZ/\Age/\BMq
def aau:â MU
 | Φ=>some AE
 | .bool b=>some AUP
 | AOL=>some Ň
 | AmH=>some AL2
 | .bytes b _=>some (.Uu b)
 | .float b _=>some (.flt b)
 | AR=>some Cb
 | KM n=>some (.ty n)
 | _=>none
theorem RelV.abs{x:V}{u:Value}(r:mT):aau u=some x:=by
 cases x with
 | non=>show fR
 | bl _=>show fR
 | int _=>show fS
 | str _=>show fS
 | Uu _=>show fS
 | flt _=>show fS
 | ref _=>show fR
 | ty _=>show fR
theorem RelV.inj{x y:V}{u:Value}(r:mT)(q:J'):x=y:=zF (r.abs.symm.trans q.abs)
theorem Vals.inj:∀{xs ys:Η} {us:Ο},RA ->þ ys ->xs=ys
 | _,_,_,CC,CC=>rfl
 | _,_,_,AAa,.cons r' t' =>Gc Am1 (Vals.inj t t')
section
variable{X:Cx}{pins:eE}{σ:St}{H:Hp}{s:Shared}{a:Addr}{xs ys:Η}
theorem Inv.list(I:Ι)(h:AOP mX):AqY (AhX PlainL s.heap):=by
 rcases h with h | ⟨o,its,n,hk,hc,hd,hs,hz,r⟩
 ·show AbW (h.ok I.hok);exact⟨its,r,⟨_,n,e,rfl,rfl,rfl⟩,z⟩
 ·show HQ its.toList r ⟨o,n,A8f,hc,hd,As hs⟩
  have e:=r.length;show AS_ e;omega
theorem Inv.tuple(I:Ι)(h:AOP wB):AqY (AhX IsTup s.heap):=by
 rcases h with h | ⟨o,its,n,hk,hc,hs,hz,r⟩
 ·obtain⟨z,its,r,p⟩:=h.ok I.hok;exact⟨its,r,p,z⟩
 ·show HQ its.toList r ⟨o,A8f,hc,n,As hs⟩
  have e:=r.length;show AS_ e;omega
theorem Inv.list_inj(I:Ι)(h:AOP mX)(h' :ub mX a):xs=ys:=by
 obtain⟨its,r,⟨o,n,e,_,_,d⟩,_⟩:=AgG;obtain⟨its',r',⟨o',n',e',_,_,d'⟩,_⟩:=I.list h';rw[e] at e';cases e';rw[d] at d';injection d' with d1 _;have:its=its' :=A7o
 show T';exact Am1
theorem Inv.tuple_inj(I:Ι)(h:AOP wB)(h' :ub wB a):xs=ys:=by
 obtain⟨its,r,⟨o,e,_,n,d⟩,_⟩:=I.tuple h;obtain⟨its',r',⟨o',e',_,n',d'⟩,_⟩:=I.tuple h';rw[e] at e';cases e';rw[d] at d';injection d' with d1 _;have:its=its' :=A7o
 show T';exact Am1
#where
section
variable{X:Cx}{st:Stmt}{rest:PU}{t u:TS}{e:Expr}{te:TE}{pos:Pos}
def UL:TS:=Aof AQX
def aav(t u:TS):TS:=fun D σ H=>t {D with nx:=u D} σ H
theorem yic:Gj X [] UL:=fun _ _ σ H _ I h=>(Aig σ H I h)
theorem ZQ(h1:An3)(h2:Gj X rest u):Gj X (st::rest) (aav t u):=by
 show PY;show Pi wpAny_execs_cons (AO5 h1 {D with nx:=u D}) f q;cases f with
 | next=>
  obtain⟨σ',H',I',q⟩:=q;exact h2 pins s1 σ' H' D I' q
 | ret v=>exact q
 | brk=>exact q
 | cont=>exact q
theorem ZR(h1:An3):Gj X [st] t:=by
 show PY;show Pi wpAny_execs_cons (AO5 h1 D) f q;cases f with
 | next=>exact wpAny_execs_nil q
 | ret v=>exact q
 | brk=>exact q
 | cont=>exact q
theorem Inv.quiet{pins:eE}{σ:St}{H:Hp}{s:Shared}(I:Ι):interactive X.env=false:=QY interactive I.ok.kind
def UW(te:TE):TS:=Ax3 (Eg H1 (Û H1))
theorem ZS(he:SE)(hs:ABO none:=by rfl):PS X (.Expr e pos) (UW te):=by
 show PY;exact wpAny_Expr_any (bU gI (ĕ NZ (by show LT NZ;exact⟨σ,H1,I1,q1⟩))) I.quiet hs
def aaw(te:TE):TS:=Ax3 D.rt
theorem z8g(he:SE):PS X (.Return ALY pos) (aaw te):=by
 show PY;exact wpAny_Return_some (bU gI (ĕ GK (by show LT GK;exact⟨x,σ,H1,I1,r1,q1⟩)))
def aax(c:TT)(t u:TS):TS:=fun D σ H=>c σ H fun b H1=>(EH b (t D σ H1) (u D σ H1))
theorem ymf{c:Expr}{a b:PU}{tc:TT}(hc:PT X c tc)(ha:Gj X a t)(hb:Gj X b u):PS X (.If c a b pos) (aax tc t u):=by
 show PY;show Pi wpAny_If (ij hc) d hz1;show eR H1 I1 q1;cases d with
 | true=>exact ha pins s1 σ H1 D I1 q1
 | false=>exact hb pins s1 σ H1 D I1 q1
#where
abbrev TG:=V ->St ->BN Hp (K')
abbrev Lz:=Η ->St ->BN Hp (K')
def PG(X:Cx)(target:Expr)(t:TG):Prop:=
 ∀(pins:eE) (s:Shared) (σ:St) (H:Hp) (v:V) (u:Value) (Q:K'),Ι ->LM ->t v σ H Q ->
  Ahw (assign target X.env u) (ARu AeM)
def N5(X:Cx)(ts:A2)(t:Lz):Prop:=
 ∀(pins:eE) (s:Shared) (σ:St) (H:Hp) (vs:Η) (us:Ο) (Q:K'),Ι ->AM7 ->t vs σ H Q ->
  Ahw (assignInOrder ((assignEach ts X.env).map (·.2)) us) (ARu AeM)
abbrev N6:=A9j
def U0(X:Cx)(t:N6):Prop:=
 ∀(pins:eE) (s:Shared) (σ:St) (H:Hp) (o i v:V) (ov iv u:Value) (Q:DB Hp),Ι ->Ω (RelV o ov) (RelV i iv) LM (t o i v H Q) (Ahw (setItem ov iv u) (∃H',Ź /\Q H'))
section
variable{X:Cx}{pos:Pos}
def LC(xo):TG:=ANg (Q ARb H)
theorem ZV{i:Nat}{x:Str}(hN:X.N.Nodup)(hi:EC)(hx:oQ)(hf:Z3\/Z_:=by first | show AB' | show CU rfl | assumption):PG X fe (LC i):=by
 intro pins s σ H v u Q I r h;exact wpAny_assign_Name (ZM I hN hi hx r (fun s' I' =>(Mn H I' h)) hf)
def aay:Lz:=Ajd (vs= []/\Q σ H)
def U3(t:TG)(u:Lz):Lz:=Ajd (∃v r,vs=v::r/\t v σ H fun σ' H' =>u r σ' H' Q)
theorem z6q:N5 X [] aay:=by
 intro pins s σ H vs us Q I r h;obtain⟨e,h⟩:=h;subst e;cases r;exact assignInOrder_nil ⟨σ,H,I,h⟩
theorem ZW{e:Expr}{es:A2}{t:TG}{u:Lz}(h1:PG X e t)(h2:N5 X es u)
  (hs:AAw DF (·.2)=ALc e::AAw es (·.2):=by rfl):N5 X DF (U3 t u):=by
 intro pins s σ H vs us Q I r h;show ST v vr e1 h;subst e1;cases r with
 | cons r rr=>
  rw[hs];show Pi assignInOrder_cons (h1 pins s σ H _ _ _ I r h) _ hz1;obtain⟨σ1,H1,I1,q1⟩:=hz1;exact h2 pins s1 σ1 H1 _ _ Q I1 rr q1
def aaz(K:W.Frag)(n:Nat)(t:Lz):TG:=ANg (∃a xs,v= AR/\xc/\xs.length=n/\t xs σ H Q)
theorem yee{es:A2}{k:Nat}{t:Lz}{n:Nat}(hc:Cn)(h:N5 X es t)
  (hn:LL assignEach es X.env=n:=by rfl) (hst:(assignEach es X.env).findIdx? (·.1)=none:=by rfl):PG X A2G (aaz X.K n t):=by
 intro pins s σ H v u Q I r hw;obtain⟨a,xs,e1,hq,hl,hw⟩:=hw;subst e1;cases r;obtain⟨its,rv,ht,hz⟩:=I.tuple hq;refine assign_Tuple_tuple N_ ht (by simp [hn,<- hl,rv.length]) hst (AJ h' hx)
 have I1:ő:=ABm I.kept (Fc (hx b o AOc e));exact h pins _ σ H xs _ Q I1 (B9 rv) hw
def fO(to ti:TE)(t:N6):TG:=ANg (to σ H (ic o (ti σ H1 fun i H2=>t o i v H2 fun H3=>Q σ H3)))
theorem ykf{o i:Expr}{to ti:TE}{t:N6}(ho:PE X o to)(hi:PE X i ti)(hs:U0 X t)
  (ha:∀v,assign (AT7 o i) X.env v=(do
   let ov<- Aac [v] o
   let iv<- Aac [v,ov] i
   standAt pos
   BDJ
   A1j):=by show MW):PG X (AT7 o i) (fO to ti t):=by
 intro pins s σ H v u Q I r h;rw[ha];show AFI (NA AR7 ov GP);show LT GP;show AFI (bU (ACZ hi) (Ν iv s2 GQ));obtain⟨y,H2,I2,r2,q2⟩:=GQ;show Ag6 (z6 (wpAny_holding (bU (hs pins s2 σ H2 x y v ov iv u _ I2 r1 r2 r q2) (AEn _ s3))));show eR H3 I3 q3;exact wpAny_release ⟨σ,H3,I3,q3⟩
def U4(te:TE)(g:TG):TS:=AKM te x (g x σ H1 D.nx)
theorem z7d{tg e:Expr}{te:TE}{g:TG}(he:SE)(hg:PG X tg g)(hs:AFq [tg] e:=by rfl)(hw:AaW [tg]:=by rfl)
  (h1:AAw [tg] (·.2)= [ALc tg]:=by rfl):ADy [tg] e (U4 te g):=by
 show PY;refine wpAny_Assign_stores (Ù gI v) hs hw;show LT hz1;rw[h1];exact bU (hg pins s1 σ H1 x v _ I1 r1 q1) fun _ s2 q=>q
theorem ZX{i:Nat}{x:Str}{e:Expr}{te:TE}{pos' :Pos}(hN:X.N.Nodup)(hi:EC)(hx:oQ)(he:SE)(hs:ABO ALZ:=by rfl)(hf:Z3\/Z_:=by first | show AB' | show CU rfl | assumption):
  ADy AX0 e (U4 te (LC i)):=by
 show PY;refine wpAny_Assign_Name (Ù gI v) hs;obtain⟨y,H1,I1,r1,q1⟩:=hz1;exact ZM I1 hN hi hx r1 (fun s2 I2=>(Mn H1 I2 q1)) hf
def aaA(i j:Nat)(ta:TA):TS:=AKM ta vs (∃v w,vs= [v,w]/\D.nx ((σ.set i dC).set j (BU w)) H1)
theorem yly{i j:Nat}{x y:Str}(BAJ){px py pt:Pos}{kt k2 N7}(hc:Cn)(hN:X.N.Nodup)(hi:EC)(hj:yy)(hij:ye)
  (hx:Z_) (hy:AHJ) (ha:Ajw)
  (hw:AdI AHP AHh (BU y0))
  (hs:AFq AHP AHh:=by rfl):
  ADy AHP AHh (aaA i j ta):=by
 show PY;rw[exec_Assign_arm];show JJ wpAny_standAt;rw[hs];show gT;show YV
 show D' Tuple_ (NA (AcW _) us aaB);show AQs aaB;obtain⟨v,w,e1,q1⟩:=q1;subst e1;obtain⟨u1,u2,rfl,rv,tQ⟩:∃u1 u2,us= [u1,u2]/\RelV v u1/\RelV w u2:=by
  cases r1 with
  | cons p q=>
   cases q with
   | cons p' q' =>
    cases q';exact ZE _ p p'
 show AX8 (Ac5 (BH 2))
 have I2:ŋ (AKT (s1.heap.push (VC [u1,u2].toArray))):=At7 Sk;rw[hw];show gT;show ì (do rule "assign.swapped-stores";let items<- unpackItems (AH s1.heap.objs.size) 2 none;assignInOrder [fun v=>bindName X.env y v,fun v=>bindName X.env x v] items.reverse;pure Flow.next) _ _ _;show D' wpAny_rule (z6 (unpackItems_tuple (items:= #[u1,u2]) (I.ok.hd hc) (IsTup.new s1.heap _) (AJ h' hx')));have I3:=I2.kept (h' :=h') (t' :=s1.toks) (Fc (hx' b o AOc e));show D' assignInOrder_cons (wpAny_bindName (ZM I3 hN hj Ag1 tQ (Q1 s2 I4) AhG));refine assignInOrder_cons (wpAny_bindName (ZM I4 hN hi (D9 hx) rv (fun s3 I5=>assignInOrder_nil (z7 ?_)) (DH hx)));rw[List.set_comm _ _ (i' hij)] at I5;exact Mn H1 I5 q1
#where
section
variable{X:Cx}{pos:Pos}
def N8(c:TT)(tb:TS):TS:=Aof (∃W:AT',(∃m,W m σ H)/\∀m σ H,W m σ H ->
 c σ H fun b H1=>(EH b (BJf (AQM (W m' σ' H')) (tb (AI4 N N) σ H1)) (Û H1)))
theorem yb8{c:Expr}{body:PU}{tc:TT}{tb:TS}(hp:Asa)(hc:PT X c tc)(hb:A1l):PS X BBj (N8 tc tb):=by
 show PY;obtain⟨W,⟨m0,w0⟩,turn⟩:=h;refine wpAny_While (codeAny_whileLoop (XB n (ARu (W n σ' H'))) ?_ m0 ⟨σ,H,I,w0⟩);rintro n s1 ⟨σ1,H1,I1,w1⟩;show Aj4 (hc pins s1 σ1 H1) I1 (turn n σ1 H1 w1) (E8 s2 hz1);show eR H2 I2 q2;cases b with
 | true=>
  obtain⟨N,hN,q2⟩:=q2;show WZ;show Aj4 (hb pins s2 σ1 H2) I2 q2 (Ν f s3 q3);cases f with
  | next=>
   obtain⟨σ3,H3,I3,n3⟩:=q3;obtain⟨m',hm,w3⟩:=hN σ3 H3 n3;exact⟨m',hm,σ3,H3,I3,w3⟩
  | cont=>
   obtain⟨σ3,H3,I3,n3⟩:=q3;obtain⟨m',hm,w3⟩:=hN σ3 H3 n3;exact⟨m',hm,σ3,H3,I3,w3⟩
  | brk=>exact q3
  | ret v=>exact q3
 | false=>
  show Aj9 (Aig σ1 H2 I2 q2)
#where
structure It where
 go:ib Nat
 yld:pr Hp AFO
 stop:ib Nat
def oF(X:Cx)(pins:eE)(H:Hp)(b:Addr):Prop:=
 HA/\AJM/\AUi/\ BKG/\ (ui b)/\ARm b
theorem Inv.fpOk(BEx){H H' :Hp}{s:Shared}{b:Addr}(I:Ι)(hb:W' b)(hn:ACU):AXz:=by
 refine⟨hn,Nat.ne_of_gt (zM I.lt hb),I.nofs hb,.inr (zO I.sz hb),A9T,A7Q⟩
 ·obtain⟨v,q⟩:=AWr;exact yB (zM q.lt (B' z hb))
 ·exact yB (zM (zG (AEI I.pin)) (B' z hb))
structure Turn (P:Program) (w:World) (K:W.Frag) (tg:Expr) (J:It) (fp:AO) (it:Addr) (tn:AM0):Prop where
 mem:it∈fp
 obj:A8x
 keep:BGY
 item:Abw Cn (Ω Ι AVh AKh AVT (Aa6 (∃u,L_ r/\
   wpAny sC X.A Aq8 (FD s2 (∃x H',AVQ/\mT/\J.yld i H x H' /\A1R/\WE ACU)) E s1)))
 done:Abw Cn (Ω Ι AVh AKh AVU (Aa6 A0r))
 self:BG6
abbrev TI:=AYz ADH
def PIE(BI8):Prop:=
 ∃(it:Addr) (fp:AO) (tn:AM0) (J:It) (H' :Hp),itv= .ref it/\AVQ/\Turn X.prog X.w X.K tg J fp it tn/\A1Q/\ (M3 fp AXz)/\AZb
def PI(BDa):Prop:=
 AKz R ADH (wi σ H R) AMJ (A8Z Axz)
theorem Rv{M:Model}{A:Around}{E:dW}{s:Shared}{tg:Expr}{it:Addr}{u:Value}{o:Obj}{n:String}{vs:ES}{Q:D6 Unit}(ho:AIB it)(hc:o.cls= KM n)(hd:AON)
  (hn: BIs n=false) (hQ:Q () s):eA Aq8:=by
 cases tg<;>first
  | exact z7 hQ
  | (
    cases u<;>first
    | exact z7 hQ
    | (
      show Hn wpAny_load ho;rw[hc,hd];show eA (yA (NS (BIs n) (vs[0]?==some (rawInt _))));rw[Do (by intro h;rw[hn,Bool.false_and] at h;cases h)]
      exact z7 hQ))
def Rx(K:W.Frag)(a:Addr):It:=
 AK6 (Apy Zp) (H' =H/\Alo Zp) (∃xs,Zp/\AMD)
def Oa(K:W.Frag)(a:Addr):It:=
 AK6 (Apy xc) (H' =H/\Alo xc) (∃xs,xc/\AMD)
def JN(lo:Int)(n:Nat):It:=⟨fun i _=>i<n,fun i H x H' =>H' =H/\x= AgR,fun i _=>n<=i⟩
theorem zwh(BDP):AG4 Ai8 (h.IsListIter it a i) where
 mem:=AV
 obj:=AAo (by
  show AYY
  subst e;show APl;exact AGL)
 keep:=AaI
 item:=by
  intro X hP hw hK hc i pins s σ H E I hf st hg;show KL;show Asi;show AM8;show Ar1;show UY
  refine wpAny_pyNext_list_item st p.isList (x:=u) ATy (Re st' sb)
  have I1:ő:=AO6;show K_ o e c d st';exact JO u (A'6 I.list_inj)
 done:=by
  intro X hP hw hK hc i pins s σ H E I hf st hg;show KL;show Art;show AM8;show UY
  show PZ;exact wpAny_pyNext_list_end N_ st p.isList vF AHT
 self:=AOa wpAny_pyIter_listiter
theorem zse(BDP):AG4 AWG (h.IsTupleIter it a i) where
 mem:=AV
 obj:=AAo (by
  show AYY
  subst e;show APl;exact AGL)
 keep:=AaI
 item:=by
  intro X hP hw hK hc i pins s σ H E I hf st hg;show KL;show Asi;show AuO;show Ar1;show UY
  refine wpAny_pyNext_tuple_item st AwV (x:=u) ATy (Re st' sb)
  have I1:ő:=AO6;show K_ o e c d st';exact JO u (A'6 I.tuple_inj)
 done:=by
  intro X hP hw hK hc i pins s σ H E I hf st hg;show KL;show Art;show AuO;show UY
  show PZ;exact wpAny_pyNext_tuple_end N_ st AwV vF AHT
 self:=AOa wpAny_pyIter_tupleiter
theorem z3k(ADf){tg:Expr}(it:Addr)(lo:Int)(n:Nat):AG4 (JN lo n) (IsRangeIter h it (lo+ FC i*1) (FL - FC i) 1) where
 mem:=AV
 obj:=AAo (by
  show AYY
  subst e;exact B1 st (fun v z=>by
   have z' :Data.fields _=Data.cell v:=z;cases z'))
 keep:=ARG (xI it st)
 item:=by
  intro X hP hw hK hc i pins s σ H E I hf st hg;show KL;show UY
  have W:=Walks.range (prog:=X.prog) (w:=X.w) N_ it lo 1 n;refine W.item i s _ _ hg st fun v h' tk hv st' kk=> ?_;show Lc hv;have I1:iN S_:=I.turned (qr (kk b o (B9 hb) e)) f0 f1 f3 f4 f5
  show nN _ (Rv (s:=S_) (n:= "range_iterator") st' rfl rfl Β ⟨AgR,H,I1,EU t,dr,st',ARk⟩)
  rw[Int.mul_one]
 done:=by
  intro X hP hw hK hc i pins s σ H E I hf st hg;show KL;show UY
  exact wpAny_pyNext_range_end N_ st (by have:n<=i:=hg;omega) AHT
 self:=AOa wpAny_pyIter_rangeiter
section
variable{X:Cx}{tg:Expr}
theorem zzt{pins:eE}{σ:St}{H:Hp}{s:Shared}{R:ADH}{E:dW}{lo hi:Int}{t u v:Tok}{tk:Nat}(I:Ι)(h1: lm<=lo)(h2:lo<2^62)(h3: lm<=hi)(h4:hi<2^62)
  (q:R (JN lo Ao7) H):ì (pyIter (AH s.heap.objs.size)) Axz E A2h:=by
 refine wpAny_pyIter_range (IsRange.new ..) (small_one h1 h2 h3 h4) ?_;have I1:iN A2h:=I.kept Sk;refine⟨Ajb,[Ajb],_,_,H,rfl,
  oC I1.kept Sk,z3k _ lo Ao7,?_,FV,q⟩
 ·have e1:lo+ AE'*1=lo:=AV
  have e2:CF Ao7 - AE'=Builtin.Range.rangeSize lo hi 1:=by rw[rangeSize_one];split<;>omega
  rw[e1,e2];exact OQ
 ·have e:b=Ajb:=As hb
  subst e;exact ABH
def U5(ta:TA):TI:=ASl (∃j:Int,vs= [ù]/\ lm<=j/\j<2^62/\R (JN 0 j.toNat) H1)
def U6(ta:TA):TI:=ASl (∃i j:Int,vs= ADb/\ (BFl)/\R (JN i A1o) H1)
theorem z9k{a:Expr}(Asl)(hg:AUw)(hm:AUm)(ha:AXJ)(hs:starEach [a] X.env= [(false,AT9)]:=by rfl):eK (AKg "range") (U5 ta):=by
 show ft;show Amr boot_range;show ANf;obtain⟨j,e,q1,q2,q⟩:=q1;subst e;cases r1 with
 | cons r rr=>
  cases rr;show Lc r;exact call_range_1 (zzt I1 χ χ q1 q2 (B9 q))
theorem z63(BAJ){p pos:Pos}(hg:AUw)(hm:AUm)(ha:Ajw)(hs:starEach ci X.env= Ao' AT9 AT_:=by rfl)(hs2:starEach [b] X.env= [(false,AT_)]:=by rfl):
  eK (Ó "range" ci) (U6 ta):=by
 show ft;refine Call_ (ACl boot_range (PyProof.Rows.callWith_type1 (NA AKE us ⟨vs,H1,I1,r1,q1⟩) (l_ hs hs2) (FB hs2)))
 obtain⟨i,j,e,⟨q1,q2,q3,q4⟩,q⟩:=q1;subst e;cases r1 with
 | cons r rr=>
  cases rr with
  | cons r' rr=>
   cases rr;show Lc r;show bS t' r';exact call_range_2 (zzt I1 q1 q2 q3 q4 q)
def aaC(wi:TI)(g:TG)(tb:TS):TS:=AKM wi J (AGt K' (W 0 m σ H1) (∀i m σ H,ANk ->
 APf AVU AVT (AYn J.yld AaN)))
def u6(fp:AO)(h:Heap):eE:=fp.filterMap fun b=>Au h.get? b fun o=>(b,o)
theorem Z0{fp:AO}{h:Heap}{b:Addr}{o:Obj}(hb:b∈fp)(e:Q2):(b,o)∈u6 fp h:=BMu b hb AgY
theorem z4v{fp:AO}{h:Heap}{p:Addr×Obj}(hp:p∈u6 fp h):A3∈fp/\ACs h.get?:=by
 show BS b hb e List.mem_filterMap.mp hp;cases q:h.get? b with
 | none=>rw[q] at e;cases e
 | some o=>
  show Y2;have e' :(b,o)=p:=zF e;subst e';exact ğ hb
theorem Inv.pinned(BH4){fp:AO}(I:Ι)(hf:AMh)(ho:WE (AfD NN)):Inv X (pins++u6 fp s.heap) σ H s:=
 A4n (A3J (Fs (I.pin p (zQ _ z))) (Ξ (by
  show JY hb (z4v z);obtain⟨f0,f1,f2,_⟩:=hf A3 hb;show CS o e' d ho A3 hb;rw[e] at e';cases e';exact⟨e,f0,f1,f2,d⟩)))
theorem Inv.unpinned{pins pl:eE}{σ:St}{H:Hp}{s:Shared}(I:Inv X (pins++pl) σ H s):Ι:=A4n (I.pin p (zQ _ (zP _ hp)))
theorem Z1{iter:Expr}{body:PU}{wi:TI}{g:TG}{tb:TS}{pos:Pos}(hp:Asa)(hc:Cn)(hi:A0j)(hg:PG X tg g)(hb:A1l)
  (hs:am iter:=by show MW):PS X (.For tg iter body [] pos) (aaC wi g tb):=by
 show PY;refine wpAny_For BDW hs;obtain⟨it,fp,tn,J,H2,e,I2,T,st2,f2,W,⟨m0,w0⟩,turn⟩:=h2;subst e
 
 have stat:GY H' Hp AKp (WE AXz):=fun hn b hb=>⟨AFR,Ĝ f2⟩;refine codeAny_forLoop_any (XB n (∃i σ' H',Ach /\BKd/\ AKp/\W i n σ' H')) ?_ m0 ⟨0,σ,H2,I2,st2,E9 (Ll f2),w0⟩;rintro n s3 ⟨i,σ3,H3,I3,st3,fr3,w3⟩;rcases turn i n σ3 H3 w3 with ⟨stop,qn⟩ | ⟨go,N,hN,step⟩
 ·refine wpAny_passesOwn hp (bU (T.done X rfl rfl rfl hc i pins s3 σ3 H3 X.xe I3 (stat fr3) st3 stop) (AEn r s4));obtain⟨hr,I4⟩:=hz1;subst hr;exact Aig σ3 H3 I4 qn
 ·refine wpAny_passesOwn hp (bU (T.item X rfl rfl rfl hc i pins s3 σ3 H3 X.xe I3 (stat fr3) st3 go) (AEn r s4));show NR hr h4 hz1;subst hr;refine wpAny_passesOwn hp (bU h4 (Ν _ s5 aaD));obtain⟨x,H5,I5,r5,y5,Ry,Z2⟩:=aaD;have I5' :=I5.pinned (stat Z2) (T.obj _ _ Ry);refine wpAny_passesOwn hp (bU (hg _ s5 σ3 H5 x u _ I5' r5 (step x H5 y5)) (AEn _ s6));obtain⟨σ6,H6,I6,q6⟩:=hz1;show Aj4 (hb _ s6 σ6 H6) I6 q6 (Ν f s7 q7);have again:V_ σ7 St H7 Hp (Inv X (pins++u6 fp s5.heap) σ7 H7 s7) (N σ7 H7) (AX9 (∃i σ' H',Inv X pins σ' H' s7/\tn i s7.heap/\ AKp/\W i m σ' H')) :=fun{σ7 H7} I7 n7=>by
   obtain⟨m',hm,w7⟩:=hN σ7 H7 n7;refine⟨m',hm,BM,σ7,H7,I7.unpinned,AwM Ry I7.pin,FV,w7⟩;show On e d (Aax Ry);exact BL5 I7.pin
  cases f with
  | next=>obtain⟨σ7,H7,I7,n7⟩:=q7;exact again I7 n7
  | cont=>obtain⟨σ7,H7,I7,n7⟩:=q7;exact again I7 n7
  | brk=>obtain⟨σ7,H7,I7,q7⟩:=q7;exact⟨σ7,H7,I7.unpinned,q7⟩
  | ret v=>obtain⟨x7,σ7,H7,I7,r7,q7⟩:=q7;exact⟨x7,σ7,H7,I7.unpinned,r7,q7⟩
#where
theorem yav{K:W.Frag}{a:Addr}{xs:Η}{g:TG}{tb:TS}{D:Ends}{σ:St}{H:Hp}(Pv:AT')(h0:Pv 0 σ H)(hl:∀i σ H,AMX ->xy ->Zp)
  (hs:∀i x σ H,jp ->xy ->Aqs x) (hd:AsL xs.length):
  AGt K' (W 0 m σ H) (∀i m σ H,ANk ->
   APf ((Rx K a).stop i H) ((Rx K a).go i H) (AYn (Rx K a).yld AaN)):=by
 show A9 (fun i m σ H=>m=xs.length - i/\AMX/\xy) ⟨xs.length,AV,EX,h0⟩
 rintro i m σ H ⟨rfl,hi,p⟩;have q:=hl i σ H hi p;by_cases hlt:i<xs.length
 ·show BFH
  obtain⟨e,y⟩:=y;subst e;exact BGt
 ·have e:i=xs.length:=ω
  subst e;exact fA ⟨xs,q,GL⟩ (hd σ H p)
theorem ygr{K:W.Frag}{a:Addr}{xs:Η}{g:TG}{tb:TS}{D:Ends}{σ:St}{H:Hp}(Pv:AT')(h0:Pv 0 σ H)(hl:∀i σ H,AMX ->xy ->xc)
  (hs:∀i x σ H,jp ->xy ->Aqs x) (hd:AsL xs.length):
  AGt K' (W 0 m σ H) (∀i m σ H,ANk ->
   APf ((Oa K a).stop i H) ((Oa K a).go i H) (AYn (Oa K a).yld AaN)):=by
 show A9 (fun i m σ H=>m=xs.length - i/\AMX/\xy) ⟨xs.length,AV,EX,h0⟩
 rintro i m σ H ⟨rfl,hi,p⟩;have q:=hl i σ H hi p;by_cases hlt:i<xs.length
 ·show BFH
  obtain⟨e,y⟩:=y;subst e;exact BGt
 ·have e:i=xs.length:=ω
  subst e;exact fA ⟨xs,q,GL⟩ (hd σ H p)
theorem z9w{lo:Int}{n:Nat}{g:TG}{tb:TS}{D:Ends}{σ:St}{H:Hp}(Pv:AT')(h0:Pv 0 σ H)
  (hs:∀i σ H,i<n ->xy ->Aqs (C3 (lo+i))) (hd:AsL n):
  AGt K' (W 0 m σ H) (∀i m σ H,ANk ->
   APf (Aa_ stop) (Aa_ go) (AYn (JN lo n).yld AaN)):=by
 show A9 (fun i m σ H=>m=n - i/\i<=n/\xy) ⟨n,AV,EX,h0⟩
 rintro i m σ H ⟨rfl,hi,p⟩;by_cases hlt:i<n
 ·show O_ ⟨hlt,AQb,fun σ' H' p' =>(JA (n - Bi) ω hlt p'),AfB⟩
  obtain⟨e,y⟩:=y;subst e y;exact hs i σ _ hlt p
 ·have e:i=n:=ω
  subst e;exact fA GL (hd σ H p)
abbrev R2:=V ->V ->AcI
def j9(X:Cx)(f:ABK)(r:R2):Prop:=
 ∀(pins:eE) (s:Shared) (σ:St) (H:Hp) (x y:V) (v u:Value) (Q:VK),Ω Ι SC J' (r x y H Q) (Ė (f v u))
def UnR(X:Cx)(f:â AIi)(r:AVa):Prop:=
 ∀(pins:eE) (s:Shared) (σ:St) (H:Hp) (x:V) (v:Value) (Q:VK),Ι ->SC ->r x H Q ->
  Ė (f v)
def eF(X:Cx)(f:Value)(r:g_):Prop:=
 ∀(pins:eE) (s:Shared) (σ:St) (H:Hp) (xs:Η) (us:Ο) (Q:VK),Ι ->RA ->r xs H Q ->
  Ė (call f us)
def U7(r:R2)(ta tb:TE):TE:=A0z Q
def tUn(r:AVa)(ta:TE):TE:=md (r x H1 Q)
def rI(C:AY')(g:AV9):R2:=ĵ (Ar8 (Q ZY H))
def Kf(g:AV9):R2:=ĵ (As8 (Q ZY H))
def rU(g:Int ->V):AVa:=fun x H Q=>∃i,x= C7/\Q (g i) H
section
variable{X:Cx}{a b c:Expr}{ta tb tc:TE}{pos:Pos}
theorem Ob(ha:XZ)(hb:AEJ){pins:eE}{s:Shared}{σ:St}{H:Hp}{R:V ->AFO}(I:Ι)
  (h:ta σ H (ic x (dL tb y (R x y H2)))) {Q:dW} {f:ABK}
  (hf:∀v u s2 x y H2,Ω (OK H2 s2) SC J' (R x y H2) (AJ5 (f v u) Q s2)):
  Ã (U_ a) (A_w (AJ5 (f v u) Q s₂)):=by
 show oP ZH v aaE;show LT aaE;show g6 Ai0 u aaF;obtain⟨y,H2,I2,r2,q2⟩:=aaF;exact hf v u s2 x y H2 I2 r1 r2 q2
theorem ykt{op:Operator}{r:R2}(ho:j9 X AuX r)(ha:XZ)(hb:AEJ):PE X Axv AaT:=by
 show ED;exact wpAny_BinOp (AsR BI2)
theorem ymd{op:UnaryOp}{r:AVa}(ho:UnR X (unaryOp op) r)(ha:XZ):ka UnaryOp op a (tUn r ta):=by
 show ED;exact UnaryOp_ (bU ZH (ĕ aaG (by show LT aaG;exact ho pins s1 σ H1 x v Q I1 r1 q1)))
theorem Z4{f:ABK}{C:AY'}{g:AIn Int}
  (rule:Atf (C i j ->Aqm ZY ->AHM Asq)):
  j9 X f (rI C (k_ ZY)):=by
 show zk;show i7 i j rfl hc q h;show Op;show AAk;exact rule i j t t' s _ _ hc (AN2 ZY)
theorem U8{f:ABK}{g:AIn Int}
  (rule:Atf (Aqm ZY ->AHM Asq)):
  j9 X f (Kf (k_ ZY)):=by
 show zk;show EN i j rfl q h;show Op;show AAk;exact rule i j t t' s _ _ (AN2 ZY)
theorem Kg{f:ABK}{g:AIn Bool}
  (rule:Atf (Q (c9 ZY) s ->AHM Asq)):
  j9 X f (Kf fun i j=> .bl ZY):=by
 show zk;show EN i j rfl q h;show Op;show AAk;exact rule i j t t' s _ _ (ACH (.bl ZY) q)
def Oc(AG2):Prop:=0<=j/\j<=1000000/\i.natAbs<2^64
theorem yj8:ACV Add (Kf (k_ (i+j))):=AHd U8 add_int
theorem ylq:ACV Sub (Kf (k_ (i - j))):=AHd U8 sub_int
theorem yi9:ACV Mod (rI (FD j ADl) AwB):=AyD (mod_int' hc q)
theorem ykd:ACV Pow (rI Oc A8z):=AyD (pow_int_small hc.1 hc.2.1 hc.2.2 q)
theorem unI{f:â AIi}{g:Int ->Int}
  (rule:∀(i:Int) (t:Tok) (s:Shared) (Q:dW) (E:dW),Aqm (g i) ->AHM (f ARl)):
  A4i f (g i):=by
 intro pins s σ H x v Q I rx h;show Fr i rfl q;show Op;exact rule i t s _ _ (AN2 (g i))
theorem yk2:A4i (unaryOp .USub) (-i):=unI (Ala q (neg_int q))
#where
section
variable{X:Cx}{a b c:Expr}{ta tb tc:TE}{pos:Pos}
theorem yet{pins:eE}{σ:St}{H:Hp}{s:Shared}{Q:VK}{k k' :Bool}(I:Ι)(q:Q (.bl k) H)(e:k=k'):mr (c9 k') s:=by
 subst e;exact ACH (.bl k) q
theorem ymq:AZq Lt (i<j):=AHd Kg lt_int
theorem ymv:AZq LtE (i<=j):=AHd Kg le_int
theorem ymh:AZq Gt (j<i):=AHd Kg gt_int
theorem ymx:AZq GtE (j<=i):=AHd Kg ge_int
theorem ylp:A8i Is (ë (x= AE)):=by
 show zk;show X_ q h;cases ry;refine is_none_gen (yet I q ?_);cases x<;>first
  | (cases rx;rfl)
  | (show Op;rfl)
theorem yhs:A8i IsNot (!(Μ (x= AE))):=by
 show zk;show X_ q h;cases ry;refine isnot_none_gen (yet I q ?_);cases x<;>first
  | (cases rx;rfl)
  | (show Op;rfl)
theorem aY(BCb)(h:op≠ .In:=by decide)(h2:op≠ vy:=by decide):AKD:=by
 show Aaj e1 CmpOp.In h
 show Aaj e2 CmpOp.NotIn h2
 cases b<;>simp [behindInMarks,e1,e2]
theorem yif(BDs):PE X AN8 AaT:=by
 show ED;exact wpAny_Compare1 (AsR BI2) hm
def U9(t:TE):TT:=fun σ H Q=>t σ H fun x H' =>∃k,x= .bl k/\Q k H'
theorem yi4(BDs):PT X AN8 (U9 AaT):=by
 show ED;show Awo ZH BCp (bU Ai0 fun u s2 (ANa y I2 r2)=>
  bU (ho pins s2 σ H2 x y v u _ I2 r1 r2 q2) (BEd c)) hm
 subst e;cases r3;exact BKb H3 I3 q3
def GR(r r' :R2)(ta tb tc:TE):TE:=A0z (fun z H3=>∃k,z= .bl k/\
 (AI (k=true) (tc σ H3 fun w' H4=>r' y w' H4 Q) (Q ý H3)))
theorem ydh{op op' :CmpOp}{r r' :R2}(ho:j9 X ARg r)(ho' :j9 X Ayp r')(ha:XZ)(hb:AEJ)(hc:PE X c tc)
  (hm:lastMarks [op,op'] [b,c]=false:=by show AQR):PE X BBy (GR r r' ta tb tc):=by
 show ED;refine Compare_chain (bU ZH (ĕ BCp (chain_link (bU Ai0 fun u s2 (ANa y I2 r2)=>
  bU (ho pins s2 σ H2 x y v u _ I2 r1 r2 q2) (BEd d))))) hm
 subst e;cases r3;show Ag7;cases k with
 | false=>exact ite_ff (IE (.bl false) H3 I3 q3)
 | true=>exact ite_tt (chain_last (bU (hc pins s3 σ H3 _ I3 q3) fun w' s4 aaH=>by obtain⟨z',H4,I4,r4,q4⟩:=aaH;exact ho' pins s4 σ H4 y z' u w' Q I4 r2 r4 q4))
theorem pY:FC sizeLine<2^63:=AJN sizeLine_eq
theorem z3r:ACV Add (fun x y H Q=>∃i j,x= .str i/\y= .str j/\BH AyL/\Q (.str (i++j)) H):=by
 show zk;show i7 i j rfl hz q h;show Op;show AAk;exact add_str (fun t' tk=>(A1N (i++j))) hz
theorem vals1{x:V}{us:Ο}(r:þ [x]):A'p:=by
 cases r with
 | cons r1 r2=>cases r2;exact NG r1
theorem vals2{x y:V}{us:Ο}(r:þ y0):∃u w',us= [u,w']/\mT/\RelV y w' :=by
 cases r with
 | cons r1 r2=>
  cases r2 with
  | cons r3 r4=>cases r4;exact ZE _ r1 r3
theorem yau:kU "abs" (AOe (∃i,xs= [C7]/\Q (C3 APZ) H)):=by
 show AN3;show Fr i rfl q;obtain⟨u,rfl,t,rfl⟩:=vals1 r;exact call_abs_int fun u tk=>(AN2 APZ)
#where
structure Cj (h:Heap) (x dx C:Addr) (mA:B0):Prop where
 obj:DC h.get? Ajx
 ns:Aaa
 ne:dx≠x
theorem zwg{h:Heap}{dx:Addr}{mA:B0}(n:Aaa):BHG (kX dx od):=by
 obtain⟨o,es,ep,ho,hd,hk,_,hm⟩:=n;show DD o ho (E2 name);have e:=hm name;unfold nsFind findBy at e;rw[<- Array.find?_toList] at e;unfold W.lookIn;rw[hd];dsimp only;split
 ·rename_i y q;show Y2;exact w4 some
 ·show G1;show Y2;have a:es.toList.any (·.refKey)=false:=by
   rw[List.any_eq_false];intro y hy;obtain⟨z,t,hkey⟩:=hk y (Array.mem_toList_iff.mp hy);simp [DictEntry.refKey,hkey]
  have a' :¬es.toList.any (·.refKey)=true:=Θ a zJ
  show Ap a';exact w4 some
theorem Cj.look{h:Heap}{x dx C:Addr}{mA:B0}(I:Cj h x dx C mA):BHG (W.InstAt h x Ajx C (BU od)):=
 let ⟨od,ho,hl⟩:=zwg I.ns
 ⟨od,NV I.obj rfl ho,hl⟩
section
variable{prog:Program}{w:World}{A:Around}{E:dW}{s:Shared}{K:W.Frag}{x dx C f:Addr}{mA:B0}{name:Str}{v:Value}
theorem yf9{expr:Bool}{Q:dW}(X:ADx)(I:Ame)(hg:AKb C name)(hh:AVJ)
  (ha:AVR name) (hv:A3I) (hv' :Agz v) (h:Q v AKF):
  Ff (getAttr Sr name expr):=by
 show AsB;exact W.get_value X J AzD (W.findObj_own hh ha rfl (l_ hl hv)) hv' h
theorem ydg{pl:AMZ}{Q:D6 (Value×Ο)}(X:ADx)(I:Ame)(hg:AKb C name)
  (hf:AcL name) (ht:AJ4) (hv:mA name=none) (h:Q (.ref f,[.ref x]) s):
  Ff (getMethod Sr name pl):=by
 show AsB;exact W.method_fn X J AzD (W.plainGet_of hg).2 hf (beq_iff_eq.mp ht) (by show(W.lookIn name od).map (·.isSome)=some false;rw[hl,hv];rfl) h
theorem Z5{ns:Α}{Q:D6 Unit}(X:ADx)(I:Ame)
  (hs:Apa) (hp:Atk) (ht:A3Y name) (hh:AVJ)
  (hw:PySem.Within mA ns) (hsz:BMD)
  (h:tN (Cj h' x dx C (Aq6 (mA y))) (AmO dx) (Q () (U1 h' (s.toks+2)))):
  Ff Ape:=by
 show AsB;refine W.set_plain X J hs (W.osa_open (s:=AKF) (r:=none) X J hp ht fun b=> ?_);show BS cd hc hd' W.any_some hh;have hx:DC s.heap.get? (ã (some dx) .plain #[]):=I.obj;show D' z7 (z6 (z6 (wpAny_loadPart hx (z6 (BJD AKF (AjX hc) ?_)))));rw[hd'];refine z7 (a:=some dx) (z6 (z7 (z6 ?_)));refine wpAny_nsSet1 (s:=AKF) I.ns (Re hn2 hs2);obtain⟨oD,esD,epD,hoD,hdD,hcD⟩:=hn2.count (PySem.Within.cons name v hw);show Aqz (AIv List.length_cons)
 exact z7 (h _ ⟨Ev hs2.2 _ (i' I.ne) I.obj,hn2,I.ne⟩ hs2)
theorem z2b{R:Aha}{vs:Ο}{kw:ADr}(X:ADx)(hm:Atl)
  (hi:Ĳ) (hf:APa)
  (h:ĭ Ee (AOG (AJl (GW::vs))) FX (AJl (.ref UF::vs)) (W.InitBack UF R) A7x):
  ĭ Ee A E_ (AJl vs) R s:=by
 obtain⟨hh,g,d,t,os⟩:=s;exact W.make_core (W.makes_of X hm) (AjY hi) (Τ self (W.bind_fn X self hf)) L8 h
#where
def oG(AqD):fw ->fw
 | []=> AWp
 | (g,x)::r=>AOt ((g,v)::r) ((g,x)::oG f v r)
theorem zpg(f g:Str)(v:V):∀fs:fw,(oG f v fs).lookup g=AOt uA (fs.lookup g)
 | []=>by
  show List.lookup g AWp=_;by_cases h:g=f
  ·have hb:ip g f:=AgH;show AAt wS
  ·show aI hb g f AgF;show AAt e9
 | AkM=>by
  have ih:=zpg f g v r;rw[Se (Ajz (k,x)) Ar0 rfl];by_cases hk:k=f
  ·show AFN;by_cases h:g=k
   ·have hb:ip g k:=AgH;show AAt (if_pos (h.trans hk))
   ·show aI hb g k AgF;show AAt (Do (fun e:g=f=>h (e.trans hk.symm)))
  ·show Ap hk;by_cases h:g=k
   ·have hb:ip g k:=AgH;show AAt (Do (fun e:g=f=>hk (h.symm.trans e)))
   ·show aI hb g k AgF;simp only [List.lookup,hb];exact ih
theorem zqs(AqD):∀fs:fw,f∈ BDp/\∀g,g∈fs.map (·.1) ->g∈ BDp
 | []=>⟨BG oG,fun g h=>AFw⟩
 | AkM=>by
  obtain⟨i1,i2⟩:=zqs f v r;rw[Se (Ajz (k,x)) Ar0 rfl];by_cases hk:k=f
  ·show AFN;subst hk;exact⟨AV,fun g h=>(As h)⟩
  ·show Ap hk;show YU ?_ g h
   ·rw[List.map_cons];exact zW _ i1
   ·rw[List.map_cons] at h⊢;rcases zU.mp h with e | e
    ·exact zU.mpr (D9 e)
    ·exact zW _ (i2 g e)
theorem zqh(AqD):∀fs:fw,XI oG f v fs<=fs.length+1
 | []=>BG oG
 | AkM=>by
  have ih:=zqh f v r;rw[Se (Ajz (k,x)) Ar0 rfl];by_cases hk:k=f
  ·show Awy (BD hk)
  ·show Awy (AY hk)
theorem nW.some_of{v:V}{o:LX}(r:nW (some v) o):∃u,L_ o/\LM:=by
 cases o with
 | none=>exact AGm
 | some u=>exact JO u r
theorem nW.none_of{o:LX}(r:nW none o):o=none:=by
 cases o with
 | none=>rfl
 | some u=>exact AGm
theorem zv8{v:V}{u:Value}(r:LM):Agz u:=by
 cases v with
 | non=>show ATx Avq
 | bl b=>show ATx Au0
 | int i=>show AZm AX7
 | str x=>show AZm AX_
 | Uu b=>show AZm (Value.bytes b t)
 | flt b=>show AZm (Value.float b t)
 | ref a=>show ATx (Ab2 u)
 | ty n=>show ATx A4b
section
variable{P:Program}{w:World}{H H' :Hp}{h h' :Heap}{a C dx:Addr}{fs fs' :fw}
theorem zyy(hok:Pl)(e:AUS):∃mA,Cj h a dx C mA/\ (∀f,Asm)/\AxS/\Atq/\AmN:=by
 obtain⟨d,z,ne,ob,mA,n,r,q⟩:=(B_ (o6 AQ_) (hok a _ e));exact⟨mA,⟨ob,n,ne⟩,r,q,z,d⟩
#where
structure Cls (x5):Prop where
 pg:AKb C Str.empty
 hd:AVJ
 po:Atk
 sa:Apa
theorem Cls.get{K:W.Frag}{C:Addr}(c:Cls K C)(f:Str):AKb C f:=c.pg
def aM(K:W.Frag)(C:Addr)(f:Str):Prop:=AVR f
theorem aM.taker{K:W.Frag}{C:Addr}{f:Str}(n:uC f):A3Y f:=by
 unfold W.takerIn;rw[show AVR f from n]
 rfl
structure Meth (K:W.Frag) (C:Addr) (m:Str) (f:Addr):Prop where
 at_:AcL m
 fn:AJ4
 kp:AJ3
section
variable{X:Cx}{pins:eE}{σ:St}{H:Hp}{s:Shared}{a C dx:Addr}{fs:fw}{f:Str}{v:V}{A:Around}{E:dW}
theorem z21{b:Bool}{Q:dW}(I:Ι)(e:AUS)(c:Ah1)(n:X0)(l:AYM)
  (h:A'P):A'D:=by
 obtain⟨mA,O,r,_,_,_⟩:=Ah6;show AGa (AbJ (mA f) (BF l (r f)))
 exact yf9 I.kIn O (c.get f) c.hd n hu (zv8 ru) A5p
theorem zmd{m:Str}{g:Addr}{pl:AMZ}{Q:D6 (Value×Ο)}(I:Ι)(e:AUS)(c:Ah1)(k:Meth X.K C m g)(l:fs.lookup m=none)
  (h:Q (.ref g,MB) s):sN (getMethod Cb m pl):=by
 obtain⟨mA,O,r,_,_,_⟩:=Ah6;have hn:mA m=none:=nW.none_of (BF l (r m))
 exact ydg I.kIn O (c.get m) k.at_ k.fn hn h
theorem z24{y:V}{u:Value}{Q:D6 Unit}(I:Ι)(e:AUS)(c:Ah1)(n:X0)(hl:Aey)(ry:J')
  (h:AXW (NJ a Az6 s')):ArB:=by
 obtain⟨mA,O,r,wi,_,ho⟩:=Ah6;have hz:BH (K0 (fs.map (·.1))):=ACq sizeLine_eq
 refine Z5 I.kIn O c.sa c.po n.taker c.hd wi hz fun h' O' sb=>h _ ?_;have hd:∃o,sf dx:=let ⟨o,_,_,e',_⟩:=O'.ns;N0 e';refine AOT a dx ASU (DH ho) (cK q z (Ev sb.2 b hb z)) hd ?_
 refine⟨ZN O.ne ho,?_,O.ne,O'.obj,_,O'.ns,E2 g,AJ g hg⟩
 ·have:=zqh f y fs;omega
 ·rw[zpg];show AXg
  ·rw[FM,FM];exact ry
  ·rw[AY q,LH];exact r g
 ·show AXg
  ·rw[q];exact AwQ.1
  ·refine AwQ.2 g (wi g (Ξ (hg ?_)));show(AI (g=f) ALe (mA g))=none;show Ap q;exact z
theorem Inv.made(OE):OK (upd (FG s.heap.objs.size (.own UF)) UF (.ins C s.heap.objs.size [])) A7x:=by
 show RC e1 s.heap.push W.emptyDict s.heap.objs.size W.emptyDict (z9 s.heap rfl);show RC e2 BKf Au3 UF Au3 (rX (z9 (s.heap.push W.emptyDict) (o:=W.instObj C s.heap.objs.size) rfl) Heap.size_push)
 have e3:Ac0 W.emptyDict Ns s.heap.objs.size AgL:=⟨W.emptyDict,#[],_,e1,rfl,(fun e he=>(ABw he)),ALV⟩
 have I1:=P5 I.laid a s.heap.objs.size o (.own UF) h' (AIJ W.emptyDict) t' s.toks AG5 D3 (CH e1);refine D8 I1.laid a l' o (.ins C s.heap.objs.size []) t' s.toks AG5 AqH ?_;have ne:s.heap.objs.size≠l':=AZe;refine⟨AkI,EX,ne,e2,Ad_,(Heap.Ns1.of_empty e3).at fun o q=>AB_,CY True.intro,fun y hy=>(M1 rfl hy)⟩
theorem z5a{prog:Program}{w:World}{env:Env}{e:Expr}{f:Str}{pos:Pos}{s:Shared}{Q:dW}(hb:attributeBase e f env (tJ e)=eval e env)
  (h:AaA e o (ò (getAttr o f true) s₁)):Ff (tJ (.Attribute e f pos)):=
 Attribute_any_ h (l_ arm_eval_Attribute hb)
#where
def aaI(K:W.Frag)(ta:TE)(f:Str):TE:=md (∃a C dx fs v,x= AR/\AJp AQ_/\Cls K C/\uC f/\AYM/\Q v H1)
def aaJ(Ty)(ta tv:TE)(f:Str):TS:=AqL (∃a C dx fs,x= AR/\Cl H2 AQ_/\Cls K C/\uC f/\Aey/\
 Û (upd H2 a Az6))
section
variable{X:Cx}{o e value:Expr}{f:Str}{pos pos' tpos:Pos}{ta tv:TE}
theorem yej(he:qo ta)(hb:X2 f=A7 e):ka Attribute e f (aaI X.K ta f):=by
 show ED;refine z5a hb (bU gI (pv u aaK));obtain⟨x,H1,I1,rx,a,C,dx,fs,v,ex,ea,c,n,l,q⟩:=aaK;subst ex;show aT;exact z21 I1 ea c n l BFO
theorem z97(ha:PE X o ta)(hv:Ae9)(hs:ASm o):ADy (ARa o f) value (aaJ X.K ta tv f):=by
 show PY;show Axa u;obtain⟨y,H1,I1,ry,q⟩:=hz1;show g6 AoO ov hz2;obtain⟨x,H2,I2,rx,a,C,dx,fs,ex,ea,c,n,l,q2⟩:=hz2;subst ex;show È ov rx;exact z24 I2 ea c n l ry A3x
#where
structure cZ (k:Nat) (A:Around):Prop where
 hd:Ic
 dp:A.depth+3*k+5<recursionLimit
 un:A.units+16*k+200<cLine
theorem cZ.mono{j k:Nat}{A:Around}(r:ASA)(h:j<=k):cZ j A:=⟨r.hd,GB r.dp,GB r.un⟩
theorem cZ.deeper(Aok)(r:cZ FI A)(env:Env):AcC k env:=
 ⟨r.hd,by have:=r.dp;show A.depth+1+3*k+5<_;omega,by have:=r.un;show A.units+3+16*k+200<_;omega⟩
theorem z3e{A:Around}{C:Addr}{us:Ο}{kw:ADr}:(A.under AjS).depth=A.depth+1:=by
 first | rfl | simp [Around.under,Code.weight,Code.isCreation,Code.isGuard,Code.isCaller,Code.frames,Code.isFrame,guardIds]
theorem z3d{A:Around}{C:Addr}{us:Ο}{kw:ADr}:(A.under AjS).units=A.units+1:=by
 first | rfl | simp [Around.under,Code.cUnits,Code.frames,Code.isFrame]
theorem cZ.make(Aok)(r:cZ FI A)(C:Addr)(us:Ο)(kw:ADr):cZ k (A.under AjS):=
 ⟨r.hd,by have:=r.dp;rw[z3e];omega,by have:=r.un;rw[z3d];omega⟩
theorem cZ.depth(BGH):A.depth<recursionLimit:=GB r.dp
theorem cZ.units(BGH):A.units+64<cLine:=GB r.un
def aaL:TA:=AZL (Q [] H)
def Va(ta:TE)(tr:TA):TA:=md (dL tr xs (Q ANp H2))
section
variable{X:Cx}{e:Expr}{es:A2}{te:TE}{t:TA}{pos:Pos}
theorem Rz:PA X [] aaL:=fun _ _ _ _ H Q I h=>Calls.spliced_nil (AXp [] CC)
theorem Od(ha:SE)(hr:AWU)(hs:starEach DF X.env=EG (A7 e) (EF es):=by rfl):PA X DF (Va te t):=by
 intro pos pins s σ H Q I h;rw[hs];show Pi Calls.spliced_cons ZH u aaM;show LT aaM;exact bU (hr pos pins s1 σ H1 _ I1 q1) fun us s2 aaN=>by obtain⟨xs,H2,I2,r2,q2⟩:=aaN;exact⟨KF,H2,I2,.cons r1 r2,q2⟩
def aaO(t:TA):TE:=BHc Qb
def aaP(t:TA):TE:=BHc ú
theorem yfk{x1}(h:AWU):ka Tuple es x1 (aaO t):=by
 intro pins s σ H Q I hq;refine wpAny_Tuple_spliced (bU (h pos pins s σ H _ I hq) A_0)
 have hf:lS s1.heap.objs.size:=AWn;refine IE AgJ (upd H1 s1.heap.objs.size Qb) A3o (q _ hf);exact⟨z,us,r,JA _ OQ _ rfl⟩
theorem yef(h:AWU):PE X A0p (aaP t):=by
 intro pins s σ H Q I hq;refine wpAny_List_spliced (bU (h pos pins s σ H _ I hq) A_0)
 have hf:lS s1.heap.objs.size:=AWn;refine IE AgJ (upd H1 s1.heap.objs.size ú) A3o (q _ hf);exact⟨z,us,0,r,OQ⟩
#where
abbrev Sp:=Η ->Hp ->BN VK XK
abbrev JQ:=Ω GA Hp Shared XK (D6 Value)
structure yC (ABR) (mg:B0) (base:Heap) (A:Around) (outer:GA) (s:Shared) (H:Hp):Prop where
 frames:ATI outer
 mod:Mod K mg base
 bs:dQ base.get? (NN/\HA)
 bsz:base.objs.size<=s.heap.objs.size
 funs:ATC base outer
 frf:OO (frs outer) HA
 hok:ou P w H s.heap
 bare:AuD
def CE(outer:GA)(P:Program)(w:World)(H:Hp)(s:Shared)(Q:VK)(u:Value)(s' :Shared):Prop:=
 ∃v H',s'.os=s.os/\ADa/\AYU AiS/\A9Q/\LM/\k7
def CR(CX:JQ)(outer:GA)(P:Program)(w:World)(H:Hp)(s:Shared)(Q:VK)(E:XK)(r:Result)(s' :Shared):Prop:=
 match r with
 | .ok (.ret u)=>AtU
 | .ok _=>False
 | .error e=>CX outer H s E e s'
structure fY (P:Program) (Afq) (CX:JQ) (k:Nat) (f:Addr) (fd:FuncData) (ps:Α) (sp:Sp):Prop where
 len:A6Q
 run:∀(A:Around) (outer:GA) (s:Shared) (H:Hp) (args:Args) (us:Ο) (vs:Η) (Q:VK) (E:XK),ASA ->Ω AYs (BCa args us) AM7 ASo (ĭ sC A FX args (CR CX outer P w H s Q E) s)
theorem fY.imp(BIW){CX:JQ}{k:Nat}{f:Addr}{fd:FuncData}{ps:Α}{sp sp' :Sp}(F:A8Y sp)
  (h:∀vs H Q E,sp' vs H Q E ->ASo):A8Y sp' :=
 ⟨fun vs H Q E q=>F.len vs H Q E (M0 h q),fun A outer s H args us vs Q E hr he hb hv hs=>F.run A outer s H args us vs Q E hr he hb hv (M0 h hs)⟩
theorem yC.make(BIW){A:Around}{outer:GA}{s:Shared}{H:Hp}(e:AYs)(C:Addr)(us:Ο)(kw:ADr):
  BJs (AOG (AJl (GW::us))):=⟨by first | exact e.frames | (simpa [Around.under,Code.envs,Code.isFrame,pushEnvs] using e.frames),e.mod,e.bs,e.bsz,e.funs,e.frf,e.hok,e.bare⟩
section
variable{X:Cx}{pins:eE}{σ:St}{H:Hp}{s s' :Shared}
theorem Inv.env0(OE):A_I s H:=
 ⟨I.ok.frames,I.ok.mod,I.bs,zO I.ok.bsz I.sz,I.stack,I.stkFree,I.hok,I.bare⟩
theorem Inv.after{Q:VK}{u:Value}(I:Ι)(h:CE X.stack X.prog X.w H s Q u s'):mr u s' :=by
 obtain⟨v,H',os,bare,un,hok,r,q⟩:=h;obtain⟨hh,g,d,t,os'⟩:=s';obtain rfl:os' =s.os:=os;exact⟨v,H',D8 (I.call (h' :=hh) (g' :=g)) d' d t' t ch [] un hok bare ANt,r,q⟩
#where
def Binds(K:W.Frag)(fd:FuncData)(ps:Α)(ds:Ο):Prop:=
 ∀(s:Shared) (us:Ο),ADx ->K0 (us++ds)=ps.length ->BCa ADn (us++ds)
theorem Binds.all{K:W.Frag}{fd:FuncData}{ps:Α}(h:∀us:Ο,us.length=ps.length ->A5a fd):tq:=fun s us _ hl=>by
 rw[List.append_nil] at hl⊢;exact .of_eq (h us hl)
section
variable{X:Cx}{CX:JQ}{k:Nat}{f C:Addr}{fd:FuncData}{ps:Α}{sp:Sp}{dvs:Η}{ds:Ο}{E:XK}{x m:Str}{p pos apos:Pos}{e o:Expr}{es:A2}{ta:TE}{t:TA}
structure Mk (K:W.Frag) (C f:Addr):Prop where
 makes:Atl
 init:Ĳ
 fn:AJ4
 kp:Mc W.keepIn E_
#where
structure aA (N P:Α) (sc:Scope):Prop where
 kind:Alc
 co:E4 sc.isCoroutine
 gen:E4 sc.isGenerator
 nd:N.Nodup
 pre:N.take P.length=P
 par:∀x∈P,Am8 ANL
 nofree:∀y∈sc.names,y.2≠ L6
theorem zv5(A5b):BEn bindL
 | [],_,_=>rfl
 | (n,v)::r,m,h=>by
  unfold bindL;rw[zv5 (AGU (AUN h w hw))];split
  ·show BFV
  ·rfl
theorem zw2(A5b):BEn bindC
 | [],_,_=>rfl
 | (n,v)::r,m,h=>by
  unfold bindC;rw[zw2 (AGU (AUN h w hw))];split
  ·rfl
  ·show BFV
theorem zu9(BHT):BGh (Ω P.Nodup (bc P) AFu (AIC kindOf) (Awh bindL))
 | [],_,_,_,_,h,_,_=>AFw
 | BY,[],_,_,_,_,h,_=>AFw
 | p::P,w::vs,0,m,nd,h1,h2,hk=>by
  simp at h1 h2;subst h1;subst h2;show bindL kindOf ((p,w)::P.zip vs) m p=_;unfold bindL;rw[BEf zv5,BD hk];simp
 | p::P,w::vs,BM,m,nd,h1,h2,hk=>by
  unfold bindL;exact nI zu9 AHA ħ AKR hk
theorem zvd(BHT):BGh (Ω P.Nodup (bc P) AFu (kindOf x≠some ACS) (Awh bindC))
 | [],_,_,_,_,h,_,_=>AFw
 | BY,[],_,_,_,_,h,_=>AFw
 | p::P,w::vs,0,m,nd,h1,h2,hk=>by
  simp at h1 h2;subst h1;subst h2;show bindC kindOf ((p,w)::P.zip vs) m p=_;unfold bindC;rw[BEf zw2,AY hk];simp
 | p::P,w::vs,BM,m,nd,h1,h2,hk=>by
  unfold bindC;exact nI zvd AHA ħ AKR hk
def start(N:Α)(vs:Η):St:=vs.map some++ALG (N.length - vs.length) none
def fu(CX:JQ)(P:Program)(Afq)(N:Α)(qual:Str)(scope:Scope)(f:Addr)(cd:Value)(A:Around)(outer:GA)(s:Shared)(H:Hp)(E:XK):Cx where
 prog:=P
 w:=w
 K:=K
 mg:=mg
 base:=base
 A:=A.deeper (BFU cd)
 N:=N
 s₀:=s
 H₀:=H
 env:=BGN
 outer:=outer
 stack:=BGN::outer
 ex:= []
 calm:=true
 fn:=CY true
 pn:= []
 xe:=fun e s' =>wpAny sC (A.deeper (BFU cd)) (leaving (envOfC qual scope s.heap.objs.size f cd) e) (FD s'' (CX outer H s E e s'')) (fun e' s'' =>CX outer H s E e' s'') s'
theorem z1r{sc:Scope}{n:Nat}{x:Str}(h:ANL):∃c,z_ (AXX n sc.names []):=by
 have q:=W.cellsFrom_some sc.names n [] (D9 h);exact Option.isSome_iff_exists.mp q
theorem zw4{CX:JQ}{P:Program}{w:World}{K:W.Frag}{mg:B0}{base:Heap}{N ps:Α}{qual:Str}{scope:Scope}{f:Addr}{cd:Value}{A:Around}(BBn s1){H:Hp}{E:XK}{us:Ο}{vs:Η}
  (S:A9o) (hd:Ic) (e0:AYs) (hl:BKj) (r:AM7)
  (x:InCallC s s.heap.objs.size (BI3 bindL) (cellsFrom UF scope.names []) (BI3 bindC) s1):
  Inv BHJ [] AYL H s1:=by
 have hpl:ps.length<=N.length:=by have:=congrArg List.length S.pre;show BC List.length_take;omega
 obtain⟨h1,tk,rfl,hk⟩:=x.done;have Vb:∀b:Addr,b∉ (BHJ).ex:=fun b z=>(ApL z)
 refine⟨⟨e0.mod,S.kind,rfl,rfl,GL,De y z c h1 h2,AJ y hy,fun y c _ h=> ?_,CY hd,Around.frames_deeper e0.frames,.inr dr,A7w,e0.bs,e0.bsz,EM _ _ (Vb b),A7w,e0.funs,e0.frf⟩,
  rfl,e0.bare,Un.kept hk,B1 x.toInCall.ns (fun i y v h1 h2 h3=> ?_),fun y c h=>(CH (x.cell y c h)),e0.hok.fresh (zN _),Ν y c h,Aq9,e0.hok.kept hk,?_⟩
 ·exact name_of_addr x.apart (BLl h1) (PySem.mem_of_lookup h2)
 ·have hy:AuA i_\/AuA L6:=hy;rcases hy with hy | hy
  ·exact z1r hy
  ·exact absurd rfl (S.nofree _ (BLl hy))
 ·exact Nat.le_of_lt BBM
 ·show AiX (by
   unfold start at h2;show ADU vs.length
   ·exact hi
   ·rw[Ĭ] at h2
    rw[List.getElem?_replicate] at h2;split at h2<;>cases h2)
  have ha:AFu:=by
   unfold start at h2;show ALE xl h2
   cases e:vs[i]? with
   | none=>show Cc e h2 h2
   | some a=>rw[e] at h2;cases h2;rfl
  show BS u hu rv r.get ha;have hp:Ch ps y:=by
   rw[<- S.pre,List.getElem?_take_of_lt χ];exact h1
  have ndP:ps.Nodup:=BF S.pre (S.nd.sublist (List.take_sublist _ _))
  show A9 u rv;rcases S.par y (yV hp) with k | k
  ·show CB ⟨k,zu9 ndP hp hu k⟩
  ·show CM c e (z1r (n:=l')) k;show O_ ⟨.inl k,c,e,?_⟩;have q:=x.cell y c e;rw[zvd ndP hp hu (by show scope.names.lookup y≠_;rw[k];decide)] at q
   exact q
 ·exact e0.hok.fresh (Nat.le_of_lt BBM)
 ·unfold start;show _=N.length;show č List.length_append List.length_replicate;omega
theorem Oe{CX:JQ}{P:Program}{w:World}{K:W.Frag}{mg:B0}{base:Heap}{k:Nat}{f:Addr}{name qual:Str}{params:Arguments}{body:PU}{scope:Scope}{dV kV doc pm cdv ct oc:Value}{an od:Hb}
  {osl:vn} {N ps:Α} {sp:Sp} (lk:AfG (.func BIc) osl) (hcd:BK9) (S:A9o)
  (len:A6Q)
  (hbody:∀(A:Around) (outer:GA) (s:Shared) (H:Hp) (vs:Η) (Q:VK) (E:XK),AIk k qual scope ->ASo ->
   ∃t,Gj As6 body t/\t A9V AYL H):
  SO fY CX FI f BIc ps sp:=by
 show A8 len (fun A outer s H args us vs Q E hr e0 hb r hsp=> ?_);have hl:=kG len hsp;show A_8;show A_9;show B3 hkind y (ps.zip us) (scope.names.lookup y.1=some ACS\/ (scope.names.lookup y.1=some i_/\ (AXX UF scope.names [] y.1).isSome=true)) ⟨n,v⟩ hy (by
  show TU (S.par n (AeD hy)) q
  ·show CB q
  ·show CU A2S)
 refine codeAny_call_function hr.depth (KX _ _ lk) rfl S.co S.gen rfl A7G BMv;refine wpAny_newFunctionEnv_cells S.kind hkind (ER env he s1 x);subst he;show A'f;obtain⟨t,ht,hq⟩:=hbody A outer s H vs Q E (hr.deeper _) hsp;have I:Inv As6 [] AYL H s1:=BG' hl;refine wpAny_mono (ht [] s1 AYL H _ I hq) (Ν fl s' hs) fun e s' hs=>hs;have fin:∀{σ' :St} {H' :Hp} {v:V} {u:Value},Inv As6 [] σ' H' s' ->LM ->k7 ->AtU :=
  fun{σ' H' v u} J rv q=>⟨v,H',J.os,J.bare,J.base,J.hok,rv,q⟩
 cases fl with
 | ret u=>
  obtain⟨v,σ',H',J,rv,q⟩:=hs;exact fin J rv q
 | next=>
  obtain⟨σ',H',J,q⟩:=hs;exact fin (v:=V.non) (u:=Value.none) J rfl q
 | brk=>
  show AbI
 | cont=>
  show AbI
section
variable{X:Cx}{x:Str}{p pos:Pos}{e:Expr}{es:A2}{t:TA}{id T:String}{r:g_}
def RB(r:g_)(t:TA):TE:=IN t vs (r vs H1 Q)
theorem Vc(hc:kU id r)(hg:HE)(hm:Ũ)(hv:Œ se)(ha:AWV)(hn:va :=by decide)(hdb:AT x "__debug__":=by decide)
  (WS):A7j:=by
 show ED;refine wpAny_Call_Name_kw (ACl hv ?_ hn hdb);exact PyProof.Rows.callWith_builtin1 (bU AKE fun us s1 aaQ=>by show AQs aaQ;exact hc pins s1 σ H1 vs us Q I1 r1 q1) he hpl
theorem Z6(hc:eF X u8 r)(hg:HE)(hm:Ũ)(hv:Œ u8)(ha:AWV)(hn:va :=by decide)(hdb:AT x "__debug__":=by decide)
  (WS):A7j:=by
 show ED;refine wpAny_Call_Name_kw (ACl hv ?_ hn hdb);exact PyProof.Rows.callWith_type1 (bU AKE fun us s1 aaR=>by show AQs aaR;exact hc pins s1 σ H1 vs us Q I1 r1 q1) he hpl
#where
#print L2
namespace HT
open PySem PyProof.Rows
section
open PySem.SeqAt
open PySem.AutoSeq1 (wpAny_loadPart')
open PySem.MeetsSeq PySem.MeetsSeq2 PySem.MeetsSeq3
#where
section
variable{prog:Program}{w:World}{A:Around}{E:dW}{s:Shared}
def sIx(n d:Nat):Kx ->Nat
 | none=>d
 | uA=>if v<0 then Q4 v FL else BKv
theorem ykm(n d:Nat)(hd:d<=n)(o:Kx):sIx n d o<=n:=by
 cases o with
 | none=>exact hd
 | some v=>
  show BDl<=n;by_cases hv:v<0
  ·show Db hv;omega
  ·show Ap hv;exact Nat.min_le_right _ _
theorem z7v(v:Int)(n d:Nat):A9i=CF (sIx n d (some v)):=by
 show A9i=CF BDl;by_cases hv:v<0
 ·simp only [BD hv];omega
 ·simp only [ATm];omega
theorem z27(BFr):Builtin.Slice.sliceAdjust lo hi 1 FL=(AaQ,A1'):=by
 have h1:¬(PD<0):=ω
 refine Prod.ext ?_ ?_
 ·cases lo with
  | none=>rfl
  | some v=>exact z7v v n 0
 ·cases hi with
  | none=>rfl
  | some v=>exact z7v v n n
theorem z31(i j:Nat):Builtin.Slice.slicePlaces Fh Rc 1=j - i:=by
 unfold Builtin.Slice.slicePlaces;have h1:PD>0:=ω
 simp only [h1,if_true,Int.ediv_one];split<;>omega
theorem zr4{v:Value}{o:Kx}{Q:D6 Kx}(p:IsPart v o)(h:Q o s):Ff (Builtin.Slice.slicePartIndex v):=by
 cases p with
 | none=>exact slicePart_none h
 | int i t=>exact slicePart_int h
theorem znq{sl:Addr}{vl vu:Value}{lo hi:Kx}{n:Nat}{Q:D6 (Int×Int×Nat)}(hs:Asp)(pl:Aov)(pu:Aow)
  (h:Q (AaQ,1,sIx n n hi - sIx n 0 lo) s):Ff (Builtin.Slice.sliceApplied ATK (pure FL)):=by
 show K_ os hos hcs hds hs;show D' z6 (AoI vl rfl (z6 (AoI vu rfl (z6 (AoI Φ rfl AQ9)))));show JJ slicePart_none;show YV
 refine z6 (zr4 pl (z6 (zr4 pu AXn)));show ACb (match Builtin.Slice.sliceAdjust lo hi 1 FL with | (lo,hi)=>pure (lo,PD,Builtin.Slice.slicePlaces lo hi 1))
 rw[z27 lo hi n];show ACb (pure (AaQ,PD,Builtin.Slice.slicePlaces AaQ A1' 1));rw[z31];exact z7 h
theorem ydy(xs:ES)(i k:Nat):WA (AQm k filterMap) (fun(FC m)=>xs[Aq']?)=WA (xs.toList.drop i).take k:=by
 have e:(Τ (FC m) xs[Aq']?)=fun m=>xs[i+m]?:=by
  funext m
  have:Aq'=i+m:=ω
  rw[this]
 rw[e];have:=pick_run xs i k;show BC List.filterMap_map;have e2:((Τ x xs[x]?) ∘ T_ (i+x))=fun m=>xs[i+m]?:=rfl;rw[e2] at this;rw[this]
theorem getItem_tuple_cut{t sl:Addr}{items:ES}{vl vu:Value}{lo hi:Kx}{Q:dW}(ht:IsTup s.heap t items)(hs:Asp)(pl:Aov)(pu:Aow)
  (hw:¬(AI3=0/\AQ4=items.size))
  (h:ANe (VC (WA ArP ASe)))
  (hsz:Agf):Ff (getItem (AH t) ATK):=by
 have Dw:sizeOk (.seq (WA ArP ASe)):=by
  show BH (ArP ASe).toArray.size;rw[List.size_toArray,List.length_take,List.length_drop,Array.length_toList];omega
 have hj:AQ4<=items.size:=ykm _ _ D3 hi;show K_ os hos hcs hds hs;have hTs:s.TypeIs ATK "slice" :=⟨os,hos,hcs⟩;unfold getItem
 try with_reducible refine wpAny_holding ?_
 first | show gT | skip
 show L4 wpAny_sequenceKey ht.typeIs Β
 refine z6 (BJQ "__getitem__" ht.typeIs PyProof.Rows.slot_tuple_getitem
  (wpAny_call_entry PyProof.Rows.slot_tuple_getitem ht.typeIs entry_tuple_getitem ?_ (args_tuple_getitem _ _)))
 show AGS (Builtin.Tuple.tupleItemsOf (AH t));show Hn tupleItemsOf_ ht;show Hn wpAny_typeOf hTs;show Db Β
 refine z6 (znq hs pl pu ?_);have hno:¬(BHz):=by
  intro q;rw[Bool.and_eq_true,Bool.and_eq_true] at q;have q1:CF AI3=0:=eq_of_beq q.1.1;have q2:AQ4 - AI3=items.size:=eq_of_beq q.2;exact hw AI'
 show ACb (yA BHz);rw[AY hno,ydy]
 first
  | exact AU' (wpAny_newObj_type (z7 AeQ) Dw)
  | exact AU' (wpAny_newObj_type (z6 AxN) Dw)
  | exact z6 (AU' (wpAny_newObj_type AxN Dw))
  | exact z6 (AU' (wpAny_newObj_type (z7 AeQ) Dw))
#where
#print HT
namespace L2
open PySem PySem.Spec PyProof.Rows
abbrev TO:=AYz AhK
def PO(X:Cx)(e:ALU)(t:TO):Prop:=
 AKz Q AhK dy (evalPart e X.env) (XB u (∃o H',Ź /\IsPart u o/\Q o H'))
def yis:TO:=AZL (Q none H)
def Vd(t:TE):TO:=IN t x (∃i,x= C7/\Q (some i) H1)
section
variable{X:Cx}{e:Expr}{te:TE}{lo hi:ALU}{tl th:TO}{pos p2:Pos}
theorem yhp:PO X none yis:=by
 show ED;rw[evalPart_none];exact z7 (AXp none Φ)
theorem yiz(h:SE):PO X ALY (Vd te):=by
 show Ak8;rw[evalPart_some];show oP Ans u aaS;show LT aaS;show Oy i rfl q1;show Lc r1;exact⟨some i,H1,I1,.int i t,q⟩
def SlR(X:Cx)(r:APd):Prop:=
 ∀(pins:eE) (s:Shared) (σ:St) (H:Hp) (x:V) (v vl vu:Value) (lo hi:Kx) (sl:Addr) (Q:VK),Ι ->SC ->Ω Asp Aov Aow (r x lo hi H Q) (∃T id,A_4/\A0G/\Ė (getItem v ATK))
def tSl(r:APd)(te:TE)(tl th:TO):TE:=IN te x (dL tl l (th σ H2 fun u H3=>r x l u H3 Q))
theorem z1v{r:APd}(hr:SlR X r)(he:SE)(hl:PO X lo tl)(hu:PO X hi th):Aic e As1 (tSl r te tl th):=by
 show ED;show Pi Subscript_ gI v aaT;show LT aaT;refine wpAny_Slice (bU (ACZ hl) (AEn vl s2));obtain⟨l,H2,I2,pl,q2⟩:=hz1;show rh (Afg hu) vu s3 hz2;obtain⟨u,H3,I3,pu,q3⟩:=hz2;rw[evalPart_none];refine z7 ?_;have I4:OK H3 A'i:=I3.kept (t' :=s3.toks) An4;obtain⟨T,id,hT,ht,hg⟩:=hr pins A'i σ H3 x v vl vu l u s3.heap.objs.size Q I4 r1 (Heap.IsSliceOf.new ..) pl pu q3;exact tail_any (ops:= [.ref s3.heap.objs.size,v]) ht hT hg ń
def yD(xs:Η)(lo hi:Kx):Η:=AwZ
theorem zqm(xs:Η)(lo hi:Kx):XI yD xs lo hi<=xs.length:=by
 unfold yD;rw[List.length_take,List.length_drop];omega
def aaU(AG9):APd:=fun x lo hi H Q=>∃a xs,x= AR/\xc/\
 ¬(AQH 0 lo=0/\Ac9 hi=xs.length)/\Asc (.tup AXu)
theorem yj6:SlR X (aaU X.K):=by
 intro pins s σ H x v vl vu lo hi sl Q I rx hs pl pu h;show i7 a xs hx hw q h;cases rx;obtain⟨its,r,ht,hz⟩:=I.tuple hx;have hlen:its.toArray.size=xs.length:=Θ List.size_toArray r.length.symm
 show P9 "tuple" _ PyProof.Rows.slot_tuple_getitem.lookup ht.typeIs;refine HT.getItem_tuple_cut ht hs pl pu (B' hlen hw) ?_ (B' hlen hz)
 rw[hlen];refine AHS (ASL I.laid o (.tup AXu) (An4) D3 ?_) q;exact⟨A8L,_,Afi r.drop,Agv⟩
#where
def wM(n:Nat)(i:Int):F6 Nat:=if 0<=i then(AI (i<n) (some i.toNat) none) else Afw (-FL<=i) (some (Q4 i n))
def mY(x_)(xs:A0)(i:Int):F6 α:=(wM xs.length i).bind fun j=>xs[j]?
theorem z9q{n:Nat}{i:Int}{j:Nat}(h:wM n i=some j):A7K n/\j<n/\ -FL<=i/\i<n:=by
 show BO wM;by_cases h0:0<=i
 ·show n_ h0;by_cases h1:i<n
  ·show n_ h1;have e:i.toNat=j:=zF h;exact⟨Gc (AnH h1) e,ω,ω,h1⟩
  ·show AOq (AY h1)
 ·show n9 h0;by_cases h1: -FL<=i
  ·show n_ h1;have e:Q4 i n=j:=zF h;exact⟨Gc (Ajj h1) e,ω,h1,ω⟩
  ·show AOq (AY h1)
theorem zzi{α:Type}{xs:A0}{i:Int}{v:α}(h:ĉ xs v):∃j,A7K xs.length/\L7 xs v/\ALp/\ -Ņ<=i/\uu:=by
 show BO mY;cases e:wM xs.length i with
 | none=>show AOq e
 | some j=>
  rw[e] at h;obtain⟨h1,h2,h3,h4⟩:=z9q e;exact⟨j,h1,h,h2,h3,h4⟩
theorem yE{α:Type}{xs:A0}{j:Nat}{v:α}(h:L7 xs v):mY xs Rc=some v:=by
 have hj:ALp:=IO h;have e:wM xs.length Rc=some j:=by
  unfold wM;rw[YO,YO];simp
 unfold mY;rw[e];exact h
def zxk(b:Expr):Prop:=∀o i,subscripted b false o i=Ana [o,i] o i
def Z7(X:Cx)(r:R2):Prop:=
 ∀(value slice:Expr) (pins:eE) (s:Shared) (σ:St) (H:Hp) (x y:V) (v u:Value) (Q:VK),Ι ->Ω SC J' (r x y H Q) (subscripted slice false v u=Ana [v,u] v u) (Ė (subscriptTail value slice v u))
def MtR(A_T):Prop:=
 ∀(pins:eE) (s:Shared) (σ:St) (H:Hp) (x:V) (xs:Η) (v:Value) (us:Ο) (Q:VK),Ω Ι SC RA (r x xs H Q) (Ap' v)
section
variable{X:Cx}{a b:Expr}{ta tb:TE}{pos:Pos}
theorem yjx{r:R2}(hr:Z7 X r)(ha:XZ)(hb:AEJ)(hs:zxk b):Aic a b AaT:=by
 show ED;exact Subscript_ (AsR (BLV (hr a b pins s2 σ H2 x y v u Q I2 rx ry q (hs _ _))))
def aaV(AG9):R2:=BIk (mX K H p xs)
def aaW(AG9):R2:=BIk (wB K H p xs)
def aaX:R2:=ĵ (∃z i c,x= AUK/\y= C7/\Agg/\A0y/\Q (.str Akx) H)
theorem z81:Z7 X (aaV X.K):=by
 intro value slice pins s σ H x y v u Q I rx ry h hs;obtain⟨p,xs,i,z,rfl,rfl,hq,he,q⟩:=h;cases rx;show Lc ry;obtain⟨its,r,pl,hz⟩:=I.list hq;show AtZ;show BS w ew tQ r.get h2;show Ahf;show AAs;have fin:mr w s:=A8y;by_cases h0:0<=i
 ·have hj:i.toNat=j:=by
   rw[AnH h5] at h1;exact zF h1
  exact item_listR pl.isList h0 χ (by rw[hj];simpa using ew) fin hs
 ·have hj:Q4 i AJn=j:=by
   rw[Ajj h4] at h1
   show ARj;exact zF h1
  exact BMm w pl.isList.typeIs slot_list_getitem.lookup
   (wpAny_getItem_list_neg (Q:=A4') pl.isList χ BLr χ (by rw[hj];simpa using ew) (EO fin)) hs
theorem ylm:Z7 X (aaW X.K):=by
 intro value slice pins s σ H x y v u Q I rx ry h hs;obtain⟨p,xs,i,z,rfl,rfl,hq,he,q⟩:=h;cases rx;show Lc ry;obtain⟨its,r,pl,hz⟩:=I.tuple hq;show AtZ;show BS w ew tQ r.get h2;show Ahf;show AAs;have fin:mr w s:=A8y;exact BMm w pl.typeIs slot_tuple_getitem.lookup
  (getItem_tuple (j:=j) (Q:=A4') pl χ χ (Ah9 h1) (B9 ew) (EO fin)) hs
theorem yll:Z7 X aaX:=by
 intro value slice pins s σ H x y v u Q I rx ry h hs;obtain⟨z,i,c,rfl,rfl,hz,he,q⟩:=h;show Op;show AAk;show AtZ;have hl:z.cps.toList.length=z.length:=BG Str.length
 rw[hl] at h1 h4 h5;show AAs;exact tail_any (typeIs_str s z t) slot_str_getitem.lookup (getItem_str (c:=c) (by
  have e1:Μ (i< -(AX (2^63)))=false:=AhP
  have e2:Μ (i≥2^63)=false:=AhP
  rw[e1,e2,Bool.or_false]) (by rw[h1];simpa using h2) (A1N Akx)) hs
theorem z3o(its:Ο)(n j:Nat)(u:Value):Obj.mapSeq (·.setIfInBounds j u) AEQ=ABW ABh (.seq (its.set j u).toArray n):=BG Obj.mapSeq
theorem Inv.lst{pins:eE}{σ:St}{H:Hp}{s:Shared}{p:Addr}{xs:Η}(I:Ι)(h:AkK):
  AsD (ADP/\A0g/\Sn):=by
 show AbW (dq p h);exact⟨its,n,r,e,z⟩
theorem Inv.lstUpd(BH4){p:Addr}{xs ys:Η}{its its' :Ο}{n n' :Nat}{f:Obj ->Obj}(I:Ι)(h:AkK)
  (ho:A0g) (hf:f AEQ=A0s) (r:Avb) (hz:ALa) (t:Nat):
  NJ p ō (U1 (s.heap.update p f) t):=by
 have e:(s.heap.update p f).get? p=some A0s:=by
  rw[Heap.get?_update_self f ho (by rw[hf]<;>rfl),hf]
 refine AOT p p (by rw[h];trivial) L8 (cK u q (AQ2 AJR trans q)) (CH e) ?_
 exact⟨hz,its',n',r,e⟩
def Ve:A9j:=fun o i v H Q=>∃p xs k j,o= IR/\i= wT/\AkK/\A5U/\Q (FG p Ay4)
theorem yba:U0 X Ve:=by
 intro pins s σ H o i v ov iv u Q I ro ri rv h;obtain⟨p,xs,k,j,rfl,rfl,hp,hj,q⟩:=h;cases ro;show Lc ri;obtain⟨its,n,r,ho,hz⟩:=I.lst hp;obtain⟨h1,h2,h3,h4⟩:=z9q hj;show Ahf;show AAs;have I' :NJ p Ay4 (OM (s.heap.update p (Obj.mapSeq (·.setIfInBounds j u)))):=
  I.lstUpd hp ho (z3o its n j u) (r.set rv j) (B' List.length_set hz) s.toks
 by_cases h0:0<=k
 ·have hk:k.toNat=j:=by
   rw[AnH h4] at h1;exact zF h1
  exact W.ki_setAt ho h0 χ (Ah9 h4) AzT
 ·have hk:Q4 k AJn=j:=by
   rw[Ajj h3] at h1
   show ARj;exact zF h1
  exact W.ki_setBack ho χ (Ah9 h3) χ AzT
theorem zw7(BFr):As0.1=CF (HT.sIx n 0 lo)/\ As0.2.1=CF (HT.sIx n n hi)/\ As0.2.2=1:=by
 show fN ?_ rfl
 ·cases lo with
  | none=>simp [sliceBounds,HT.sIx]
  | some i=>
   simp only [sliceBounds,HT.sIx,Option.getD_none,AH9 (PD>0),if_true]
   by_cases h:i<0
   ·show Avz
   ·show Av0
 ·cases hi with
  | none=>simp [sliceBounds,HT.sIx]
  | some i=>
   simp only [sliceBounds,HT.sIx,Option.getD_none,AH9 (PD>0),if_true]
   by_cases h:i<0
   ·show Avz
   ·show Av0
theorem ztm(its:Ο)(lo hi:Kx):slicePick its.toArray lo hi none=WA (BJi its.drop its.length) (HT.sIx its.length its.length hi - HT.sIx its.length 0 lo):=by
 obtain⟨h1,h2,h3⟩:=zw7 lo hi its.toArray.size;unfold slicePick;rw[h1,h2,h3];simp only [sliceRange_one,pick_run,List.size_toArray]<;>rfl
def aaY(AG9):APd:=fun x lo hi H Q=>(ASP xs Zp (Asc (B8 AXu)))
theorem yfq:SlR X (aaY X.K):=by
 intro pins s σ H x v vl vu lo hi sl Q I rx hs pl pu h;show EN a xs hx q h;cases rx;obtain⟨its,r,ht,hz⟩:=I.list hx;have hlen:=r.length;show P9 "list" _ slot_list_getitem.lookup ht.isList.typeIs;refine wpAny_getItem_list_slice ht.isList hs pl pu Φ Χ ?_ BLr
 rw[ztm,<- hlen];refine AHS (ASL I.laid o (.lst AXu) (An4) D3 ?_) q;exact⟨A8L,_,0,Afi r.drop,OQ⟩
def pK:V ->Bool
 | AE=>true
 | P8=>true
 | RO=>true
 | R_=>true
 | _=>false
def Kh:V ->V ->Bool
 | AE,AE=>true
 | .bl a,Y1=>Ā
 | .bl a,AEv=>A6l
 | AEu,Y1=>a==(AI b 1 0)
 | AEu,AEv=>Ā
 | .str a,.str b=>Ā
 | _,_=>false
theorem ykq{A:Around}{s:Shared}{y x:V}{u v:Value}(ry:J')(rx:SC)(fy:pK y=true)(fx:AiD):A9U (Kh y x):=by
 cases y with
 | non=>
  cases ry;cases x with
  | non=>show wE AgX
  | bl b=>show wE (SeqAt.EqAt.none_bool b)
  | int b=>show Op;exact SeqAt.EqAt.none_int b t
  | str b=>show Op;exact SeqAt.EqAt.none_str b t
  | _=>show AGh fx
 | bl a=>
  cases ry;cases x with
  | non=>show wE (SeqAt.EqAt.bool_none a)
  | bl b=>show wE (SeqAt.EqAt.bool_bool a b)
  | int b=>show Op;exact SeqAt.EqAt.bool_int a b t
  | str b=>show Op;exact SeqAt.EqAt.bool_str a b t
  | _=>show AGh fx
 | int a=>
  show AAk;cases x with
  | non=>show wE (SeqAt.EqAt.int_none a t')
  | bl b=>show wE (SeqAt.EqAt.int_bool a t' b)
  | int b=>show Aa9 SeqAt.EqAt.int_int
  | str b=>show Aa9 SeqAt.EqAt.int_str
  | _=>show AGh fx
 | str a=>
  show AAk;cases x with
  | non=>show wE (SeqAt.EqAt.str_none a t')
  | bl b=>show wE (SeqAt.EqAt.str_bool a t' b)
  | int b=>show Aa9 SeqAt.EqAt.str_int
  | str b=>show Aa9 SeqAt.EqAt.str_str
  | _=>show AGh fx
 | _=>show AGh fy
def Ck(x:V)(u:Value):Bool:=match u with
 | Φ=>Kh AE x
 | .bool b=>Kh AUP x
 | AOL=>Kh Ň x
 | .str z _=>Kh (.str z) x
 | _=>false
theorem yed{x y:V}{u:Value}(r:J')(f:pK y=true):Ck x u=Kh y x:=by
 cases y with
 | non=>show fR
 | bl b=>show fR
 | int i=>show fS
 | str z=>show fS
 | _=>show AGh f
theorem Vf{x:V}:BHS (us.any (Ck x)=xs.any fun y=>Kh y x)
 | _,_,CC,_=>rfl
 | y::xs,u::us,AAa,f=>by
  rw[List.all_cons,Bool.and_eq_true] at f;show Ayi (yed r f.1) (Vf t f.2)
theorem Vg{A:Around}{s:Shared}{x:V}{v:Value}(rx:SC)(fx:AiD):BHS (∀u∈us,A9U (Ck x u))
 | _,_,CC,_=>AXO (kH hu)
 | y::xs,u::us,AAa,f=>fun u' hu=>by
  rw[List.all_cons,Bool.and_eq_true] at f;show P6 hu hu
  ·rw[yed r f.1];exact ykq r rx f.1 fx
  ·exact Vg rx fx t f.2 u' hu
def inV(x:V)(xs:Η):Bool:=xs.any fun y=>Kh y x
def rIn(K:W.Frag)(neg:Bool):R2:=ĵ (∃p xs,y= IR/\ (mX K H p xs\/wB K H p xs)/\AiD/\BKm/\Q (.bl (AI neg (! inV x xs) (inV x xs))) H)
theorem zvj:AH' In (rIn X.K false):=by
 show zk;obtain⟨p,xs,rfl,hq,fx,fs,q⟩:=h;cases ry;show Aal
 ·show A4S SeqAt.in_listAt
 ·obtain⟨its,r,pl,hz⟩:=I.tuple hq;refine SeqAt.in_tupleAt AQv pl (fun w hw=>Vg rx fx r fs w AeB) (ADZ ?_)
  rw[Afk,Vf r fs]
  exact q
theorem zm9:AH' NotIn (rIn X.K true):=by
 show zk;obtain⟨p,xs,rfl,hq,fx,fs,q⟩:=h;cases ry;show Aal
 ·show A4S SeqAt.notIn_listAt
 ·obtain⟨its,r,pl,hz⟩:=I.tuple hq;refine SeqAt.notIn_tupleAt AQv pl (fun w hw=>Vg rx fx r fs w AeB) (ADZ ?_)
  rw[Afk,Vf r fs]
  exact q
theorem zm6:kU "len" (AOe (BEj (Q (C3 ys.length) H))):=by
 show AN3;show EN p ys hq q h;show MZ;cases rx;show AAs;show Aal
 ·show AkT;show AOC;exact Calls.call_len_list pl.isList ALK (Acs ys.length (A2T hlen))
 ·show AkU;show AOC;exact len_tuple pl ALK (Acs ys.length (A2T hlen))
theorem zv0:kU "len" (AOe (∃z,xs= [AUK]/\Agg/\Q (C3 z.length) H)):=by
 show AN3;show ST z rfl hz q;obtain⟨u,rfl,t,rfl⟩:=vals1 r;show AAs;exact len_str χ (AN2 z.length)
theorem zni:Ajc (AOe (BEj (Asb ō))):=by
 show AN3;show EN p ys hq q h;show MZ;cases rx;have fin:∀(its:Ο),Vals ys its ->ALa ->∀(h' :Heap) (c' :Nat),(∀b o',GS s.heap.get? o' ->GS h'.get? o') ->
   AfT its.toArray c' ->mr d_ Lu:=fun its r' hz h' c' kp e=>
  (AHS (AiE kp D3 (UV h' ō ⟨hz,its,c',r',e⟩)) q)
 show Aal
 ·show AkT;show AOC;obtain⟨o,ho,hc,n,hd⟩:=pl.isList;exact call_list_seq p L8 ho hc hd (fun h' c' kp e=>fin its r' hz h' c' kp e) ALK
 ·show AkU;show AOC;obtain⟨o,ho,hc,n,hd⟩:=pl;exact call_list_seq p (DH rfl) ho hc hd (fun h' c' kp e=>fin its r' hz h' c' kp e) ALK
theorem zlj:ADR "tuple" (AOe (∃p ys,xs= [IR]/\ ((ub mX p/\Asb AFM)\/ (ub wB p/\F7 p H)))):=by
 show AN3;show AMm p ys;show MZ;cases rx;rcases h with ⟨hq,q⟩ | ⟨hq,q⟩
 ·show AkT;show AOC;refine call_tuple_list pl.isList (Q1 h' kp) ALK
  have I1:ő:=ABm I.kept kp;have I2:NJ h'.objs.size AFM (OM (h'.push AeO)):=
   ABm I1.laid (Sk) D3 (UV _ AFM ⟨hz,its,r',Agv⟩)
  exact A9e (.ref h'.objs.size)
 ·show AkU;exact call_tuple_same pl (ACH IR q)
def tyV(K:W.Frag)(T:String)(x:V)(H:Hp):Prop:=match x with
 | R_=>T= "str"
 | RO=>T= "int"
 | IR=>(T= "list" /\∃xs,mX K H p xs)\/ (T= "tuple" /\∃o,K.lookup p=some o/\o.cls= ARP /\AUU)\/
   (T= "dict" /\ ((∃kvs,Lv p Iy)\/∃kvs,Lv p AJ_))\/ (T= "set" /\∃S n,Lv p (.set S n))
 | _=>False
theorem yls{pins:eE}{σ:St}{H:Hp}{s:Shared}{T:String}{x:V}{v:Value}(I:Ι)(r:SC)(ty:tyV X.K T x H):
  A0G/\∀a,di ->∃ob,Agb ob/\ob.dict=none:=by
 cases x with
 | str z=>
  show Lc r;cases (B_ (T= "str") ty);exact⟨typeIs_str s z t,Eg e T1⟩
 | int i=>
  show Lc r;cases (B_ (T= "int") ty);exact⟨typeIs_int s i t,Eg e T1⟩
 | ref p=>
  cases r;rcases ty with ⟨rfl,xs,hq⟩ | ⟨rfl,o,hk,hc,hd⟩ | ⟨rfl,hk⟩ | ⟨rfl,S,n,hk⟩
  ·obtain⟨its,_,pl,_⟩:=I.list hq;show YU pl.isList.typeIs a e;cases e;obtain⟨o,n,e,c,hd,_⟩:=pl;exact ð hd
  ·show YU (P1 (I.kIn p o hk) hc) a e;cases e;exact P1 (I.kIn _ o hk) hd
  ·have z:∃o,AIB p/\o.ExactDict:=by
    rcases hk with ⟨kvs,hk⟩ | ⟨kvs,hk⟩
    ·obtain⟨_,_,_,_,o,_,_,e,ex,_⟩:=AmE;exact⟨o,e,ex⟩
    ·obtain⟨_,_,_,_,o,_,_,e,ex,_⟩:=AmE;exact⟨o,e,ex⟩
   show On e ex z;show YU (ð ex.1) a e2;cases e2;exact ð ex.2.1
  ·obtain⟨o,_,_,_,e,ex,_⟩:=AmE;show YU (ð ex.1) a e2;cases e2;exact ð ex.2.1
 | _=>show IG ty
def tBM(K:W.Frag)(T:String)(r:ASb)(to:TE)(t:TA):TE:=IN to x (tyV K T x H1/\dL t xs (r x xs H2 Q))
variable{o e:Expr}{es:A2}{to:TE}{t:TA}{name:Str}{apos cpos:Pos}{T id:String}{r:ASb}
theorem ylb(pa:PlainAttrs T)(slot:Slot T name id)(hty:A7v)(hm:MtR X id r)(ho:PE X o to)(ha:AWV)
  (hbase:APD o name o=A7 o:=by rfl)
  (hfew:NS (AWJ cpos DF x x.1&&AbL cpos all AZs) (Abj (K0 DF)):=by rfl)
  (hline:sq:=by rfl) (hs:starEach DF X.env=EG (A7 e) (EF es):=by rfl) (hplain:Ac7:=by rfl):
  PE X (i3 (ik o name) DF) (tBM X.K T r to t):=by
 show ED;refine wpAny_Call_method_late hbase hfew hline rfl (NA AR7 v aaZ);obtain⟨x,H1,I1,r1,ty,q1⟩:=aaZ;show AG6 (yls I1 r1 ty);show ML T id pa slot hty h1 h2;have hA:=ha cpos pins s1 σ H1 _ I1 q1;rw[hs] at hA⊢;refine Calls.callWith_builtin (by show(false || (backTo cpos (starEach es X.env)).any (·.1))=false;rw[hplain]<;>rfl) (Calls.evalArgs_plain ?_)
 exact bU hA fun us s2 aa0=>by obtain⟨vs,H2,I2,r2,q2⟩:=aa0;exact hm pins s2 σ H2 x vs v us Q I2 r1 r2 q2
#where
def MtM(A_T):Prop:=
 ∀(pins:eE) (s:Shared) (σ:St) (H:Hp) (x:V) (xs:Η) (v:Value) (us:Ο) (Q:VK),Ω Ι SC RA (r x xs H Q) (Ap' v)
theorem Vals.one:HP x V us Ο (þ [x]) A'p
 | _,_,.cons r CC=>NG r
theorem Vals.reverse{xs:Η}{us:Ο}(h:RA):Vals xs.reverse us.reverse:=by
 induction h with
 | nil=>exact CC
 | cons r t ih=>rw[List.reverse_cons,List.reverse_cons];exact Vals.append ih (AM6 r)
section
variable{X:Cx}{pins:eE}{σ:St}{H:Hp}{s:Shared}{l b:Addr}{xs ys zs:Η}
theorem Inv.lset{its its' :Ο}{n:Nat}{f:ES ->ES}{t' :Nat}(I:Ι)(hH:Al3)
  (e:Adi AEQ) (hf:f its.toArray=its'.toArray) (hv:Avb) (hz:ALa):
  NJ l ō (U1 (s.heap.update l (Obj.mapSeq f)) t'):=by
 have q:=PySem.IsL.update e f;rw[hf] at q;refine AOT l l (B' hH trivial) L8 (fun b' u hb hu=>(Heap.get?_update_other s.heap (Obj.mapSeq f) AJR).trans hu) (CH q) ?_
 exact⟨hz,its',_,hv,q⟩
theorem Inv.lnew{its:Ο}{t' :Nat}(I:Ι)(hv:Vals ys its)(hz:ALa):
  ē ō (U1 (AIJ (AIF its.toArray)) t'):=
 I.laid (FE q AB_) D3 ⟨hz,its,0,hv,OQ⟩
theorem Inv.fresh(OE):JS s.heap.objs.size:=I.hok.fresh (zN _)
theorem Inv.lstM(I:Ι)(hH:Al3):Sn/\AsD (ADP/\AKN its.length/\Adi AEQ):=by
 show AbW (dq l hH);exact⟨z,its,n,r,r.length,e⟩
theorem ybr{n:Nat}(h:BH n):Builtin.List.listTooLong n=false:=CI AhP
#where
section
variable{X:Cx}
def z67:ASb:=fun x vs H Q=>∃l xs y,x= LG/\vs= [y]/\Al3/\AVO/\Q AE (FG l (B8 (xs++ [y])))
theorem zpt:MtM X "list.append" z67:=by
 intro pins s σ H x vs v us Q I rx rv h;obtain⟨l,xs,y,rfl,rfl,hH,hz,q⟩:=h;cases rx;show NR rfl ru rv.one;obtain⟨z,its,n,r,hl,e⟩:=I.lstM hH;refine call_meets F.slot_list_append (HR e) F.entry_list_append (F.args_list_append_2 _ _) (PySem.list_append l its.toArray n u AWI) (EU e)
 refine G0 AE (I.lset (its' :=its++ [u]) hH e Χ (r.append (AM6 ru)) ?_) q
 show AyT;omega
#where
section
variable{κ:Type}[k9]
def ji(kvs:WO)(k:κ):MU:=Au kvs.find? (fun kv=>(Μ (kv.1=k))) (·.2)
def putK(BGo):WO:=
 EH AXs (IL kvs.map kv (ASr v)) (kvs++ [(k,v)])
theorem zue{p:κ×V}{r:WO}{k:κ}(e:A3=k):ji (p::r) k=some p.2:=ATF ji e
theorem ztv{p:κ×V}{r:WO}{k:κ}(e:¬A3=k):ji (p::r) k=ji r k:=ATF ji e
theorem z0a(k:κ):∀kvs:WO,AXs=(ji kvs k).isSome
 | []=>rfl
 | p::r=>by
  rw[List.any_cons];show AOx
  ·simp only [zue e,decide_eq_true e,Bool.true_or,Option.isSome_some]
  ·rw[ztv e,BMS,Bool.false_or];exact z0a k r
theorem zi9(BGo):XI putK kvs k v<=kvs.length+1:=by
 unfold putK;split
 ·show EQ;omega
 ·rw[List.length_append,List.length_cons,List.length_nil];omega
theorem nW.mq{o:MU}{u:LX}(r:nW o u):o.isSome=u.isSome:=by
 cases o with
 | none=>cases u with
  | none=>rfl
  | some _=>exact AGm
 | some _=>cases u with
  | none=>exact AGm
  | some _=>rfl
theorem nW.getD{o:MU}{u:LX}{d:V}{d' :Value}(r:nW o u)(rd:RelV d d'):RelV (o.getD d) (u.getD d'):=by
 cases o with
 | none=>cases u with
  | none=>exact rd
  | some _=>exact AGm
 | some _=>cases u with
  | none=>exact AGm
  | some _=>exact r
theorem KV.val(BH2):nW ApU (valueAt vs k):=by
 induction r with
 | nil=>exact True.intro
 | @cons p q ps qs h t ih=>
  show AG6 h;show AOx
  ·have e' :q.1=k:=h1.symm.trans e;show BBx valueAt valueAt
   rw[zue e,b];exact h2
  ·have e' :¬q.1=k:=Ξ A0S;have b:valueAt (q::qs) k=valueAt qs k:=ATF valueAt e'
   rw[ztv e,b];exact ih
theorem KV.any(BH2):AXs=vs.any fun kv=>(Μ (kv.1=k)):=by
 induction r with
 | nil=>rfl
 | cons h t ih=>show Ayi ih C_
theorem KV.repl(BG0):
  KV A1V (vs.map fun kv=>(ASr u)):=by
 induction r with
 | nil=>exact CC
 | @cons p q ps qs h t ih=>
  show Aku;refine .cons ?_ ih;show AG6 h;show AOx
  ·show A9R;exact⟨h1,ry⟩
  ·show A_S;exact⟨h1,h2⟩
theorem KV.put(BG0):KV (Aab y) (stored vs k u):=by
 unfold putK stored;rw[r.any k];by_cases e:(vs.any fun kv=>(Μ (kv.1=k)))=true
 ·rw[BD e,BD e];exact r.repl k ry
 ·show w9 e e;exact Paired.snoc r (EO ry)
theorem KV.length{kvs:WO}{vs:AJ'}(r:AJC):AH7 kvs.length:=BMp
#where
theorem Og{P:Program}{w:World}{k:Key}{u:Value}(r:RelV (kV k) u):(pG P w).is k u=true:=by
 cases k with
 | inl i=>show JY t (B_ (tj AX7) r);subst e;exact zym P w i t
 | inr x=>show JY t (B_ (tj AX_) r);subst e;exact zpr P w x t
theorem zwj{P:Program}{w:World}:HP ks DL us Ο (Vals (ks.map kV) us) (ItemsAre ü ks us)
 | [],_,r=>by rw[List.map_nil] at r;cases r;exact CC
 | AAG,_,r=>by
  rw[List.map_cons] at r;cases r with
  | cons h t=>exact Nc (Og h) (zwj t)
abbrev KT(H:Hp):BN vE AEZ:=Paired fun p q=>BBi
theorem KT.val{H:Hp}{kvs:vE}{xs:AEZ}(r:AK')(k:DL):nW ApU ((atKey xs k).map (·.2)):=by
 induction r with
 | nil=>exact True.intro
 | @cons p q ps qs h t ih=>
  obtain⟨h1,_,h2⟩:=h;show AOx
  ·have e' :q.1=k:=h1.symm.trans e;show BBx atKey atKey
   rw[zue e,b];exact h2
  ·have e' :¬q.1=k:=Ξ A0S;have b:atKey (q::qs) k=atKey qs k:=ATF atKey e'
   rw[ztv e,b];exact ih
theorem KT.repl(BFY)(k:DL){y:V}{u:Value}(ry:J'):
  KT H A1V (xs.map (putAt k u)):=by
 induction r with
 | nil=>exact CC
 | @cons p q ps qs h t ih=>
  show Aku;refine .cons ?_ ih;show APV;unfold putAt;show AOx
  ·show A9R;exact⟨h1,h2,ry⟩
  ·show A_S;exact⟨h1,h2,h3⟩
theorem KT.put(BFY)(k:DL){b:Addr}{y:V}{u:Value}(hb:Ah4)(ry:J'):
  KT H (Aab y) (storedH xs k b u):=by
 have e:AXs=A3s:=by
  rw[z0a,(r.val k).mq,Option.isSome_map]
 unfold putK storedH;rw[e];show FS (A3s=true)
 ·rw[FM,FM];exact r.repl k ry
 ·rw[AY q,LH];exact Paired.snoc r ⟨rfl,hb,ry⟩
theorem KT.keeps{H H' :Hp}{kvs:vE}{xs:AEZ}(r:AK')(ht:∀b ys,VQ AFM ->AJI AFM):KT H' kvs xs:=
 Paired.mapP r (FE z A6q)
section
variable{P:Program}{w:World}{H:Hp}{h:Heap}{a:Addr}
theorem yl1{u:HO}(ok:Pl)(e:Rd H a u):o6 u:=e.ok ok
theorem JR{kvs:WI}(ok:Pl)(e:AVv):Arb:=
 show o6 Iy from yl1 ok e
theorem RD{kvs:WI}(ok:Pl)(e:ş):Arb:=JR ok (D9 e)
theorem RG{ks:DL}(ok:Pl)(e:Ix Auo):A7L h ks a:=by
 obtain⟨_,its,r,o,h1,h2,n,h3⟩:=(B_ (o6 Auo) (ok a _ e));exact⟨o,its.toArray,n,h1,h2,h3,As (zwj r)⟩
theorem Oh{kvs:vE}(ok:Pl)(e:Aip):ARo (∃xs,AK'/\Azi xs):=by
 obtain⟨z,y,xs,r,o,es,ep,h1,h2,h3,h4,h5⟩:=(B_ (o6 AJ_) (yl1 ok e));refine⟨z,y,xs,r,o,es,ep,h1,h2,h3,h4,Alq,h5⟩;have all:HP l vE m AEZ (KT H l m) (∀x∈m,A7L h x.1 x.2.1):=by
  intro l m q;induction q with
  | nil=>intro x hx;exact nomatch hx
  | @cons p q ps qs hq t ih=>
   intro x hx;show Ao4
   ·show N1 (RG ok (BF hq.1 hq.2.1))
   ·exact ih x hx
 exact all r x hx
theorem ym1{kvs:vE}(ok:Pl)(e:Ix AJ_):ARo (∃xs,AK'/\Azi xs):=Oh ok (D9 e)
#where
def qO(H:Hp)(a:Addr)(y:V)(r:MU):Prop:=
 (∃kvs k,AVv/\y=kV k/\r=AZt)\/∃kvs k b,Aip/\y= ģ/\Ah4/\r=AZt
def Ab(H:Hp)(a:Addr)(y v:V)(H' :Hp):Prop:=
 (∃kvs k,ş/\y=kV k/\AMd/\H' =upd H a (.dK ArJ))\/
 ∃kvs k b,Ix AJ_/\y= ģ/\Ah4/\AMd/\H' =upd H a (.dT ArJ)
theorem qO.k{H:Hp}{a:Addr}{kvs:WI}{k:Key}(e:ş):qO H a (kV k) ApU:= .inl (IE kvs k (.inl e) rfl)
theorem Ab.k{H:Hp}{a:Addr}{kvs:WI}{k:Key}{v:V}(e:ş)(hl:AMd):Ab H a (kV k) v (FG a (.dK ArJ)):= .inl ⟨kvs,k,e,rfl,hl,rfl⟩
section
variable{X:Cx}{pins:eE}{σ:St}{H:Hp}{s:Shared}{a:Addr}{y v:V}{u r:Value}{o:MU}{A:Around}{E:dW}
theorem Inv.big(OE):UA sysModules:=by
 show AJs h mainGlobals (I.mod.glob.keeps I.bk).lt;exact Nat.lt_trans Β h
theorem z8i{Q:dW}(hu:AMS)(I:Ι)(g:qO H a y dC)(ry:J')(h:A4J (RelV v w')):
  sN (getItem Cb u):=by
 show Abz
 ·subst ey;show AN0;obtain⟨w',hw,tQ⟩:=AbJ (valueAt vs k) (Θ l (rel.val k))
  exact wpAny_getItem_of AG7 dd.mapOf hw (h w' _ Ħ tQ)
 ·subst ey;show APb;show AYJ;obtain⟨w',hw,tQ⟩:=AbJ ((atKey xs k).map (·.2)) (Θ l (rel.val k))
  show BS p hp hp2 zE.mp hw;refine wpAny_getItem_heap AVe Aam dd hp ?_;rw[hp2];exact h w' _ Ħ tQ
theorem aa1{Q:dW}(hu:AMS)(I:Ι)(g:qO H a y o)(ry:J')(h:∀s',AC' ->Q (c9 o.isSome) s'):
  A_A .In:=by
 show Abz
 ·subst ey;show AN0;refine wpAny_in_of AG7 hd dd.mapOf ?_;rw[<- AYV,<- l];exact AaH
 ·subst ey;show APb;show AYJ;refine wpAny_in_heap AVe Aam hd dd ?_;have q:=AYV;rw[Option.isSome_map] at q;rw[<- q,<- l];exact AaH
theorem ygc{Q:dW}(hu:AMS)(I:Ι)(g:qO H a y o)(ry:J')(h:∀s',AC' ->Q (c9 (! o.isSome)) s'):
  A_A vy:=by
 show Abz
 ·subst ey;show AN0;refine wpAny_notIn_of AG7 hd dd.mapOf ?_;rw[<- AYV,<- l];exact AaH
 ·subst ey;show APb;show AYJ;refine wpAny_notIn_heap AVe Aam hd dd ?_;have q:=AYV;rw[Option.isSome_map] at q;rw[<- q,<- l];exact AaH
theorem zyh{h' :Heap}{t' :Nat}{ob:HO}(I:Ι)(mu:Uv (H a))(hs:AZn h')(he:Arf)(new:ce (FG a ob) h' a ob):
  NJ a ob ADQ:=
 AOT a a mu L8 (cK q z (Ev hs.2 b hb z)) he new
theorem ye0{P:Program}{w:World}{H' :Hp}{h' :Heap}{kvs:WI}{vs:Ai6}(z:AIf)(hd:AQh)(rel:AJC)(dd:h'.DictOf ü a vs):
  bG P w H' h' a Iy:=⟨z,hd,vs,rel,dd⟩
theorem z9a{H' :Hp}{Q:AME}(hu:AMS)(I:Ι)(g:Ab H a y v H')(ry:J')(rv:RelV v r)(h:AXW Ź):
  sN (setItem Cb u r):=by
 rcases g with ⟨kvs,k,e,ey,l,eH⟩ | ⟨kvs,k,b,e,ey,eb,l,eH⟩
 ·subst ey eH;obtain⟨z,hd,vs,rel,dd⟩:=VT RD;show Aij hz AvB
  have hl:BH (XI putK kvs k v):=GB (zi9 kvs k v)
  refine wpAny_setItem_pairs (hsz:=hz) AG7 dd A5h;have he:Arf:=Ayk;exact BGX hl rv
 ·subst ey eH;show APb;obtain⟨z,hd,xs,rel,dd⟩:=VT ym1;have hz:Sn:=BF (Paired.length rel) z
  have hl:BH (XI putK kvs k v):=GB (zi9 kvs k v)
  refine wpAny_setItem_heap (hsz:=hz) AVe Aam dd A5h;obtain⟨q,es,ep,hq,h2,h3,h4,_,h5⟩:=JT;refine zyh I ASU hs ⟨q,hq⟩ ⟨hl,hd,_,(rel.put k eb rv).keeps (Ν c ys ec),q,es,ep,hq,h2,h3,h4,h5⟩
  rw[bC (ym0 ec e (Fs (nomatch z)))];exact ec
#where
section
variable{X:Cx}{pins:eE}{σ:St}{H:Hp}{s:Shared}{a:Addr}{kvs:WI}{k:Key}{u:Value}{A:Around}{E:dW}
theorem yms(AfC)(e:AVv)(h:∀t s',AC' ->Q (.int kvs.length t) s'):sN (AJ0 "len" MB):=by
 show AN0;refine call_len_dict hd dd (by rw[<- rel.length];rw[sizeLine_eq] at z;omega) ?_
 rw[<- rel.length];exact h _ _ Ħ
#where
def Kl(i:Expr):Prop:=∀ov iv,subscripted i false ov iv=Ana [ov,iv] ov iv
theorem yip{prog:Program}{w:World}{A:Around}{E:dW}{s:Shared}{env:Env}{value slice:Expr}{pos:Pos}{T id:String}{Q:dW}
  (hl:A_4) (hs:Kl slice)
  (h:AaA value o (AKf (tJ slice) (NI s₂ (s₂.TypeIs o T/\ò (getItem o i) s₂)))):
  Ff (tJ (AT7 value slice)):=by
 show ALq Subscript_ h (fun o s₁ h₁=>wpAny_mono h₁ (Ν i s₂ h₂) UU) UU;obtain⟨hT,h₂⟩:=h₂;show KB;rw[getitemInPython_of_ne hT.not_modules];show L4 wpAny_specialOf hT hl;have fin:wpAny Ee A (subscripted slice false o i) (VI s₃ (ò (letTemporaryGo value o r>>=CY (pure r)) s₃)) E s₂:=Θ (hs o i) (wpAny_operating (wpAny_mono h₂ (BLB r wpAny_letTemporaryGo) UU))
 first
  | exact z7 (z6 fin)
  | exact z6 (z7 (z6 fin))
  | exact z6 fin
theorem zyt{X:Cx}{pins:eE}{σ:St}{H:Hp}{s:Shared}{a:Addr}{y:V}{o:MU}(I:Ι)(g:qO H a y o):Alf Cb :=by
 rcases g with ⟨kvs,k,e,_,_⟩ | ⟨kvs,k,b,e,_,_,_⟩
 ·obtain⟨_,_,vs,_,dd⟩:=VT JR;exact dd.typeIs
 ·obtain⟨_,_,xs,_,dd⟩:=VT Oh;exact dd.typeIs
def Vh(td ty:TE):TE:=IN td x (dL ty y (ASP v (qO H2 a y dC) (Q v H2)))
def aa2(ty td:TE):TE:=BFt o.isSome
def yja(ty td:TE):TE:=BFt (! o.isSome)
def Vi(td ty tv:TE):TS:=AKM tv v (dL td x (ty σ H2 fun y H3=>(ASP H4 (Ab H3 a y v H4) (Û H4))))
section
variable{X:Cx}{o i e value:Expr}{pos pos' tpos:Pos}{td ty tv:TE}
theorem z5x(hu:RS)(ho:AK1)(hi:Aez)(hs:Kl i):Aic o i (Vh td ty):=by
 show ED;refine yip PySem.F.slot_dict_getitem.lookup hs (Ù AR7 u);show AUq x rx;show g6 (ACZ hi) iv hz2;obtain⟨y,H2,I2,ry,a,v,ex,g,q2⟩:=hz2;subst ex;show aT;exact⟨zyt I2 g,z8i hu I2 g ry fun w' s3 I3 tQ =>(ANa v I3 tQ)⟩
theorem yjn(BHD):PC X .In i o (aa2 ty td):=by
 show ED;show oP AeK iv hz1;show AUq y ry;show g6 Ai1 u hz2;obtain⟨x,H2,I2,rx,a,ov,ex,g,q2⟩:=hz2;subst ex;show aT;exact aa1 hu I2 g ry fun s3 I3=>(IE (.bl ov.isSome) H2 I3 q2)
theorem zxg(BHD):PC X vy i o (yja ty td):=by
 show ED;show oP AeK iv hz1;show AUq y ry;show g6 Ai1 u hz2;obtain⟨x,H2,I2,rx,a,ov,ex,g,q2⟩:=hz2;subst ex;show aT;exact ygc hu I2 g ry fun s3 I3=>(IE (.bl (! ov.isSome)) H2 I3 q2)
theorem Z8(hu:RS)(ho:AK1)(hi:Aez)(hv:Ae9)(hs:ANU o i):
  ADy (ACu o i) value (Vi td ty tv):=by
 show PY;refine wpAny_Assign_Subscript (Ù AeJ r) hs;show AUq v rv;show g6 Ai1 u hz2;obtain⟨x,H2,I2,rx,q2⟩:=hz2;show rh (Afg hi) iv s3 hz3;obtain⟨y,H3,I3,ry,a,H4,ex,g,q3⟩:=hz3;subst ex;show aT;exact z9a hu I3 g ry rv fun s4 I4=>⟨σ,H4,I4,q3⟩
#where
theorem ybb{P:Program}{w:World}{H:Hp}(h:Heap)(hb:sysModules<h.objs.size):bG P w H (h.push TD) h.objs.size Ag4:=
 ⟨EX,beq_eq_false_iff_ne.mpr (Ne.symm (zK hb)),[],CC,Heap.DictOf.new h⟩
def Oi:TE:=AZL (Asc Ag4)
section
variable{X:Cx}{pos:Pos}
theorem yaj:ka Dict [] [] Oi:=BGr (wpAny_Dict_empty (AHS (D8 I.laid a s.heap.objs.size o (.dK []) t' s.toks (FE q AB_) D3 (ybb s.heap I.big)) h))
#where
structure M2 (X:Cx) (o:Expr) (m:Str) (apos:Pos) (e f:Expr) (cpos:Pos):Prop where
 base:APD o m o=A7 o
 few:NS (AWJ cpos [e,f] x x.1&&AbL cpos all AZs) (Abj ([e,f]:A2).length)
 line:sq
 trees:backTo cpos (starEach [e,f] X.env)= Ao' (A7 e) (A7 f)
def IsD(H:Hp)(a:Addr):Prop:=(∃kvs,AVv)\/∃kvs,Aip
theorem Vj{X:Cx}{pins:eE}{σ:St}{H:Hp}{s:Shared}{a:Addr}(I:Ι)(d:IsD H a):
  Alf Cb /\ (HH (Value.ref a= ģ) (∃ob,Ac8/\ob.dict=none))/\ AQh:=by
 rcases d with ⟨kvs,e⟩ | ⟨kvs,e⟩
 ·obtain⟨_,hd,vs,_,dd⟩:=VT JR;show DD dd.typeIs AUs hd;cases q;obtain⟨ob,_,_,h1,h2,_⟩:=dd;exact A0l
 ·obtain⟨_,hd,xs,_,dd⟩:=VT Oh;show DD dd.typeIs AUs hd;cases q;obtain⟨ob,_,_,h1,h2,_⟩:=dd;exact A0l
section
variable{X:Cx}{pins:eE}{σ:St}{H:Hp}{s:Shared}{a:Addr}{y d:V}{u r:Value}{o:MU}{A:Around}{E:dW}
theorem ylf{Q:dW}(hu:AMS)(I:Ι)(g:qO H a y o)(ry:J')(rd:RelV d r)(h:A4J (RelV (o.getD d) w')):
  A5L "dict.get":=by
 show Abz
 ·subst ey;show AN0;show BAe meets_dict_get_default î AG7 (B1 dd.mapOf (h _ _ Ħ ?_));rw[l];exact A_l
 ·subst ey;show APb;show AYJ;show BAe meetsH_dict_get_default (tupleKind (pG X.prog X.w)) b ⟨tupleKind_room_in1 hu,k,xs,RG I.hok eb,dd,h _ _ Ħ ?_⟩;rw[l];exact A_l
#where
def Oj(td ty tx:TE):TE:=A'u (∃o,qO H3 a y o/\Q (o.getD z) H3)
section
variable{X:Cx}{o e f:Expr}{apos cpos:Pos}{td ty tx:TE}
theorem yb3(hu:RS)(ho:AK1)(he:qo ty)(hf:PE X f tx)(m:AtI "get"):A4o "get" Oj:=by
 show ED;refine wpAny_Call_method m.base m.few m.line PySem.F.plainAttrs_dict PySem.F.slot_dict_get PySem.F.type_dict_get A2I;obtain⟨x,H1,I1,rx,a,ex,d,q1⟩:=Ol;subst ex;show aT;obtain⟨t1,t2,_⟩:=Vj I1 d;show A9 t1 t2;rw[m.trees];show A8l (A7d (fun iv s2 (ANa y I2 ry)=>
  (A_N ⟨z,H3,I3,rz,ov,g,q3⟩)))
 exact ylf hu I3 g ry rz fun w' s4 I4 tQ =>⟨_,H3,I4,tQ,q3⟩
#where
#print L2
namespace Att
open PySem PySem.W PySem.Calls PyProof.Rows
theorem zp4{P:Params}{h:Heap}:∀(ns:AU) (vs:Ο),WellAll P h vs (ns.map WData.int) ->AN4:=by
 intro ns;induction ns with
 | nil=>
  intro vs w;rw[List.map_nil] at w;cases w;exact CC
 | cons n ns ih=>
  intro vs w;rw[List.map_cons] at w;cases w with
  | cons a b=>
   cases a;exact Nc _ _ (ih _ b)
theorem z7a{l:OpenLaw}{n:Nat}(hn:AnQ){P:Params}{h:Heap}{args:List WData}{vals:Ο}
  (hpre:l.row.toRowW.claim.pre args=true) (hwl:WellAll P h vals args):
  ∃a vs ns,vals= [ACT]/\args= [WData.list (ns.map WData.int)]/\SW ASD/\AN4/\AhV:=by
 have hsh:WShape.hasAll [] args [.list QU]=true:=(pre_splitW hpre).1;have hc:l.pre.holds [] {args:=args}=true:=(pre_splitW hpre).2;show EN d r h1 h2 (hasAllW_cons hsh);show Kk (hasAllW_nil h2);show BS xs rfl h3 hasW_list h1;show CM ns rfl items_int h3;have hlen:ns.length<=n:=by
  have h4:(WTm.not (.lt (.lit (C3 FL)) (.len (.arg 0)))).holds [] {args:= [.list ACO]}=true:=by
   have h4:=(holds_andW hc).1;rw[hn] at h4;exact h4
  have h5:=condW_of h4 (w_not (w_lt w_lit (w_len_list (w_arg rfl))));show AQP h5;refine Nat.le_of_not_lt (E2 q);have q' :FL< CF ns.length:=ω
  first
   | (rw[decide_eq_true q'] at h5;exact M1 h5 Β)
   | (simp at h5;omega)
 cases hwl with
 | cons w1 w2=>
  cases w2;cases w1 with
  | list ho hall=>exact⟨_,_,ns,rfl,rfl,ho,zp4 ns _ hall,hlen⟩
theorem z5l(l:OpenLaw)(args:List WData):l.row.toRowW.claim.post args AJ2 args=true:=
 postW_of (r:=l.row.toRowW) (X:=Ay_)
  (show WShape.has [] AJ2 .bool=true by first | rfl | decide | simp [WShape.has,WShape.arms,WShape.armsAll])
  (B_ ((WTm.eq .res (.lit AJ2)).value [] {args:=args,res:=some AJ2,after:=args}=some (c9 Ay_)) (w_eq_bool (w_res rfl) w_lit)) rfl
theorem Ac{l:OpenLaw}{n:Nat}{q:Program}{loose:Α}{XP:A3R}{YP:Awi}{d:DefRec}
  (hn:AnQ) (hdf:Aul)
  (call:∀(w:World) (s₀ s₁:Shared) (mg mb:B0) (fa:Addr) (o:Obj) (pm cd doc:Value) (a:Addr) (vs:Ο) (ns:AU),
   YI (Ground q loose [] XP w s₀ mg mb s₁.heap) (YP w s₁.heap) (s₁.heap.get? fa=some o) (o.data= .func (docDef d.name d.params d.body d.scope pm cd doc)) (s₁.heap.CodeRec cd d.name) Aw2 (Ω Ay5 AN4 AhV AvP (ĭ (model l.prog w) callerA (AH fa) AKV BLQ s₁))):
  A6a:=by
 intro w s₀ s₁ mg mb G Y fa o pm cd doc dV kV ho hd hcd hD hmg hg args vals as hpre hlay hrd hwl hlo;obtain rfl:dV= Φ:=Dflts.none hD hdf;obtain rfl:kV= Φ:=Dflts.noKw hD;obtain⟨a,vs,ns,rfl,rfl,hobj,hints,hlen⟩:=z7a hn hpre hwl;refine enter_call (codeAny_mono (call w s₀ s₁ mg mb fa o pm cd doc a vs ns G Y ho (fd_plain hd) hcd hmg hobj hints hlen hg) AGb);obtain⟨rfl,h2,h3,h4⟩:=hq;exact⟨.inl ⟨AKY,AKY,[],rfl,ALV,AKY,z5l l _,CY ⟨List.Pairwise.nil,Eg hm (nomatch hm)⟩⟩,h2,h3,h4⟩
section
variable{prog:Program}{w:World}{A:Around}{E:dW}{s:Shared}{K:Frag}
#where
#print Att
namespace L2
open PySem PySem.Spec PyProof.Rows
theorem Vk:HP vs Ο ns AU AN4 (Vals (ns.map V.int) vs)
 | _,_,CC=> CC
 | _,_,.cons n t h=> Nc Tm (Vk h)
def Only(H:Hp):Prop:=∀b,HA\/∃o xs,VQ (.frz o ú)
theorem yde(ADf){mg mb:B0}{CX:JQ}{k:Nat}{fa a:Addr}{fd:FuncData}{x:Str}{sp:Sp}{s₁:Shared}{vs:Ο}{ns:AU}
  (KX:BKc) (hns:AQy s₁.heap.Ns) (hb:s₁.heap.Ns builtinsNs mb) (hbb:BCM) (hlim:s₁.heap.NoLimit) (hg:AvP)
  (ha:Ay5) (hi:AN4) (hl:BMD) (hr:Ati)
  (F:A'w (SO fY CX k fa fd [x] sp)) (hbind:Amg u Apq)
  (hsp:∀H:Hp,Only H ->Aad ->sp MB H An6 lh)
  (hCX:∀H e s',CX [] H s₁ (lh) e s' ->False):
  BGg:=by
 have rv:=Vk hi;have lenV:=hi.length
 
 have core:∀H:Hp,Only H ->EJ Aad (ou P w H s₁.heap) (HH (H b≠none) (b=a)) (H a≠none ->GU K.lookup) BGg:=by
  intro H hO hS hok hA hK;have Dy:V_ b Addr o Obj BMK HA (E5 (yw s₁.heap H).get?):=fun e n=>ydv e n;have Vb:∀{b:Addr} {o:Obj} {es:ALw} {ep:Nat},BMK ->AjT ->HA:=fun{b o es ep} e d=>by
   cases q:H b with
   | none=>rfl
   | some u=>
    have e' :b=a:=AzA
    subst e';rw[ha] at e;cases e;have d' :Data.seq vs.toArray _=Data.dict es ep:=d;cases d'
  have Z9:HP b Addr m B0 (s₁.heap.Ns b m) ((yw s₁.heap H).Ns b m):=fun{b m} Vl=>by obtain⟨o,es,ep,e,d,r⟩:=Vl;exact⟨o,es,ep,Dy e (Vb e d),d,r⟩
  have hKb:K.In (yw s₁.heap H):=Fc (Dy (WB KX) (by
   cases q:H b with
   | none=>rfl
   | some u=>
    have e' :b=a:=AzA
    subst e';rw[hK (AL6 q)] at e;cases e))
  have hM:Mod K mg Az3:=⟨hKb,Z9 hns,⟨mb,Z9 hb,hbb⟩,let ⟨mc,h1,h2⟩:=hlim;⟨mc,Z9 h1,h2⟩⟩;have e0:yC P w K mg Az3 callerA [] s₁ H:=⟨rfl,hM,Fc (ygt e),Nat.le_of_eq (z6d _ _),trivial,E9 (ApL hb),hok,.of_eq hg⟩
  show ATs ((F _ hKb (Z9 hns)).run callerA [] s₁ H AKV MB MB _ _ hr e0 (hbind s₁ Cb) (AM6 rfl) (hsp H hO hS)) (AIz h);cases r with
  | error e=>exact(hCX H e s' h).elim
  | ok fl=>
   cases fl with
   | next=>show ANn
   | brk=>show ANn
   | cont=>show ANn
   | ret u=>
    obtain⟨v,H',os,bare,un,hok',r',q⟩:=h;have q' :v= Ē:=q;subst q';obtain rfl:u=Value.bool true:=r';show B5 rfl (OldK.of_keep ANZ) os bare;cases q:H b with
    | none=>exact un.keep b o e q (by intro z;exact ApL z) Χ
    | some u=>
     rcases hO b with z | ⟨ob,xs,z⟩
     ·rw[q] at z;cases z
     ·have z2:=un.mj b ob _ z;obtain⟨e1,_⟩:=hok b _ z;obtain⟨e2,_⟩:=hok' b _ z2;rw[e] at e1;cases e1;exact e2
 cases hk:K.lookup a with
 | some o=>
  
  have e:=KX a o hk;rw[ha] at e;cases e;refine core AgL (BQ ŏ) (DH ⟨_,vs.toArray,_,hk,rfl,rfl,rfl,NH List.size_toArray lenV hl,As rv⟩) (EM u z (by have z' :L_ (none:F6 HO):=z;cases z')) (fun b z=>(M1 rfl z)) (Ξ (M1 rfl z))
 | none=>
  refine core (AQe (some (.frz ASD (B8 AdH))) none) (qh ?_) (D9 (DH ⟨ASD,B4⟩)) (E8 u z) (fun b z=> ?_) (CY hk)
  ·show OA
   ·show CU (B1 _ ATn)
   ·show CB (if_neg hb)
  ·show OA
   ·have z' :=(if_pos hb).symm.trans z;cases z';subst hb;exact⟨ha,BL6 hl,vs,_,rv,ha⟩
   ·have z' :=(if_neg hb).symm.trans z;cases z'
  ·show OA
   ·exact hb
   ·exact e_ if_neg hb z
abbrev E0:XK:=lh
structure d7 (Ty) (x qual:Str) (st:Stmt) (f:Addr) (fd:FuncData):Prop where
 ex:∃(oc:Value) (od:Hb) (kV doc pm:Value) (an:Hb) (cdv ct:Value) (osl:vn),
  BH' Φ
 kp:AJ3
section
variable{P:Program}{w:World}{K:W.Frag}{mg:B0}{base:Heap}
theorem d7.binds(AO_){st:Stmt}{f:Addr}{fd:FuncData}{ps:Α}(F:AOd)
  (h:BIt us Ο (us.length=ps.length ->A5a (Afe (BLF Φ)))):tq:=by
 show AcM F.ex;exact .all (h kV doc pm an cdv ct)
#where
def Same(H H' :Hp):Prop:=dQ H (E5 H')
theorem Same.refl(H:Hp):fF H:=Aiv
theorem Same.trans{H H1 H2:Hp}(a:Aj_)(b:Same H1 H2):Same H H2:=fun c o h=>b c o (a c o h)
theorem Same.free{H H' :Hp}(e:AFt){l:Addr}(h:H' l=Option.none):H l=Option.none:=by
 cases q:H l with
 | none=>rfl
 | some o=>
  show AOq (e l o q)
theorem Same.seq{K:W.Frag}{H H' :Hp}{a:Addr}{xs:Η}(e:AFt)(h:Zp):mX K H' a xs:=by
 show ATA h h h h
 ·show CB (D9 (e _ _ h))
 ·show CB (DH (N0 (e _ _ h)))
 ·show CU h
#print L2
namespace L3
open PySem PySem.Spec PyProof.Rows L2
abbrev St:=L2.St
inductive D where
 | non | bl (b:Bool) | int (i:Int) | str (x:Str) | tup (xs:Δ) | lst (xs:Δ) | exc (C:Addr) | ptr (a:Addr)
 | obj (C:Addr) (fs:Α) (xs:Δ) | dic (ks:DL) (xs:Δ) | qP (ks:Uf Key) (xs:Δ) | dik (ks:DL) (xs:Δ)
def uw(a C:Addr):HO:= AX5 (∃o vs,oS/\o.cls= GW/\AON/\ (An_ o.dict))
def Om(F:Hp)(a:Addr):Prop:=∃o C,Aob
inductive IsT (BGf):Prop
 | mk:A5Q (wB K F a vs) (IsT K F R v)
inductive Vm (BGf):Prop
 | mk:A5Q Ae5 (Vm K F R v)
inductive Vn (F:Hp) (C:Addr) (fs:Α) (R:AJo) (v:V):Prop
 | mk:∀a dx vs,Ω di (Cl F AiB) AFi (R vs) (Vn F C fs R v)
inductive Vo (Ax'):Prop
 | mk:BHj (Cl F c_) Vo
inductive Vp (F:Hp) (ks:Uf Key) (R:AJo) (v:V):Prop
 | mk:BHj (Rd F a (.dT qE)) Vp
inductive Vq (Ax'):Prop
 | mk:∀a o vs,Ω di Aee Q_ (R vs) (Vq F ks R v)
inductive IsC (P:DB V) (R:AJo) (vs:Η):Prop
 | mk:∀v r,vs=v::r ->P v ->R r ->IsC P R vs
mutual
def Rep(K:W.Frag)(F:Hp):BN D V
 | AE,v=>v= AE
 | Y1,v=>v= Y1
 | C7,v=>v= C7
 | fh,v=>v= fh
 | Š,v=>IsT K F ABL v
 | ATt,v=>Vm K F ABL v
 | .exc C,v=>∃a o,v= AR/\Aob
 | .ptr a,v=>di
 | AVH,v=>Vn F C fs ABL v
 | .dic ks ds,v=>Vo F ks ABL v
 | .qP ks ds,v=>Vp F ks ABL v
 | .dik ks ds,v=>Vq F ks ABL v
def aK(K:W.Frag)(F:Hp):BN Δ Η
 | [],vs=>vs= []
 | SB,vs=>IsC (Rep K F d) ABL vs
end
theorem uz{K:W.Frag}{H H' :Hp}{a:Addr}{xs:Η}(e:AFt)(h:xc):wB K H' a xs:=by
 show ATA h h h h
 ·show CB (D9 (e _ _ h))
 ·show CB (DH (N0 (e _ _ h)))
 ·show CU h
theorem JV{F H:Hp}{a:Addr}{u:HO}(s:fc)(r:Rd F a u):Rd H a u:=by
 rcases r with r | ⟨o,r⟩
 ·show CB (s _ _ r)
 ·show CU (N0 (s _ _ r))
mutual
theorem zsw(BF'):∀(d:D) (v:V),LE ->Ts
 | AE,_,h=>Hm
 | P8,_,h=>Hm
 | RO,_,h=>Hm
 | R_,_,h=>Hm
 | Š,_,h=>by
  show AaM;exact⟨a,vs,h0,uz e h1,ARI h2⟩
 | ATt,_,h=>by
  show AaM;exact⟨a,vs,h0,e.seq h1,ARI h2⟩
 | wc,_,h=>Hm
 | .exc C,_,h=>by
  show ST a o h0 h1;exact⟨a,o,h0,AU1⟩
 | AVH,_,h=>by
  show Amz;exact⟨a,dx,vs,h0,AU1,h3,AXL⟩
 | .dic ks ds,_,h=>by
  obtain⟨a,vs,h0,h1,h3,h4⟩:=h;exact⟨a,vs,h0,AU1,h3,AXL⟩
 | .qP ks ds,_,h=>by
  obtain⟨a,vs,h0,h1,h3,h4⟩:=h;exact⟨a,vs,h0,JV e h1,h3,AXL⟩
 | .dik ks ds,_,h=>by
  obtain⟨a,o,vs,h0,h1,h3,h4⟩:=h;exact⟨a,o,vs,h0,AU1,h3,AXL⟩
theorem LK(BF'):∀(ds:Δ) (vs:Η),Fm ->ė
 | [],_,h=>Hm
 | SB,_,h=>by
  obtain⟨v,r,h0,h1,h2⟩:=h;exact⟨v,r,h0,zsw e d v h1,LK e ds r h2⟩
end
theorem Rep.up(A'z)(h:LE)(e:C8):Ts:=zsw e d v h
theorem aK.up{K:W.Frag}{F F' :Hp}{ds:Δ}{vs:Η}(h:Fm)(e:C8):ė:=ARI h
theorem jH(KK):ArS (iS vs.length)
 | [],_,h=>by show BO aK;subst h;rfl
 | BY,_,h=>by
  show BO aK;obtain⟨v,r,rfl,_,h2⟩:=h;simp only [List.length_cons,jH h2]
theorem xG(KK):∀{ds:Δ} {vs:Η} {i:Nat} {d:D},Fm ->Alr ->AWS AFu
 | [],_,_,_,_,e=>AMk
 | BY,_,0,_,h,e=>by
  obtain⟨v,r,rfl,h1,_⟩:=h;simp at e;subst e;exact Ū h1
 | BY,_,BM,d,h,e=>by
  obtain⟨v,r,rfl,_,h2⟩:=h;show CS u e1 e2 (nI xG) h2 Ŕ
  exact A2R
theorem zxj(KK):∀{ds:Δ} {vs:Η} {i:Nat} {v:V},Fm ->AFu ->∃d,Alr/\LE
 | [],_,_,_,h,e=>by subst h;simp at e
 | d::_,_,0,_,h,e=>by
  obtain⟨v,r,rfl,h1,_⟩:=h;simp at e;subst e;exact JO d h1
 | BY,_,BM,v,h,e=>by
  obtain⟨v',r,rfl,_,h2⟩:=h;show CS u e1 e2 (nI zxj) h2 Ŕ
  exact A2R
theorem Km(KK):∀{ds es:Δ} {vs us:Η},Fm ->Aly ->Iq (ds++es) (vs++us)
 | [],_,_,_,h,k=>by subst h;exact k
 | BY,_,_,_,h,k=>by
  show AYl v;exact ZE v h1 (Km h2 k)
theorem Ko(BAZ):Iq [d] [v]:=CI (JA v [] h JP)
theorem tR(KK){d:D}{v:V}{ds:Δ}{vs:Η}(h:LE)(k:Fm):Iq AU0 (v::vs):=CI (VW v h k)
theorem zo7(KK):BHr ds.take vs.take
 | _,_,0,_=>BG aK
 | [],_,_+1,h=>Aoq
 | BY,_,n+1,h=>by
  show AYl u;exact tR h1 (zo7 n h2)
theorem zpq(KK):BHr ds.drop vs.drop
 | _,_,0,h=>h
 | [],_,_+1,h=>Aoq
 | BY,_,n+1,h=>by
  show AYl u;exact zpq n h2
def u9(H:Hp)(b:Addr)(o:HO):Prop:=HA\/ (∃xs,o= PH)/\E5 H
theorem u9.back(s:Aj_)(h:u9 H1 b o):u9 H b o:=by
 show Ġ h h e h
 ·show CB (s.free h)
 ·cases q:H b with
  | none=>show CB q
  | some u=>
   have:=s _ _ q;show BC h;show EV;exact .inr (ğ ⟨xs,e⟩)
structure Gr (F H F' H' :Hp):Prop where
 f:C8
 g:Ò F'
 h:AFt
 n:Of (E5 F') kB (u9 H b o)
theorem Gr.refl(h:fc):Gr F H F H:=h_ h VS
theorem Gr.trans(a:Gr F H F1 H1)(b:Gr F1 H1 F2 H2):Gr F H F2 H2:=by
 show B5 (a.f.trans b.f) b.g (a.h.trans b.h) (ER c o e n);cases q:F1 c with
 | none=>exact u9.back a.h (b.n c o e q)
 | some u=>have:=b.f _ _ q;show nk;show EV;exact a.n c _ q n
theorem Gr.laid(h:fc)(hp:JS p):Gr F H (L2.upd F p o) (L2.upd H p o):=by
 show B5 EK EK EK (AFm e n)
 ·rw[ţ h hp];exact e
 ·show qf p
  ·subst hb;rw[gG] at e⊢;exact e
  ·show dA ZI e (PM h)
 ·show wo hp e
 ·show qf p
  ·subst hb;exact .inl hp
  ·rw[ZI,n] at e;cases e
inductive T where
 | leaf (d:D) | lst (ts:EI) | dic (ks:AgC) (ts:EI) | qP (ks:Uf L2.Key) (ts:EI) | ob (A6I) | kt (k:AgC)
def mC:Key ->D | AEx=> C7 | ku=> fh
def Er(fs:Α):Bool:= !(Μ (fs= [("points" :Str)]))
inductive TrL (H:Hp) (R:AOH) (v:V) (as:AO):Prop
 | mk:∀a vs bs,Ω di (as=q_) AFS (R vs bs) (TrL H R v as)
inductive TrK (H:Hp) (ks:AgC) (R:AOH) (v:V) (as:AO):Prop
 | mk:BFu (Ix c_) (TrK H ks R v as)
inductive TrT (H:Hp) (ks:Uf L2.Key) (R:AOH) (v:V) (as:AO):Prop
 | mk:BFu (Ix (.dT qE)) (TrT H ks R v as)
inductive TrO (H:Hp) (C:Addr) (fs:Α) (R:AOH) (v:V) (as:AO):Prop
 | mk:∀a dx vs bs,di ->as=ALu ->Ix AiB ->Ω AmN AFi (Er fs=true) (R vs bs) (TrO H C fs R v as)
inductive TrC (P:BN V AO) (R:AOH) (vs:Η) (as:AO):Prop
 | mk:∀v us bs cs,Ω (vs=v::us) (as=AY4) (P v bs) (R us cs) (TrC P R vs as)
mutual
def TR(Ass):T ->BN V AO
 | O0,v,as=>as= []/\LE
 | YR,v,as=>TrL H APO v as
 | oy,v,as=>TrK H ks APO v as
 | xj,v,as=>TrT H ks APO v as
 | zS,v,as=>TrO H C fs APO v as
 | .kt k,v,as=>as= []/\∃a,v= AR/\Cl F BJ8
def fj(Ass):EI ->BN Η AO
 | [],vs,as=>vs= []/\as= []
 | Pe,vs,as=>TrC (TR K F H t) APO vs as
end
section
variable{K:W.Frag}{F H F' H' :Hp}
mutual
theorem TR.move(f:C8):AtA ASO (ma t v as)
 | O0,v,as,k,h=>CI ⟨C_,(h.2).up f⟩
 | YR,v,as,k,h=>by
  show Amv;exact⟨a,vs,bs,e1,rfl,AGc,AjP⟩
 | oy,v,as,k,h=>by
  show AGw;exact⟨a,vs,bs,e1,rfl,AGc,e4,AjP⟩
 | xj,v,as,k,h=>by
  show AGw;exact⟨a,vs,bs,e1,rfl,AGc,e4,AjP⟩
 | zS,v,as,k,h=>by
  show Amf;exact⟨a,dx,vs,bs,e1,rfl,AGc,k dx (zW _ zY) _ e4,e5,e6,ArD fj.move⟩
 | ŗ,v,as,k,h=>by show ST e a e1 e2;exact⟨e,a,e1,f _ _ e2⟩
theorem fj.move(f:C8):AtB ASO (fj K F' H' ts vs as)
 | [],vs,as,k,h=>Hm
 | Pe,vs,as,k,h=>by
  show AYu;exact⟨v,us,bs,cs,e1,rfl,AqK TR.move,Ast fj.move⟩
end
def LD(u:HO):Prop:=(∃vs,u= .lst vs)\/ (∃kvs,u= .dK kvs)\/ (∃kvs,u= .dT kvs)\/ (∃C dx kvs,u= .ins C dx kvs/\Er (kvs.map (·.1))=true)\/∃a,u= .own a
theorem z10:AKJ fs Α AFi (Au fs.zip vs (·.1)=fs)
 | [],_,_=>rfl
 | BY,[],h=>Bn
 | UR,ź,h=>A9X z10
theorem LD.tup(h:LD Qb):False:=BH_
theorem LD.frz(h:LD (.frz o u)):False:=BH_
theorem LD.ins(h:LD (Î kvs)):Er (kvs.map (·.1))=true:=by
 rcases h with ⟨_,z⟩ | ⟨_,z⟩ | ⟨_,z⟩ | ⟨_,_,_,z,q⟩ | ⟨_,z⟩<;>cases z
 exact q
mutual
theorem TR.there:∀(t:T) (v:V) (as:AO),ADg ->∀a∈as,AGB æ
 | O0,v,as,h,a,ha=>ASn C_
 | YR,v,as,h,a,ha=>by
  obtain⟨b,vs,bs,e1,rfl,e3,h⟩:=h;show AOy
  ·exact B1 e3 (.inl C9)
  ·exact AbH
 | oy,v,as,h,a,ha=>by
  obtain⟨b,vs,bs,e1,rfl,e3,_,h⟩:=h;show AOy
  ·exact B1 e3 (.inr (D9 C9))
  ·exact AbH
 | xj,v,as,h,a,ha=>by
  obtain⟨b,vs,bs,e1,rfl,e3,_,h⟩:=h;show AOy
  ·exact B1 e3 (sw (D9 C9))
  ·exact AbH
 | zS,v,as,h,a,ha=>by
  obtain⟨b,dx,vs,bs,e1,rfl,e3,e4,e5,e6,h⟩:=h;show AOy
  ·exact B1 e3 (sw (DH (D9 (G0 _ _ (Lm z10 e5 e6)))))
  ·show AOy
   ·exact B1 e4 (sw (DH (DH C9)))
   ·exact AbH
 | ŗ,v,as,h,a,ha=>ASn C_
theorem fj.there:∀(ts:EI) (vs:Η) (as:AO),Ě ->∀a∈as,AGB æ
 | [],vs,as,h,a,ha=>ASn h.2
 | Pe,vs,as,h,a,ha=>by
  show AYu;show OR ha ha ha
  ·exact TR.there t v bs h1 a ha
  ·exact fj.there ts us cs h2 a ha
end
#where
mutual
def toD:T ->D
 | O0=>d
 | YR=> .lst (kj ts)
 | oy=> Kj ks (kj ts)
 | xj=> .qP ks (kj ts)
 | zS=> .obj C fs (kj ts)
 | .kt k=> AzZ
def kj:EI ->Δ
 | []=> []
 | Pe=>toD t::kj ts
end
theorem Vr(KK):∀ks:DL,Iq (ks.map mC) Ais
 | []=>JP
 | AEx::ks=>tR FH (Vr ks)
 | ku::ks=>tR FH (Vr ks)
section
variable{K:W.Frag}{F H F' :Hp}
mutual
theorem TR.rep(f:C8):AtA (AQw AVl) (ABl (toD t) v)
 | O0,v,as,k,h=>CI ((h.2).up f)
 | YR,v,as,k,h=>by
  show Amv;exact⟨a,vs,e1,SZ BEb,AjQ⟩
 | oy,v,as,k,h=>by
  show AGw;exact⟨a,vs,e1,AGc,e4,AjQ⟩
 | xj,v,as,k,h=>by
  show AGw;exact⟨a,vs,e1,.inl BEb,e4,AjQ⟩
 | zS,v,as,k,h=>by
  show Amf;exact⟨a,dx,vs,e1,AGc,e5,ArD fj.rep⟩
 | .kt k,v,as,_,h=>by
  obtain⟨_,a,e1,e2⟩:=h;exact⟨a,_,e1,SZ (f _ _ e2),Vr k⟩
theorem fj.rep(f:C8):AtB (AQw AVl) (AIY (kj ts))
 | [],vs,as,k,h=>CI C_
 | Pe,vs,as,k,h=>by
  show AYu;exact⟨v,us,e1,AqK TR.rep,Ast fj.rep⟩
end
#where
inductive Slot where
 | no | pu (d:D) | ow (ds:Δ) | tr (as:AO) (t:T) | nt (as:AO) (ts:EI) | xe (as:AO) (C:Addr) (fs:Α) (ts:EI)
inductive SlO (K:W.Frag) (F H H0:Hp) (ds:Δ) (o:MU):Prop
 | mk:∀a vs,AjZ ->Ω AFS wp eB Fm A1Y
inductive SlT (Ty) (F H H0:Hp) (as:AO) (t:T) (o:MU):Prop
 | mk:∀v,Ω (o=some v) as.Nodup AYX ADg A4Q
inductive SlN (Ty) (F H H0:Hp) (as:AO) (ts:EI) (o:MU):Prop
 | mk:∀p vs,o=some ALO ->Ω (F p=some (.tup vs)) as.Nodup AYX Ě A4R
inductive SlX (Ty) (F H H0:Hp) (as:AO) (C:Addr) (fs:Α) (ts:EI) (o:MU):Prop
 | mk:∀a oe dx vs,Ω AjZ (Cl F Acb) (oe.dict=some dx) (F dx=some (.xd AdY)) (Ω AFi as.Nodup AYX Ě BGi)
def mD(K:W.Frag)(F H H0:Hp):BN Slot MU
 | A_,_=>True
 | .pu d,o=>AWS (o=some v)
 | .ow ds,o=>A1Y
 | kC t,o=>A4Q
 | .nt as ts,o=>A4R
 | .xe as C fs ts,o=>BGi
def gH:Slot ->BN MU Addr
 | .ow _,o,a=>AjZ
 | kC _,_,a=>AWg
 | .nt as _,_,a=>AWg
 | .xe as _ _ _,_,a=>AWg
 | _,_,_=>False
inductive oH (Γ:ef) (σ:St) (i:Nat) (a:Addr):Prop
 | mk:∀s o,AM1 ->xx ->d4 ->AOX i
structure SR (K:W.Frag) (F0 H0 F H:Hp) (σ:St) (Γ:ef):Prop where
 gr:AHn
 len:σ.length=Γ.length
 sl:∀(i:Nat) s,AM1 ->∃o,xx/\AHR
 ap:∀(i j:Nat) a,AOX i ->AOX j ->i=j
section
variable{K:W.Frag}{F0 H0 F H F' H' :Hp}{σ:St}{Γ:ef}
theorem SR.g(R:D_):fc:=R.gr.g
theorem zp(r:AHR)(h:d4):wp/\eB/\AGB æ:=by
 cases s with
 | no=>show EB
 | pu d=>show EB
 | ow ds=>obtain⟨b,vs,rfl,h1,h2,h3,_⟩:=r;cases h;exact⟨h2,h3,_,h1,.inl C9⟩
 | tr as t=>obtain⟨v,_,_,h2,h3⟩:=r;exact⟨(h2 a h).1,Aoz,TR.there t v as h3 a h⟩
 | nt as ts=>obtain⟨p,vs,_,_,_,h2,h3⟩:=r;exact⟨(h2 a h).1,Aoz,fj.there ts vs as h3 a h⟩
 | xe as C fs ts=>obtain⟨_,_,_,vs,_,_,_,_,_,_,h2,h3⟩:=r;exact⟨(h2 a h).1,Aoz,fj.there ts vs as h3 a h⟩
theorem RJ(r:AHR)(f:C8)(k:∀a,d4 ->WH/\ASO):BCP:=by
 cases s with
 | no=>trivial
 | pu d=>
  show Sc e r r;exact⟨v,e,r.up f⟩
 | ow ds=>
  obtain⟨a,vs,e,e1,e2,e3,r⟩:=r;obtain⟨k1,k2⟩:=k a e;exact⟨a,vs,e,k2 _ e1,k1,e3,r.up f⟩
 | tr as t=>
  obtain⟨v,e,nd,h,r⟩:=r;exact⟨v,e,nd,Ap3,AlH f BKx r⟩
 | nt as ts=>
  obtain⟨p,vs,e,e1,nd,h,r⟩:=r;exact⟨p,vs,e,f _ _ e1,nd,Ap3,BDi⟩
 | xe as C fs ts=>
  obtain⟨a,oe,dx,vs,e,e1,e2,e3,e4,nd,h,r⟩:=r;exact⟨a,oe,dx,vs,e,f _ _ e1,e2,f _ _ e3,e4,nd,Ap3,BDi⟩
theorem z2i(r:AHR)(g:WJ):BCP:=
 RJ r g.f fun a ha=>by
  obtain⟨h1,_,u,h3,ld⟩:=zp r ha;show A8 ?_ (fun u e=>g.h _ _ e);cases q:F' a with
  | none=>rfl
  | some w=>
   show Ġ (g.n a w q h1) z e z
   ·show AEa h3
   ·rw[h3] at z;cases z;subst e;exact ld.tup.elim
theorem SR.grow(R:D_)(g:WJ):ANu:=by
 show B5 (R.gr.trans g) R.len (NM i s) R.ap;show On e1 r (R.sl i s e);exact P1 e1 (z2i r g)
theorem Vs(h:oH (cy s) (σ.set i o) j a):(j=i/\d4)\/ (j≠i/\AOX j):=by
 obtain⟨t,p,e1,e2,h⟩:=h;by_cases hj:i=j
 ·subst hj;show AiY (by
   show Pf (ALR Γ.length)
   ·exact h
   ·show Cc Ajo e1 e1)
  show UN σ.length (by
   show Pf (ALR σ.length)
   ·exact h
   ·show Cc Ajo e2 e2)
  rw[List.getElem?_set_self hi] at e1;show AlF hi';cases e1;cases e2;exact .inl (EO h)
 ·rw[At'] at e1 e2;exact .inr ⟨Ne.symm hj,t,p,e1,e2,h⟩
def Apart(σ:St)(Γ:ef)(a:Addr):Prop:=∀j,¬(AOX j)
theorem SR.apart(R:D_)(h:dc):xt:=fun j hq1=>by
 obtain⟨s,o,e1,e2,q⟩:=hq1;show Ľ e3 r (R.sl j s e1);rw[e2] at e3;cases e3;obtain⟨_,_,u,e,_⟩:=zp r q;rw[h] at e;cases e
theorem SR.put(R:D_)(i:Nat)(r:AHR)(ha:∀a,d4 ->xt):Amm (σ.set i o) s:=by
 show B5 R.gr (BG R.len) (NM j t) (De j k a e1 e2)
 ·by_cases hj:i=j
  ·subst hj;show AiY (by
    show Pf (ALR Γ.length)
    ·exact h
    ·rw[Ajo] at e;cases e)
   rw[List.getElem?_set_self hi] at e;cases e;exact P1 (List.getElem?_set_self (Θ R.len hi)) r
  ·rw[At'] at e;rw[List.getElem?_set_ne hj];exact R.sl j t e
 ·rcases Vs e1 with ⟨rfl,q1⟩ | ⟨n1,q1⟩
  ·rcases Vs e2 with ⟨rfl,_⟩ | ⟨_,q2⟩
   ·rfl
   ·exact(ha a q1 _ q2).elim
  ·rcases Vs e2 with ⟨rfl,q2⟩ | ⟨_,q2⟩
   ·exact(ha a q2 _ q1).elim
   ·exact R.ap j k a q1 q2
theorem SR.set(R:D_)(i:Nat)(r:LE):Amm ARb w_:=A4y (Ū r)
theorem SR.drop(R:D_)(i:Nat)(o:MU):SR K F0 H0 F H (σ.set i o) ŷ:=A4y trivial
theorem SR.setOw(R:D_)(i:Nat)(h1:AFS)(h2:wp)(h3:eB)(r:Fm)(ha:xt):
  Amm (σ.set i jn) gf:=R.put i ⟨a,vs,rfl,h1,h2,h3,r⟩ fun b h=>by cases h;exact ha
theorem z1q(g:fc)(h1:AFS)(h2:wp):a_ AZg/\fF AZg:=by
 show A8 EK EK
 ·show wo h2 e
 ·show OA
  ·show ApC h1
  ·rw[ZI] at e;exact PM g
theorem SR.frzM(R:D_)(s1:C8)(s2:fF F')(n:Sj (FF F') kB (KS H0/\ß b)):AdX:=by
 show B5 ⟨R.gr.f.trans s1,s2,R.gr.h,tI e q⟩ R.len (NM j s) R.ap
 ·cases z:F b with
  | none=>show CB (n b o e z).1
  | some u=>have:=s1 _ _ z;show nk;show EV;exact R.gr.n b _ z q
 ·show On e1 r (R.sl j s e);show DD o e1 (RJ r s1 (Ö ?_ (Eg q q)));obtain⟨h1,_,_⟩:=zp r hb;cases q:F' b with
  | none=>rfl
  | some u=>exact((n b u q h1).2 j ⟨s,o,e,e1,hb⟩).elim
theorem SR.frzA(R:D_)(h1:AFS)(h2:wp)(h3:eB)(ha:xt):b9 AZg H:=by
 obtain⟨s1,s2⟩:=z1q R.g h1 h2;refine R.frzM s1 s2 (AFm e n);show OA
 ·subst hb;exact⟨h3,ha⟩
 ·rw[ZI,n] at e;cases e
theorem Oo(e1:xx):σ.set i o=σ:=by
 show CM hl e2 zV.mp e1;rw[<- e2];simp
theorem SR.less(R:D_)(e:AM1)(e1:xx)(h:d4):qa ŷ a:=fun j q=>by
 have q' :oH ŷ (σ.set i o) j a:=A8J
 rcases Vs q' with ⟨_,z⟩ | ⟨n,z⟩
 ·exact z
 ·exact n (R.ap j i a z ⟨s,o,e,e1,h⟩)
theorem SR.dropAt(R:D_)(e1:xx):bE F H ŷ:=by
 have q:=R.drop i o;rw[Oo e1] at q;exact q
theorem SR.frz(R:D_)(e:sd gf):∃a F',AVg/\C8 /\bE F' H (cy AUl)/\ABl ACp Cb:=by
 obtain⟨o,e1,a,vs,rfl,h1,h2,h3,r⟩:=AMs;obtain⟨s1,_⟩:=z1q R.g h1 h2;have rp:Rep K AZg ACp Cb:=CI (VW a xF (r.up s1))
 have R2:=((R.dropAt e1).frzA h1 h2 h3 (R.less e e1 Aoy)).set i rp;show AY6 R2;exact⟨a,_,e1,s1,R2,rp⟩
theorem SR.wrO(R:D_)(e:AM1)(e1:xx)(h:d4)(r:mD K F AGR H0 t o)(ht:HH (gH t o b) (gH s o b)):
  bE F AGR (cy t):=by
 show Ľ e2 r0 AMs;rw[e1] at e2;cases e2;obtain⟨h2,h3,w,h1,_⟩:=zp r0 h;show AiY (IO e);have R1:bE F AGR ŷ:=by
  have R0:=R.dropAt e1;show B5 ⟨R0.gr.f,gE,gE,gS (R0.gr.n b o q n)⟩ R0.len A0T R0.ap
  ·rw[Ø h2];exact R0.g b u q
  ·rw[Ø h3];exact R0.gr.h b u q
  ·show Abm (R0.sl j s' q) A8n IQ (R.less e e1 h j BEY) q'
 have R2:=R1.put i r (E9 (R.less e e1 (ht b hb)));show AY6 R2;exact R2
theorem SR.wr(R:D_)(e:sd gf)(e1:AVg)(r:Aly):
  bE F (ACX Ad') (cy (.ow es)):=by
 show On e2 r0 AMs;rw[e1] at e2;cases e2;obtain⟨h2,h3,_⟩:=zp r0 Aoy;exact R.wrO e e1 Aoy ⟨a,us,rfl,gG,h2,h3,r⟩ (E9 hb)
theorem SR.base(R:D_):SR K F H0 F H σ Γ:=A6k (h_ R.g R.gr.h)
theorem Gr.unbase(g:AHn)(g' :AOv H0):A1M :=by
 show B5 (g.f.trans g'.f) g'.g g'.h AFo;cases q:F b with
 | none=>exact g'.n b o e q
 | some u=>have:=g'.f _ _ q;show nk;show EV;exact g.n b _ q n
theorem SR.unbase(g:AHn)(R:BEw H0):Afj :=A6k (g.unbase R.gr)
#where
inductive TrY (h B:Heap) (e:Addr) (cls:Value) (dd:Hb) (fl:Value):Prop
 | mk:∀oe vs T oT ts,kX e oe ->Ω (oe.cls=cls/\oe.dict=dd/\ (An_ dd)) (AJV vs) (EE vs 1 (AH T)) (B.get? T=none) (Ω (T≠e) (kX T oT) A0K (EE ts 3 fl) BHw)
def Vt(B:Heap)(l:GA)(a:Addr)(cls:Value)(dx:Hb)(h:Heap):Prop:=
 B.StaysIn h/\AhC/\AjW B/\
  (TrY h B a cls dx Φ\/∃oe vs,SW oe/\oe.cls=cls/\oe.dict=dx/\AJV vs/\BJN 1/\ (An_ dx))
def xH(B:Heap)(l:GA)(e:Addr)(cls:Value)(dd:Hb)(fl:Value)(h:Heap):Prop:=B.StaysIn h/\B.get? e=none/\AjW B/\BHw
theorem xH.there(x:xH B l e cls dd fl h):∃ob,kX e ob/\ob.cls=cls:=by
 obtain⟨_,_,_,oe,_,_,_,_,he,hc,_⟩:=x;exact⟨oe,he,hc.1⟩
section
variable{M:Model}{A:Around}{E:dW}{s:Shared}{B:Heap}{env:Env}{outer:GA}{L a:Addr}{cls fl:Value}{dd:Hb}{Q:AME}
theorem z9t(f:ES ->ES)(o:Obj):(Obj.mapFields f o).dict=o.dict:=by
 unfold Obj.mapFields;split<;>rfl
theorem RK{h:Heap}{T b:Addr}{oT o:Obj}{ts:ES}(hT:kX T oT)(hd:A0K)(hb:Q2)(hn:∀vs,o.data≠ cE vs):b≠T:=fun q=>by
 rw[q,hT] at hb;injection hb with hb;subst hb;exact hn ts hd
theorem GX{l:GA}(x:xH B l a cls dd fl s.heap)(hQ:AfU (xH B l a cls dd Φ h')):eA (setFlight Cb none):=by
 obtain⟨f1,f2,f3,oe,vs,T,oT,ts,he,hk,hd,h1,hB,hne,hT,hdT,h3⟩:=x;show aS far (OV (b≠T) (s.heap.update T (Obj.mapFields (·.setIfInBounds 3 ((none:Option Addr).elim Value.none fun f=>rawInt f)))).get? s.heap.get?) AZI;have hz:3<ts.size:=AzE;show AXq he h1;show Db Χ
 refine wpAny_setField hT hdT hz (hQ _ ⟨E8 o q,f2,f3.of_keeps (gS (AUc ?_)),oe,vs,T,_,_,A4s he,hk,hd,h1,hB,hne,BJn hT hdT,Obj.data_mapFields hdT _,BG hz⟩ (gS (EU o.slots)))
 ·exact A2N (f1 b o q)
 ·exact AbG q
 ·exact AbG q
theorem G3{oe:Obj}{vs:ES}{head:Value}{more:Bool}(hfr:ATI ĸ)(hl:ATC B ĸ)(hf:AnR)(he:Agb oe)(hkb:B.StaysIn s.heap)(hen:AhC)
  (hd:AJV vs) (hz:1<vs.size) (h2:AKG\/oe.dict≠none) (hQ:A6S oe.cls oe.dict):
  eA (do let x<- frameOf env;let pl<- entryPlaceOf L more;let b<- EntryCells.newEntry head x Φ (rawInt L) Φ pl;setField Cb 1 b):=by
 have nf:a∉ (env::outer).filterMap (·.frame):=fun hm=>by
  obtain⟨_,o,ho,hn⟩:=hl.mem hm;rw[he] at ho;injection ho with ho;subst ho;exact hn vs hd
 refine z6 (wpAny_frameOf_fun hfr hl hf (AJ h1 k1));show D' wpAny_entryPlaceOf (AJ pl hp);show AW_ (M0 hp.sizeOk5 _);have e1:Cl h1.get? oe:=Ev k1.2.1 a nf he;have b1:B.StaysIn h1:=JU o (Ev k1.2.1 b (fun hm=>(AVr (hl.mem hm).1)) (hkb b o q))
 refine wpAny_setField Ahv hd hz (hQ _ ?_ ?_)
 all_goals
  have ne:h1.objs.size≠a:=Nat.ne_of_gt (zG e1);have d3:=Obj.data_mapFields hd (·.setIfInBounds 1 (Value.ref h1.objs.size));have far:Of IQ (E5 h1.get?) (E5 ((h1.push {cls:= .type "traceback",dict:=none,data:= .fields ([head,.ref L,.none,rawInt L,.none]++ (if pl.isEmpty then List.replicate 6 Value.none else pl)).toArray}).update a (Obj.mapFields (·.setIfInBounds 1 (Value.ref h1.objs.size)))).get?):=
   Pp hb q (Θ AZI AB_)
 ·show HQ (JU o (far b o (Fs (ASI hen)) (b1 b o q))) hen (hl.of_keeps (gS ?_))
  ·show d5 k (k1.2.2 b o q);exact HR BB_
  ·exact⟨_,_,h1.objs.size,_,_,BJc Ahv d3,⟨Obj.cls_mapFields _ _,z9t _ _,h2.imp (Fs (Lm Array.getElem?_setIfInBounds_ne Β z)) id⟩,d3,BG hz,b1.fresh,ne,
    AN6 ne (z9 h1 rfl),rfl,by first | (simp;done) | (rcases hp with rfl | ⟨_,_,_,_,_,_,_,rfl⟩<;>simp)⟩
 ·intro b o q n;show d5 k (k1.2.2 b o q);exact⟨sl,BB_⟩
theorem z0h(hfr:ATI ĸ)(hf:AnR)(x:Vt B ĸ a cls dx s.heap)
  (hQ:A6S cls dx):eA (noteFrame Cb env):=by
 obtain⟨f1,f2,f3,⟨oe,vs,T,oT,ts,he,⟨rfl,rfl,h2⟩,hd,h1,hB,hne,hT,hdT,h3⟩ | ⟨oe,vs,he,rfl,rfl,hd,h1,h2⟩⟩:=x
 ·unfold noteFrame;simp only [hf];show AXq he h1;show Db Χ
  refine z6 (wpAny_field hT hdT h3 ?_);show Ap (HK rawInt)
  refine z6 (wpAny_setField hT hdT AzE ?_);show aS far (OV (b≠T) (s.heap.update T (Obj.mapFields (·.setIfInBounds 3 Value.none))).get? s.heap.get?) AZI;refine G3 (s:=OM (s.heap.update T (Obj.mapFields (·.setIfInBounds 3 Value.none)))) hfr (f3.of_keeps (gS (AUc (AbG q)))) hf (A4s he) (JU o (A2N (f1 b o q))) f2 hd AvZ h2 (Re w up)
  exact hQ h' w (gS (up b o (AbG q) n))
 ·unfold noteFrame;simp only [hf];show AXq he h1;show YV
  exact G3 hfr f3 hf he f1 f2 hd AvZ h2 fun h' w up=>hQ h' w up
theorem z6x(hfr:ATI ĸ)(hf:AnR)(x:Vt B ĸ a cls dx s.heap)
  (hQ:AfU (Vt B outer a cls dx h')):eA (leaving env Cb):=by
 refine z6 (z0h hfr hf x fun h1 w up=>GX (s:=OM h1) w (Ν h2 w2 up2));obtain⟨k1,k2,⟨_,_,k3⟩,k4⟩:=w2;exact hQ h2 ⟨k1,k2,k3,.inl k4⟩ (up.trans up2)
#where
inductive Vu (P:Program) (w:World) (outer:GA) (H:Hp) (s:Shared) (E:XK) (e:Value) (s' :Shared):Prop
 | mk:∀a C H' B dx,e= AR ->Ω AW1 ADa (AYU AiS) A9Q (Ω (Vt B outer a C dx s'.heap) (Of NN (b∉frs outer) AJZ) (AlC) APc (AOb Vu))
def fB(P:Program)(w:World):JQ:=fun outer H s E e s' =>(AOb Vu)
theorem fB.imp(h:AOb fB)(k:∀C dx H',APc ->E' C dx H'):fB P w outer H s E' e s' :=by
 obtain⟨a,C,H',B,dx,h1,h2,h3,h4,h5,h6,h7,h8,h9⟩:=h;exact⟨a,C,H',B,dx,h1,h2,h3,h4,h5,h6,h7,h8,k _ _ _ h9⟩
section
variable{X:Cx}{pins:eE}{σ:St}{H H' :Hp}{s s' :Shared}{B:Heap}{h' :Heap}
theorem z7m(hok:AWy)(b1:Am2)(b2:AiW)(xu:AlC):AWx :=fun b u e=>
 vt hok e (fun c v hc q=>by
  have:∃o',B.get? c=some o' :=by
   show mt hc hc
   ·exact xu _ _ e
   ·exact xu _ _ hc
  show AAT this;have z:=b1 c o' e';rw[q] at z;cases z;exact b2 c _ e') AOo lj
theorem yex(I:Ι)(hex:AWe)(os:AW1)(bare:ADa)(un:AYU g9)(hok:AWy)(b1:Am2)(b2:AiW)
  (inB:Of NN (b∉To) AJZ) (up:At5):
  Un X.fs [] X.H₀ H' X.s₀.heap h' /\A2s :=by
 have I' :Ź :=I.call' os un hok bare ANt
 have hb:=I'.base;rw[hex] at hb;have hb0:=I.base;rw[hex] at hb0;have RL:A2s :=Æ (by
  obtain⟨o1,e1⟩:=hb0.there b o e Χ
  refine inB b o1 e1 nK;show IY (ApW z)
  ·show F9 (zM (zG e) I.ok.above) Ao0
  ·exact n z)
 show A8 ⟨Acg hf,Acg hf,fun b o e n hx=>hb.free b o e n hx,AXo,hb.tups,hb.mj,hb.oE⟩ RL
 ·have e1:=hb.keep b o e n hf Χ
  show AAT (RL b o e hf);have z:=b1 b o' e';rw[e1] at z;cases z;exact b2 b _ e'
 ·show BFe (hb.slot b o e n hf Χ) ⟨sl',e3⟩
 ·by_cases hf:AhW
  ·show BFe (hb.slot b o e (I.ok.frf b hf) hf Χ) (CH e3)
  ·show LP o' e' (RL b o e hf) o' (b2 b o' e')
theorem Oq(I:Ι)(hex:AWe)(hst:X.stack=Am3)(hfr:AnO)
  (h:Aps E):ì (leaving X.env e) (FD s'' (fB X.prog X.w X.outer X.H₀ X.s₀ E e s'')) Eb s' :=by
 obtain⟨a,C,H',B,dx,rfl,os,bare,un,hok,JW,inB,xu,hE⟩:=h;refine z6x (l_ I.ok.frames hst) hfr (BF hst JW) (Re Ot up)
 obtain⟨un',RL⟩:=yex I hex os bare un hok JW.1 Ot.1 inB up;exact⟨a,C,H',B,dx,rfl,os.trans I.os,bare,un',z7m hok JW.1 Ot.1 xu,Ot,RL,xu,hE⟩
theorem Inv.landed(I:Ι)(hex:AWe)(os:AW1)(bare:ADa)(un:AYU g9)(hok:AWy)(b1:Am2)(b2:AiW)
  (inB:Of NN (b∉To) AJZ) (xu:AlC) (up:At5):Ñ (zt s' h' t'):=by
 have I' :Ź :=I.call' os un hok bare ANt
 obtain⟨un',RL⟩:=yex I hex os bare un hok b1 b2 inB up;have cl:∀{c v},s'.heap.IsCell c v ->AjN:=fun{c v} (ť hd)=>by
  show JY sl (up c o ho (ö z (BJL hd)))
  exact B1 e hd
 refine⟨I.ok,I'.os,bare,Θ hex un',?_,AG0,I'.free,I'.freeC,SH,z7m hok b1 b2 xu,I.len⟩
 ·obtain⟨m,hn,hl⟩:=I'.loc;show DD m (up.ns hn) (fun i x v e1 e2 e3=> ?_);show NR r l (hl i x v e1 e2 e3);show A9 u r;rcases l with l | ⟨k,c,e,z⟩
  ·show CB l
  ·show CU ⟨k,c,e,cl z⟩
 ·show LP v z (I'.cell x c e) v (cl z)
 ·show APt;obtain⟨e',n',_,_,_⟩:=I'.pin p hp;refine⟨?_,n',ne,nf,d⟩;show ACJ q (inB A3 p.2 e (Ξ (by
   show IY (zU.mp (I.stkSub A3 z))
   ·exact ne z
   ·exact nf z)))
  have z:=b1 A3 o' q;rw[e'] at z;cases z;exact b2 A3 _ q
#where
def nY(x5):Prop:=AbU C
inductive ExN (h:Heap) (C:Addr):Prop
 | mk:∀bm N nm qn bs hdct sn sub ab col dd k0 k1 k2 k3 k5 mN,Ω Axh (h.Ns N mN) (mN "__init__" =none) (OwnTail h AdP bm) (ExN h C)
theorem yck{K:W.Frag}{h:Heap}{C:Addr}(X:LO)(q:nY K C):ExN h C:=by
 unfold nY W.excIn at q;show YA
 ·show AsE;split at q
  ·show Atc;simp only [Bool.and_eq_true,beq_iff_eq,Bool.not_eq_true'] at q;obtain⟨⟨⟨⟨⟨rfl,rfl⟩,hdel⟩,ht⟩,hok⟩,hni⟩:=q;obtain⟨nm,bs,mro,ns,qn,hd,sn,sub,ab,col,del⟩:=cd;subst hm hdel;obtain rfl:sl= #[k0,k1,k2,k3,Awm,k5]:=by
    cases sl;simp only at hs;rw[hs]
   exact⟨bm,ns,nm,qn,bs,hd,sn,sub,ab,col,dd,k0,k1,k2,k3,k5,_,Anc,.of_isNs (W.isNs_of_in X hok),W.nsMap_none_of_in X hok hni,Azf⟩
  ·cases q
 ·cases q
inductive ExO (K:W.Frag) (h:Heap) (C:Addr):Prop
 | mk:∀bm N nm qn bs hdct sn sub ab col dd k0 k1 k2 k3 k5,Axh ->OwnTail h Kc bm ->Azr bm ->∀cd,W.clsIn K C=some cd ->cd.mro= GW::bm ->ExO K h C
theorem Gn{K:W.Frag}{h:Heap}{C:Addr}(X:LO)(q:gi):ExO K h C:=by
 unfold m5 at q;show YA
 ·show AsE;split at q
  ·show Atc;simp only [Bool.and_eq_true,beq_iff_eq,Bool.not_eq_true'] at q;obtain⟨⟨⟨rfl,rfl⟩,hdel⟩,ht⟩:=q;have hcl:W.clsIn K C' =some cd:=wt W.clsIn ho
   have hm0:=hm;obtain⟨nm,bs,mro,ns,qn,hd,sn,sub,ab,col,del⟩:=cd;subst hm hdel;obtain rfl:sl= #[k0,k1,k2,k3,Awm,k5]:=by
    cases sl;simp only at hs;rw[hs]
   exact⟨bm,ns,nm,qn,bs,hd,sn,sub,ab,col,dd,k0,k1,k2,k3,k5,Anc,Azf,ht,_,hcl,hm0⟩
  ·cases q
 ·cases q
def oJ(x5):Prop:=gi
theorem nY.k{K:W.Frag}{C:Addr}(q:nY K C):oJ K C:=by
 unfold nY W.excIn at q;unfold oJ m5;show YA
 ·show AsE;rw[ho];show YA
  ·show Atc;show BLf q;obtain⟨⟨⟨⟨⟨q1,q2⟩,q3⟩,q4⟩,_⟩,_⟩:=q;simp only [hm,hs,q1,q2,q3,q4,Bool.and_self]
  ·cases q
 ·cases q
section
variable{X:Cx}{pins:eE}{σ:St}{H:Hp}{s:Shared}
theorem yiw(hl:AjW base)(hm:Heap.MadeExcOf h h1 a E_ vs):Vt (W.hideAll h (frs l)) l a E_ none h1:=by
 obtain⟨t,he,_,_⟩:=hm.there;show B5 (fun b o q=>hm.keeps b o AzL) ?_ ?_ (.inr ⟨_,_,he,rfl,rfl,rfl,rfl,ŏ⟩)
 ·cases q:AxC (frs l) a with
  | none=>rfl
  | some o=>
   have z:=AuY;rw[hm.new] at z;cases z
 ·have k:=W.funFrames_hide (as:=frs l) hl fun env he a ha=>(BMu env he ha);exact k.of_keeps (Pp e _ (AUc (hm.keeps b o e)))
theorem yct{x:Str}{C:Addr}{np cpos pos:Pos}{e:Expr}{es:A2}{t:TA}{Q:AhZ}{E:XK}(hg:HE)(hm:ASM)(hC:nY X.K C)(ha:AWV)(hh:Cn)
  (I:Ι) (h:t σ H (ic vs (BH vs.length/\A9g)))
  (px:∀H1 s1 e s',ŋ s1 ->fB X.prog X.w X.stack H1 s1 (fun C' dx H' =>C' = GW/\dx=none/\H' =H1/\A9g) e s' ->AmC)
  (hd:AT x "__debug__":=by decide) (AVK):
  Ã (exec AfQ X.env) Q:=by
 obtain⟨bm,N,nm,qn,bs,hdct,sn,sub,ab,col,dd,k0,k1,k2,k3,k5,mN,e1,e2,e3,e4⟩:=yck I.mod.GC hC;refine D8 (P5 (P5 (P5 wpAny_Raise_call_subT C C nm nm q qn N N) bs bs bm bm hdct hdct sn sn) sub sub ab ab col col dd dd (k0:=k0) (k1:=k1)) k2 k2 k3 k3 k5 k5
  PySem.F.excBase_ValueError (mN:=mN) (e4.hasType PySem.F.excBase_ValueError.hasBase) Ayq ?_ e3 (As2 Gk)
 ·rw[he];show E4 (false || (backTo cpos (starEach es X.env)).any (·.1))
  rw[hpl];rfl
 ·have key:=ha cpos pins s σ H _ I h;rw[he] at key⊢;show ALq Calls.evalArgs_plain key (fun us s2 (BLN vs)=>⟨rfl,BKk,I1.bk _ _ e1,e2.keeps I1.bk,e4.keeps I1.bk,Re a hm⟩) AOr
  refine px H1 s2 _ _ I1 ⟨a,GW,H1,W.hideAll s2.heap (frs X.stack),none,rfl,rfl,I1.bare,Un.kept hm.keeps,I1.hok.kept hm.keeps,yiw I1.stack hm,Æ (N0 (Ţ e n)),EK,rfl,rfl,rfl,q⟩;obtain⟨o,eo⟩:∃o,BML:=by
   have k:=I1.hok b u e;cases u with
   | lst xs=>show Af2 k;exact CH e
   | tup xs=>obtain⟨_,_,_,o,e,_⟩:=k;exact CH e
   | dK kvs=>show AZr
   | dT kvs=>show AZr
   | set S n=>obtain⟨o,_,_,_,e,_⟩:=k;exact CH e
   | ins C dx fs=>show Af4 k;exact CH e
   | own y=>exact k
   | xd fs=>show Af5 k;exact CH e
   | rng lo hi=>show Af3 k;exact CH e
   | frz ob u=>obtain⟨e,_⟩:=k;exact CH e
   | Kd ps=>show AwP
   | met f y=>show AwP
   | ext φ=>obtain⟨_,e,_⟩:=k;exact e
  show A8 o (Ţ eo nK);have:=I1.stkFree b z;show Cc e this this
#where
abbrev G2:=ef
inductive XV where
 | ref (C:Addr) | any (C:Addr) | pay (A6I)
def XV.cls:XV ->Addr
 | GW=>C
 | ANm=>C
 | .pay C _ _=>C
inductive Vv (Ty) (F H H' :Hp) (dx:Hb) (fs:Α) (ts:EI):Prop
 | mk:∀p vs as,Ω (dx=some p) (H' p=some (.xd AdY)) AFi (F p=none) (Ω (JS p) as.Nodup (M3 as (kB/\HA)) (fj K F H' ts vs as) BIH)
def BK(Ty)(F H H' :Hp)(C:Value)(dx:Hb)(x:XV):Prop:=C= .ref x.cls/\match x with
 | .ref _=>dx=none
 | .any _=>True
 | .pay _ fs ts=>BIH
theorem Gr.low(s:Aj_)(g:AOv H1):WJ :=⟨g.f,g.g,s.trans g.h,Æ (u9.back s (g.n b o e n))⟩
def XV.bare:XV ->XV
 | GW=> ANm
 | ANm=> ANm
 | .pay C _ _=> ANm
def G4(K:W.Frag)(F H:Hp)(Ex:DB XV)(E:XK):Prop:=∀x C dx F' H',Ex x ->WJ ->A8u H ->APc
theorem BK.back(MG)(s:fF H1)(h:BK K F H H' C dx x):BK K F H1 H' C dx x:=by
 show CD C_;have h:=h.2;cases x with
 | ref _=>exact h
 | any _=>trivial
 | pay c fs ds=>
  obtain⟨p,vs,as,e1,e2,e3,e4,e5,nd,e6,e7⟩:=h;exact⟨p,vs,as,e1,e2,e3,e4,s.free e5,nd,Ö (Ll e6) (s.free (Ĝ e6)),e7⟩
abbrev XW:=BN G2 XV
abbrev cD:=AHX D
abbrev cL:=AHX Δ
abbrev TT2:=AHX Bool
inductive TW where
 | one (t:T) | tp (ts:EI)
def TRR(Ass):TW ->BN V AO
 | .one t,v,as=>ADg
 | .tp ts,v,as=>∃p us,v= IR/\F p=some (.tup us)/\AQF ts us
def Kp(Q:ALX):DB TW
 | .one t=>Q t
 | .tp _=>False
structure rW where
 nx:AR2
 rt:Ő
 bk:AR2:=WG
 ct:AR2:=WG
 rf:Ő:=WG
 rT:DB TW:=WG
 rm:BN D G2:=Ê
abbrev aG:=rW ->BN G2 XW
open Classical in
noncomputable def jL (F0 F:Hp):Hp:=RY (AKO A7f (F b))
theorem zwc:Same (jL F0 F) F:=Fu (by
 show MS jL;split at e
 ·cases e
 ·exact e)
theorem zqa(h:∀u,LD u ->F0 b≠ALe):Aqy=F b:=by
 unfold jL;show Ap (fun hz=>by show Oy w hw hz;exact h w hw q)
theorem z1t(e:L_ Aqy):∀w,LD w ->F0 b≠ALd:=AmY (by
 show MS jL;rw[BD ⟨w,hw,q⟩] at e;cases e)
theorem z3f(s:Same F0 F1):Same (jL F1 F) (jL F0 F):=Fu (Lm zqa (AmY (z1t e w hw (s _ _ q))) (zwc _ _ e))
theorem z7t(s:Same F0 F):P_ F (LD u\/L_ Aqy):=Fu (by
 by_cases h:A7f
 ·show Fr w hw q;have:=s _ _ q;show nk;show EV;exact .inl hw
 ·show CU (Lm zqa (AmY (h ⟨w,hw,q⟩)) e))
section
variable(K:W.Frag)(F0 H0:Hp)
inductive UpE (t:cD) (E:XW) (σ:St) (H:Hp) (Q:VK):Prop
 | mk:BD' Ts UpE
def G5(t:cD)(E:XW):TE:=xz UpE
inductive UpT (t:TT2) (E:XW) (σ:St) (H:Hp) (Q:ŝ):Prop
 | mk:AKL (∀b Γ' F' H',ô ->C8 ->P b Γ' ->Q b H') UpT
def Vw(t:TT2)(E:XW):TT:=xz UpT
inductive UpA (t:cL) (E:XW) (σ:St) (H:Hp) (Q:AFP):Prop
 | mk:BEG ė UpA
def Ou(t:cL)(E:XW):TA:=xz UpA
inductive UpF (t:cL) (E:XW) (σ:St) (H:Hp) (Q:VK):Prop
 | mk:AKL (∀ds Γ' F' H' a vs,Ω ô C8 (Cl H' OS) WH (Ω eB ė (qa Γ' a) (OZ ds) (Q Cb H'))) UpF
def upF(t:cL)(E:XW):TE:=xz UpF
structure yF (F:Hp) (D2:rW) (D:Ends):Prop where
 nx:AtG D2.nx AQX
 bk:AtG D2.bk (D.bk σ H)
 ct:AtG D2.ct (D.ct σ H)
 rt:BDn Ts D2.rt
 rf:BDn A5n D2.rf
 rT:∀t v as F' H,BLD ->Ω as.Nodup (ABx (WH/\eB)) (TRR K F' H t v as) (D2.rT t) Ae1
 rm:∀d v Γ F' H σ,AdX ->Ts ->D2.rm d Γ ->Ae1
inductive UpS (t:aG) (E:XW) (D:Ends) (σ:St) (H:Hp):Prop
 | mk:∀F Γ D2,AQC ->(t D2 Γ E) ->(ir yF F D2 D) ->UpS t E D σ H
def upS(t:aG)(E:XW):TS:=Aof (UpS K F0 H0 t E D σ H)
#where
theorem yF.mono{K:W.Frag}{F0 H0 F F' :Hp}{D2:rW}{D:Ends}(k:AYr F)(s:C8):AYr F':=
 ABS (AtX k.nx) (AtX k.bk) (AtX k.ct)
structure Ov where
 xe:dW
 pn:eE
abbrev _root_.L2.Cx.wsh(X:Cx)(z:Ov):Cx:={X with xe:=z.xe,pn:=z.pn}
structure Ctx (X:Cx) (F0 H0:Hp) (E:XW):Prop where
 pX:∀pins σ Γ F H s e s',Ι ->AHG ->Aps (AQ1 (∃Γ' F' x,Aqu /\C8 /\BK X.K F' H H' C dx x/\ (x.bare=x\/AUM (qa Γ' b))/\E Γ' x)) ->AmC
 pq:∀A' A'',SameStack A' X.A ->PassesOwnAt SK A' A'' X.env X.xe
theorem Ctx.po(cx:Ary):Asa:=cx.pq _ _ (SameStack.refl _)
theorem Ctx.px(cx:Ary)(pins:eE)(σ:St)(Γ:G2)(F H:Hp)(s:Shared)(e:Value)(s' :Shared)(I:Ι)(R:AHG)(hx:Aps BGQ):AmC :=
 BDG cx.pX I R (hx.imp fun _ _ H' hz=>by obtain⟨x,F',h1,h2,h3⟩:=hz;exact⟨Γ,F',x,R.grow h2,h2.f,h3,Anb R.apart,h1⟩)
def QE(X:Cx)(F0 H0:Hp)(e:Expr)(t:cD):Prop:=ANh G5
def QF(X:Cx)(F0 H0:Hp)(e:Expr)(t:cL):Prop:=ANh upF
def QT(X:Cx)(F0 H0:Hp)(e:Expr)(t:TT2):Prop:=kq PT e Vw
def QW(X:Cx)(F0 H0:Hp)(e:Expr)(t:TT2):Prop:=kq PW e Vw
def QA(A5N):Prop:=kq PA es Ou
def QS(X:Cx)(F0 H0:Hp)(st:Stmt)(t:aG):Prop:=kq PS st upS
def uQ(X:Cx)(F0 H0:Hp)(st:PU)(t:aG):Prop:=kq Gj st upS
section
variable{X:Cx}{e:Expr}{es:A2}{st:Stmt}{sts:PU}
theorem oK(h:qo t)(hi:∀σ H Q,t' σ H Q ->dy):qo t' :=Ar6
theorem Ow(h:PT X e t)(hi:∀σ H Q,t' σ H Q ->dy):PT X e t' :=Ar6
theorem pwC(h:PW X e t)(hi:∀σ H Q,t' σ H Q ->dy):PW X e t' :=BIC w w
theorem paC(h:AWU)(hi:∀σ H Q,t' σ H Q ->dy):PA X es t' :=BIC p p
theorem rY(h:An3)(hi:∀D σ H,t' D σ H ->t D σ H):PS X st t' :=BHf
theorem Vx(h:Gj X sts t)(hi:∀D σ H,t' D σ H ->t D σ H):Gj X sts t' :=BHf
#where
section
variable{X:Cx}{F0 H0:Hp}{a b c e:Expr}{es:A2}{pos:Pos}{ta tb tc te:cD}
def cC(d:D):cD:=ANl d
theorem Vy(h:∀z,PE E7 e (tC v))(r:∀F,Rep X.K F d v):Bz e (cC d):=fun z E cx=>
 oK (h z) (DM σ H Q hq1 P hq1 (ACz R ET (r F) h))
theorem aP{i j pos}:AZ0 Ň (LU i):=AaZ ylr
theorem Kq{i j pos}:AZ0 (c9 i) (cC (.bl i)):=AaZ ym3
theorem RM{j pos}:AZ0 Φ ĥ:=AaZ ykb
theorem Gp{x j pos}:AZ0 AL2 (cC (.str x)):=AaZ ykw
def cV(xo):cD:=AQz (TM w8 (some w_) (P d Γ) (some gf) (P ACp (Γ.set i AUl)))
theorem yk9(hN:EC)(hv:Id)(y_):Bz fe (cV i):=fun z E cx=>
 oK UQ (AAS hq2 (by
  show KE hq2;show BO cV;show Co
  ·rename_i d e;obtain⟨o,e1,v,rfl,r⟩:=AMs;exact⟨v,e1,k d Γ F H v R ET r h⟩
  ·rename_i ds e;obtain⟨a,F',e1,s1,R',r⟩:=R.frz e;exact⟨AR,e1,k _ _ F' H _ R' s1 r h⟩
  ·show EB))
inductive Vz (K:W.Frag) (g:EL) (x:V) (y:V) (H:Hp) (Q:VK):Prop
 | mk:∀F d1 d2 P,ĝ ->EJ (Rep K F d1 x) (Rep K F d2 y) (g d1 d2 P) BHe BHB
def rZ(K:W.Frag)(g:EL):R2:=ĵ BHB
def cB(g:EL)(ta tb:cD):cD:=ON ta d1 (lr tb d2 (g d1 d2 fun d=>P d Γ2))
theorem ydt(MG){g:EL}{E:XW}{σ:St}{H:Hp}{Q:VK}(h:G5 K F0 H0 Aqi E σ H Q):U7 (rZ K g) (ANx ta) (ANx tb) σ H Q:=by
 show KE h;refine APQ ⟨F2,d1,d2,_,R2.g,AjH,r2,h2,fun d z F' H' gr rz hp=> ?_⟩;exact k d Γ2 F' H' z At1 (AQ3 gr.f) rz hp
theorem bJ(ho:Ae3 AuX)(ha:PQ)(hb:mo):Bz Axv Aqi:=fun z E cx=>
 oK (ykt (ho z) DO Jn) (iA ydt)
theorem Es(A'K):Bz AN8 Aqi:=fun z E cx=>
 oK (yif (ho z) DO Jn hm) (iA ydt)
def cT(t:cD):TT2:=zo Γ P t d Γ' (I_ d (.bl c) (OZ c))
theorem ykc{K:W.Frag}{E:XW}{σ:St}{H:Hp}{Q:ŝ}(h:Vw K F0 H0 (cT te) E σ H Q):G5 K F0 H0 te E σ H fun x H' =>(AO7 (Q c H')) :=by
 show KE h;refine KW (fun d Γ' F' H' v R' s' r q=> ?_);cases d with
 | bl c=>
  show MT c r (k c Γ' F' H' R' s' q)
 | _=>show IG q
theorem pH(A'K):WN AN8 (vi g ta tb):=fun z E cx=>
 Ow (yi4 (ho z) DO Jn hm) fun σ H Q h=>ydt (ykc h)
theorem BL(h:MR)(he:∀whole,isTrue e X.env whole=(do let v<- whole;standAt e.pos;holding [v] (truthy v)):=by show MW):VY QT (cT te):=fun z E cx=>
 Ow (A6 ylh Rs he) (iA ykc)
def iy(t u:TT2):TT2:=AYR (EH c (u Γ' P E) (OZ false))
def uR(t u:TT2):TT2:=AYR (EH c (OZ true) (u Γ' P E))
def gW(t:TT2):TT2:=AYR (OZ (! c))
variable{rest:A2}{tA Ke :TT2}
theorem RP(AjJ):B7 QW (AQV [a]) tA:=ALh yig DO
theorem ykg(AjJ):B7 QW AuS tA:=ALh ykr DO
theorem RQ(ha:WN a tA)(hb:B7 QW AWL Ke):B7 QW AWM (iy tA Ke):=fun z E cx=>
 pwC (yl6 DO Jn) (DM σ H Q yx P yx (APr (by
  cases c with
  | true=>
   exact AdF (fun b Γ2 F2 H2 R2 s2 p=>k b Γ2 F2 H2 R2 P7 p)
  | false=>
   exact AYk)))
theorem ym4(ha:WN a tA)(hb:B7 QW AWN Ke):B7 QW AWO (uR tA Ke):=fun z E cx=>
 pwC (ymt DO Jn) (DM σ H Q yG P yG (APr (by
  cases c with
  | true=>
   exact AYk
  | false=>
   exact AdF (fun b Γ2 F2 H2 R2 s2 p=>k b Γ2 F2 H2 R2 P7 p))))
theorem Cm(h:VY QW tA):VY QT tA:=fun z E cx=>(Rs).pt
theorem LQ(AjJ):WN AYi (gW tA):=fun z E cx=>
 Ow (yks DO) (DM σ H Q Gq P Gq (APr AYk))
def eG(ta tb:cD):cD:=Aou (TM d Ē Ao5 AhB (OZ ý))
def jj(ta tb:cD):cD:=Aou (TM d AhB Ao5 Ē (OZ AKW))
def fC(ta:cD):cD:=Aou (I_ d (.bl c) (OZ (.bl (! c))))
theorem RT{op}(h:PQ):Bz (.BoolOp op [a] pos) ta:=ALh yj2 Rs
theorem z1c(ha:PQ)(hb:Bz AWL tb):Bz AWM (eG ta tb):=fun z E cx=>
 oK (yji DO Jn) (DM σ H Q Ox P Ox (APA (by
  cases d with
  | bl c=>
   show A9 c r;cases c with
   | true=>show WZ;exact Abn
   | false=>show Aj9 AbO
  | _=>show IG q)))
theorem yj3(ha:PQ)(hb:Bz AWN tb):Bz AWO (jj ta tb):=fun z E cx=>
 oK (yml DO Jn) (DM σ H Q Ci P Ci (APA (by
  cases d with
  | bl c=>
   show A9 c r;cases c with
   | false=>show Aj9 Abn
   | true=>show WZ;exact AbO
  | _=>show IG q)))
theorem yd7(ha:PQ):Bz AYi (fC ta):=fun z E cx=>
 oK (yli DO) (DM σ H Q hq8 P hq8 (APA (by
  cases d with
  | bl c=>
   show MT c r AbO
  | _=>show IG q)))
def qQ(t:TT2)(ta tb:cD):cD:=AYR (EH c (ta Γ' P E) Ao5)
theorem VB(hc:WN c tA)(ha:PQ)(hb:mo):Bz Axw (qQ tA ta tb):=fun z E cx=>
 oK (ycq ATr DO Jn) (DM σ H Q UJ P UJ (APr (by
  cases c with
  | true=>show dA B4 q Abn
  | false=>show dA Th q Abn)))
def ak:cL:=ANl []
def aj(t:cD)(u:cL):cL:=ON t d (lr u ds (P AU0 Γ2))
theorem aL:B7 QA [] ak:=fun z E cx=>paC Rz (DM σ H Q Oz P Oz (ACz R ET FH h))
theorem au(ha:MR)(hr:B7 QA es tr)(hs:starEach DF X.env=EG (A7 e) (EF es):=by rfl):B7 QA DF (aj te tr):=fun z E cx=>
 paC (A6 Od DO (KO hr) hs) (AAS ⟨F,Γ,P,R,h,k⟩ (ABZ d v1 (ACa h1 (AJF ds vs (ACz R2 P7 (tR (r1.up s2) r2) h2)))))
def dB(t:cL):cD:=PP (ANC (D5 (.tup ds)))
theorem wC{x1}(h:AH4 es):Bz (.Tuple es x1 pos) (dB t):=fun z E cx=>
 oK (yfk Rs) (DM σ H Q GK P GK (Az7 (by
  have gr:=Gr.laid (o:=HO.tup vs) R1.g hp;refine ACz ADW (ABa gr.f) ?_ h1.2;exact og xF (r1.up gr.f))))
def eO(t:cL):cL:=PP (ANC (D5 ds))
theorem G6(AGd){σ:St}{Γ:G2}{p:Addr}{vs:Η}{ds:Δ}(R:D_)(hp:JS p)(r:Fm):
  b9 F A2J/\ A2J p=some OS/\F p=none/\H0 p=none/\ß p:=by
 refine⟨?_,gG,R.g.free hp,R.gr.h.free hp,R.apart hp⟩;refine R.grow (h_ EK EK)
 ·rw[ţ R.g hp];exact PM R.g
 ·show wo hp e
theorem zy{t:cL}(h:AH4 es):í A0p (eO t):=fun z E cx=>
 oK (yef Rs) (DM σ H Q GP P GP (Az7 (by
  obtain⟨R2,e1,e2,e3,ap⟩:=G6 R1 hp r1;exact k ds Γ1 F1 _ p vs R2 s1 e1 e2 e3 r1 ap h1.2)))
def dX(t:cL):cD:=PP (D5 ACp)
theorem iQ(h:B7 QF e t):Bz e (dX t):=fun z E cx=>
 oK Rs (DM σ H Q GQ P GQ (KW (fun ds Γ1 F1 H1 a vs R1 s1 e1 e2 e3 r1 ap h1=>by
  obtain⟨s2,_⟩:=z1q R1.g e1 e2;refine ACz (R1.frzA e1 e2 e3 ap) P7 ?_ h1;exact VW a xF AjH)))
variable{st:Stmt}{sts:PU}{t u:aG}
def bh:aG:=Akb (D.nx Γ)
def aD(t u:aG):aG:=fun D Γ E=>t {D with nx:=AJk (u D Γ' E)} Γ E
theorem pZ:B7 uQ [] bh:=OH Vx yic D aa3 aa3 (M_ R ET h)
theorem bL(h1:Ť t)(h2:B7 uQ sts u):B7 uQ (st::sts) (aD t u):=OH Vx (ZQ Agl (KO h2)) D aa4 aa4 (KW (ABS (fun Γ' F' H' σ' R' s' q=>⟨F',Γ',D2,R',q,k.mono s'⟩) k.bk k.ct))
theorem bK(h1:Ť t):B7 uQ [st] t:=ALh ZR Agl
def fQ(Z'):aG:=fun D Γ E=>te Γ (FD Γ1 (D.nx Γ1)) E
theorem yiv(he:MR)(hs:ABO none:=by rfl):AkF e (fQ te):=OH rY (A6 ZS IU hs) D aa5 aa5 (Tu (AMr R1))
def aW(Z'):aG:=zo D Γ te d _ (D.rt d)
theorem fU(he:MR):Pw (.Return ALY pos) (aW te):=fun z E cx=>
 rY (z8g IU) (DM D σ H aa6 D2 aa6 (Tu (k.rt _ _ _ _ R1.gr r1 h1)))
def gB:aG:=fun D _ _=>D.rt AE
def cG(c:TT2)(t u:aG):aG:=TC c b (EH b (t D Γ1 E) (u D Γ1 E))
theorem qb(hc:WN c tA)(ha:B7 uQ x t)(hb:B7 uQ y u):Pw (.If c x y pos) (cG tA t u):=OH rY (ymf ATr DO Jn) D aa7 aa7 (APr (by
  cases c with
  | true=>show dA B4 q A1g
  | false=>show dA Th q A1g))
def aV(i:Nat)(te:cD):aG:=AXG (AGY w_)
theorem gQ(hN:X.N.Nodup)(hi:EC)(hx:oQ)(he:MR)(hs:ABO ALZ:=by rfl)
  (hf:Z3\/Z_:=by show y9):kQ AX0 e (aV i te):=OH rY (F8 ZX i i hN hi hx IU hs hf) D aa8 aa8 (Tu (AMr (R1.set i r1)))
def cM(AXB cL):aG:=TC t ds (AGY gf)
theorem Kr(hN:X.N.Nodup)(hi:EC)(hx:oQ)(he:Al_)(hs:ABO ALZ:=by rfl)
  (hf:Z3\/Z_:=by show y9):kQ AX0 e (cM i tf):=OH rY (F8 ZX i i hN hi hx IU hs hf) D aa9 aa9 (KW (fun ds Γ1 F1 H1 a vs R1 s1 e1 e2 e3 r1 ap h1=>(AMr (R1.setOw i e1 e2 e3 r1 ap))))
#where
#print L3
namespace L3
open PySem PySem.Spec PyProof.Rows L2
abbrev uT:=A7J D
abbrev yI:=A7J Δ
section
variable(K:W.Frag)(F0 H0:Hp)
inductive UpG (g:uT) (E:XW) (v:V) (σ:St) (H:Hp) (Q:K'):Prop
 | mk:∀F Γ P d,EJ AQC (Rep K F d v) (g d Γ P E) BHn (UpG g E v σ H Q)
def upG(g:uT)(E:XW):TG:=ANg (ir UpG g E v σ H Q)
inductive VD (g:yI) (E:XW) (vs:Η) (σ:St) (H:Hp) (Q:K'):Prop
 | mk:∀F Γ P ds,EJ AQC ARi (g ds Γ P E) BHn (VD g E vs σ H Q)
def abb(g:yI)(E:XW):Lz:=Ajd (ir VD g E vs σ H Q)
#where
def QG(X:Cx)(F0 H0:Hp)(e:Expr)(g:uT):Prop:=AP2 (PG E7 e (upG X.K F0 H0 g E))
def VF(X:Cx)(F0 H0:Hp)(es:A2)(g:yI):Prop:=AP2 (N5 E7 es (abb X.K F0 H0 g E))
section
variable{X:Cx}{F0 H0:Hp}{e tg:Expr}{es:A2}{pos:Pos}{te:cD}{g:uT}{gs:yI}
theorem pgC(h:PG X e t)(hi:∀v σ H Q,t' v σ H Q ->t v σ H Q):PG X e t' :=BIz
theorem VG(h:N5 X es t)(hi:∀v σ H Q,t' v σ H Q ->t v σ H Q):N5 X es t' :=BIz
def hName(xo):uT:=fun d Γ Q _=>Q (Γ.set i w_)
theorem fW(hN:X.N.Nodup)(hi:EC)(hx:oQ)(hf:Z3\/Z_:=by show y9):B7 QG fe (Da i):=fun z E cx=>
 pgC BES fun v σ H Q hq1=>by obtain⟨F,Γ,P,d,R,r,h,k⟩:=hq1;exact k _ _ _ _ (R.set i r) ET h
def fD:yI:=fun ds Γ Q _=>ds= []/\Q Γ
def aZ(g:uT)(gs:yI):yI:=fun ds Γ Q E=>match ds with | d::r=>AfS d (gs r Γ' Q E) | []=>False
theorem Dz:B7 VF [] fD:=fun z E cx=>VG z6q fun vs σ H Q hq2=>by
 obtain⟨F,Γ,P,ds,R,r,h,k⟩:=hq2;show X_ h h;exact⟨r,k _ _ _ _ R ET h⟩
theorem qd(h1:VY QG g)(h2:A3S)(hs:AAw DF (·.2)=ALc e::AAw es (·.2):=by rfl):B7 VF DF (aZ g gs):=fun z E cx=>
 VG (A6 ZW Agl (KO h2) hs) fun vs σ H Q yx=>by
  obtain⟨F,Γ,P,ds,R,r,h,k⟩:=yx;cases ds with
  | nil=>show ANn
  | cons d ds=>
   show AOY;exact⟨v,us,rfl,F,Γ,_,d,R,r1,h,fun Γ1 F1 H1 σ1 R1 s1 q=>⟨F1,Γ1,P,ds,R1,r2.up s1,q,BEU (k _ _ _ _ R2 P7 p)⟩⟩
def fG(n:Nat)(gs:yI):uT:=fun d Γ Q E=>(I_ d Š (ds.length=n/\gs ds Γ Q E))
theorem DG(hc:Cn)(h:A3S)(hn:LL assignEach es X.env=n:=by rfl)(hst:(assignEach es X.env).findIdx? (·.1)=none:=by rfl):B7 QG A2G (fG n gs):=fun z E cx=>
 pgC (F8 yee n n hc Rs hn hst) fun v σ H Q yG=>by
  obtain⟨F,Γ,P,d,R,r,h,k⟩:=yG;cases d with
  | tup ds=>
   show EN a vs hq rs r;exact⟨a,vs,rfl,uz R.g hq,BF Sm C_,F,Γ,P,ds,R,rs,h.2,k⟩
  | _=>show ANn
def jC(te:cD)(g:uT):aG:=AXG (g d Γ1 D.nx E)
theorem ylu(he:MR)(hg:APJ)(hs:AFq [tg] e:=by rfl)(hw:AaW [tg]:=by rfl)
  (h1:AAw [tg] (·.2)= [ALc tg]:=by rfl):kQ [tg] e (jC te g):=fun z E cx=>
 rY (BCt (KO hg) h1) (DM D σ H Gq D2 Gq (Tu ⟨F1,Γ1,_,d,R1,r1,h1,BEU (ASW p)⟩))
def jD(i j:Nat)(t:cL):aG:=TC t ds (qc y0 (D.nx ((Γ1.set i (.pu x)).set j (.pu y))))
theorem ylj{kt k2 N7}(hc:Cn)(hN:X.N.Nodup)(hi:EC)(hj:yy)(hij:ye)
  (hx:Z_) (hy:AHJ) (ha:Ahe)
  (hw:AdI AHP AHh (BU y0)) (hs:AFq AHP AHh:=by rfl):
  kQ AHP AHh (jD i j t):=OH rY (D8 yly X (X.wsh z) i i j j hc hN hi hj hij hx hy DO hw hs) D Ox Ox (QQ (by
  match ds,r1,h1 with
  | AY1,r1,h1=>
   obtain⟨v1,_,rfl,q1,v2,_,rfl,q2,rfl⟩:=r1;exact NV v1 v2 (AMr ((R1.set i q1).set j q2))
  | [],_,h1=>show wx
  | [_],_,h1=>show wx
  | _::_::BY,_,h1=>show wx))
def Cp(c:TT2)(tb:aG):aG:=Akc (∃W:AVs,(∃m,W m Γ)/\∀m Γ,W m Γ ->
 c Γ (fun b Γ1=>(EH b (tb (AI4 A1i A1i) Γ1 E) (D.nx Γ1))) E)
theorem z0c(hc:WN c tc)(hb:AO9):Pw BBj (Cp tc tb):=fun z E cx=>
 rY (yb8 cx.po ATr Jn) fun D σ H Ci=>by
  obtain⟨F,Γ,D2,R,⟨W,⟨m,w0⟩,turn⟩,k⟩:=Ci;show DD (fun m σ H=>∃F1 Γ1,SL F1 H Γ1/\kP/\W m Γ1) ⟨m,F,Γ,R,VS,w0⟩ (ER m σ H hz1);obtain⟨F1,Γ1,R1,s1,w1⟩:=hz1;refine ACa (turn m Γ1 w1) (fun b Γ2 F2 H2 R2 s2 q=> ?_);cases b with
  | true=>
   rw[B4] at q⊢;refine⟨fun σ' H' =>(AQM (∃F3 Γ3,SR X.K F0 H0 F3 H' σ' Γ3/\a_ F3/\W m' Γ3)),fun σ' H' z=>z,F2,Γ2,_,R2,q,ABS BI6 (AtQ (M_ R3 AWu p)) BI6⟩
  | false=>
   show dA Th q (ASW q)
def abd(K:W.Frag)(tl:TE):TI:=BCw ((∃xs,Aeu)/\R Ai8 H1) ((∃xs,wB K H1 a xs)/\R AWG H1)
theorem yln(hl:PE X l tl):eK l (abd X.K tl):=by
 show ft;show oP (ij hl) v UJ;show LT UJ;show Oy a e q1;subst e;cases r1;rcases q with ⟨⟨xs,hq⟩,q⟩ | ⟨⟨xs,hq⟩,q⟩
 ·obtain⟨its,rv,p,hz⟩:=I1.list hq;refine wpAny_pyIter_list p.isList ?_;refine⟨s1.heap.objs.size,[s1.heap.objs.size],_,_,H1,rfl,AGr,zwh a _,RU,FV,q⟩;show ſ
  exact ABH
 ·obtain⟨its,rv,p,hz⟩:=I1.tuple hq;refine wpAny_pyIter_tuple AwW ?_;refine⟨s1.heap.objs.size,[s1.heap.objs.size],_,_,H1,rfl,AGr,zse a _,RU,FV,q⟩;show ſ
  exact ABH
def vd(ds:Δ)(g:uT)(tb:aG)(D0:rW)(E:XW)(Γ:G2):Prop:=∃I:AVs,I 0 Γ/\
 (BDI D0 D0.nx)/\∀Γ,I ds.length Γ ->D0.nx Γ
def uD(te:cD)(g:uT)(tb:aG):aG:=ABj D0 te d (TM d ATt AtT Š AtT)
theorem G7(hc:Cn)(hi:AH8 iter)(hg:APJ)(hb:AO9)(hs:am iter:=by show MW):
  Abe iter uD te:=OH rY (Abl (yln AEy)) Dn Oz Oz (Tu (by
  have body:∀(ds:List L3.D) (vs:Η),Acm ->∀I:AVs,(BDI D2 D2.nx) ->
    ∀(i:Nat) x σ H,bc vs ->(Aes) ->upG X.K F0 H0 g E x σ H (AIy (upS X.K F0 H0 tb E (Ab9 Dn AqX AqX Dn.nx) σ2 H2)):=by
   rintro ds vs rs I turn i x σ H hx ⟨F2,Γ2,R2,s2,hI⟩;obtain⟨d,hd,rd⟩:=zxj rs hx;exact⟨F2,Γ2,_,d,R2,rd.up s2,turn i d Γ2 hd hI,AtQ ⟨F3,Γ3,ASj D2 D2.nx,R3,p,ABS Abb (AdQ (M_ R4 (ABa (AZA s4)) q)) Abb⟩⟩
  cases d with
  | lst ds=>
   show AWq;show Asd;show nN a (fA ⟨vs,ADv⟩ (BIV yav (R2.g.seq (s2.seq hq))))
   rintro σ H ⟨F2,Γ2,R2,s2,hI⟩;exact A'5
  | tup ds=>
   show AWq;show Asd;show nN a (.inr ⟨⟨vs,Ajv⟩,BIV ygr (uz R2.g (uz s2 hq))⟩)
   rintro σ H ⟨F2,Γ2,R2,s2,hI⟩;exact A'5
  | _=>show wx))
def G8(lo:Int)(n:Nat)(g:uT)(tb:aG)(D0:rW)(E:XW)(Γ:G2):Prop:=∃I:AVs,I 0 Γ/\
 (∀(i:Nat) Γ,i<n ->I i Γ ->AfS (C3 (lo+i)) (tb (ASj D0 D0.nx) Γ' E))/\∀Γ,I n Γ ->D0.nx Γ
theorem yd6(MG){F1 H1:Hp}{Γ1:G2}{σ:St}{lo:Int}{n:Nat}{tb:aG}{D2:rW}{D:Ends}{E:XW}(R1:bE F1 H1 Γ1)(h:G8 lo n g tb D2 E Γ1)(k:AYr F1):
  AGt K' (W 0 m σ H1) (∀i m σ H,ANk ->APf (Aa_ stop) (Aa_ go) (AdG (JN lo n).yld (ir upG g E x σ H' (AIy (upS K F0 H0 tb E (AI4 N N) σ2 H2))))):=by
 show ST I i0 turn done;refine z9w (lo:=lo) (n:=n) (fun i σ H=>∃F2 Γ2,bE F2 H Γ2/\AQU/\I i Γ2) BLM ?_ ?_
 ·rintro i σ H hi ⟨F2,Γ2,R2,s2,hI⟩;exact⟨F2,Γ2,_,AgR,R2,JP,turn i Γ2 hi hI,AtQ ⟨F3,Γ3,_,R3,p,ABS Abb (AdQ (M_ R4 (AZA s4) q)) Abb⟩⟩
 ·rintro σ H ⟨F2,Γ2,R2,s2,hI⟩;exact M_ R2 s2 (done _ hI)
def tU(t:cL)(g:uT)(tb:aG):aG:=ABj D0 t ds (qc [ù] ((lm<=j/\j<2^62)/\G8 0 j.toNat g tb D0 E Γ1))
theorem OD(hc:Cn)(hgl:AUw)(hm:AUm)(ha:ADs)(hg:APJ)(hb:AO9)
  (hst:starEach [a] X.env= [(false,AT9)]:=by rfl) (hs:am A1U:=by show MW):Abe A1U tU t:=OH rY (Abl (z9k hgl hm DO hst)) D GP GP (QQ (by
  show PR
  ·rename_i j;show AJh rfl r1;exact⟨j,rfl,h1.1.1,h1.1.2,BFd⟩
  ·show wx))
def G9(t:cL)(g:uT)(tb:aG):aG:=ABj D0 t ds (qc ADb ((BFl)/\G8 i A1o g tb D0 E Γ1))
theorem z79(hc:Cn)(hgl:AUw)(hm:AUm)(ha:Ahe)(hg:APJ)(hb:AO9)
  (hst:starEach ci X.env= Ao' AT9 AT_:=by rfl) (hst2:starEach [b] X.env= [(false,AT_)]:=by rfl) (hs:am A7n:=by show MW):Abe A7n G9 t:=OH rY (Abl (z63 hgl hm DO hst hst2)) D GQ GQ (QQ (by
  show PR
  ·rename_i i j;obtain⟨v,_,rfl,rfl,v2,_,rfl,rfl,rfl⟩:=r1;exact JA i j h1.1 BFd
  ·show wx))
#where
abbrev dI:=AoS Ő
inductive LR (AaX dI):Prop
 | mk:BE' (Arm Ts (P d)) LR
def nZ(K:W.Frag)(sp:dI):Sp:=AXx LR
def aq(sp:dI)(t:cL):cD:=PP (ASa d)
section
variable{X:Cx}{F0 H0:Hp}{e:Expr}{es:A2}{pos p:Pos}{x:Str}{f:Addr}{fd:FuncData}{ps:Α}{k:Nat}{sp:dI}{t:cL}
theorem VH(BIY)
  (I:AYP) (R:AHG) (r:AM7) (rs:c0 F ds) (h:sp ds P fun C=>E Γ C) (hQ:Arm (ASi F') (P d)):
  BCI:=by
 have hs:nZ X.K sp vs H Q BGQ:=⟨F,ds,P,_,R.g,rs,h,hQ,ASv⟩;show AbA
 have hbs:=hb s us I.kIn hl;show o_;show AAi (Fn.run X.A X.stack s H ADn us vs Q _ hr I.env0 hbs r hs) AGb;cases r with
 | error e=>exact BDG cx.px I R hq
 | ok fl=>
  cases fl with
  | ret u=>exact I.after hq
  | next=>show N3
  | brk=>show N3
  | cont=>show N3
theorem z66(Fn:Adm Adv)(hr:si)(hg:HE)(hm:AI6 FX)(hk:W.keepIn X.K FX=true)(hb:AEU)
  (ha:LJ) (hdb:AT x "__debug__":=by decide) (WS):
  Bz TL (aq sp t):=by
 rintro z E cx pins s σ H Q I ⟨F,Γ,P,R,h,kk⟩;show APT;refine W.callWith_K (h₀:=X.base) I.ok.mod.GC hk (NA (ASw (ASa d)) us Et) he hpl;obtain⟨vs,H1,I1,r,F1,Γ1,ds,R1,sF,rs,q⟩:=Et;show AL8;exact VH Fn hr hb cx I1 R1 r rs q BAi
#where
def aF(n:Nat)(ds:Δ):G2:=ds.map .pu++ALG (n - ds.length) A_
abbrev gJ(N:Α)(ds:Δ):G2:=aF N.length ds
theorem RV(A'G){ds:Δ}{vs:Η}(h:fF F0)(r:A8M):SR K F0 H F0 H (L2.start N vs) (gJ N ds):=by
 have hl:=jH r;show B5 (Gr.refl h) (by simp [L2.start,gJ,aF,hl]) (NM i s) (De i j a e _)
 ·unfold gJ aF at e;unfold L2.start;show Ajf
  ·rw[xl,List.getElem?_map] at e
   cases q:ds[i]? with
   | none=>rw[q] at e;cases e
   | some d=>
    show Y2;cases e;show Sc e1 r1 (xG r q);refine IE uA ?_ v r1;show A'X;rfl
  ·show AWi Ĭ
   split at e
   ·cases e;rename_i hlt;show Af7 hlt;show fN none trivial;show A4X (AEl (ASG hl hlt))
   ·cases e
 ·exfalso
  obtain⟨s,o,e,_,hs⟩:=e;unfold gJ aF at e;show Ajf
  ·rw[xl,List.getElem?_map] at e
   cases q:ds[i]? with
   | none=>rw[q] at e;cases e
   | some d=>show Y2;cases e;exact hs
  ·show AWi Ĭ
   split at e
   ·cases e;exact hs
   ·cases e
section
variable{P:Program}{w:World}{K:W.Frag}{mg:B0}{base:Heap}
theorem iu(AO_)(APo dI)(Fn:Υ x qual st)(S:AAj ps)(len:AHo)
  (hbody:ABT (∀F0:Hp,
   ∃t,AYT sD/\Aah Aph)):
  AV7 nZ:=by
 show yn;show AHu
 show Abv
 obtain⟨F0,ds,Pd,Ex,sF,rs,hsp,hQ,hE⟩:=hq2;show AYc;show AHq (by
  show A8 ABU AAn;show ABV;show AHl xr z1 z;exact AHt)
 exact AtD (AC_ (CY (Pd AE)) Pd) (Atb Abx)
#where
def cW(i:Int):Nat:=Builtin.Int.intBits i
theorem yib(h:AyX):BMh:=by
 show BO cW;unfold IntMulOk;intro z;show Ale z;have z2:=z.2;unfold Builtin.Int.intTooBig at z2;have hb:bitsLine=134217728:=by rfl
 rw[hb] at z2;have:=of_decide_eq_true z2;omega
theorem kE(h:Al5):Si<=k:=by
 show Ayj;split
 ·exact EX
 ·show G1;show UM n0 i.natAbs (by
   have:i=0:=BL9;show T';exact q rfl)
  have:=(Nat.log2_lt n0).mpr h;omega
theorem OJ(h:Si<=k):Al5:=by
 unfold cW Builtin.Int.intBits at h;show Co
 ·show G1;have:i=0:=As q
  show T';exact Nat.two_pow_pos k
 ·show G1;show UM n0 i.natAbs (by
   have:i=0:=BL9;show T';exact q rfl)
  exact(Nat.log2_lt n0).mp χ
theorem Eu(AG2):cW (i*j)<=Si+kM:=by
 refine kE ?_;rw[Int.natAbs_mul,Nat.pow_add];exact Nat.mul_lt_mul'' (OJ (zN _)) (OJ D3)
theorem zij(AG2):BDR (cW (i+j)):=by
 refine kE ?_;have h1:i.natAbs<A7t:=OJ (Nat.le_max_left _ _);have h2:j.natAbs<A7t:=OJ (Nat.le_max_right _ _);have h3:=Int.natAbs_add_le i j;rw[Nat.pow_succ];omega
theorem yha(i:Int):cW (-i)=cW i:=by show Ayj;simp
theorem zl0(AG2):BDR (cW (i - j)):=by
 have h:=zij i (-j);rw[yha,<- Int.sub_eq_add_neg] at h;exact h
theorem Ks(h:i.natAbs<=j.natAbs):Si<=kM:=kE (zL h (OJ (zN _)))
section
variable{X:Cx}
theorem zuq{f:ABK}{C:AY'}{v:AV9}{d:AV8}{g:EL}(ho:j9 X f (rI C v))(hg:∀x y P,g x y P ->Ar8 AHK)(hd:BAu):j9 X f (ABi g):=by
 rintro pins s σ H x y u w Q I rx ry ⟨F,d1,d2,P,sF,r1,r2,h,k⟩;show i7 i j rfl hc hp (hg _ _ _ h);subst r1 r2;exact iF ho _ u w (eQ i j rfl hc A3d)
theorem VJ{f:ABK}{v:AV9}{d:AV8}{g:EL}(ho:j9 X f (Kf v))(hg:∀x y P,g x y P ->As8 AHK)(hd:BAu):j9 X f (ABi g):=by
 rintro pins s σ H x y u w Q I rx ry ⟨F,d1,d2,P,sF,r1,r2,h,k⟩;show EN i j rfl hp (hg _ _ _ h);subst r1 r2;exact iF ho _ u w (IE i j rfl A3d)
def wI(C:AY')(d:AV8):EL:=eL (AM_ x y C7 ù (C i j/\AHK))
theorem yc5(h:wI C d x y P):Ar8 AHK:=by
 show BO wI;show Co
 ·exact G0 _ rfl h
 ·show EB
def qR(d:AV8):EL:=eL (AM_ x y C7 ù AHK)
theorem VL(h:qR d x y P):As8 AHK:=by
 show BO qR;show Co
 ·exact G0 _ rfl h
 ·show EB
def cJ:EL:=eL (match x,y with
 | C7,ù=>NY (i+j)
 | .str i,.str j=>BH AyL/\P (.str (i++j))
 | _,_=>False)
theorem rO:AGQ Add cJ:=by
 rintro pins s σ H x y u w Q I rx ry ⟨F,d1,d2,P,sF,r1,r2,h,k⟩;show BO cJ;show Co
 ·subst r1 r2;exact iF yj8 _ u w (G0 _ rfl tP)
 ·subst r1 r2;exact iF z3r _ u w (eQ _ _ rfl C_ AVW)
 ·show EB
def fO:EL:=qR fun i j=> .int (i - j)
theorem Gs:AGQ Sub fO:=APB ylq
def Cq(AG2):Prop:=Si<=64\/kM<=64\/AyX
theorem Cq.ok(h:Cq i j):BMh:=by
 rcases h with h | h | h
 ·exact .of_left h
 ·exact .of_right h
 ·exact yib h
def cI:EL:=wI Cq (k_ (i*j))
theorem qL:AGQ Mult cI:=BD_ Cq (k_ (i*j)) (mul_int q hc.ok)
def dw:EL:=wI (FD j A2Q) AwC
theorem vf:AGQ FloorDiv dw:=BD_ (Eg j A2Q) AwC (floordiv_int hc.1 q (D9 (PyProof.noPylong_of_log2 (by
 have:=OJ hc.2;exact(Nat.log2_lt (Fs (hc.1 (Int.natAbs_eq_zero.mp z)))).mpr this))))
def bQ:EL:=wI (FD j ADl) AwB
theorem mZ:AGQ Mod bQ:=Ael (zuq (C:=Eg j ADl)) yi9
def jE:EL:=wI Oc A8z
theorem ymr:AGQ Pow jE:=Ael zuq ykd
def qT:EL:=AYa (i<j)
theorem Ew:gu Lt qT:=APB ymq
def uE:EL:=AYa (i<=j)
theorem VN:gu LtE uE:=APB ymv
def qe:EL:=AYa (j<i)
theorem Cr:gu Gt qe:=APB ymh
def uU:EL:=AYa (j<=i)
theorem abe:gu GtE uU:=APB ymx
def fH:D ->Bool | AE=>true | _=>false
theorem z5h{K:W.Frag}{F:Hp}{d:D}{v:V}(r:LE):Μ (v= AE)=fH d:=by
 cases d with
 | non=>subst r;rfl
 | bl _=>subst r;rfl
 | int _=>subst r;rfl
 | str _=>subst r;rfl
 | tup _=>show APU
 | lst _=>show APU
 | exc _=>show APU
 | ptr _=>subst r;rfl
 | obj _ _ _=>obtain⟨a,_,_,rfl,_⟩:=r;rfl
 | dic _ _=>show APU
 | qP _ _=>show APU
 | dik _ _=>obtain⟨a,_,_,rfl,_⟩:=r;rfl
def uF:EL:=A'y (MI (fH x)) (c==d)
def jk:EL:=A'y (MI (! fH x)) (c !=d)
theorem abf:gu Is uF:=by
 rintro pins s σ H x y u w Q I rx ry ⟨F,d1,d2,P,sF,r1,r2,h,k⟩;show BO uF;show Co
 ·have e:=z5h r1;subst r2;exact iF ylp x u w Azb
 ·show BHK is_bool
 ·show EB
theorem ymp:gu IsNot jk:=by
 rintro pins s σ H x y u w Q I rx ry ⟨F,d1,d2,P,sF,r1,r2,h,k⟩;show BO jk;show Co
 ·have e:=z5h r1;subst r2;exact iF yhs x u w Azb
 ·show BHK isnot_bool
 ·show EB
mutual
def iM:A3H
 | AE,b=>(ACP AE true)
 | .bl a,b=>(AM3 Y1)
 | AEu,b=>(AM3 AEv)
 | .str a,b=>(AM3 (.str b))
 | PH,b=>(ACP AUT ly)
 | UI,b=>(ACP ALf ly)
 | .exc a,b=>(AM3 (.exc b))
 | .ptr a,b=>(AM3 (.ptr b))
 | .obj C fs xs,b=>(ACP (.obj C' fs' ys) (Μ (C=C')&&Μ (fs=fs')&&ly))
 | .dic ks xs,b=>(ArE dic)
 | .qP ks xs,b=>(ArE qP)
 | .dik ks xs,b=>(ArE dik)
def gR:Δ ->Δ ->Bool
 | [],[]=>true
 | KF,y::ys=>iM x y&&ly
 | _,_=>false
end
@[simp] def kd:D ->Nat
 | AE=>0
 | P8=>1
 | RO=>2
 | R_=>3
 | ALg=>4
 | nL=>5
 | _=>6
@[simp] def DK (d d' :D):Bool:=kd d<6&&kd d' <6&&(kd d !=kd d' || kd d<4)&&(kd d !=1 || kd d' !=2)&&(kd d !=2 || kd d' !=1)
def uV:GT (BN D D)
 | n+1,PH,AUT=>AlM
 | n+1,UI,ALf=>AlM
 | _,d,d' =>Aar
#where
mutual
theorem VP:∀d:D,iM d d=true
 | AE=>wf
 | P8=>wf
 | RO=>wf
 | R_=>wf
 | PH=>CI (O1 xs)
 | UI=>CI (O1 xs)
 | wb=>wf
 | wc=>wf
 | .obj _ _ xs=>AXj
 | Kj _ xs=>AXj
 | .qP _ xs=>AXj
 | .dik _ xs=>AXj
theorem O1:∀ds:Δ,gR ds ds=true
 | []=>ALr
 | SB=>AMw gR (VP d) (O1 ds)
end
mutual
theorem yev:∀a b:D,iM a b=true ->a=b
 | AE,b,h=>AHm
 | P8,b,h=>AHm
 | RO,b,h=>AHm
 | R_,b,h=>AHm
 | wb,b,h=>AHm
 | wc,b,h=>AHm
 | .obj _ _ xs,b,h=>by
  cases b with
  | obj _ _ ys=>show BKL;rw[C_.1,C_.2,Adl]
  | _=>show AGx
 | Kj _ xs,b,h=>by
  cases b with
  | dic _ ys=>show ArC
  | _=>show AGx
 | .qP _ xs,b,h=>by
  cases b with
  | qP _ ys=>show ArC
  | _=>show AGx
 | .dik _ xs,b,h=>by
  cases b with
  | dik _ ys=>show ArC
  | _=>show AGx
 | PH,b,h=>by
  cases b with
  | tup ys=>rw[O2 xs ys h]
  | _=>show AGx
 | UI,b,h=>by
  cases b with
  | lst ys=>rw[O2 xs ys h]
  | _=>show AGx
theorem O2:∀a b:Δ,gR a b=true ->a=b
 | [],b,h=>by cases b<;>simp [gR] at h<;>rfl
 | KF,b,h=>by
  cases b with
  | nil=>simp [gR] at h
  | cons y ys=>
   show BO gR;rw[Bool.and_eq_true] at h;rw[yev x y C_,Adl]
end
theorem zum:Aqb (xs.length=ys.length ->(∀e:GT Bool,(ARK (e i=iM x y)) ->ANb xs.length e=ly))
 | [],[],_,_,_=>ALr
 | KF,y::ys,hl,e,he=>by
  have ih:=zum (xs:=xs) (ys:=ys) (B9 hl) (ä (e (BM))) (BER he)
  rw[List.length_cons,List.range_succ_eq_map,List.all_cons,List.all_map];rw[he 0 x y rfl rfl]
  congr 1
theorem ztg:Aqb (xs.length≠ys.length ->gR xs ys=false)
 | [],[],h=>Ant
 | [],BY,_=>ALr
 | BY,[],_=>ALr
 | KF,y::ys,h=>nv gR (ztg (Ξ (ADL h))) Bool.and_false
theorem z4j:Aqb (AKN ys.length ->(ARK (iM x y=true)) ->AaP)
 | [],[],_,_=>ALr
 | KF,y::ys,hl,h=>AMw gR (h 0 x y rfl rfl) (z4j (B9 hl) (BER h))
section
variable{X:Cx}{pins:eE}{σ:St}{F H:Hp}{s:Shared}
theorem zw6(I:Ι){a:Addr}{xs ys:Η}(h:AOP mX)(h' :ub wB a):False:=by
 obtain⟨its,_,⟨o,n,e,c,_,_⟩,_⟩:=AgG;obtain⟨its',_,⟨o',e',c',_⟩,_⟩:=I.tuple h';rw[e] at e';cases e';rw[c] at c';injection c' with c';exact AUj c'
theorem zof{n:Nat}{d d' :D}(hc:Ap7):Aar\/ (BDc PH AUT)\/
  BDc UI ALf:=by
 unfold uV at hc;split at hc
 ·show CU (D9 BEr)
 ·show CU (DH BEr)
 ·show CB hc
theorem yd5(I:Ι)(sF:fc):∀(n:Nat) (d d' :D) (v:V),A7m Ap7:=by
 have flat:∀(d d' :D) (v:V),A7m Aar:=by
  intro d d' v hf r r';cases d with
  | non=>simp only [Rep] at r;subst r;cases d' <;>simp only [Rep] at r' <;>first | rfl | (cases hf;done) | (cases r';done) | show BKQ
  | bl=>show Ar9
  | int=>show Ar9
  | str=>show Ar9
  | tup=>show BHi (sF.seq h2) (uz sF h1)
  | lst=>show BHi (sF.seq h1) (uz sF h2)
  | _=>cases hf
 intro n;induction n with
 | zero=>
  intro d d' v hc r r';show BLj h h h
  ·exact BHQ
  ·cases h
  ·cases h
 | succ n ih=>
  intro d d' v hc r r';have go:∀{xs ys:Δ} {vs us:Η},EJ (vs=us) (c0 F xs) (aK X.K F ys us) AlM AaP:=by
   intro xs ys vs us e r1 r2 hc;subst e;refine z4j (l_ (jH r1) (jH r2)) (De i x y h1 h2)
   show CS v1 e1 q1 xG r1 h1;show CS v2 e2 q2 xG r2 h2;rw[e1] at e2;cases e2;exact ih x y v1 (hc i x y h1 h2) q1 q2
  rcases zof hc with h | ⟨_,xs,ys,h,rfl,rfl,hc⟩ | ⟨_,xs,ys,h,rfl,rfl,hc⟩
  ·exact BHQ
  ·cases h;show EN a vs h1 q1 r;obtain⟨b,us,z,h2,q2⟩:=r';cases z;exact go (I.tuple_inj (uz sF h1) (uz sF h2)) q1 q2 hc
  ·cases h;show EN a vs h1 q1 r;obtain⟨b,us,z,h2,q2⟩:=r';cases z;exact go (I.list_inj (sF.seq h1) (sF.seq h2)) q1 q2 hc
structure EqD (A:Around) (s:Shared) (v u:Value) (b:Bool):Prop where
 eq:SeqAt.EqAt A s v u b
 rc:SeqAt.RcAt A s v u b
 ne:SeqAt.RcNeAt A s v u (! b)
theorem z7e{n m:Nat}(e:GT Bool)(h:n=m):((List.range (min n m)).all e&&n==m)=ANb n e:=by
 subst h;simp
def Kn(s:Shared):BN D Value
 | AE,v=>v= Φ
 | Y1,v=>v= .bool b
 | C7,v=>∃t,v= .int i t
 | fh,v=>∃t,v= .str x t
 | ALg,v=>A'q (IsTup s.heap l is)
 | nL,v=>A'q (AU6 is)
 | _,_=>True
theorem kn(I:Ι)(sF:fc){d:D}{x:V}{v:Value}(r:A0i)(rv:SC):Kn s d v:=by
 cases d<;>simp only [Rep] at r<;>try trivial
 case non=>subst r;cases rv;rfl
 case bl=>subst r;cases rv;rfl
 show A6v int
 show A6v str
 case tup=>
  obtain⟨l,vs,rfl,h,_⟩:=r;cases rv;obtain⟨is,_,k,_⟩:=Aqh h;exact⟨l,rfl,_,k⟩
 case lst=>
  obtain⟨l,vs,rfl,h,_⟩:=r;cases rv;obtain⟨is,_,k,_⟩:=I.list (sF.seq h);exact⟨l,rfl,_,k.isList⟩
theorem z98{A:Around}{d d' :D}{v u:Value}(hu0:Am_)(hf:Aar)(a:Kn s d v)(b:Kn s d' u):A_Z:=by
 cases d with
 | non=>
  show Kk a;cases d' with
  | non=>show af (.same _) .none_none .none_none
  | bl _=>show af Agx Agx Agx
  | int _=>show AIo Aho Aho Aho
  | str _=>show AIo Ahp Ahp Ahp
  | tup _=>show Č AkP AkP AkP
  | lst _=>show Č AkQ AkQ AkQ
  | _=>cases hf
 | bl _=>
  show Kk a;cases d' with
  | non=>show af Agy Agy Agy
  | bl _=>show af Ahq Ahq Ahq
  | str _=>show AIo AjE AjE AjE
  | tup _=>show Č AkV AkV AkV
  | lst _=>show Č AkW AkW AkW
  | _=>cases hf
 | int _=>
  show APw a;cases d' with
  | non=>show af Ahr Ahr Ahr
  | int _=>show Aa4 int_int int_int int_int
  | str _=>show Aa4 int_str int_str int_str
  | tup _=>show Aa7 int_tuple int_tuple int_tuple
  | lst _=>show Aa7 int_list int_list int_list
  | _=>cases hf
 | str _=>
  show APw a;cases d' with
  | non=>show af Ahs Ahs Ahs
  | bl _=>show af AjF AjF AjF
  | int _=>show Aa4 str_int str_int str_int
  | str _=>show Aa4 str_str str_str str_str
  | tup _=>show Aa7 str_tuple str_tuple str_tuple
  | lst _=>show Aa7 str_list str_list str_list
  | _=>cases hf
 | tup _=>
  show AcD k1 a;cases d' with
  | non=>show af AkR AkR AkR
  | bl _=>show af AkX AkX AkX
  | int _=>show Aa5 tuple_int tuple_int tuple_int
  | str _=>show Aa5 tuple_str tuple_str tuple_str
  | lst _=>show Č Akj Akj Akj
  | _=>cases hf
 | lst _=>
  show AcD k1 a;cases d' with
  | non=>show af AkS AkS AkS
  | bl _=>show af AkY AkY AkY
  | int _=>show Aa5 list_int list_int list_int
  | str _=>show Aa5 list_str list_str list_str
  | tup _=>show Č Akk Akk Akk
  | _=>cases hf
 | _=>cases hf
theorem VR(I:Ι)(sF:fc):∀(n:Nat) (A:Around) (d d' :D) (x y:V) (v u:Value),YI (ABf (A.units+n)) Ap7 A0i (Rep X.K F d' y) SC J' A_Z:=by
 intro n;induction n with
 | zero=>
  intro A d d' x y v u hu hc r r' rv ru;show BLj h h h
  ·exact BCq χ
  ·cases h
  ·cases h
 | succ n ih=>
  intro A d d' x y v u hu hc0 r r' rv ru;have hu0:A.units<cLine:=ω
  rcases zof hc0 with h | ⟨_,xs,ys,h,rfl,rfl,hc⟩ | ⟨_,xs,ys,h,rfl,rfl,hc⟩
  ·exact BCq hu0
  ·cases h;show EN l1 vs h1 q1 r;show Qr l2 h2 q2 r';cases rv;cases ru;obtain⟨is1,p1,k1,_⟩:=Aqh h1;obtain⟨is2,p2,k2,_⟩:=Aqh h2;have el1:is1.length=xs.length:=by rw[<- p1.length,jH q1]
   have el2:is2.length=ys.length:=by rw[<- p2.length,jH q2]
   have at_:BG9:=by
    intro j g1 g2;show AUe g1' ALp el1 g1
    show AUe g2' (j<ys.length) el2 g2
    have e1:L7 xs xs[j]:=BG g1'
    have e2:Azw:=BG g2'
    show CS w1 f1 m1 xG q1 e1;show CS w2 f2 m2 xG q2 e2;show BS z1 c1 b1 p1.get f1;show BS z2 c2 b2 p2.get f2;show AZV y1 is1.toArray z1 c1
    show AZV y2 is2.toArray z2 c2
    simp only [e1,e2];rw[y1,y2];exact(ih A.in1 _ _ w1 w2 z1 z2 A3Z (hc j _ _ e1 e2) m1 m2 b1 b2).eq
   show kG EqD Ake;have same:l1=l2 ->AaP:=fun e=>by
    have z:=yd5 I sF NF Qb AFM ATM (ARU uV hc) A'C BEJ
    exact z
   have ev:(ANb (min is1.toArray.size is2.toArray.size) (DJ Afo)&&is1.toArray.size==is2.toArray.size)=ly:=by
    have s1:is1.toArray.size=xs.length:=BG el1
    have s2:is2.toArray.size=ys.length:=BG el2
    rw[s1,s2];show A7h
    ·rw[z7e _ hl];exact BBZ
    ·rw[ztg hl,beq_false_of_ne hl,Bool.and_false]
   have rc:=SeqAt.RcAt.tuples k1 k2 hu0 at_;have rn:=SeqAt.RcNeAt.tuples k1 k2 hu0 at_;rw[ev] at rc rn;show DD ?_ rc rn;show GG l1 l2
   ·rw[same e];subst e;exact AgX
   ·exact SeqAt.EqAt.of_refs e rc
  ·cases h;show EN l1 vs h1 q1 r;show Qr l2 h2 q2 r';cases rv;cases ru;obtain⟨is1,p1,k1',_⟩:=I.list (sF.seq h1);obtain⟨is2,p2,k2',_⟩:=I.list (sF.seq h2);have k1:=k1'.isList;have k2:=k2'.isList;have el1:is1.length=xs.length:=by rw[<- p1.length,jH q1]
   have el2:is2.length=ys.length:=by rw[<- p2.length,jH q2]
   have at_:BG9:=by
    intro j g1 g2;show AUe g1' ALp el1 g1
    show AUe g2' (j<ys.length) el2 g2
    have e1:L7 xs xs[j]:=BG g1'
    have e2:Azw:=BG g2'
    show CS w1 f1 m1 xG q1 e1;show CS w2 f2 m2 xG q2 e2;show BS z1 c1 b1 p1.get f1;show BS z2 c2 b2 p2.get f2;show AZV y1 is1.toArray z1 c1
    show AZV y2 is2.toArray z2 c2
    simp only [e1,e2];rw[y1,y2];exact(ih A.in1 _ _ w1 w2 z1 z2 A3Z (hc j _ _ e1 e2) m1 m2 b1 b2).eq
   show kG EqD Ake;have same:l1=l2 ->AaP:=fun e=>by
    have z:=yd5 I sF NF ú ō ATM (ARU uV hc) A'C BEJ
    exact z
   have rcn:SeqAt.RcAt A s ATM (AH l2) Ake/\SeqAt.RcNeAt A s ATM (AH l2) (! ly):=by
    show A7h
    ·have ev:ANb is1.toArray.size (DJ Afo)=ly:=by
      have s1:is1.toArray.size=xs.length:=BG el1
      rw[s1];exact BBZ
     have hz:is1.toArray.size=is2.toArray.size:=by simp [el1,el2,hl]
     have rc:=SeqAt.RcAt.lists k1 k2 hz hu0 at_;have rn:=SeqAt.RcNeAt.lists k1 k2 hz hu0 at_;rw[ev] at rc rn;exact⟨rc,rn⟩
    ·have hz:(is1.toArray.size !=is2.toArray.size)=true:=by simp [el1,el2,hl]
     rw[ztg hl];exact⟨SeqAt.RcAt.lists_lengths k1 k2 hz hu0,SeqAt.RcNeAt.lists_lengths k1 k2 hz hu0⟩
   obtain⟨rc,rn⟩:=rcn;show DD ?_ rc rn;show GG l1 l2
   ·rw[same e];subst e;exact AgX
   ·exact SeqAt.EqAt.of_refs e rc
def lJ:EL:=eL (uV 20 x y/\MI (iM x y))
def qU:EL:=eL (uV 20 x y/\MI (! iM x y))
theorem mF(hu:X.A.units+21<cLine):gu Eq lJ:=by
 rintro pins s σ H x y u w Q I rx ry ⟨F,d1,d2,P,sF,r1,r2,h,k⟩;exact kG (VR I sF 20 X.A d1 d2 x y u w hu C_ r1 r2 rx ry).rc (ADZ AVW)
theorem Ey(hu:X.A.units+21<cLine):gu NotEq qU:=by
 rintro pins s σ H x y u w Q I rx ry ⟨F,d1,d2,P,sF,r1,r2,h,k⟩;exact kG (VR I sF 20 X.A d1 d2 x y u w hu C_ r1 r2 rx ry).ne (ADZ AVW)
#where
theorem z08{K:W.Frag}{h:Heap}{C:Addr}(X:LO)(q:oJ K C)(D:Addr){nm qn:Str}{N:Addr}{bs bm:Ο}{hdct:Bool}{sn:Α}{sub:Ο}{ab:Bool}{col:ATc}{dd:Hb}{k0 k1 k2 k3 k5:LX}{newId:String}
  (e:BKp newId):AHa (AH D)=bO K C D:=by
 unfold oJ m5 at q;show YA
 ·rename_i ho;have z:=Anc;rw[e] at z;unfold bO;rw[ho];cases z
  rfl
 ·cases q
section
variable{M:Model}{A:Around}{E:dW}{h:Heap}{g:fg}{d:Drawn}{t:Nat}{os:OsState}
 {nm q nm' q' :Str} {C N C' N' :Addr} {bs bm bs' bm' :Ο} {hdct Ma :Bool} {sn sn' :Α} {sub sub' :Ο} {ab ab' :Bool} {col col' :ATc} {dd JT :Hb} {k0 k1 k2 k3 k5 j0 j1 j2 j3 j5:LX} {newId newId' :String}
theorem zp0(hC:kX C (excClassObj nm q C N bs bm hdct sn sub ab col dd k0 k1 k2 k3 k5 newId))(hD:kX C' (excClassObj nm' q' C' N' bs' bm' Ma sn' sub' ab' col' JT j0 j1 j2 j3 j5 newId'))
  (he:SW oe) (hcls:ASc) (hbase:bm'.contains AJr=true) (hq:Q (AHa (AH C')) ACG):BFc (excMatches Cb (AH C')):=by
 show Anw cb (Value.ref C' ::bm').contains hbase
 have nt:=tc_notTuple;generalize hk:AHa (AH C')=k at hq
 repeat (first | show Au2 he hcls | show ue hD | show ASX hD cb | show ASX hC hk | wp_step)
 cases (k)<;>(wp_walk;exact hq)
#where
abbrev _root_.L2.Cx.hand(X:Cx)(a:Addr):Cx:={X with A:=X.A.mark (some Cb),calm:=false}
section
variable{X:Cx}{pins:eE}{σ:St}{H:Hp}{s:Shared}{a:Addr}
theorem yf7(ok:X.Ok)(a:Addr):(X.hand a).Ok:=
 ⟨ok.mod,ok.kind,ok.glob,ok.blt,ok.above,ok.inj,ok.has,ok.cab,Ξ (ABw z),ok.frames,ok.stk,ok.ZK,ok.bs,ok.bsz,ok.GD,ok.GF,ok.funs,ok.frf⟩
theorem zoh(I:Ι)(a:Addr):Inv (X.hand a) pins σ H s:=Akn (yf7 I.ok a)
theorem z7l(ok:X.Ok)(z:Ov):AlN:=⟨ok.mod,ok.kind,ok.glob,ok.blt,ok.above,ok.inj,ok.has,ok.cab,ok.hd,ok.frames,ok.stk,ok.ZK,ok.bs,ok.bsz,ok.GD,ok.GF,ok.funs,ok.frf⟩
theorem ye1(I:AYP):Inv Apc [] σ H s:=
 ARy (z7l I.ok _) (WC (I.pin p (B9 hp)))
theorem V0(I:Inv Apc tO σ H s):AYP:=
 ARy (z7l I.ok _) (WC (I.pin p (zP _ hp)))
theorem ymy(BIZ){tO :eE}(h:SP Apc tO D f s):AYm E7 s:=by
 cases f with
 | next=>show Ako
 | brk=>show Ako
 | cont=>show Ako
 | ret u=>obtain⟨v,σ',H',I,r,q⟩:=h;exact⟨v,σ',H',V0 I,r,q⟩
theorem V1(ok:AlN)(I:Inv A2o pins σ H s):AYP:=
 Akn ok
theorem z55(BIZ)(ok:AlN)(h:AYm A2o s):AYm E7 s:=by
 cases f with
 | next=>show Akp
 | brk=>show Akp
 | cont=>show Akp
 | ret u=>obtain⟨v,σ',H',I,r,q⟩:=h;exact⟨v,σ',H',V1 ok I,r,q⟩
#where
def lK:XW:=Ê
theorem yF.base{K:W.Frag}{F0 H0 F H:Hp}{D2:rW}{D:Ends}(k:AYr F)(g:AHn):yF K F H0 F D2 D:=
 ⟨AtW k.nx,AtW k.bk,AtW k.ct,AtO (k.rt d v F' H' AiT r h),AtO (k.rf d v F' H' AiT (zsw (z3f g.f) d v r) h),fun t v as F' H' gr nd hn r h=>k.rT t v as F' H' AiT nd hn r h,fun d v Γ F' H' σ R r h=>k.rm d v Γ F' H' σ BJ_ r h⟩
section
variable{X:Cx}{pins:eE}{σ:St}{H:Hp}{s:Shared}
theorem Gu:Ctx (X.wsh ⟨Ê,pn⟩) F0 H0 lK:=
 BI' (FE _ PassesOwnAt.never)
#where
def kJ(Ty)(Cd:Addr)(tb th:aG):aG:=BHd D Γ1
def gC(K:W.Frag)(Cd:Addr)(i:Nat)(tb th:aG):aG:=BHd {nx:=AJk (D.nx (Γ'.set i A_)),rt:=D.rt,bk:=A1h D.bk,ct:=A1h D.ct} (Γ1.set i (.pu (.exc C)))
def cU(g:Ab1)(ta:cD):cD:=ON ta d (g d fun d' =>(D5 d'))
def fZ:Ab1:=fun x P=>(I_ x C7 (NY (-i)))
inductive Mf (K:W.Frag) (g:MY) (vs:Η) (H:Hp) (Q:VK):Prop
 | mk:BCr BHe Mf
def vg(K:W.Frag)(g:MY):g_:=fun vs H Q=>Mf K g vs H Q
def iw(g:MY)(t:cL):cD:=PP (g ds fun d=>(D5 d))
def cA:EL:=eL (match x,y with
 | UI,C7=>A9q
 | PH,C7=>A9q
 | AUK,C7=>∃c,Agg/\A0y/\P (.str Akx)
 | _,_=>False)
theorem zt0(KK){ds:Δ}{vs:Η}{i:Int}{d:D}(r:Fm)(h:ĉ ds d):AWS (ĉ vs v):=by
 unfold mY at h⊢;rw[<- jH r];cases q:wM ds.length i with
 | none=>rw[q] at h;cases h
 | some j=>
  rw[q] at h;exact xG r h
section
variable{X:Cx}{F0 H0:Hp}{a b e:Expr}{es:A2}{pos p:Pos}{ta tb te:cD}{t:cL}{x:Str}
theorem Hf(ha:PQ):Bz (.UnaryOp .USub a pos) (cU fZ ta):=fun z E cx=>
 oK (ymd yk2 DO) (DM σ H Q hq1 P hq1 (APA (by
  cases d with
  | int i=>
   show MT i r AbO
  | _=>show IG q)))
theorem yec(MG){g:MY}{E:XW}{σ:St}{H:Hp}{Q:VK}(h:G5 K F0 H0 An7 E σ H Q):A8_ vg:=by
 show KE h;exact BHR (fun d z F' H' gr rz hp=>k d Γ1 F' H' z ADW (ABa gr.f) rz hp)
theorem qg{id:String}{g:MY}(hc:∀z,eF E7 se (vg X.K g))(hg:HE)(hm:Ũ)(hv:Œ se)(ha:LJ)(hn:va :=by decide)(hdb:AT x "__debug__":=by decide)
  (WS):Bz TL An7:=fun z E cx=>
 oK (AYb Vc hv hn hdb hpl) (iA yec)
theorem dD(ha:PQ)(hb:mo)(hs:zxk b):AWD a b (HV ta tb):=fun z E cx=>
 oK (F8 yjx r (rZ X.K cA) (by
  rintro value slice pins s σ H x y v u Q I rx ry ⟨F,d1,d2,P,sF,r1,r2,h,k⟩ hs;show BO cA;show Co
  ·show EN p vs hq rs r1;subst r2;show Fr d e hp;obtain⟨w,ew,tQ⟩:=zt0 rs e;exact BG7 z81 (sF.seq hq)
  ·show EN p vs hq rs r1;subst r2;show Fr d e hp;obtain⟨w,ew,tQ⟩:=zt0 rs e;exact BG7 ylm (uz sF hq)
  ·subst r1 r2;show ST c hz e hp;exact yll value slice pins s σ H _ _ v u Q I rx ry ⟨_,_,c,rfl,rfl,hz,e,Ä FH hp⟩ hs
  ·show EB) DO Jn hs) (iA ydt)
#where
def rP:MY:=ABy [C7] (NY APZ)
def lB:MY:=AP1 (match ds with | AIV=>Atj | [PH]=>Atj | [AUK]=>BH z.length/\NY z.length | _=>False)
def zev:MY:=A5J (j>i)
def wD:MY:=A5J (j<i)
section
variable{X:Cx}
theorem ybc:AGC "abs" rP:=by
 rintro pins s σ H xs us Q I r ⟨F,ds,P,sF,rs,h,k⟩;show BO rP;show Co
 ·show AYQ;exact AHU yau (NG tP)
 ·show EB
theorem xJ:AGC "len" lB:=by
 rintro pins s σ H xs us Q I r ⟨F,ds,P,sF,rs,h,k⟩;show BO lB;show Co
 ·show iE;rw[Sm] at h;exact AHU zm6 (og AZC tP)
 ·show iE;rw[Sm] at h;exact AHU zm6 (og AZH tP)
 ·show AYQ;exact AHU zv0 (AL7 C_ AVW)
 ·show EB
#where
def tyD:D ->F6 String
 | AE=>some "NoneType" | P8=>some "bool" | RO=>some "int" | R_=>some "str" | ALg=>some "tuple" | nL=>some "list" | wb=>none | wc=>none | AjD=>none | Ŗ=>none | Ŭ=>none | AFf=>some "dict"
def abg(d:D)(T:String):ATc:=(tyD d).bind fun S=>W.kitOne [] (Kb S) u8
def kO(T:String)(ta:cD):cD:=ON ta d (match abg d T with | AQ7=>D5 AUP | none=>False)
def cO(C:Addr)(t:cL):aG:=AlP (ANC (E Γ1 E_))
section
variable{X:Cx}{F0 H0:Hp}{e:Expr}{es:A2}{pos np cpos:Pos}{t:cL}{x:Str}{C:Addr}
theorem zz0(hh:Cn)(hg:HE)(hm:ASM)(hC:nY X.K C)(ha:LJ)
  (hd:AT x "__debug__":=by decide) (AVK):
  Pw AfQ (cO C t):=by
 rintro z E cx pins s σ H D I ⟨F,Γ,D2,R,h,k⟩;refine F8 yct E (fun C' dx H1=>∃F1 Γ1,AI1/\E Γ1 E_) hg hm hC DO hh I (QQ ⟨BKr,F1,Γ1,R1,h1.2⟩) (fun H1 s1 e s' I1 hx=> ?_) hd he hpl
 obtain⟨a,C',H',B,dx,h1,h2,h3,h4,h5,h6,h7,h8,rfl,h9,rfl,F1,Γ1,R1,hE⟩:=hx;exact BJo _ I1 R1 ⟨a,_,_,B,dx,h1,h2,h3,h4,h5,h6,h7,h8,_,_,hE,Gr.refl R1.g,rfl,h9⟩
#where
structure cH (ABR) (mg:B0) (base:Heap) (x:Str) (k:Nat) (ps:Α) (sp:dI):Prop where
 ex:AqF nZ
section
variable{X:Cx}{F0 H0:Hp}{e:Expr}{es:A2}{pos p:Pos}{x:Str}{ps:Α}{k:Nat}{sp:dI}{t:cL}
theorem cF(Abo cH):
  Bz TL (aq sp t):=by
 obtain⟨f,fd,h1,h2,h3,h4⟩:=G.ex;exact z66 h1 hr hg h2 h3 h4 ha hdb he hpl
#where
section
variable{X:Cx}{pins:eE}{σ:St}{H:Hp}{s:Shared}{a:Addr}{o:HO}
theorem Inv.track(I:Ι)(hn:dc)(ok:ce (ACX o) s.heap a o)(n0:GU X.s₀.heap.get?)(nl:a≠X.env.locals)(nc:ui a)(np:ARm a):OK (ACX o) s:=by
 refine⟨I.ok,I.os,I.bare,⟨I.base.keep,I.base.slot,De b u e n hx,I.base.there,E8 xs e,AFm xs e,E8 ps e⟩,I.loc,I.cell,?_,AG0,SH,EK,I.len⟩
 ·rw[ų (AWA n0)];exact I.base.free b u e n hx
 ·have q:=I.base.tups b xs e;rw[AQW];exact q
 ·have q:=I.base.mj b u xs e;rw[AQW];exact q
 ·show LP m q A2a m AJz
 ·rw[Ċ nl];exact I.free
 ·rw[bC (nc x c e)];exact I.freeC x c e
 ·show APt;exact⟨e,Θ (bC (np p hp)) n,ne,nf,d⟩
 ·show OA
  ·show ApC ok
  ·rw[ZI] at e;exact BIS I.hok q
#where
def zua:dI:=Aba (MI true)
theorem zlo(KK):∀ns:AU,Iq ACO AdH
 | []=>JP
 | n::ns=>tR FH (zlo ns)
theorem z46{K:W.Frag}{H:Hp}{a:Addr}{ns:AU}(hl:AJd)(hS:Aad):nZ K zua MB H An6 lh:=
 ⟨H,SS ACO,fun d=>d= Ē,WG,VS,Ko (C6 (ZE a hS (zlo ns))),AEe ns rfl hl,AtO (by subst h;exact r),Ala h h.elim⟩
theorem ybq(h:fB P w [] H s (lh) e s'):False:=by
 obtain⟨_,_,_,_,_,_,_,_,_,_,_,_,_,h⟩:=h;exact h
structure Cls where
 fM:Addr:=0
 O3:Addr:=0
 abh:Addr:=0
 abj:Addr:=0
 abR:Addr:=0
 Missing:Addr:=0
 V2:Addr:=0
 wF:Addr:=0
 Apart:Addr:=0
 aac:Addr:=0
 bW:Addr:=0
 Open:Addr:=0
 abk:Addr:=0
 RW:Addr:=0
 abS:Addr:=0
 Scale:Addr:=0
 abV:Addr:=0
 ao:Addr:=0
 abW:Addr:=0
structure Hg (x5):Prop where
 ga:Ade "__getattribute__" "BaseException.__getattribute__"
 gn:AVR "__getattr__"
 cl:Ade "__class__" "object.__class__"
 ob:A3X ALz
 be:A3X AJr
def kY(K:W.Frag)(C:Addr)(ta:cD):cD:=BAf (bO K C0 C)
section
open PySem.W PySem.Builtin PySem.Builtin.ObjectAttr PySem.Builtin.Getset_descriptor
variable{prog:Program}{w:World}{A:Around}{E:dW}{K:W.Frag}{h:Heap}{g:fg}{d:Drawn}{t:Nat}{os:OsState}{a C:Addr}{o:Obj}
theorem zux(X:LO)(G:Hg K C)(hx:oS)(hc:AV')(hq:Q () ACG):BFc (checkBuiltinCall "BaseException.__getattribute__" (GV [AR,nameV])):=by
 have hk:builtinKind "BaseException.__getattribute__" =some .slot:=by show KP
 have hsp:splitId "BaseException.__getattribute__" =some ("BaseException","__getattribute__"):=by show KP
 have ha:=F.args_bexc_ga Cb nameV;have L1:=looks_mroIn (M:=M) X G.be;simp only [checkBuiltinCall,hk,hsp];show KB;unfold isInstance
 repeat (first | show Au2 hx hc | with_reducible refine L1.at ?_ | wp_step)
 exact hq
#where
theorem z52:∀(names:Tl) (n:Nat) (acc:mP),(kL names A0e) ->AXX n names acc x=acc.lookup x
 | [],_,_,_=>rfl
 | AoB,n,acc,h=>by
  unfold cellsFrom;show B3 hr p r A0e p hp BKH;split
  ·rename_i hk;have hy:y≠x:=h (y,k) zY ATz
   rw[A5K,List.lookup_cons];have:E4 (x==y):=AgS (Ne.symm hy)
   rw[this]
  ·exact A5K
theorem z62:∀(names:Tl) (h:Heap) (acc:mP),AM5 (cellsFrom h.objs.size names acc) ->AM5 acc\/ (h.objs.size<=c/\ (pushCells h names).IsCell c none/\ AuH names)
 | [],_,_,m=> .inl m
 | AoB,h,acc,m=>by
  unfold cellsFrom at m;unfold pushCells;split at m
  ·rename_i hk;show AFN;show ANq sz (Â h.push (AHw "cell" cell none)) (h.objs.size+1);rw[<- sz] at m;show Aru (z62 r _ _ m)
   ·rcases AKQ with e | z
    ·cases (e);have e2:k= i_:=As hk
     subst e2;show O_ ⟨GL,?_,zY⟩;exact HR (pushCells_keeps r _ _ _ AZN)
    ·show CB z
   ·show CU ⟨by rw[sz] at z1;omega,z2,zW _ z3⟩
  ·rename_i hk;show Ap hk;show Aru (z62 r h acc m)
   ·show CB z
   ·show CU ⟨z1,z2,zW _ z3⟩
theorem ztx:∀(names:Tl) (n:Nat) (acc:mP),(acc.Pairwise fun x y=>AY5) ->(kL acc (p.2<n)) ->(cellsFrom n names acc).Pairwise fun x y=>AY5
 | [],_,_,h,_=>h
 | AoB,n,acc,h,hl=>by
  unfold cellsFrom;split
  ·refine ztx r _ _ (List.pairwise_cons.mpr ⟨NM p hp,h⟩) SH
   ·have e' :n=p.2:=e;exact yS _ (Nat.lt_of_lt_of_eq (hl p hp) e')
   ·show P6 hp hp
    ·exact ATg
    ·exact Nat.lt_succ_of_lt (hl p hp)
  ·exact ztx r n acc h hl
def sy(env:Env):Tl ->mP ->mP
 | [],cs=>cs
 | AXF,cs=>sy env r (AI (k== L6) ((n,(env.cells.lookup n).getD 0)::cs) cs)
theorem yg0(h:∀p∈scope.names,Acv):closureFor scope env=pure A3f:=by
 have key:∀(names:Tl) (cs:mP),AmB ->
   (forIn names cs fun(x:Str×NameKind) (r:mP)=>(if x.2== L6 then do let a<- cellOf env x.1;AXS ((x.1,a)::r) else AXS r:Sem _))=pure (sy env names cs):=by
  intro names;induction names with
  | nil=>intro cs _;rfl
  | cons p r ih=>
   intro cs hh;obtain⟨n,k⟩:=p;show AqN;rw[List.forIn_cons];unfold sy;show AqW
   ·show JY c (hh ua zY ATz)
    have e' :cellOf env n=pure c:=by unfold cellOf;rw[e]
    simp only [hk,if_true,e',pure_bind,e,Option.getD_some];exact ih _ hr
   ·have hk' :(k==NameKind.free)=false:=As hk
    simp only [hk',Bool.false_eq_true,if_false,pure_bind];exact ih _ hr
 unfold closureFor;have:=key scope.names [] h
 simpa using this
theorem zuh:∀(names:Tl) (cs:mP),AmB ->AM5 (sy env names cs) ->AM5 cs\/ (AVx names/\AMH)
 | [],_,_,m=> .inl m
 | AXF,cs,hh,m=>by
  show AqN;rcases zuh r _ hr m with z | ⟨z1,z2⟩
  ·split at z
   ·rename_i hk;rcases AKQ with e | z
    ·cases (e);have e2:k= L6:=As hk
     subst e2;show JY c (hh (_,L6) zY rfl);show O_ (EU zY);have e' :AMH:=e;rw[e'];rfl
    ·show CB z
   ·show CB z
  ·show CU ⟨zW _ z1,z2⟩
theorem zoj(e:AMH):A'a ((AVx names\/z_ cs.lookup) ->(∀c',DC cs.lookup c' ->c' =c) ->z_ (sy env names cs).lookup)
 | [],cs,h,_=>by
  show Pf h
  ·cases h
  ·exact h
 | AXF,cs,h,hu=>by
  unfold sy;show AqW
  ·show AFN;by_cases hn:x=n
   ·subst hn;refine zoj e r _ (DH ?_) (AJ c' q)
    ·rw[List.lookup_cons];simp [e]
    ·rw[List.lookup_cons] at q;simp [e] at q;exact q.symm
   ·show aI hb x n (AgS hn)
    refine zoj e r _ ?_ (AJ c' q)
    ·show Pf h
     ·show A3m hn
     ·show O_ ?_;rw[List.lookup_cons,hb];exact h
    ·rw[List.lookup_cons,hb] at q;exact hu c' q
  ·show Ap hk;refine zoj e r cs ?_ hu;show Pf h
   ·show A3m hk
   ·show CU h
theorem zml(inj:Ark AMH (env.cells.lookup y=some c)):A'a (Ω (names.map (·.1)).Nodup AmB (cs.Pairwise fun x y=>AY5) (∀p∈cs,env.cells.lookup p.1=some p.2/\p.1∉names.map (·.1)) ((sy env names cs).Pairwise fun x y=>AY5))
 | [],_,_,_,h,_=>h
 | AXF,cs,nd,hh,h,hc=>by
  unfold sy;rw[List.map_cons,List.nodup_cons] at nd;show AqN;show B3 hc' p cs (ACs env.cells.lookup/\A3∉r.map (·.1)) p hp ⟨AEI hc,Ξ ((hc p hp).2 (Θ List.map_cons (zW _ z)))⟩
  show AqW
  ·show AFN;show JY c (hh ua zY ATz)
   have e' :env.cells.lookup n=some c:=e;rw[e'];refine zml inj r _ nd.2 hr (List.pairwise_cons.mpr ⟨A7Q,h⟩) SH
   ·have z' :c=p.2:=z;have q:=AEI hc;rw[<- z'] at q;have:=inj _ _ _ e' q;exact(hc p hp).2 (AIa List.map_cons this zY)
   ·show P6 hp hp
    ·exact⟨e',nd.1⟩
    ·exact hc' p hp
  ·show Ap hk;exact zml inj r cs nd.2 hr h hc'
theorem zhm{scope:Scope}{env:Env}{x:Str}:∀(names:Tl) {k:NameKind},DC names.lookup k ->DC BAW k\/
   (k= L6/\ AIw BAW)
 | [],_,h=>AFw
 | (n,k0)::r,k,h=>by
  have ih:= @zhm scope env x r k;show A'3\/ (_/\A'3);cases hx:x==n with
  | true=>
   show Af_ hx h;cases h;by_cases hc:AfY
   ·show Db hc;show BLf hc;exact .inr ⟨As hc.1.1,by show AXP⟩
   ·show Ap hc;exact .inl (by show AXP)
  | false=>
   show Af_ hx h;by_cases hc:AfY
   ·show Db hc;show AXP;exact ih h
   ·show Ap hc;show AXP;exact ih h
def lM(scope:Scope)(C:Addr)(env:Env):Env:=
 {scope:=relabel scope env,locals:=C,globals:=env.globals,cells:=cellsFrom (C+1) scope.names A3f,qual:=env.qual,func:=none,code:=env.code,frame:=env.frame,builtins:=env.builtins}
def blk(X:Cx)(scope:Scope)(N:Α)(C:Addr)(s₀:Shared)(H₀:Hp)(fp:AO):Cx:=
 {X with env:=lM scope C X.env,N:=N,s₀:=s₀,H₀:=H₀,outer:=X.stack,stack:=X.stack,ex:=fp,fn:=T_ (scope.names.lookup x==AIg),pn:= [],xe:=Ê}
def yJ(own:Nat)(caps:At)(σ:St):St:=ALG own none++caps.map fun j=>AoK
structure lC (N:Α) (sc:Scope) (own:Α) (caps:At) (env:Env) (N' :Α):Prop where
 kind:Alc
 nd:N'.Nodup
 snd:Ato
 free:A'v env.kindOf env.kindOf
 names:A6g
 caps:BFP
theorem z9e
  (hQ:Q (newEnv scope s.heap.objs.size g (cellsFrom UF scope.names cl) q none Φ (BU env) builtinsNs) (AzX scope.names)):
  eA (newFunctionEnv scope g cl [] q none Φ (BU env)):=by
 simp only [newFunctionEnv,Option.isSome_some,if_true];show JJ wpAny_alloc;refine z6 (wpAny_layCells _ (fun name kind cells=>by cases hkc:kind==NameKind.cell<;>simp [hkc]) _ _ _ _ ?_)
 rw[Se (AI8 TD:Shared).heap.objs.size l' (Heap.size_push ..)];exact z6 (z7 (z7 hQ))
section
variable{X:Cx}{pins:eE}{σ:St}{H:Hp}{s:Shared}{sc:Scope}{own:Α}{caps:At}{N' :Α}{fp:AO}
theorem zoa(I:Ι)(S:zI):∀p∈sc.names,BJM X.env.cells.lookup:=fun p hp hk=>I.ok.has _ (S.free p hp hk)
theorem zj8(I:Ι)(S:zI)(e:Ahd):
  (É/\UA c/\sc.names.lookup x≠AIg)\/ (l'<=c/\ (pushCells Avy sc.names).IsCell c none):=by
 have m:=mem_of_lookup e;show ANq sz (ADN TD) l';have m' :AM5 (cellsFrom (ADN TD) sc.names A3g):=Θ sz m
 show Aru (z62 sc.names _ _ m')
 ·rcases zuh sc.names [] (zoa I S) z with z | ⟨z1,z2⟩
  ·cases z
  ·obtain⟨v,hc⟩:=I.cell x c z2;refine .inl ⟨z2,hc.lt,E2 q⟩;have q' :=mem_of_lookup q;have:=S.snd;show A0W;have d:∀(l:Tl),Aqe ->AVx l ->AuH l ->False:=by
    intro l;induction l with
    | nil=>show APP
    | cons a r ih=>
     intro hp h1 h2;show Aat hp;rcases zU.mp h1 with e1 | h1<;>rcases zU.mp h2 with e2 | h2
     ·rw[<- e1] at e2;cases (e2)
     ·exact p1 _ h2 (by rw[<- e1])
     ·exact p1 _ h1 (by rw[<- e2])
     ·exact ih p2 h1 h2
   exact d _ this z1 q'
 ·show CU ⟨by rw[sz] at z1;exact z1,z2⟩
theorem zyb(I:Ι)(S:zI)(hk:AKa sc.names.lookup)(e:É):Ahd:=by
 show z_ (cellsFrom _ sc.names A3g).lookup;rw[z52]
 ·exact zoj e _ _ (D9 Aky) fun c' q=>by cases q
 ·intro p hp hc z;have q:=mem_of_lookup hk;have:=S.snd;show A0W;have d:∀(l:Tl),Aqe ->AVx l ->p∈l ->False:=by
   intro l;induction l with
   | nil=>show APP
   | cons a r ih=>
    intro hpw h1 h2;show Aat hpw;rcases zU.mp h1 with e1 | h1<;>rcases zU.mp h2 with e2 | h2
    ·rw[<- e1] at e2;subst e2;cases hc
    ·exact p1 _ h2 (BF e1 z.symm)
    ·exact p1 _ h1 (BF e2 z)
    ·exact ih p2 h1 h2
  exact d _ this q hp
theorem z15(I:Ι)(S:zI)(V3:BDk AjN)(i:Nat)(x:Str)(v:V)(h1:bc N')(h2:Ch AEM dC):
  ∃u,LM/\Look (Aqg s.heap.objs.size) h' m' x u:=by
 have h2' :Ch AEM dC:=h2;have h1' :bc N':=h1;unfold yJ at h2';rw[S.names] at h1';show ADU own.length
 ·rw[xl,List.getElem?_replicate] at h2'
  split at h2' <;>cases h2'
 ·show A4Z h2'
  show ALE (List.getElem?_append_right χ) h1'
  cases hj:caps[i - own.length]? with
  | none=>show Cc hj h1' h1'
  | some j=>
   rw[hj] at h1' h2';obtain⟨j1,j2⟩:=S.caps j (yV hj);have hx:X.N.getD j "" =x:=As h1'
   have hσ:L7 σ dC:=by
    have:AoK=some v:=As h2'
    cases q:σ[j]? with
    | none=>show Cc q this this
    | some o=>show BC q;have:o=some v:=this;rw[this]
   rw[hx] at j2;have hN:L7 X.N x:=by
    rw[List.getD_eq_getElem?_getD,im j1] at hx;rw[List.getElem?_eq_getElem j1]
    simpa using hx
   obtain⟨m,hn,hloc⟩:=I.loc;have kx:=S.free (x,L6) (AdT j2) rfl;have vis:Id:=by
    rcases kx with k | k
    ·show CU (D9 k)
    ·show CU (DH k)
   show NR ru l (hloc j x v hN hσ vis);show DD u ru (.inr (EU ?_))
   ·rcases BH9 j2 with h | ⟨_,h⟩
    ·show CU h
    ·show CB h
   ·rcases l with ⟨k,_⟩ | ⟨_,c,ec,hc⟩
    ·have k' :AIC X.env.kindOf:=k;have kx' :AuR\/AvC:=kx;rw[k'] at kx';rcases kx' with z | z<;>cases z
    ·exact⟨c,zyb I S j2 ec,V3 x c _ ec hc⟩
theorem z8l(I:Ι)(S:zI)(hf:AMh)(hl:WE (UA b)):
  Inv Aqx [] AEM H (AzX sc.names):=by
 have keep:qV NN (E5 (pushCells Avy sc.names).get?):=Fc BBz;have ok:=I.ok;have inj:Ark Ahd (BKB y=some c):=fun x y c e1 e2=>by
  refine name_of_addr (cs:=AdN cells) ?_ (AdT e1) (mem_of_lookup e2);refine ztx _ _ _ (zml ok.inj _ _ S.snd (zoa I S) List.Pairwise.nil (fun p hp=>(kH hp))) SH
  rcases zuh (x:=A3) (c:=p.2) sc.names [] (zoa I S) hp with z | ⟨_,z⟩
  ·cases z
  ·obtain⟨v,hc⟩:=I.cell _ _ z;exact BLX hc.lt
 show aS frC (HH (W' b) HA) (I.hok.fresh hb);have abl:AdN scope.kind= ABr:=S.kind;refine⟨⟨ok.mod,abl,ok.glob,ok.blt,GL,inj,Alq,ER x c hfn e,ok.hd,ok.frames,ŏ,Ö (zK (hl b hb)) A9T,I.bs,zO ok.bsz I.sz,tI e hb,E8 hb z,I.stack,I.stkFree⟩,
  rfl,I.bare,Un.kept keep,B1 ((Heap.Ns.new s.heap (Kb "dict")).keeps (pushCells_keeps _ _)) (fun i x v h1 h2 h3=> ?_),AG0,frC _ (zN _),AG0,Aq9,I.hok.kept keep,?_⟩
 ·
  have hx' :AIw Ari\/ AKa Ari:=hx;have:∃k,DC sc.names.lookup k:=by
   have key:∀(l:Tl) (k' :NameKind),DC (l.map fun ua=>if (Auq k&&Aui) then ART else ua).lookup k' ->∃k,DC l.lookup k:=by
    intro l;induction l with
    | nil=>intro k' h;simp at h
    | cons a r ih=>
     intro k' h;obtain⟨n,k0⟩:=a;cases hb:x==n with
     | true=>exact⟨k0,QY List.lookup_cons hb⟩
     | false=>
      have h2:List.lookup x ((AI (NS (Auq k0) Aui) ART (n,k0))::(r.map _))=some k' :=h;obtain⟨k,hk⟩:=ih k' (by
       split at h2<;>(show Af_ hb h2;exact h2))
      exact⟨k,by simp only [List.lookup_cons,hb];exact hk⟩
   show Pf hx'
   ·exact key _ _ h
   ·exact key _ _ h
  obtain⟨k,hk⟩:=this;rcases BH9 hk with h | ⟨h1,h2⟩
  ·have hkk:k= i_\/k= L6:=by
    have h' :DC Ari k:=h;rcases hx' with z | z<;>rw[z] at h' <;>cases h' <;>simp
   show mt hkk rfl
   ·exact Option.isSome_iff_exists.mp (W.cellsFrom_some sc.names _ _ (D9 hk))
   ·show JY c (ok.has x (S.free (x,L6) Aky rfl));exact⟨c,A_x⟩
  ·subst h1;show JY c (ok.has x (S.free (x,L6) Aky rfl));exact⟨c,A_x⟩
 ·
  have abm :ANL:=by
   have:ip (sc.names.lookup x) (some NameKind.cell):=hfn
   simpa using this
  rcases Aay with ⟨_,_,z⟩ | ⟨z,_⟩
  ·show F9 abm z
  ·show W' c;exact Nat.le_of_succ_le z
 ·rcases Aay with ⟨z1,_,_⟩ | ⟨z1,_⟩
  ·exact Ahg.2.2.2.2.1 x c z1 z
  ·have:=hl b hb;rw[<- z] at this;exact yS _ (zM this (Nat.le_of_succ_le z1))
 ·have q:=(uv hf).2.1;show TU q q
  ·exact ok.GD b o e q
  ·have q2:b<X.base.objs.size:=zG e;exact yS _ (zM q2 (zO ok.bsz q))
 ·show IY (ApW z)
  ·exact ACe hf z
  ·exact(Ĝ hf).2.1 z
 ·exact BIU (fun x c v _ hc=>Avp)
 ·rcases Aay with ⟨z1,_,_⟩ | ⟨_,z⟩
  ·show LP v hc (I.cell x c z1) v Avp
  ·exact CH z
 ·rcases Aay with ⟨z1,_,_⟩ | ⟨z,_⟩
  ·exact I.freeC x c z1
  ·exact frC c (Nat.le_of_succ_le z)
 ·show Ax1=N'.length;rw[S.names];unfold yJ;simp
theorem z56(I:Ι)(S:zI)(hf:AMh)(B:Inv Aqx tO σ5 H5 s5):
  Inv Aqx tO AEM H5 s5:=by
 obtain⟨m,hn,_⟩:=B.loc;have kc:BDk (s5.heap.IsCell c v):=fun x c v e (ť hd)=>by
  have nx:c∉fp:=Ξ ((hf c z).2.2.2.2.1 x c e rfl);by_cases hc:c∈To
  ·show d5 q (B.base.slot c o ho ASQ hc nx);exact B1 q hd
  ·exact P1 (B.base.keep c o ho ASQ hc nx) hd
 exact⟨B.ok,B.os,B.bare,B.base,⟨m,hn,fun i x v h1 h2 h3=>(BIU kc)⟩,B.cell,B.free,B.freeC,B.pin,B.hok,by show Ax1=N'.length;rw[S.names];unfold yJ;simp⟩
#where
abbrev z61(ifs:A2)(env:Env):AMZ:=forIn ifs true fun c r=>if r=true then do let ok<- isTrue c env (tJ c);AXS ok else AXS r
section
variable{prog:Program}{w:World}{A:Around}{R:Aha}{s:Shared}
theorem z4d(I:D6 Nat)
  (turn:∀n s,I n s ->wpAny Ee A (pyNext it) (VI s₁ (Afr none (R (.ok uk) s₁) uA (AMQ (letOwnedTupleGo target it v) (FD s₁' (AMQ (assign target env v) (FD s₂ (AMQ (z61 ifs env) (fun ok s₃=>
      (EH ok (AMQ (tJ elt) (fun x s₄=>
       (AMQ (AJ0 "list.append" [acc,x]) (FD s₅ (AX9 (I m s₅))) s₄)) s₃) (AX9 (I m s₃)))) s₂)) s₁')) s₁))) AIt s)
  (n:Nat) (h:I n s):
  codeAny Ee A (.compLoop A0P 0 it acc env) R s:=by
 refine codeAny_loop rfl I (Ν n s hI) n h;show wpAny _ A ((compTurn A0P 0 it acc env).onRaise (fun x=>do noteFrame x env;theTreesLotGoes x)) _ _ s;refine wpAny_noted ?_;rw[compTurn_list];show D' wpAny_standAt (z6 (Ģ (turn n s hI) (AOz r) AG'));cases r with
 | none=>exact z7 h₁
 | some v=>
  show f_ h₁ (Ν _ s₁' h₁') AG';show f_ h₁' (fun _ s₂ h₂=>z6 (wpAny_mono h₂ (Ν ok s₃ h₃) AG')) AG';cases ok with
  | false=>exact z7 (EO h₃)
  | true=>
   exact z6 (z6 (Ģ h₃ (fun x s₄ h₄=>z6 (wpAny_mono h₄ (fun _ s₅ h₅=>z7 (z7 (EO h₅))) AG')) AG'))
#where
def PTs(X:Cx)(ifs:A2)(t:TT):Prop:=
 Aoo ŝ (AQA (z61 ifs X.env) TP)
theorem yil:PTs X [] (fun _ H Q=>Q true H):=BGr (wpAny_tests_nil ⟨H,I,h⟩)
theorem yg5(h:PT X c t):PTs X [c] t:=ARL Q (wpAny_tests_one (rS h Q I q))
structure V4 (ABR) (tg:Expr) (J:It) (fp:AO) (it:Addr) (tn:AM0) (cm:DB Cx):Prop where
 mem:it∈fp
 obj:A8x
 keep:BGY
 item:Abw (cm X) (Ω Ι AVh AKh AVT (Aa6 (∃u,L_ r/\
   wpAny sC X.A Aq8 (FD s2 (∃x H',AVQ/\mT/\J.yld i H x H' /\A1R/\WE ACU)) E s1)))
 done:Abw (cm X) (Ω Ι AVh AKh AVU (Aa6 A0r))
 self:BG6
def abn(BI8):Prop:=
 ∃(it:Addr) (fp:AO) (tn:AM0) (J:It) (H' :Hp) (cm:DB Cx),itv= .ref it/\AVQ/\V4 X.prog X.w X.K tg J fp it tn cm/\A1Q/\ (M3 fp AXz)/\AZb /\
  ∀Y:Cx,Y.A=X.A ->Y.calm=X.calm ->(∀b o u,AJI ADK ->GS Y.H₀ ADK) ->cm Y
def PIg(BDa):Prop:=
 AKz R ADH (wi σ H R) AMJ (A8Z (abn X pins σ tg R))
theorem pig(hc:Cn)(hi:A0j):BBo:=fun pins s σ H R I h=>
 bU (AO5 hi R) (ĕ h1 (bU h1 fun itv s2 hq1=>by obtain⟨it,fp,tn,J,H',e,I',T,st,f,r⟩:=hq1;exact⟨it,fp,tn,J,H',fun Y=>Y.calm=true,e,I',⟨T.mem,T.obj,T.keep,T.item,T.done,T.self⟩,st,f,r,fun Y _ q _=>q.trans hc⟩))
def Hh(acc:Addr)(J:It)(σ' :St)(g:TG)(tc:TT)(te:TE)(Q:AFO)(H1:Hp):Prop:=
 AGt AFP (W 0 m [] H1) (∀i m vs H,W i m vs H ->Lv acc OS/\vs.length<sizeLine+1/\
  ((AVU/\F7 acc H)\/ (AVT/\Ï vs.length/\AdG J.yld (g x σ' H' (AIy (tc σ2 H2 fun b H3=>
   (EH b (te σ2 H3 fun v H4=>H4 acc=some OS/\Acn AJA (upd H4 acc (B8 AJA))) (Acn vs H3))))))))
def V5(own:Nat)(caps:At)(wi:TI)(g:TG)(tc:TT)(te:TE):TE:=IN wi J (∀acc,lS acc ->Hh acc J Auj g tc te Q (U2 acc Ç))
section
variable{X:Cx}{sc:Scope}{own:Α}{caps:At}{N' :Α}{elt tg iter:Expr}{ifs:A2}{pos:Pos}{wi:TI}{g:TG}{tc:TT}{te:TE}
theorem zlc(S:zI)(hi:BBo)
  (hg:Asx PG tg g) (ht:Asx PTs ifs tc) (he:Asx PE elt te)
  (ee:e= .ListComp elt [AP3 tg] sc pos) (hs:am iter)
  (I:Ι) (h:V5 own.length caps wi g tc te σ H Q)
  (fin:∀acc C H' s5,Ñ s5 ->Ω Ajn (∃m,s5.heap.Ns C m) (H' C=none) (C≠X.env.locals) (Ω (ACn C) (ui C) (kL (X.pn++pins) (A3≠C)) (C∉X.fs) (compPost SK X.A X.xe use Qv mw C (.ok uk) s5))):
  Ã (comprehension e sc X.env ps AnI false AMJ use) Qv:=by
 subst ee;refine D8 wpAny_comprehension_free g (AP3 tg) gs [] cl (sy X.env sc.names []) rfl hs (yg0 (zoa I S)) S.kind ?_ BDW
 ·intro p hp hk;have nd:=S.snd;rw[List.Nodup,List.pairwise_map] at nd;have d:∀(l:Tl),Aqe ->p∈l ->l.lookup A3=some ACS:=by
   intro l;induction l with
   | nil=>show APP
   | cons a r ih=>
    intro hpw h1;show Aat hpw;show Ps h1 e1 h1
    ·subst e1;rw[List.lookup_cons];simp [hk]
    ·show aI hb A3 a.1 (AgS (Ne.symm (p1 p h1)))
     rw[List.lookup_cons,hb];exact ih p2 h1
  exact d _ nd hp
 obtain⟨it,fp,tn,J,H2,cm,rfl,I2,T,st2,f2,R2,hcm⟩:=h2;have hp0:=I2.fresh;refine wpAny_newObj_type ?_;have I3:=D8 I2.lnew its [] ys [] t' s2.toks CC (Nat.zero_le _);generalize hacc:s2.heap.objs.size=acc at*;obtain⟨W,⟨m0,w0⟩,turn⟩:=R2 acc hp0;show B3 f3 b fp (AdL AIp) b hb (by
  show A8 ?_ (Ĝ f2);show Ŀ eo (Aax st2);rw[bC (Nat.ne_of_lt (BF hacc (Heap.lt_size eo)))]
  exact Ll f2)
 have hc:∀C s₀,cm (AH6 C s₀ AIp fp):=fun C s₀=>hcm _ rfl rfl (Pp u e (NH (AMa (AH6 C s₀ AIp fp).H₀ (upd H2 acc Ç)) (i5 hp0) e))
 show B3 hlt b fp (b< An2) b hb (by
  show Ŀ eo (Aax st2);rw[Heap.size_push];exact Nat.lt_succ_of_lt (zG eo))
 have st3:tn 0 (s2.heap.push AJg):=AfA st2 cS;refine z9e ?_;show codeAny _ _ (.compStart T0 0 t9 mw (Aqg An2)) (compPost _ _ _ use Qv mw An2) _;generalize hs3:(AZS AyE:Shared)=s3 at*;have hh3:s2.heap.push AJg=s3.heap:=by rw[<- hs3]
 have abX :(ay s2 AyE:Shared)=s3:=by rw[<- hs3]
 rw[hh3] at hlt st3⊢;have I4:=z8l I3 S f3 hlt;have st4:tn 0 (pushCells (s3.heap.push TD) sc.names):=AfA st3 BBz;have key:codeAny SK X.A (.compLoop T0 0 t9 mw (Aqg s3.heap.objs.size)) (compPost SK X.A X.xe use Qv mw s3.heap.objs.size)
   (ay s3 (pushCells (s3.heap.push TD) sc.names)):=by
  have stat:GY H' Hp AKp (WE (oF AEd [] H' b)):=fun hn b hb=>
   ⟨AFR,Ll I4.ok.ZK,I4.ok.GF b hb,.inl hb,Ĝ I4.ok.ZK,Aq9⟩
  refine z4d (XB n (BIR (W i n vs H'))) ?_ m0
   ⟨0,[],AOj yJ σ,_,I4,st4,E9 (Ll f3),w0⟩
  rintro n s5 ⟨i,vs,σ5,H5,I5,Ry,Z2,w5⟩;obtain⟨ha5,hz5,⟨stop,qn⟩ | ⟨go,hz,step⟩⟩:=turn i n vs H5 w5
  ·show rh (T.done AEd rfl rfl rfl (hc _ _) i [] s5 σ5 H5 _ I5 (stat Z2) Ry stop) r s6 hz1;obtain⟨hr,I6⟩:=hz1;subst hr;have IX:OK H5 s6:=I3.call' (ch:=fp) I6.os I6.base I6.hok I6.bare (E9 ⟨(uv f3).2.1,ACe f3,(f3 b hb).2.2.2.2.1,(uv f3).2.2.2⟩);obtain⟨m6,hn6,_⟩:=I6.loc;refine fin acc s3.heap.objs.size H5 s6 IX qn ⟨m6,hn6⟩ I6.free (v4 I3.lt) I3.sz (fun x c e z=> ?_) (Ν p hp z) (I3.nofs (zN _))
   ·obtain⟨v,q⟩:=I3.cell x c e;exact M1 q.lt Ao0
   ·exact e_ zG (AEI I3.pin) Ao0
  ·
   have I5' :Inv AEd [] AEM H5 s5:=z56 I3 S f3 I5;show rh (T.item AEd rfl rfl rfl (hc _ _) i [] s5 _ H5 _ I5' (stat Z2) Ry go) r s6 hz1;show NR hr h6 hz1;subst hr;show rh h6 _ s7 hq2;obtain⟨x,H7,I7,r7,y7,st7,fr7⟩:=hq2;have I7' :=I7.pinned (stat fr7) (T.obj _ _ st7);show rh (hg _ _ _ _ _ s7 _ H7 x u _ I7' r7 (step x H7 y7)) _ s8 hz1;obtain⟨σ8,H8,I8,q8⟩:=hz1;refine bU (ht _ _ _ _ _ s8 σ8 H8 _ I8 q8) (E8 s9 hz1);show eR H9 I9 q9;have again:∀{vs' :Η} {σ' :St} {H' :Hp} {s' :Shared},Inv AEd ([]++u6 fp s7.heap) σ' H' s' ->(∃m',m' <n/\W Bi m' vs' H') ->
     AX9 (BIR (W i m vs H')) :=fun{vs' σ' H' s'} I' ⟨m',hm,w'⟩=>by
    refine⟨m',hm,BM,vs',σ',H',I'.unpinned,AwM st7 I'.pin,FV,w'⟩;show On e d (Aax st7);exact BL5 I'.pin
   cases b with
   | false=>
    show dA Th q9 (again I9 q9)
   | true=>
    rw[B4] at q9⊢;show rh (he _ _ _ _ _ s9 σ8 H9 _ I9 q9) y s10 yx;obtain⟨v,H10,I10,r10,O4,q10⟩:=yx;refine bU (zpt (X:=blk X sc N' s3.heap.objs.size s3 AIp fp) _ s10 σ8 H10 mw [v] mw [y] (FD H' (H' =upd H10 acc (B8 AJA))) I10 rfl (AM6 r10) ⟨acc,vs,v,rfl,rfl,O4,hz,rfl⟩) (Ν _ s11 yG);obtain⟨_,H11,I11,_,e11⟩:=yG;subst e11;exact again I11 q10
 exact codeAny_compStart_list key (M0 T.self _ st4 key)
#where
def Hi(K:W.Frag)(F Hx:Hp)(J:It)(ds:Δ):Prop:=ANC (∀(i:Nat) (H1 F1:Hp),kP ->VV H1 ->Same Hx H1 ->
 (i=ds.length ->J.stop i H1)/\∀d,Alr ->J.go i H1/\∀x H',J.yld i H1 x H' ->∃F2,Gr F1 H1 F2 H' /\Rep K F2 d x)
def Ku:Hp:=Ad_
theorem z0x:fF Ku:=FE e ALJ
inductive UpI (BAg):Prop
 | mk:AQZ (∀ds Γ' F' H' J Hx,ô ->Ω C8 (Ò Hx) (Hi K F' Hx J ds) (OZ ds) AZb) (AZp UpI)
def upI(K:W.Frag)(F0 H0:Hp)(t:cL)(E:XW):TI:=fun σ H R=>(AZp UpI)
inductive V6 (BAg):Prop
 | mk:AQZ (ARn ds J (Hi K F' Ku J ds) ds AZb) (AZp V6)
def abo(K:W.Frag)(F0 H0:Hp)(t:cL)(E:XW):TI:=fun σ H R=>(AZp V6)
def QI(AsM):Prop:=AsS PI abo
def RX(AsM):Prop:=AsS PI upI
theorem Mg(h:eK e t)(hi:∀σ H R,t' σ H R ->t σ H R):eK e t' :=ARL R (h pins s σ H R I AQ6)
theorem qW(h:AGO e t):RX X F0 H0 tg e t:=AR6 Rs (AvN hq1 hq1 ⟨F,Γ,P,S,q,fun ds Γ' F' H' J S' s' hJ hp=>k ds Γ' F' H' J Ku S' s' z0x hJ hp⟩)
def V7(K:W.Frag)(tl:TE):TI:=BCw (∃xs,Aeu/\ (Sn ->R Ai8 H1)) (∃xs,wB K H1 a xs/\ (Sn ->R AWG H1))
theorem yhd(hl:PE X l tl):eK l (V7 X.K tl):=by
 show ft;show oP (ij hl) v hq2;show LT hq2;show Oy a e q1;subst e;cases r1;rcases q with ⟨xs,hq,q⟩ | ⟨xs,hq,q⟩
 ·obtain⟨its,rv,p,hz⟩:=I1.list hq;refine wpAny_pyIter_list p.isList ?_;refine⟨s1.heap.objs.size,[s1.heap.objs.size],_,_,H1,rfl,AGr,zwh a _,RU,FV,q hz⟩;show ſ
  exact ABH
 ·obtain⟨its,rv,p,hz⟩:=I1.tuple hq;refine wpAny_pyIter_tuple AwW ?_;refine⟨s1.heap.objs.size,[s1.heap.objs.size],_,_,H1,rfl,AGr,zse a _,RU,FV,q hz⟩;show ſ
  exact ABH
theorem yfx{K:W.Frag}{F Hx:Hp}{a:Addr}{vs:Η}{ds:Δ}(hq:AnV (wB K H1 a vs))(rs:Fm)(hz:BKY):Aom AWG:=by
 have hl:=jH rs;show A8 ω (fun i H1 F1 s1 s2 s3=>(Ð e ⟨vs,A'd,ω⟩ (AJ d hd)))
 show AN1 hd;show A8 (AqT A'd) (Ν x H' y);show X_ y y;have:=y vs (hq _ P7);show BC hv;show EV;exact⟨F1,Gr.refl s2,Air⟩
def iL(Z'):cL:=XX (TM d ATt (D5 ds) Š (D5 ds))
section
variable{X:Cx}{F0 H0:Hp}{e tg:Expr}{es:A2}{pos:Pos}{te:cD}{g:uT}{gs:yI}{ti:cL}{tb:aG}
theorem wG(h:MR):AGO e (iL te):=fun z E cx=>Mg (yhd Rs) (AvN yx yx (AKI (fun d Γ1 F1 H1 v R1 s1 r1 h1=>by
 cases d with
 | lst ds=>
  show AWq;show nN a (.inl ⟨vs,R1.g.seq hq,BIO ?_⟩);show A8 (Lm jH rs hz) (fun i H2 F2 s2 s3 s4=>(Ð e ⟨vs,AOO,NH e Sm GL⟩ (AJ d hd)))
  show AN1 hd;show A8 (AqT AOO) (Ν x H' y);show X_ y y;have:=y vs (s3.seq (s2.seq hq));show BC hv;show EV;exact Ar2
 | tup ds=>
  show AWq;exact⟨a,rfl,.inr ⟨vs,Ajv,BIO (yfx (fun H2 s=>uz s hq) rs hz)⟩⟩
 | _=>show wx)))
def dJ(ti:cL)(g:uT)(tb:aG):aG:=ABj D0 ti ds AtT
theorem RZ(hc:Cn)(hi:AGO iter ti)(hg:APJ)(hb:AO9)(hs:am iter:=by show MW):
  Abe iter dJ ti:=OH rY (Abl AEy) Dn yG yG (KW (fun ds Γ1 F1 H1 J R1 s1 hJ h1=>by
  show Asd;show A9 (fun i m σ H=>m=ds.length - i/\Ah7/\Aes) ⟨ds.length,AV,EX,F1,Γ1,R1,VS,i0⟩
  rintro i m σ H ⟨rfl,hi,F2,Γ2,R2,s2,hI⟩;obtain⟨hstop,hgo⟩:=hJ.2 i H F2 s2 R2.g z0x;show AlE
  ·show AtS;show O_ ⟨go,AqX,fun σ' H' p' =>(JA ANV ω hlt p'),AfB⟩
   obtain⟨F3,gr,rx⟩:=yl x H' y;exact⟨F3,Γ2,_,ds[i],R2.grow gr,rx,turn i ds[i] Γ2 (zZ hlt) hI,fun Γ4 F4 H4 σ4 R4 s4 p=>⟨F4,Γ4,ASj D2 D2.nx,R4,p,ABS BFK (BLS (M_ R5 (A1a s5) q)) BFK⟩⟩
  ·show Ajs
   exact fA AhU (ASW (done _ hI))))
def Hj(Γ:G2)(j:Nat):Slot:=ALo Γ[j]? w_ (.pu d) A_
def qj(own:Nat)(caps:At)(Γ:G2):G2:=ALG own A_++caps.map (Hj Γ)
theorem z02(A'F){Γ:G2}(own:Nat)(caps:At)(R:D_):SR K F H F H Auj (qj own caps Γ):=by
 have len:XI yJ own caps σ=XI qj own caps Γ:=by simp [yJ,qj]
 have Hl:Asv (qj own caps Γ):=Arz (by
  show MS qj;show ADU own
  ·show AWi xl
   rw[BD hi] at e;cases e;exact D4 h
  ·rw[Ĭ,List.getElem?_map] at e
   cases q:caps[i - LL List.replicate own Slot.no]? with
   | none=>rw[q] at e;cases e
   | some j=>
    show Y2;have e' :Hj Γ j=s:=As e
    unfold Hj at e';split at e' <;>(subst e';exact D4 h))
 show B5 (Gr.refl R.g) len (NM i s) (fun i j a Gq=>by obtain⟨s,o,e,_,h⟩:=Gq;exact BLO)
 show ADU own
 ·show A9 none ?_
  ·unfold yJ;rw[xl,List.getElem?_replicate,BD hi]
  ·show MS qj;rw[xl,List.getElem?_replicate,BD hi] at e
   cases e;trivial
 ·show MS qj;show A4Z e
  cases q:caps[i - own]? with
  | none=>rw[q] at e;cases e
  | some j=>
   show Y2;have e' :Hj Γ j=s:=As e
   show A9 AoK ?_
   ·unfold yJ;rw[Ĭ,List.getElem?_map,List.length_replicate,q];rfl
   ·unfold Hj at e';split at e'
    ·rename_i d hd;subst e';obtain⟨o,e1,v,rfl,rv⟩:=R.sl j _ hd;exact⟨v,FB e1,rv⟩
    ·subst e';trivial
def Kv(g:uT)(tc:TT2)(te:cD)(Γ0:G2)(x:D)(P:VU):Prop:=BEk (te Γ2 (Nn d (P [d])) lK)
def d8(one:mS):MD
 | [],P=>P []
 | KF,P=>BEh d8
def cY(own:Nat)(caps:At)(ti:cL)(g:uT)(tc:TT2)(te:cD):cL:=ON ti ds (d8 (Kv g tc te (qj own caps Γ1)) ds fun ys=>(D5 ys))
theorem zpm(f:D ->Δ):ALA xs Δ (∀x∈xs,∀P,P (f x) ->one x P) xs.flatMap f xs
 | [],_,_,h=>h
 | KF,P,k,h=>k x zY _ (zpm f A7P (by simpa [List.flatMap_cons] using h))
def dF:TT2:=ANl true
def Mh(X:Cx)(F0 H0:Hp)(ifs:A2)(t:TT2):Prop:=kq PTs ifs Vw
theorem wN:B7 Mh [] dF:=fun z E cx pins s σ H Q I Ox=>by show KE Ox;exact yil pins s σ H Q I (M0 k R ET h)
theorem Mi(h:B7 QT c t):B7 Mh [c] t:=ALh yg5 Rs
#where
section
variable{X:Cx}{F0 H0:Hp}{elt tg iter:Expr}{ifs:A2}{sc:Scope}{own:Α}{caps:At}{N' :Α}{pos:Pos}{te:cD}{g:uT}{tc:TT2}{ti:cL}
def gX(K:W.Frag)(g:uT):TG:=ANg (∃F0 H0,ir upG g lK v σ H Q)
def tX(K:W.Frag)(t:TT2):TT:=ArA Vw
def eX(K:W.Frag)(t:cD):TE:=ArA G5
theorem ztq(gr:WJ)(h:wp)(e:AFS):WH:=by
 cases q:F' a with
 | none=>rfl
 | some u=>
  show Ġ (gr.n a u q h) z e' z
  ·show AEa e
  ·rw[e] at z;cases z;cases e'
theorem zpw(AGd){σ:St}{Γ:G2}{J:It}{Hx:Hp}{ds:Δ}{acc:Addr}{P:VU}{Q:AFO}(R:D_)(hJ:Aom J)(hx:fF Hx)(ha:JS acc)
  (h:d8 (AaV Kv te) ds P)
  (fin:∀ys F' H' vs,Ω ANu C8 ApB Ali (Ω (H0 acc=none) (AIY ys) (ß acc) (P ys) Ajn)):
  BG4 eX te:=by
 obtain⟨R1,e1,e2,e3,ap⟩:=G6 (ds:= []) (vs:= []) R ha FH
 have hx1:Same Hx Ae_:=Fu (Θ (ţ hx ha) (PM hx))
 have xa:∀u,Hx acc≠ALe:=fun u e=>A_a
 show A9 (fun i m vs H' =>m=ds.length - i/\Ah7/\∃F' ys,ANu/\C8 /\Ò Hx /\ApB/\Ali/\AIY ys/\AhY/\d8 (AaV Kv te) (ds.drop i) Ayw) ⟨ds.length,AV,EX,F,[],R1,VS,hx1,e1,e2,JP,GL,As h⟩
 rintro i m vs H' ⟨rfl,hi,F',ys,R',sF,hx',ha',O5,rs,lv,hc⟩;have hz:=hJ.1;show A9 ha' ω
 obtain⟨hstop,hgo⟩:=hJ.2 i H' F' sF R'.g hx';show AlE
 ·show AtS;show O_ ⟨go,ω,A3O⟩
  obtain⟨F2,gr,rx⟩:=yl x H2 y;rw[List.drop_eq_getElem_cons hlt] at hc;have R2:=R'.grow gr;refine⟨F2,H2,F2,AOj qj Γ,_,ds[i],AOj z02 R2,rx,hc,BIJ⟩;refine⟨F2,H2,F3,Γ3,_,R3,q3,fun b Γ4 F4 H4 R4 s4 q4=> ?_⟩;show BEO;cases b with
  | false=>
   show BBm ⟨ANV,ω,rfl,hlt,F4,ys,R'.grow wH,Avl,A6N,Av2,BBG,rs.up wH.f,ω,?_⟩
  | true=>
   rw[B4] at q4;refine⟨F2,H2,F4,Γ4,_,R4,q4,fun d Γ5 F5 H5 v R5 s5 rv q5=> ?_⟩;show BEQ;have a5:=Av3;have f5:=ztq BP O5 ha';refine⟨a5,ANV,ω,rfl,hlt,F5,ys++ [d],?_,Avm,EK,gG,f5,Km (rs.up BP.f) (Ko rv),AEw,?_⟩
   ·have R6:=R'.grow BP;show B5 ⟨R6.gr.f,EK,EK,R6.gr.n⟩ R6.len (NM j sl) R6.ap
    ·rw[i5 f5];exact PM R6.g
    ·show wo e3 At3
    ·show Abm (R6.sl j sl e) (AGo ⟨(zp p2 hc).1,AJ u q⟩) (c≠acc) (ap j A_V) q
   ·rw[ų A1v];exact BP.h b u AeY
   ·simpa [List.append_assoc] using q5
 ·show Ajs
  refine fA AhU (fin ys F' H' vs R' sF ha' O5 e3 rs ap ?_);rw[List.drop_length] at hc
  simpa [d8] using hc
structure eV (N:Α) (sc:Scope) (own:Α) (caps:At) (V8:Scope) (N' :Α):Prop where
 kind:Alc
 nd:N'.Nodup
 snd:Ato
 free:A'v V8.names.lookup V8.names.lookup
 names:A6g
 caps:BFP
theorem eV.cs(h:AHI):zI :=⟨h.kind,h.nd,h.snd,h.free,h.names,h.caps⟩
def QIg(AsM):Prop:=AsS PIg upI
theorem yat(S:AHI)(hi:QIg X F0 H0 tg iter ti)
  (hg:APX) (ht:APY) (he:Aaf)
  (hn:AMb:=by rfl) (hs:am iter:=by show MW):í T0 AtP:=by
 subst hn;rintro z E cx pins s σ H Q I ⟨F,Γ,P,R,h,k⟩;rw[show eval T0 (X.wsh z).env=comprehension T0 sc X.env _ AnI false AMJ from BLg];refine D8 (F8 zlc g AZW) tc AZX te Anu Q Q AX4 AEy ?_ ?_ ?_ rfl hs I ?_ ?_
 ·rintro C s₀ H₀ fp pins s σ H v u Q I r ⟨vh,vm,q⟩;exact AUv hg v u Q r q
 show AXv
 ·rintro C s₀ H₀ fp pins s σ H Q I ⟨vh,vm,q⟩;exact AJj he
 ·exact KW (fun ds Γ1 F1 H1 J Hx R1 s1 hx hJ h1 acc ha=>(AyB (k ys Γ1 F' H' acc vs R' AMI a1 a2 a3 rs ap hp)))
 ·rintro acc C H' s5 I5 q5 ⟨m,hn⟩ c1 c2 c3 c4 c5 c6;exact⟨m,hn,A3e s5.toks q5⟩
theorem xK(S:AHI)(hc:Cn)(hi:Aag)
  (hg:APX) (ht:APY) (he:Aaf)
  (hn:AMb:=by rfl) (hs:am iter:=by show MW):í T0 AtP:=yat S (fun z E cx=>pig hc AEy) hg ht he hn hs
theorem O6(hN:X.N.Nodup)(hi' :Ch X.N y)(hy:AHJ)(S:AHI)(hc:Cn)(hi:Aag)
  (hg:APX) (ht:APY) (he:Aaf)
  (hn:AMb:=by rfl) (hsw:swapsWith T0 (BU (C5 y py)) spos.line X.env=pure true:=by rfl) (hs:am iter:=by show MW):
  BBv (cM i (cY n caps ti g tc te)):=by
 subst hn;rintro z E cx pins s σ H Dn I ⟨F,Γ,D2,R,h,k⟩;rw[kG exec_Assign_Name_used hsw];show s0 wpAny_standAt z6;show f_ (D8 (F8 zlc use A8r (Qv:=Eg s' (SP E7 pins Dn uk s')) (g:=AZW)) tc AZX te Anu Q A8c AX4 (pig hc AEy) ?_ ?_ ?_ rfl hs I ?_ ?_) (fun _ s' hq=>z7 (z7 hq)) AK2
 ·rintro C s₀ H₀ fp pins s σ H v u Q I r ⟨vh,vm,q⟩;exact AUv hg v u Q r q
 show AXv
 ·rintro C s₀ H₀ fp pins s σ H Q I ⟨vh,vm,q⟩;exact AJj he
 ·exact KW (fun ds Γ1 F1 H1 J Hx R1 s1 hx hJ h1 acc ha=>(AyB (M_ (R'.setOw i a1 a2 a3 rs ap) AMI hp)))
 ·rintro acc C H' s5 I5 q5 ⟨m,hn⟩ c1 c2 c3 c4 c5 c6;refine wpAny_assign_Name (A6 zoo I5 hN hi' Ag1 (v:= Ad8) rfl A8T AhG);show eR a hsb ha;have ha' :AiQ\/Aib a:=ha;have hac:C≠a:=by
   show mt ha' ha'
   ·exact c2
   ·exact BFf
  show DD m (hn.sameBut hsb hac) (AeV (Mn H' (I6.turned (t' :=s6.toks) (it:=C) (qr Aej) c1 c2 AeG c4 c5) q5))
#where
inductive Mj (K:W.Frag) (g:MD) (vs:Η) (H:Hp) (Q:VK):Prop
 | mk:BCr (∀es us l,Aly ->JS l ->P es ->F7 l (FG l Ad')) Mj
def Ez(K:W.Frag)(g:MD):g_:=fun vs H Q=>Mj K g vs H Q
section
variable{X:Cx}{F0 H0:Hp}{a b e:Expr}{es:A2}{pos p p2:Pos}{ta tb te:cD}{t:cL}{x:Str}
def mG(g:MD)(t:cL):cL:=PP (g ds fun es=>(D5 es))
theorem ye4(MG){g:MD}{E:XW}{σ:St}{H:Hp}{Q:VK}(h:upF K F0 H0 (mG g t) E σ H Q):A8_ Ez:=by
 show KE h;refine BHR (fun es us l r hl hp=> ?_);obtain⟨R2,e1,e2,e3,ap⟩:=G6 R1 hl r;exact k es Γ1 F1 _ l us R2 s1 e1 e2 e3 r ap hp
theorem yc2{id:String}{g:MD}(hc:∀z,eF E7 se (Ez X.K g))(hg:HE)(hm:Ũ)(hv:Œ se)(ha:LJ)(hn:va :=by decide)(hdb:AT x "__debug__":=by decide)
  (WS):AKs TL g:=fun z E cx=>
 oK (AYb Vc hv hn hdb hpl) (iA ye4)
theorem V9{T:String}{g:MD}(hc:∀z,eF E7 u8 (Ez X.K g))(hg:HE)(hm:Ũ)(hv:Œ u8)(ha:LJ)(hn:va :=by decide)(hdb:AT x "__debug__":=by decide)
  (WS):AKs TL g:=fun z E cx=>
 oK (AYb Z6 hv hn hdb hpl) (iA ye4)
theorem zod{T:String}{g:MY}(hc:∀z,eF E7 u8 (vg X.K g))(hg:HE)(hm:Ũ)(hv:Œ u8)(ha:LJ)(hn:va :=by decide)(hdb:AT x "__debug__":=by decide)
  (WS):Bz TL An7:=fun z E cx=>
 oK (AYb Z6 hv hn hdb hpl) (iA yec)
#where
def rQ:MD:=A5_ (P xs) (P xs)
theorem zzq:Ajc (Ez X.K rQ):=by
 rintro pins s σ H xs us Q I r ⟨F,ds,P,sF,rs,h,k⟩;show BO rQ;show Co
 ·show iE;exact AHU zni (og AZC BAs)
 ·show iE;exact AHU zni (og AZH BAs)
 ·show EB
def uG:MY:=A5_ (P Qb) (P Qb)
theorem ygy:ADR "tuple" (vg X.K uG):=by
 rintro pins s σ H xs us Q I r ⟨F,ds,P,sF,rs,h,k⟩;show BO uG;show Co
 ·show iE;refine rS zlj _ us Q I r (NV p vs (fA (sF.seq hq) (AJ l hl)));have gr:=Gr.laid (o:=HO.tup vs) sF hl;refine k _ _ _ _ gr ?_ h;exact VW l xF (rs.up gr.f)
 ·have rs0:=rs;show iE;refine rS zlj _ us Q I r (NV p vs (.inr ⟨uz sF hq,Ä ?_ h⟩));exact og hq rs
 ·show EB
def cutD(xs:Δ)(lo hi:Kx):Δ:=AwZ
theorem z0t{K:W.Frag}{F:Hp}{ds:Δ}{vs:Η}(r:Fm)(lo hi:Kx):Iq (cutD ds lo hi) (yD vs lo hi):=by
 unfold cutD yD;rw[jH r];exact zo7 _ (zpq _ r)
abbrev Kw:=AHX Kx
inductive UpO (Ty) (F0 H0:Hp) (t:Kw) (E:XW) (σ:St) (H:Hp) (Q:AhK):Prop
 | mk:AQZ (∀o Γ' F' H',ô ->C8 ->OZ o ->Q o H') (BJK UpO)
def upO(K:W.Frag)(F0 H0:Hp)(t:Kw)(E:XW):TO:=xz UpO
def QO(X:Cx)(F0 H0:Hp)(e:ALU)(t:Kw):Prop:=kq PO e upO
theorem poC(h:PO X e t)(hi:∀σ H Q,t' σ H Q ->dy):PO X e t' :=Ar6
def pI:Kw:=ANl none
def n6(Z'):Kw:=XX (I_ d C7 (P (some i) Γ1))
section
variable{X:Cx}{F0 H0:Hp}{a b e:Expr}{es:A2}{pos p p2:Pos}{ta tb te:cD}{t:cL}{x:Str}{lo hi:ALU}{tl th:Kw}
theorem JX:B7 QO none pI:=fun z E cx=>poC yhp (DM σ H Q hq1 P hq1 (k _ _ _ _ R ET h))
theorem DN(h:MR):B7 QO ALY (n6 te):=fun z E cx=>poC (yiz Rs) (DM σ H Q hq2 P hq2 (APA (by
 cases d with
 | int i=>show MT i r AYk
 | _=>show IG q)))
def pA(A6L):cL:=BHY UI (P A8j Γ3)
theorem Ho(BHF):í (AT7 e As1) (pA te tl th):=fun z E cx=>
 oK (BBQ yfq) (DM σ H Q yx P yx (BIK (BGy (by
  cases d with
  | lst xs=>
   have r3:=r1.up (s2.trans s3);show EN a vs hq rs r3;refine VW a (R3.g.seq hq) SH;have rc:=z0t rs l u;obtain⟨R4,e1,e2,e3,ap⟩:=G6 R3 hp rc;exact k _ Γ3 F3 _ p _ R4 AWu e1 e2 e3 rc ap h3
  | _=>show IG h3))))
def kZ(Z'):cL:=XX (I_ d UI BMe)
theorem zn9(KK):ArS (Iq ds.reverse vs.reverse)
 | [],_,h=>by subst h;rfl
 | SB,_,h=>by
  show AYl v;rw[List.reverse_cons,List.reverse_cons];exact Km (zn9 h2) (Ko h1)
#where
section
variable{X:Cx}
theorem toI{A:Around}(h:Ic):AeH:=h
theorem zn7(I:Ι)(k:AlB)(r:LM)(q:Q v H):mr u S_:=⟨v,H,I.kept k,r,q⟩
def nF:Δ ->AG8 Int
 | []=>ATq
 | C7::r=>Au nF r (i:: ·)
 | BY=>none
def uH:Δ ->AG8 Bool
 | []=>ATq
 | .bl i::r=>Au uH r (i:: ·)
 | BY=>none
theorem zj9(KK):A6T AU (nF ds=some ns) QU
 | [],vs,ns,r,h=>AoA
 | C7::ds,vs,ns,r,h=>by
  show Qr v rfl r r;show BO nF;cases q:nF ds with
  | none=>rw[q] at h;cases h
  | some ms=>
   show ArR zj9
 | AE::_,_,_,_,h=>Bn
 | P8::_,_,_,_,h=>Bn
 | R_::_,_,_,_,h=>Bn
 | ALg::_,_,_,_,h=>Bn
 | nL::_,_,_,_,h=>Bn
 | wb::_,_,_,_,h=>Bn
 | wc::_,_,_,_,h=>Bn
 | AjD::_,_,_,_,h=>Bn
 | Ŗ::_,_,_,_,h=>Bn
 | Ŭ::_,_,_,_,h=>Bn
 | AFf::_,_,_,_,h=>Bn
theorem ztu(KK):A6T Ń (uH ds=some ns) .bl
 | [],vs,ns,r,h=>AoA
 | .bl i::ds,vs,ns,r,h=>by
  show Qr v rfl r r;show BO uH;cases q:uH ds with
  | none=>rw[q] at h;cases h
  | some ms=>
   show ArR ztu
 | AE::_,_,_,_,h=>Bn
 | RO::_,_,_,_,h=>Bn
 | R_::_,_,_,_,h=>Bn
 | ALg::_,_,_,_,h=>Bn
 | nL::_,_,_,_,h=>Bn
 | wb::_,_,_,_,h=>Bn
 | wc::_,_,_,_,h=>Bn
 | AjD::_,_,_,_,h=>Bn
 | Ŗ::_,_,_,_,h=>Bn
 | Ŭ::_,_,_,_,h=>Bn
 | AFf::_,_,_,_,h=>Bn
theorem z59(ns:AU)(f:fT)(h:∀i,i<ns.length ->f i=ACY):PySem.preSum f ns.length=ns.sum:=by
 have key:∀k,k<=ns.length ->PySem.preSum f k=(ns.take k).sum:=by
  intro k;induction k with
  | zero=>show MW
  | succ k ih=>
   intro hk;show PySem.preSum f k+f k=_;show Afx (ih χ) (h k χ) List.take_add_one List.sum_append AhO
   simp
 rw[key _ (Nat.le_refl _),List.take_length]
theorem zud(pl:PlainL h p its):A_M IsListIter h.objs.size p 0/\ A_M IsList p its:=by
 show CD RU;obtain⟨o,n,e,hcl,_,hd⟩:=pl;exact⟨o,cS,hcl,n,hd⟩
theorem z4f(bs:Ń):AQm bs.length any (CO (bs.getD i false))=bs.any id:=by
 rw[Bool.eq_iff_iff];simp only [List.any_eq_true,List.mem_range,id];constructor
 ·show ł i hi;show Aun Tk;exact B1 (yU hi) e
 ·show ł b hb;show xC i hi hb;exact⟨i,hi,AMO Tk e⟩
theorem z4p(bs:Ń):ANb bs.length (CO (bs.getD i false))=bs.all id:=by
 rw[Bool.eq_iff_iff];simp only [List.all_eq_true,List.mem_range,id];constructor
 ·intro h b hb;show xC i hi hb;have:=AVG;show TZ List.getD_eq_getElem?_getD Tk;exact this
 ·intro h i hi;show AS3 Tk;exact h _ (yU hi)
def yd0:MY:=A'0 bs.any
def yhl:MY:=A'0 bs.all
theorem yeb{bs:Ń}{its:Ο}(rv:Vals (bs.map .bl) its){i:Nat}{v:Value}(hv:Aty):v= .bool Awp:=by
 show PZ;show AAe;have hv' :AiO:=As hv
 have hi:i<bs.length:=GB (IO hv')
 show AGa (rv.get (i:=i) (x:= .bl Awp) (by rw[List.getElem?_map,List.getD_eq_getElem?_getD,Tk];rfl))
 rw[hv'] at hu;cases hu;exact ru
theorem z9h{ns:AU}{its:Ο}(rv:Ap8){i:Nat}{v:Value}(hv:Aty):i<ns.length/\∃t,v= .int Als t:=by
 show PZ;show AAe;have hv' :AiO:=As hv
 have hi:i<ns.length:=GB (IO hv')
 show AGa (rv.get (i:=i) (x:= .int Als) (by rw[List.getElem?_map,List.getD_eq_getElem?_getD,Tk];rfl))
 rw[hv'] at hu;cases hu;exact⟨hi,ru⟩
theorem ymb(yv):AGC "any" yd0:=by
 rintro pins s σ H xs us Q I r ⟨F,ds,P,sF,rs,h,k⟩;show BO yd0;show Co
 ·show iE;show Fr bs hbs h;show Kk (ztu rs hbs);show MZ;cases rx;show APK;show PZ;show AAe;show AoQ call_any_walk;show Arn
  refine⟨s.heap.objs.size,_,_,_,_,_,Az_,rfl,AtY,zud pl,BII,Re tk kp⟩
  ·rw[yeb rv hv];exact AyC
  ·show BIh z4f bs.any
 ·show EB
theorem ymz(yv):AGC "all" yhl:=by
 rintro pins s σ H xs us Q I r ⟨F,ds,P,sF,rs,h,k⟩;show BO yhl;show Co
 ·show iE;show Fr bs hbs h;show Kk (ztu rs hbs);show MZ;cases rx;show APK;show PZ;show AAe;show AoQ call_all_walk;show Arn
  refine⟨s.heap.objs.size,_,_,_,_,_,Az_,rfl,AtY,zud pl,BII,Re tk kp⟩
  ·rw[yeb rv hv];exact AyC
  ·show BIh z4p bs.all
 ·show EB
theorem z0v(ns:AU):∀k,Ah3 ->∃i,i<=k/\PySem.argBest A8Q k=i/\∀j,j<=k ->ns.getD j 0<=ACY
 | 0,_=>NV 0 GL (BCo ATh)
 | k+1,hk=>by
  obtain⟨i,h1,h2,h3⟩:=z0v ns k χ
  unfold PySem.argBest;rw[h2];by_cases hg:ns.getD FI 0>ACY
  ·show Y_ hg
   show B5 (k+1) GL rfl AOn;by_cases hjk:j=k+1
   ·subst hjk;exact ATh
   ·have:=h3 j χ;omega
  ·show mE hg
   show B5 i ω rfl AOn
   by_cases hjk:j=k+1
   ·subst hjk;omega
   ·exact h3 j χ
def z5s:MY:=Į (∃ns m,AYO/\m∈ns/\ (∀i∈ns,i<=m)/\NY m)
theorem yag{ns:AU}{i:Nat}(h:i<ns.length):ACY∈ns:=AMO YN (yU h)
theorem ycv{ns:AU}{m:Int}(h:m∈ns):∃i,i<ns.length/\ns.getD i 0=m:=by
 show ď i hi (List.mem_iff_getElem.mp h);exact⟨i,hi,Ah5 Tk⟩
theorem yk0(yv):AGC "max" z5s:=by
 rintro pins s σ H xs us Q I r ⟨F,ds,P,sF,rs,h,k⟩;show BO z5s;show Co
 ·show iE;obtain⟨ns,m,hns,hm,hmx,h⟩:=h;show AmV;show MZ;cases rx;show APK;show PZ;show AAe;have pos:0<ns.length:=List.length_pos_of_mem hm;show AoQ call_max_walk;show Arn
  refine⟨s.heap.objs.size,_,_,_,_,_,_,rfl,AtY,zud pl,?_,AEw,CmpOf.ints_gt AMo (fun i v hv=>(z9h rv hv).2),De v h' tk hv kp⟩
  ·intro b hb;show Afz;show hW
   ·exact ATg
   ·show hW
    ·exact Nat.lt_succ_of_lt R9
    ·cases hb
  ·show CS hi t rfl z9h rv hv;obtain⟨i,b1,b2,b3⟩:=z0v ns (its.toArray.size - 1) vF
   have e:ns.getD (PySem.argBest A8Q (its.toArray.size - 1)) 0=m:=by
    rw[b2];show BS j hj ej ycv hm;have q1:=b3 j vF
    have q2:=hmx _ (yag (ns:=ns) (i:=i) (by simp at b1;omega))
    omega
   rw[e];refine zn7 (s:=s) (v:= .int m) I BLJ Tm (k _ _ F H (Gr.refl sF) FH h)
   rcases AKQ with rfl | z
   ·exact BLI
   ·cases z
 ·show EB
#where
def jM:Slot ->Slot | .ow ds=> MH ds | .tr _ t=> .pu (toD t) | .nt _ ts=> AEr (kj ts) | .xe _ C _ _=> Ayy | s=>s
def gK(Γ:G2):G2:=Γ.map jM
def gM(Γ:G2)(σ:St)(b:Addr):Prop:=∃j,oH Γ σ j b
open Classical in
theorem z13(BF_):∃F1,kP/\BGL/\ (A_Q)/\AOs (AGB AKU):=by
 let F1:Hp:=RY (qB Ace F (Acf H))
 have s1:kP:=Fu (by show(yA _)=_;rw[AEl AgY];exact e)
 have s2:VV H:=Fu (by
  show ACx (ARw H);split at e'
  ·exact R.g b u e'
  ·split at e'
   ·exact e'
   ·cases e')
 have at1:∀b u,kB ->Lo ->wn ->AKU:=fun b u h1 h2 h3=>by
  show(ARw H)=_;rw[Do (ALQ h1),BD h2]
  exact h3
 have Hl:Asv AKq:=Arz (by
  show MS gK;show BMV;cases q:w8 with
  | none=>rw[q] at e;cases e
  | some t=>
   show A0H)
 show aS own (AOs (AGB AKU)) (by
  obtain⟨j,s,o,e1,e2,hs⟩:=id hb;show Ľ e3 r (R.sl j _ e1);rw[e2] at e3;cases e3;obtain⟨h1,_,u,h2,ld⟩:=zp r hs;exact⟨h1,u,at1 _ _ h1 hb h2,ld⟩)
 refine⟨F1,s1,BI0 gK,E8 hb hn,own⟩
 ·show MS gK;rw[List.getElem?_map] at e;cases q:w8 with
  | none=>rw[q] at e;cases e
  | some sl=>
   show Y2;show On e1 r (R.sl i sl q);show A9 o e1;have mine:Sj (gH sl o b) (FF H) AKU:=MC hb hu (at1 b u (zp r hb).1 BAb hu);cases sl with
   | no=>cases e;trivial
   | pu d=>cases e;show Sc rfl rv r;exact Ū Air
   | ow ds=>
    cases e;obtain⟨a,vs,rfl,h1,h2,h3,rs⟩:=r;show nX AR;exact VW a (SZ (mine a _ rfl h1)) (rs.up s1)
   | tr as t=>
    cases e;obtain⟨v,rfl,nd,h1,rv⟩:=r;exact Ū (TR.rep s1 t v as A'8 rv)
   | nt as ts=>
    cases e;obtain⟨p,vs,rfl,e2,nd,h1,rv⟩:=r;show nX IR;exact og (SZ (s1 _ _ e2)) (fj.rep s1 ts vs as A'8 rv)
   | xe as C fs ts=>
    cases e;obtain⟨a,oe,dx,vs,rfl,e2,_⟩:=r;show nX AR;exact A5H
 ·show(ARw H)=none;rw[Do (ALQ hb),AY hn]
theorem yhj(BF_):∃F1,kP/\BGL:=by
 obtain⟨F1,s1,R1,_⟩:=z13 R;exact⟨F1,s1,R1⟩
theorem z74{K:W.Frag}{F0 H0 F H H' :Hp}{σ:St}{Γ:G2}(R:D_)(s:AFt):b9 F H':=by
 refine R.grow (h_ (fun b u e=>s b u (R.g b u e)) s)
def scD:Ő | AE=>True | P8=>True | RO=>True | R_=>True | _=>False
theorem yjp(A'z)(h:scD d)(r:LE):Ts:=by
 cases d with
 | non=>exact r
 | bl=>exact r
 | int=>exact r
 | str=>exact r
 | _=>show EB
def fJ(Z'):cD:=fun Γ P _=>te AKq (Nn d (scD d/\P d Γ)) lK
def dG(t:TT2):TT2:=fun Γ P _=>t AKq (fun b _=>P b Γ) lK
section
variable{X:Cx}{F0 H0:Hp}{e:Expr}{te:cD}{tt:TT2}
theorem O7{E:XW}{F1 H1:Hp}(cx:Ary):Ctx X F1 H1 lK:=
 BI' cx.pq
theorem z9i(h:pT MR):Bz e (fJ te):=fun z E cx=>by
 rintro pins s σ H Q I ⟨F,Γ,P,R,q,k⟩;show BS F1 s1 R1 yhj R;exact AtV H H Q I ⟨F1,gK Γ,_,R1,q,fun d Γ' F' H' v R' s' r hp=>k d Γ F H' v (z74 R R'.gr.h) ET (yjp hp.1 r) hp.2⟩
def jl(i:Nat)(te:cD):cD:=fun Γ P E=>(∃xs,sd AKe)/\te Γ (fun k Γ1=>(AM_ k Γ1[i]? wT (some gf) (∃d,mY ds k=some d/\D5 d))) E
theorem yen{i:Nat}{x:Str}{b:Expr}{pos pos' :Pos}(hN:EC)(hv:Id)(hb:AH8 b)(hs:zxk b)(y_):
  AWD (C5 x pos') b (jl i te):=fun z E cx=>
 oK (yjx z81 UQ Jn hs) (AAS hq2 (by
  obtain⟨F,Γ,P,R,⟨⟨xs,e0⟩,h⟩,k⟩:=hq2;obtain⟨o,e1,a,vs,rfl,h1,h2,h3,r⟩:=o4;refine⟨AR,e1,F,Γ,_,R,h,fun d Γ1 F1 H1 v R1 s1 r1 q1=> ?_⟩;cases d with
  | int m=>
   subst r1;split at q1
   ·rename_i m' ds hm e2;cases hm;obtain⟨d,ed,hp⟩:=q1;obtain⟨o,e3,a',vs',ea,g1,g2,g3,r'⟩:=AQT e2;rw[e1] at e3;cases e3;cases ea;show CS w ew tQ zt0 r' ed;exact⟨a,vs',m,w,rfl,rfl,SZ g1,ew,k d Γ1 F1 H1 w R1 s1 tQ hp⟩
   ·exact q1.elim
  | _=>show IG q1))
#where
def OwR(X:Cx)(id:String)(g:AGI):Prop:=
 ∀(pins:eE) (s:Shared) (σ:St) (F H:Hp) (l:Addr) (vs args:Η) (xs ds:Δ) (us:Ο) (P:VU) (Q:VK),Ω Ι (Lv l OS) fc (c0 F xs) (EJ (aK X.K F ds args) (þ args) (g xs ds P) (∀ys ws,aK X.K F ys ws ->P ys ->Q AE (FG l AeA)) (Ap' LG))
def qM:AGI:=AsA [d] (AVO/\P (xs++ [d]))
def Wa(xs:Δ)(k:Nat)(d:D):Δ:=xs.take k++d::xs.drop k
def uI:AGI:=AsA [wT,d] (0<=k/\k<=xs.length/\AVO/\P (Wa xs k.toNat d))
def zu1:AGI:=AsA (SS ys) (BH Am5/\P (xs++ys))
section
variable{X:Cx}
theorem Sd:OwR X "list.append" qM:=by
 intro pins s σ F H l vs args xs ds us P Q I hl sF rs ra rv h k;show BO qM;show Co
 ·show AJh rd ra;exact zpt pins s σ H ATJ [v] ATJ us Q I rfl rv ⟨l,vs,v,rfl,rfl,hl,BF Sm C_,k _ _ (Km rs (Ko rd)) h.2⟩
 ·show EB
theorem z8o:OwR X "list.insert" uI:=by
 intro pins s σ F H l vs args xs ds us P Q I hl sF rs ra rv h k;show BO uI;show Co
 ·rename_i j d;obtain⟨v,_,rfl,rj,w,_,rfl,rd,rfl⟩:=ra;subst rj;show ST h0 h1 h2 hp;obtain⟨u1,u2,rfl,⟨t,rfl⟩,r2⟩:=vals2 rv;obtain⟨z,its,n,r,hlen,e⟩:=I.lstM hl;have hxl:=jH rs;have hfit:¬(AEt (Builtin.List.listFitsIndex j)):=by
   show AAs;unfold Builtin.List.listFitsIndex;simp;omega
  refine call_meets PySem.F.slot_list_insert (HR e) PySem.F.entry_list_insert (PySem.F.args_list_insert_3 _ _ _) (AutoSeq1.list_insert_list_int_val_1 l its.toArray n j t u2 hfit AWI) (EU e)
  have hk:(AI (j<0) (Q4 j AJn) (min j.toNat its.toArray.size))=j.toNat:=by
   rw[AY χ,List.size_toArray]
   omega
  refine G0 AE (I.lset (its' :=its.take j.toNat++u2::its.drop j.toNat) (ys:=vs.take j.toNat++w::vs.drop j.toNat) hl e ?_ ?_ ?_) (k _ _ ?_ hp)
  ·rw[hk];show BLk;simp;exact List.take_of_length_le Χ
  ·exact(r.take _).append (Nc r2 (r.drop _))
  ·simp;omega
  ·exact Km (zo7 _ rs) (tR rd (zpq _ rs))
 ·show EB
#where
section
variable{X:Cx}{F0 H0:Hp}{x name:Str}{apos cpos npos pos:Pos}{e:Expr}{es:A2}{id:String}{i:Nat}{t:cL}{g:AGI}
def ql(i:Nat)(g:AGI)(t:cL):aG:=Akc ((∃xs,sd AKe)/\t Γ (fun ds Γ1=>(A7_ (AGY (.ow ys)))) E)
theorem ydf{z:Ov}{σ:St}{F Fa H Ha:Hp}{Γ Γ1:G2}{xs:Δ}{a:Addr}{D2:rW}{Dn:Ends}{vs args:Η}{ds:Δ}(_R:AHG)(R1:SL Fa Ha Γ1)(s1:a_ Fa)(k:yF X.K F0 H0 F D2 Dn)(e1:AVg)
  (q:A7_ (Ak9 (.ow ys))):
  ∃vs xs P,Cl Ha OS/\c0 Fa xs/\g xs ds P/\∀ys ws,aK X.K Fa ys ws ->P ys ->Dn.nx σ (upd Ha a AeA):=by
 show YA
 ·rename_i xs e;obtain⟨o,e2,a',vs,rfl,g1,g2,g3,r⟩:=AQT e;rw[e1] at e2;cases e2;exact⟨vs,xs,_,g1,r,q,fun ys ws tQ hp=>(dP (R1.wr e e1 tQ) hp)⟩
 ·exact q.elim
theorem Ml(hr:∀z,OwR E7 id g)(slot:PySem.Slot "list" name id)(hty:A7v)(hN:EC)(hv:Id)(ha:LJ)
  (hd:AT x "__debug__":=by decide) (hcd:AT x "__classdict__":=by decide)
  (hbase:APD HU name HU=A7 HU:=by rfl)
  (hfew:NS (AWJ cpos DF x x.1&&AbL cpos all AZs) (Abj (K0 DF)):=by rfl)
  (hline:sq:=by rfl) (hs:starEach DF X.env=EG (A7 e) (EF es):=by rfl) (hplain:Ac7:=by rfl)
  (hsw:AcE A8X none:=by rfl):
  AkF A8X (ql i g t):=by
 intro z E cx;refine rY (F8 ZS te (AIT (NT i σ H (ic v (tyV X.K "list" v H1/\Ou X.K F0 H0 t E σ H1 fun vs H2=>BH8)))) ?_ hsw) ?_
 ·refine F8 ylb T "list" (id:=id) (r:=fun v vs H2 Q=>BH8)
   PySem.F.plainAttrs_list slot hty ?_ UQ DO hbase hfew hline hs hplain
  rintro pins s σ H x xs v us Q I rx rs ⟨l,ys,ws,Fz,Pd,ds,e1,h1,h2,h3,h4,h5,h6⟩;subst e1;cases rx;exact hr z pins s σ Fz H l ws xs ys ds us Pd Q I h1 h2 h3 h4 rs h5 h6
 ·rintro Dn σ H ⟨F,Γ,D2,R,⟨⟨xs,e0⟩,h⟩,k⟩;obtain⟨o,e1,a,vs,rfl,h1,h2,h3,r⟩:=o4;refine⟨AR,e1,AnX vs h1,F,Γ,_,R,h,fun ds Γ1 F1 H1 us R1 s1 r1 q1=> ?_⟩;obtain⟨ws,ys,P,g1,g2,g3,g4⟩:=P5 ydf z z vs vs args us xs xs R R1 s1 k e1 q1;exact⟨a,ys,ws,F1,P,ds,rfl,g1,R1.g,g2,r1,g3,g4⟩
#where
#print L3
namespace L3
open PySem PySem.Spec PyProof.Rows L2
section
variable{X:Cx}{F0 H0:Hp}{st:Stmt}{i:Nat}{t:cL}
theorem O8(h:Ť (cM i t)):Ť (aV i (dX t)):=fun z E cx=>
 rY Rs fun Dn σ H hq1=>by
  obtain⟨F,Γ,D2,R,q,k⟩:=hq1;have key:(fun(ds:Δ) (Γ1:G2)=>(ALo (Γ1.set i gf)[i]? (.ow ds') (D2.nx ((Γ1.set i gf).set i (.pu (B8 ds')))) (Ak9 gf)))=fun ds Γ1=>(Ak9 AUl):=by
   funext ds Γ1
   show ADU Γ1.length
   ·rw[List.getElem?_set_self hi];dsimp only;rw[List.set_set]
   ·rw[List.getElem?_eq_none (B9 hi)]
    rw[BMX,BMX]
  refine⟨F,Γ,{D2 with nx:=AJk (ALo Γ'[i]? gf (D2.nx (Γ'.set i AUl)) (D2.nx Γ'))},R,?_,ABS (fun Γ' F' H' σ' R' s' q' => ?_) k.bk k.ct⟩
  ·show t Γ _ E;dsimp only;rw[key];exact q
  ·dsimp only at q';split at q'
   ·rename_i ds e;obtain⟨a,F2,_,s2,R2,_⟩:=R'.frz e;exact M_ R2 (s'.trans s2) q'
   ·exact M_ R' s' q'
#where
def iB(t u:cD):cL:=ON t d (lr u d' (AM_ d d' UI ALf (BH Am5/\P AnW Γ2)))
section
variable{X:Cx}{F0 H0:Hp}{a b c:Expr}{pos:Pos}{ta tb tc:cD}
theorem z7z{M:Program}{w:World}{A:Around}{E:dW}{s:Shared}{l b:Addr}{vs ws:Ο}{Q:dW}(hl:AU6 vs.toArray)(hb:s.heap.IsList b ws.toArray)
  (h:ANe (AIF A_e)) (hsz:BH (vs.length+ws.length)):AHy (model M w) (binaryOp .Add ATJ (AH b)):=by
 obtain⟨⟨cls,dd,data,sl⟩,ho,hc,n,hd⟩:=id hl;obtain⟨⟨cls2,dd2,data2,sl2⟩,ho2,hc2,n2,hd2⟩:=id hb;simp only at hc hd hc2 hd2;subst hc hd hc2 hd2;have e:vs.toArray++ws.toArray=A_e:=AV
 refine concat_meets (HR ho) (HR ho2) noFill_list_add seq_list_add PySem.F.slot_list_add PySem.F.entry_list_add (PySem.F.args_list_add_2 _ _) (list_addW l b vs.toArray ws.toArray n n2 dd dd2 sl sl2 (B9 hsz)) ⟨ho,ho2,?_⟩
 rw[e];exact h
theorem Sg(ha:PQ)(hb:mo):í (.BinOp a .Add b pos) (iB ta tb):=fun z E cx=>
 oK (F8 ykt r (ĵ (∃p q xs ys,x= IR/\y= .ref q/\mX X.K H p xs/\ub mX q/\BH Am5/\Asb (B8 AnW))) (by
  rintro pins s σ H x y v u Q I rx ry ⟨p,q,xs,ys,e1,e2,h1,h2,hz,k⟩;subst e1 e2;cases rx;cases ry;obtain⟨its,r,pl,_⟩:=I.list h1;obtain⟨its2,r2,pl2,_⟩:=I.list h2;have l1:=r.length;have l2:=r2.length;refine z7z pl.isList pl2.isList ?_ χ
  exact G0 (.ref _) (ABm I.lnew (r.append r2) (AIv List.length_append)) (k _ I.fresh)) DO Jn) (DM σ H Q hq2 P hq2 (APQ (by
   cases d1 with
   | lst xs=>
    cases d2 with
    | lst ys=>
     have r1' :=r1.up s2;show EN p vs hq rs r1';show EN q ws hq2 JZ r2;refine⟨p,q,vs,ws,rfl,rfl,R2.g.seq hq,R2.g.seq hq2,by rw[<- Sm,<- jH JZ];exact h2.1,AJ l hl⟩
     have ra:=Km rs JZ;obtain⟨R3,e1,e2,e3,ap⟩:=G6 R2 hl ra;exact k _ Γ2 F2 _ l _ R3 P7 e1 e2 e3 ra ap h2.2
    | _=>show IG h2
   | _=>show IG h2)))
def Gv:D ->Bool | AE=>true | P8=>true | RO=>true | R_=>true | _=>false
def eqD:A3H
 | AE,AE=>true
 | .bl a,Y1=>Ā
 | .bl a,AEv=>A6l
 | AEu,Y1=>a==(AI b 1 0)
 | AEu,AEv=>Ā
 | .str a,.str b=>Ā
 | _,_=>false
def inD(x:D)(xs:Δ):Bool:=xs.any fun y=>eqD y x
def qN(neg:Bool):EL:=eL (TM y UI BEu PH BEu)
theorem Hq{K:W.Frag}{F:Hp}{d:D}{v:V}(h:Gv d=true)(r:LE):pK v=true:=by
 cases d<;>first | (subst r;rfl) | show AhA h
theorem abp(KK){d e:D}{v u:V}(h:Gv d=true)(h' :Gv e=true)(r:LE)(r' :Rep K F e u):Kh v u=eqD d e:=by
 cases d<;>first | show AhA h | (subst r;cases e<;>first | show AhA h' | (subst r';rfl))
theorem Wb(KK):BE_ (vs.all pK=true)
 | [],vs,r,_=>AgZ
 | SB,vs,r,h=>by
  show AOY;rw[List.all_cons,Bool.and_eq_true] at h⊢;exact⟨Hq C_ r1,Wb r2 h.2⟩
theorem Hr{K:W.Frag}{F:Hp}{x:D}{u:V}(hx:Gv x=true)(rx:Rep K F x u):BE_ (inV u vs=inD x ds)
 | [],vs,r,_=>AgZ
 | SB,vs,r,h=>by
  show AOY;rw[List.all_cons,Bool.and_eq_true] at h;unfold inV inD;rw[List.any_cons,List.any_cons,abp C_ hx r1 rx];have:=Hr hx rx r2 h.2;unfold inV inD at this;rw[this]
theorem O9:gu In AXQ:=by
 rintro pins s σ H x y v u Q I rx ry ⟨F,d1,d2,P,sF,r1,r2,h,k⟩;show BO qN;show Co
 ·show AXH;show APV;exact iF zvj x v u (Abs AZC)
 ·show AXH;show APV;exact iF zvj x v u (Abs AZH)
 ·show EB
theorem ymw:gu NotIn (qN true):=by
 rintro pins s σ H x y v u Q I rx ry ⟨F,d1,d2,P,sF,r1,r2,h,k⟩;show BO qN;show Co
 ·show AXH;show APV;exact iF zm9 x v u (Abs AZC)
 ·show AXH;show APV;exact iF zm9 x v u (Abs AZH)
 ·show EB
def cP(g g' :EL)(ta tb tc:cD):cD:=ON ta x (lr tb y (g x y (OW (I_ r (.bl k) (EH k BGa (P ý Γ2))))))
theorem z8y(MG){g g' :EL}{E:XW}{σ:St}{H:Hp}{Q:VK}(h:G5 K F0 H0 (cP g g' ta tb tc) E σ H Q):GR (rZ K g) (rZ K g') (ANx ta) (ANx tb) (ANx tc) σ H Q:=by
 show KE h;refine ABZ x v1 (ACa h1 (AJF y v2 ⟨F2,x,y,_,R2.g,AjH,r2,h2,fun d z F' H' gr rz hp=> ?_⟩));cases d with
 | bl b=>
  show A9 b rz;have R3:=R2.grow gr;cases b with
  | true=>
   show WZ;have hp' :BGa:=hp;exact⟨F',Γ2,_,R3,hp',fun w Γ3 F3 H3 v3 R4 s4 r4 h4=>⟨F3,y,w,_,R4.g,r2.up (gr.f.trans s4),r4,h4,fun d z F5 H5 gr5 rz5 hp5=>k d Γ3 F5 H5 z (R4.grow gr5) (A1a gr5.f) rz5 hp5⟩⟩
  | false=>
   show Ap Bool.false_ne_true;have hp' :P ý Γ2:=hp;exact k _ Γ2 F' H' _ R3 (AQ3 gr.f) FH hp'
 | _=>show IG hp
theorem ycw(ho:Ae3 ARg)(ho' :∀z,j9 E7 Ayp (ABi g'))(ha:PQ)(hb:mo)(hc:Bz c tc)
  (hm:lastMarks [op,op'] [b,c]=false:=by show AQR):Bz BBy (cP g g' ta tb tc):=fun z E cx=>
 oK (ydh (ho z) (ho' z) DO Jn ATr hm) (iA z8y)
#where
def yb1(sc V8:Scope):Scope:={sc with names:=sc.names.map fun ua=>if (k== L6&&V8.kind== ABr&&V8.names.lookup n==AIg) then(n,i_) else ua}
section
variable{X:Cx}{F0 H0:Hp}{x:Str}{pos:Pos}{d:D}
def Pa(K:W.Frag)(mg:B0)(x:Str)(d:D):Prop:=∃v u,AIs u/\LM/\∀F,LE
theorem yk4(hg:HE)(h:Pa X.K X.mg x d)(hd:AT x "__debug__":=by decide):Bz fe (cC d):=by
 obtain⟨v,u,hm,r,rp⟩:=h;exact Vy (Fs (A6 yhu hg hm r hd)) rp
theorem glb_tup{K:W.Frag}{mg:B0}{a:Addr}{od:Hb}{its:ES}{n:Nat}{sl:vn}{ds:Δ}(hm:AIs Cb)(hk:Cl K.lookup ⟨ARP,od,AiZ,sl⟩)(hz:Age)
  (hv:∃vs,Vals vs its.toList/\∀F,Fm):Pa K mg x (.tup ds):=by
 obtain⟨vs,rv,rp⟩:=hv;refine IE AR AR hm (E2 F);exact VW a (.inr ⟨_,its,n,hk,rfl,rfl,hz,rv⟩) (rp F)
#where
structure Hs (K:W.Frag) (x qual:Str) (st:Stmt) (f:Addr) (fd:FuncData) (dV:Value):Prop where
 ex:∃(oc:Value) (od:Hb) (kV doc pm:Value) (an:Hb) (cdv ct:Value) (osl:vn),
  BH' dV
 kp:AJ3
section
variable{P:Program}{w:World}{K:W.Frag}{mg:B0}{base:Heap}
theorem abq(Asf)(ArQ){dV:Value}{N ps:Α}{k:Nat}{sp:dI}(Fn:Hs K x qual st f fd dV)(S:AAj ps)(len:AHo)
  (hbody:ABT (∀F0:Hp,
   ∃t,AYT sD/\Aah Aph)):
  AV7 nZ:=by
 show yn;show AHu
 show Abv
 obtain⟨F0,ds,Pd,Ex,sF,rs,hsp,hQ,hE⟩:=hq2;show AYc;show AHq (by
  show A8 ABU AAn;show ABV;show AHl xr z1 z;exact AHt)
 exact AtD (AC_ (CY (Pd AE)) Pd) (Atb Abx)
structure Pb (ABR) (mg:B0) (base:Heap) (x:Str) (k:Nat) (ps:Α) (sp:dI):Prop where
 ex:∃f fd,AJ8 nZ/\AIs FX/\AJ3/\tq/\Binds K fd ps [Φ]
#where
def dH(sp:dI)(t:cL):cD:=PP (j_ (ds++ [AE]) d (D5 d) C (E Γ1 C))
section
variable{X:Cx}{F0 H0:Hp}{e:Expr}{es:A2}{pos p:Pos}{x:Str}{ps:Α}{k:Nat}{sp:dI}{t:cL}
theorem zz6(Abo Pb):
  Bz TL (aq sp t):=by
 obtain⟨f,fd,h1,h2,h3,h4,_⟩:=G.ex;exact z66 h1 hr hg h2 h3 h4 ha hdb he hpl
#where
def VE(x5):Prop:=W.kitOne K E_ (Kb "ValueError")=some true
def lu(K:W.Frag)(ta:cD):cD:=BLH (oJ K C0/\Hg K C0/\VE K C0) AKW
def lA(K:W.Frag)(Cs:AO)(ta:cD):cD:=BAf (Cs.any fun C=>bO K C0 C)
theorem ztz(BEx){H:Hp}{s:Shared}{h' :Heap}{t' :Nat}{fp:AO}(I:Ι)(k:AXi (b∉fp))(hf:AMh):Agc:=by
 have Uy:P_ H (b∉fp):=MC e z (Ac' (hf b z).1)
 refine AtH fp AL9 (fun b o _ _ hc e _=>Ajq) (fun b o _ _ hc e _=>⟨o.slots,Ajq⟩) A3q (fun b o hc e=>(N0 Ajq)) (AK2) (pp e e) A4T (Q1 m hm) (EK) I.bare
 ·obtain⟨f0,f1,f2,f3,f4,f5⟩:=hf b hb;exact⟨f3,f1,f4,f5⟩
 ·obtain⟨o,es,ep,ho,r⟩:=hm;exact⟨o,es,ep,k _ o (Fs (Anp hf)) ho,r⟩
 ·refine vt I.hok e (fun c v hc q=>k c v ?_ q) AOo lj;show IY hc
  ·rw[z];exact PM Uy
  ·exact Uy c _ z
theorem zn5(h:AcO)(hb:IQ):AdL ANc:=⟨ZN hb C_,h.2⟩
theorem zx5{X:Cx}{pins:eE}{σ:St}{H:Hp}{s:Shared}{h' :Heap}{t' :Nat}{fp:AO}{xs:Η}{its:Ο}(I:Ι)(k:AXi (b∉fp))
  (hlt:WE (UA b)) (ht:BJh AeO) (hv:ADP) (hz:Sn) (hf:AMh):
  ē Qb ADQ:=by
 have I1:ē Qb A2i:=
  AiE (Sk) D3 (UV _ Qb ⟨hz,its,hv,Agv⟩)
 refine ztz (s:=A2i) (fp:=fp) I1 (qr ?_) (E9 (zn5 Ahg (zK (hlt b hb))));rcases Heap.get?_push_cases e with ⟨rfl,rfl⟩ | e
 ·exact ht
 ·exact k b o hb e
def Ite(K:W.Frag)(a:Addr):It:=
 AK6 (Apy Zp) (∃b v,x= ģ/\HA/\H' =upd H b (.tup [C7,v])/\∀xs,Zp ->Ô xs) (∃xs,Zp/\AMD)
theorem z7w{P:Program}{w:World}{K:W.Frag}{elts:A2}{x1}{pos:Pos}(a e it:Addr)(hne:e≠it):Turn P w K AmT Ai9 [e,it] e (NI h ((∃old,IsEnum h e it Fh old)/\h.IsListIter it a i)) where
 mem:=AV
 obj:=fun i h q b hb=>by
  show APj;show hW
  ·exact AOK q
  ·show ž
   show APl;exact AGL
 keep:=fun i h h' q k=>by
  show APj;exact⟨⟨old,xI e q⟩,st.at fun o z=>k it Χ o z⟩
 item:=by
  intro X hP hw hK hc i pins s σ H E I hf q hg;show APj;show KL;show Asi;show AM8;show Ar1;have el:UA e:=zG q;show AJs il it (by show Ŀ z st;exact zG z)
  refine wpAny_pyNext_enum_item q st p.isList (x:=u) ATy hne fun h1 eo st1 ht hs1 k1=> ?_
  show nN _ (wpAny_letOwnedTupleGo_enum eo (Ν h2 e2 sb));have EY:Aox e:=sb;have I2:AjO (.tup [C7,x]) AQJ:=
   zx5 (fp:= [e,it]) (its:= [.int i s.toks,u]) I (cK o z (EY.extBut b o No (k1 b o No No z)))
    (II (by
     show hW
     ·exact el
     ·show ž
      exact il))
    (AnL (v4 el) ht) (Aq1 C9 ru) AXa hf
  refine⟨ç,_,I2,rfl,eQ _ x I.fresh rfl (BK3 I.list_inj),⟨EU u,(st1.extBut EY.extBut (i' hne))⟩,FV⟩
  ·have:Ag0=Fh+1:=ω
   rw[this];exact e2
  ·refine(zn5 Ahg ?_).1;show hW
   ·exact zK el
   ·show ž
    exact zK il
 done:=by
  intro X hP hw hK hc i pins s σ H E I hf q hg;show APj;show KL;show Art;show AM8;show PZ;exact wpAny_pyNext_enum_end N_ q st p.isList vF (Aup [e,it] (cK o z (eb b o No z)))
 self:=Auh (by
  show APj;exact wpAny_pyIter_enum q h)
theorem zrf:AGV "enumerate" "enumerate":=v_
def Wc(Alk):TI:=BGb Ai9
theorem yfm{X:Cx}{a:Expr}{ta:TA}{p pos:Pos}{elts:A2}{x1}{pt:Pos}(hg:BMr)(hm:BMl)(ha:AXJ)(hs:starEach [a] X.env=EG (A7 a) (EF []):=by rfl):
  PI X ARv AvH (Wc X.K ta):=by
 show ft;show Amr zrf;show ANf;show Arj;show AiC;cases rx;show AlD;refine call_enumerate_list pl.isList (De h' e1 st hsz kp);refine wpAny_pyIter_enum (i:=0) e1 ⟨NC,AyS,_,_,H1,rfl,Acd kp,z7w l _ _ (Nat.ne_of_gt (Nat.lt_succ_self _)),⟨CH e1,st⟩,FV,q hz⟩;have hb2:s1.heap.objs.size<=b:=by
  show hW
  ·exact BL'
  ·show ſ
   exact GL
 exact BBT
def J0:pr Δ Δ
 | _,[]=> []
 | k,x::r=> .tup [wT,x]::J0 FI r
theorem zsz:∀(k:Nat) (xs:Δ),LL J0 k xs=xs.length
 | _,[]=>rfl
 | k,x::r=>by show LL J0 FI r+1=r.length+1;rw[zsz]
theorem zs0:∀(k:Nat) (xs:Δ) (i:Nat),(J0 k xs)[i]?=(xs[i]?).map fun d=> .tup [.int (FC (k+i)),d]
 | _,[],_=>rfl
 | k,x::r,0=>rfl
 | k,x::r,BM=>by
  show(J0 FI r)[i]?=_;rw[zs0 FI r i,HC (k+1+i) (k+ Bi)]
  rfl
def sE(t:cL):cL:=PP (qc AIV (D5 (J0 0 xs)))
theorem yc1(BFG):Hi K F Ku Ai9 (J0 0 xs):=by
 have hl:=jH rs;show AHv (sv zsz) e ⟨vs,AOO,by rw[e,zsz];omega⟩
 rw[zs0] at hd;cases hx:xs[i]? with
 | none=>show Cc hx hd hd
 | some x=>
  rw[hx] at hd;cases hd;show AN1 hx;show A8 (AqT AOO) (Ν y H' z);show i7 b v2 hb rfl z z;have:=z vs (s3.seq (s2.seq hq));show BC hv;show EV;have gr:=Gr.laid (o:=HO.tup [C7,v]) s3 hb;show Yf gr;unfold Rep;refine ZE b xF (tR ?_ (tR (AmL gr.f) (by unfold aK;rfl)))
  unfold Rep;simp
section
variable{X:Cx}{F0 H0:Hp}{a b e tg:Expr}{es:A2}{pos p pt:Pos}{te:cD}{t:cL}{g:uT}{tb:aG}{elts:A2}
theorem zhk{x1}(hc:Cn)(hg:BMr)(hm:BMl)(ha:ADs)(hs:starEach [a] X.env=EG (A7 a) (EF []):=by rfl):
  AoJ AvH (sE t):=A'4 yfm (AqC (by
  unfold sE at*;show PR
  ·show APW;exact BBq yc1
  ·show mv))
#where
def sG:MY:=AP1 (TM ds [Y1] (NY (AI b 1 0)) [C7] (NY i))
theorem yh9:ADR "int" (vg X.K sG):=by
 rintro pins s σ H xs us Q I r ⟨F,ds,P,sF,rs,h,k⟩;show BO sG;show Co
 ·show AYQ;show MZ;cases rx;exact call_int_bool (A5X AQD)
 ·show AYQ;show MZ;show Op;exact call_int_int (A5X I)
 ·show EB
theorem zry:A_p Ap8 Au5
 | [],_,CC=> CC
 | n::ns,_,.cons h r=>by
  show Lc h;exact Nc _ _ (zry r)
theorem Vk:A_p Au5 Ap8
 | _,_,CC=> CC
 | _,_,Nc _ _ r=> Nc C9 (Vk r)
def wJ:MD:=Į (∃ns,AYO/\ns.length<64/\∀ms:AU,ms.Perm ns ->Awa ->AKZ QU)
section
variable{prog:Program}{w:World}{A:Around}{E:dW}{s:Shared}
def iC(t:Bool)(h:Heap)(it l:Addr)(i:Nat):Prop:=AqU (h.IsListIter it l i) (h.IsTupleIter it l i)
def iU(t:Bool)(h:Heap)(l:Addr)(xs:ES):Prop:=AqU (h.IsList l xs) (h.IsTuple l xs)
theorem Mp(x:ě h)(k:∀o,wy it ->sf it):ě h':=by
 cases t<;>exact AnD k
theorem zyi(x:iU t h l xs)(k:∀o,wy l ->sf l):iU t h' l xs:=by
 cases t<;>exact AnD k
theorem zti(x:ě h):AfD (wy it):=by
 cases t<;>exact let ⟨o,ho,_,d⟩:=x;ť BJT
theorem Wd(hl:AZ1)
  (hQ:ANe (ND (AI t "tuple_iterator" "list_iterator") #[LG,vc])):AVV l:=by
 cases t
 ·exact wpAny_pyIter_list hl hQ
 ·exact wpAny_pyIter_tuple hl hQ
theorem zmw(hit:ě s.heap)(hl:AZ1)(hx:jp)
  (hQ:tN (iC t h' it l Bi) (AmO it) (Q x Lu)):A0M:=by
 cases t
 ·exact wpAny_nextOf_list_item hit hl hx hQ
 ·have hit2:AwN:=hit;show A6J;obtain⟨ol,hol,_,nl,hdl⟩:=A7l;show BFo;show AGS (field t9 0);show Hn (RF ho hd LG) rfl;show AZx (Ac6 (Value.ref l));show Hn (RF ho hd (cz i)) rfl;show L4 wpAny_seqItems hol hdl;show Au';refine z6 (wpAny_setField ho hd Χ (z7 (JO x (A0_ ?_))))
  exact AqR
theorem zwd(hh:Ic)(hit:ě s.heap)(hl:AZ1)(hx:xs[i]?=none)
  (hE:A'j BBH):A0M:=by
 cases t
 ·exact wpAny_nextOf_list_end hh hit hl hx hE
 ·have hit2:AwN:=hit;show A6J;obtain⟨ol,hol,_,nl,hdl⟩:=A7l;show BFo;show AGS (field t9 0);show Hn (RF ho hd LG) rfl;show AZx (Ac6 (Value.ref l));show Hn (RF ho hd (cz i)) rfl;show L4 wpAny_seqItems hol hdl;show Au';show D' wpAny_rule (z6 (wpAny_setField ho hd Χ ?_))
  show KB;show AW_ AEk
  show AsW
  show AX8 AEk
  show Ahk
  first | rw[AyZ] | rw[hh]
  show s0 z7 wpAny_throw;exact hE _ _ A5y AJw
structure yK (z TI TO i1 i2 l1 l2:Addr):Prop where
 p:TI≠z/\TO≠z/\i1≠z/\i2≠z/\TI≠TO/\TI≠i1/\TI≠i2/\TO≠i1/\TO≠i2/\i1≠i2
 q:l1≠z/\l1≠TO/\l1≠i1/\l1≠i2/\l2≠z/\l2≠TO/\l2≠i1/\l2≠i2
theorem yK.k{z TI TO i1 i2 l1 l2:Addr}(D:BJe yK):AOg:=by
 obtain⟨⟨a1,a2,a3,a4,a5,a6,a7,a8,a9,a10⟩,b1,b2,b3,b4,b5,b6,b7,b8⟩:=D;exact⟨a1,a2,a3,a4,a5,a6,a7,a8,a9,a10,b1,b2,b3,b4,b5,b6,b7,b8⟩
theorem z7r(BGj){Q:dW}(D:AOg)(hz:AYH)(hTI:APe s.heap)(hTO:AXt)
  (h1:AaJ) (h2:AaK) (hl1:AHO) (hl2:AHf) (hx:EE xs k1 x) (hy:EE ys k2 y)
  (hQ:A9h (k8 h' x y ->Aj0 h' ->EJ (Aj1 h') A'r AyK AYv (AQp Lu))):AJK Ays (XB fin (∃v,fin= Aed v/\Q v s')):=by
 have kI:∀{t:Bool} {h h' :Heap} {it l c:Addr} {i:Nat},A'R:=fun x e n=>Mp x (AMj (e _ o n ho));have kS:∀{t:Bool} {h h' :Heap} {l c:Addr} {ws:ES},A'S:=fun x e n=>zyi x (AMj (e _ o n ho));show eP (field AEm 2>>=_);show Hn (RF hz rfl AH3) rfl;show eP (field AEm 3>>=_);show Hn (RF hz rfl (.ref TI)) rfl;show AGZ hTI;show eP (Builtin.SmallTypes.ownedTupleIsFree (AH z)>>=_);show KB;refine z6 (RF hz rfl Φ rfl AQ9);simp only [if_true];show JJ wpAny_rule;show Hn (RF hz rfl (.ref TO)) rfl;refine z6 (wpAny_setField_rec hz Χ (Ν g1 hz1 hs1))
 replace hz1:AF_ g1:=hz1;show KB;show BAv;show AZz;refine z6 (zmw ArG Apg hx fun g2 q1 hs2=>z7 ?_);have Wf :k8 g2 a b:=hs2.extBut _ _ D.TOi1 (hs1.extBut _ _ D.TOz hTO);show AGZ Wf;refine z6 (wpAny_updateSeq_pair Wf (Ν g3 t3 hs3));replace t3:k8 g3 x b:=t3;show s0 wpAny_letGo z7;show AZz;refine z6 (zmw BIi BIL hy fun g4 q2 Mr=>z7 ?_);have t4:k8 g4 x b:=Mr.extBut _ _ D.TOi2 t3;show AGZ t4;refine z6 (wpAny_updateSeq_pair t4 (Ν g5 t5 Ms));replace t5:k8 g5 x y:=t5;show D' wpAny_letGo (z7 (z7 ?_));show AGZ t5;show JJ wpAny_newTuple;have hsz:g5.objs.size=s.heap.objs.size:=by rw[Ms.1,Mr.1,hs3.1,hs2.1,hs1.1]
 have hz5:AF_ g5:=Ms.extBut _ _ D.TOz.symm (Mr.extBut _ _ D.i2z.symm (hs3.extBut _ _ D.TOz.symm (hs2.extBut _ _ D.i1z.symm hz1)));have hk5:BJu Awx:=BHh (BGd c2 Mr.extBut e);have r1:Aj0 g5:=kI (kI (kI q1 hs3.extBut D.TOi1.symm) Mr.extBut D.i12) Ms.extBut D.TOi1.symm;have r2:Aj1 g5:=kI q2 Ms.extBut D.TOi2.symm;have zlt:z<g5.objs.size:=zG hz5;show KB;have hz6:AF_ (g5.push (VC #[x,y])):=z8 _ hz5;refine z6 (wpAny_setField_rec hz6 Χ (Ν g7 hz7 hs7))
 show Ayl hz7 g7 hz7;refine wpAny_setField_rec hz7 Χ (Ν g8 hz8 hs8)
 show Ayl hz8 g8 hz8;have up:∀c o,c≠z ->Awx ->g8.get? c=some o:=fun c o c1 e=>hs8.extBut _ _ c1 (hs7.extBut _ _ c1 Sf);have hT8:IsPair g8 g5.objs.size x y:=hs8.extBut _ _ (v4 zlt) (hs7.extBut _ _ (v4 zlt) AZN);have sz8:g8.objs.size=g5.objs.size+1:=by rw[hs8.1,hs7.1,Heap.size_push]
 rw[hsz] at hz8 hT8 sz8;refine z7 AFh;rw[hsz];exact hQ g8 hz8 (up _ _ D.TOz t5) (Mp r1 (ADV (up _ o D.i1z e))) (Mp r2 (ADV (up _ o D.i2z e))) hT8 sz8 (BHh (up c o c1 (hk5 c o c1 c2 c3 c4 e)))
theorem yd1(Afh){xs ys:ES}{a b:Value}{Q:D6 Fin}(hh:Ic)(D:AOg)(hz:AYH)(hTI:APe s.heap)(hTO:AXt)
  (h1:AaJ) (h2:AaK) (hl1:AHO) (hl2:AHf) (hend:A6p)
  (hE:A'j (AYv)):Ff Ays:=by
 have kI:∀{t:Bool} {h h' :Heap} {it l c:Addr} {i:Nat},A'R:=fun x e n=>Mp x (AMj (e _ o n ho));have kS:∀{t:Bool} {h h' :Heap} {l c:Addr} {ws:ES},A'S:=fun x e n=>zyi x (AMj (e _ o n ho));show eP (field AEm 2>>=_);show Hn (RF hz rfl AH3) rfl;show eP (field AEm 3>>=_);show Hn (RF hz rfl (.ref TI)) rfl;show AGZ hTI;show eP (Builtin.SmallTypes.ownedTupleIsFree (AH z)>>=_);show KB;refine z6 (RF hz rfl Φ rfl AQ9);simp only [if_true];show JJ wpAny_rule;show Hn (RF hz rfl (.ref TO)) rfl;refine z6 (wpAny_setField_rec hz Χ (Ν g1 hz1 hs1))
 replace hz1:AF_ g1:=hz1;show KB;show BAv;show AZz;cases hx:xs[k1]? with
 | none=>
  show D' (zwd hh ArG Apg hx) (ER g2 e hs2 he);obtain⟨oe,hoe,hce⟩:=he;have hz2:AF_ g2:=hs2 _ _ D.i1z.symm hz1;show BDw hz2
  exact wpAny_setField_rec hz2 Χ fun g3 _ hs3=>hE g3 e (fun c o c1 _ c3 _ x=>hs3.extBut _ _ c1 (hs2 _ _ c3 (hs1.extBut _ _ c1 x))) ⟨oe,hs3.extBut _ _ hez hoe,hce⟩
 | some x=>
  have hy:ys[k2]?=none:=by show Pf hend;rw[hx] at h;cases h;exact h
  refine z6 (zmw ArG Apg hx fun g2 q1 hs2=>z7 ?_);have Wf :k8 g2 a b:=hs2.extBut _ _ D.TOi1 (hs1.extBut _ _ D.TOz hTO);show AGZ Wf;refine z6 (wpAny_updateSeq_pair Wf (Ν g3 t3 hs3));show s0 wpAny_letGo z7;show AZz;show D' (zwd hh BIi BIL hy) (ER g4 e Mr he);obtain⟨oe,hoe,hce⟩:=he;have hz4:AF_ g4:=Mr _ _ D.i2z.symm (hs3.extBut _ _ D.TOz.symm (hs2.extBut _ _ D.i1z.symm hz1));show BDw hz4
  exact wpAny_setField_rec hz4 Χ fun g5 _ Ms=>hE g5 e (fun c o c1 c2 c3 c4 x=>(BGd c1 Mr x)) ⟨oe,Ms.extBut _ _ hez hoe,hce⟩
theorem z30(BGj){Q:D6 LX}(D:AOg)(hz:AYH)(hTI:APe s.heap)(hTO:AXt)
  (h1:AaJ) (h2:AaK) (hl1:AHO) (hl2:AHf) (hx:EE xs k1 x) (hy:EE ys k2 y)
  (hQ:A9h (k8 h' x y ->Aj0 h' ->EJ (Aj1 h') A'r AyK AYv (Q (some d_) Lu))):Ż z:=by
 have hT:s.TypeIs AEm "zip" :=HR hz;exact z6 (wpAny_attempt (AEV hT F.slot_zip_next (wpAny_call_entry F.slot_zip_next hT F.entry_zip_next (z7r D hz hTI hTO h1 h2 hl1 hl2 hx hy fun h' a1 a2 a3 a4 a5 a6 a7=>z7 (hQ h' a1 a2 a3 a4 a5 a6 a7)) (F.args_zip_next_1 _))))
theorem z83(Afh){xs ys:ES}{a b:Value}{Q:D6 LX}(hh:Ic)(D:AOg)(hz:AYH)(hTI:APe s.heap)(hTO:AXt)
  (h1:AaJ) (h2:AaK) (hl1:AHO) (hl2:AHf) (hend:A6p)
  (hQ:AW4 (AYv)):Ż z:=by
 have hT:s.TypeIs AEm "zip" :=HR hz;show AUB (AEV hT F.slot_zip_next (wpAny_call_entry F.slot_zip_next hT F.entry_zip_next (yd1 hh D hz hTI hTO h1 h2 hl1 hl2 hend (ER h' e hk he)) (F.args_zip_next_1 _)));show On ho hc he;show L4 AsX (ť hc) isSubtype_stop;exact z7 (hQ _ hk)
def Wg(t:Bool):String:=if t then "tuple_iterator" else "list_iterator"
abbrev zH1(t1:Bool)(h:Heap)(l1:Addr):Heap:=A6H h.push
abbrev zH2(Abg):Heap:=(zH1 t1 h l1).push (ND (Wg t2) #[.ref l2,vc])
abbrev zH3(Abg):Heap:=(ASB zH2 l2).push (VC #[.ref h.objs.size,.ref (Amp h)])
abbrev zH4(Abg):Heap:=(ASB zH3 l2).push (VC #[Φ,Φ])
abbrev Sh(Abg):Heap:=(ASB zH4 l2).push (ND "zip" #[Φ,AH3,AH3,Ayx zH2,Ayx zH3])
theorem z57(x:iU t h l xs)(o:Obj):iU t (h.push o) l xs:=zyi x (Eg e cS)
theorem Ht(hl:AZ1)
  (hQ:ANe (ND (Wg t) #[LG,vc])):AVV l:=Wd hl hQ
theorem Pg(t1 t2:Bool)(l1 l2:Addr)(xs ys:ES):Meets (Builtin.«zip.__new__» (GV [KM "zip",.ref l1,.ref l2])) (fun _ R s=>AHO/\AHf/\Adn (AH Ajy) (OM (Sh t1 t2 s.heap l1 l2))):=
 BG_ (by
  show UX s;show Fr hl1 hl2 h;have hsub:=sub_zip;have hL1:iU t1 (Shared.heap (qA hp tk)) l1 xs:=hl1;have hL2:iU t2 (Shared.heap (qA (A6H hp.push) tk)) l2 ys:=z57 hl2 _
  wp_walk using Ht hL1,Ht hL2
  exact NG h)
theorem zz7(e:SW (ND (Wg t) #[LG,vc])):iC t h a l 0:=by
 cases t<;>exact Mn e rfl rfl
theorem z6y(hl1:AHO)(hl2:AHf)
  (h:tN (IsZip h' AvA At6 Awj Φ) (IsPair h' At6 d_ (AH UF)) (EJ (IsPair h' Awj Φ Φ) (iC t1 h' s.heap.objs.size l1 0) (iC t2 h' UF l2 0) (∀c o,AIB c ->sf c) (F7 AvA Lu))):Anq "zip" [.ref l1,.ref l2]:=by
 refine callType_new F.called_zip Β (F.typeCall_zip_2 _ _) (F.newCall_zip_2 _ _) (Τ obj (F.args_object_init_3 obj _ _)) F.entry_zip_new (Pg t1 t2 l1 l2 xs ys) ⟨hl1,hl2,?_⟩
 show ANq z1 (Amp s.heap) l';show Alz z2 (AKC zH2) (s.heap.objs.size+2) z1
 show Alz z3 (AKC zH3) (s.heap.objs.size+3) z2
 show Alz z4 Ajy (s.heap.objs.size+4) z3
 show RC g5 AM2 l2 Ajy _ OQ;show RC g4 AM2 l2 (AKC zH3) _ (z8 _ AZN);show RC g3 AM2 l2 (AKC zH2) _ (z8 _ Aot);show RC g2 AM2 l2 (Amp s.heap) _ (z8 _ (z8 _ Aot));show RC g1 AM2 l2 s.heap.objs.size _ (z8 _ (ANi Aot));rw[z2,z3,z4] at g5;rw[z1,z2] at g3;rw[z3] at g4;rw[z1] at g2;rw[z4];exact⟨HR g5,h _ g5 g3 g4 (zz7 g1) (zz7 g2) fun c o x=>z8 _ (ANi (ANi x))⟩
#where
def Sq(t:Bool)(K:W.Frag)(H:Hp)(a:Addr)(xs:Η):Prop:=AqU Zp xc
theorem Sv(I:Ι)(h:AsV xs):AqY (iU t s.heap a its.toArray):=by
 cases t
 ·obtain⟨its,rv,p,hz⟩:=AgG;exact⟨its,rv,p.isList,hz⟩
 ·obtain⟨its,rv,p,hz⟩:=I.tuple h;exact⟨its,rv,p,hz⟩
theorem ye3(I:Ι)(h:AsV xs)(h' :AsV ys):xs=ys:=by
 cases t
 ·exact I.list_inj h h'
 ·exact I.tuple_inj h h'
def Itz(Ty)(t1 t2:Bool)(a b:Addr):It:=
 ⟨AIL (∃xs ys x y,ArX/\ArY/\jp/\AcS),fun i H v H' =>∃c x y,v= ATU/\JS c/\H' =upd H c (.tup [x,y])/\ (Alo ArX)/\∀ys,ArY ->AcS,
  AIL (∃xs ys,ArX/\ArY/\ (AMD\/ys.length<=i))⟩
theorem zap{n l1 l2:Nat}(h1:l1<n)(h2:l2<n):yK (n+4) (n+2) (n+3) n NF l1 l2:=by
 have e:∀a b:Nat,a≠b ->(a:Addr)≠b:=Aiv;refine⟨⟨KG,KG,KG,KG,KG,KG,KG,KG,KG,KG⟩,KG,KG,KG,KG,KG,KG,KG,KG⟩<;>omega
theorem ycu(ADf)(Aan){pos:Pos}(t1 t2:Bool)(a b z TI TO i1 i2:Addr)(D:yK z TI TO i1 i2 a b):Turn P w K AmT (AsJ b) Abi z
  (NI h (AIP h Φ/\APe h/\ (∃u v,k8 h u v)/\iC t1 h i1 a i/\iC t2 h i2 b i)) where
 mem:=AV
 obj:=fun i h q c hc=>by
  show Abt;show AHc hc;show AtL
  ·exact AOK q1
  ·exact AOK q2
  ·exact AOK q3
  ·exact zti q4
  ·exact zti q5
 keep:=fun i h h' q k=>by
  show Abt;exact⟨xI z q1,xI TI q2,⟨u,v,xI TO q3⟩,Mp q4 (ADV (ARH i1)),Mp q5 (ADV (ARH i2))⟩
 item:=by
  intro X hP hw hK hc i pins s σ H E I hf q hg;show Abt;show KL;obtain⟨xs,ys,x,y,hq1,hq2,hx,hy⟩:=hg;obtain⟨its,rv,p,_⟩:=Sv I hq1;obtain⟨jts,Sw,p2,_⟩:=Sv I hq2;show BS ux hux rux rv.get hx;show BS uy huy ruy Sw.get hy;show B3 lt c Abi (UA c) c hc (by
   show AHc hc;show AtL
   ·exact zG q1
   ·exact zG q2
   ·exact zG q3
   ·show Ŀ e (zti q4);exact J_
   ·show Ŀ e (zti q5);exact J_)
  have Dk:=D.k;refine z30 Dk q1 q2 q3 q4 q5 p p2 (x:=ux) (y:=uy) (B9 hux) (B9 huy) fun h1 a1 a2 a3 a4 a5 a6 k1=> ?_
  show nN _ (wpAny_letOwnedTupleGo_zip a1 (Ν h2 e2 sb));have EY:Aox z:=sb;have zl:=lt z Χ
  have I2:AjO (.tup [x,y]) s.toks:=
   zx5 (fp:= Abi) (its:= [ux,uy]) I (Ax5 (k1 c o No No No No e))
    lt (AnL (v4 zl) a5) (Aq1 rux ruy) AXa hf
  refine⟨ç,_,I2,rfl,⟨_,x,y,rfl,I.fresh,rfl,fun zs hz=>(Θ (ye3 I hz hq1) hx),fun zs hz=>(Θ (ye3 I hz hq2) hy)⟩,⟨e2,?_,⟨ux,uy,EY.extBut _ _ Dk.TOz a2⟩,A3G a3 Dk.i1z,A3G a4 Dk.i2z⟩,AnZ⟩
  ·exact EY.extBut _ _ Dk.TIz (k1 _ _ Dk.TIz Dk.TITO Dk.TIi1 Dk.TIi2 q2)
  ·exact A'g lt
 done:=by
  intro X hP hw hK hc i pins s σ H E I hf q hg;show Abt;show KL;obtain⟨xs,ys,hq1,hq2,hx⟩:=hg;obtain⟨its,rv,p,_⟩:=Sv I hq1;obtain⟨jts,Sw,p2,_⟩:=Sv I hq2;have l1:=rv.length;have l2:=Sw.length;refine z83 N_ D.k q1 q2 q3 q4 q5 p p2 ?_ fun h' k1=>(EO (ASL ztz fp Abi I (fun c o hb e=>k1 c o No No No No e) hf))
  rcases hx with hx | hx
  ·show CB vF
  ·show CU vF
 self:=Auh (wpAny_pyIter_zip q.1 h)
theorem ycl:AGV "zip" "zip":=v_
def abr(Alk):TI:=ASl (∃t1 t2 a b xs ys,vs= [AR,ģ]/\Sq t1 K H1 a xs/\Sq t2 K H1 b ys/\ (Sn ->ALa ->R (AsJ b) H1))
theorem yjy{X:Cx}{a b:Expr}(Asl)(Aan){pt:Pos}(hg:Gl X "zip")(hm:U' "zip")(ha:Ajw)(BHu):
  PI X ARv Aw4 (abr X.K ta):=by
 show ft;refine Call_ (ACl ycl (PyProof.Rows.callWith_type1 (ACt AKE) hs hpl));show ANf;obtain⟨t1,t2,l1,l2,xs,ys,rfl,hq1,hq2,q⟩:=q1;cases r1 with
 | cons r rr=>
  cases rr with
  | cons r' rr=>
   cases rr;cases r;cases r';obtain⟨its,rv,p1,hz1⟩:=Sv I1 hq1;obtain⟨jts,Sw,p2,hz2⟩:=Sv I1 hq2;have n1:l1<s1.heap.objs.size:=by cases t1<;>exact let ⟨o,e,_⟩:=p1;J_
   have n2:l2<s1.heap.objs.size:=by cases t2<;>exact let ⟨o,e,_⟩:=p2;J_
   refine z6y p1 p2 fun h' e1 e2 e3 e4 e5 kp=> ?_;refine wpAny_pyIter_zip e1 ⟨Afs 4,[Afs 4,s1.heap.objs.size+2,Afs 3,s1.heap.objs.size,NC],_,_,H1,rfl,Acd kp,
    ycu t1 t2 l1 l2 _ _ _ _ _ (zap n1 n2),⟨e1,e2,B1 _ e3,e4,e5⟩,AnZ,q hz1 hz2⟩
   have hb2:s1.heap.objs.size<=c:=by
    show AHc hc;show AtL
    ·exact AT0
    ·exact AT0
    ·exact AT0
    ·exact GL
    ·exact AT0
   exact BBT
def mH(xs ys:Δ):Δ:=List.zipWith (fun x y=> .tup y0) xs ys
theorem z5t(MG){F:Hp}{t1 t2:Bool}{a b:Addr}{vs us:Η}{xs ys:Δ}(hq1:AnV (Sq t1 K H1 a vs))(hq2:AnV (Sq t2 K H1 b us))(r1:Ć)(r2:Iq ys us)(hz:BH vs.length):Hi K F Ku (AsJ b) Akf:=by
 have l1:=jH r1;have l2:=jH r2;have lz:LL mH xs ys=min xs.length ys.length:=List.length_zipWith;show AHv ω e ⟨vs,us,Aap hq1,Aap hq2,ω⟩
 unfold mH at hd;rw[List.getElem?_zipWith] at hd;cases e1:xs[i]? with
 | none=>show Cc e1 hd hd
 | some x=>
  cases e2:ys[i]? with
  | none=>rw[e1,e2] at hd;cases hd
  | some y=>
   rw[e1,e2] at hd;cases hd;show CS v hv rv xG r1 e1;show CS u hu ru xG r2 e2;show A8 ⟨vs,us,v,u,Aap hq1,Aap hq2,hv,hu⟩ (Ν w H' z);obtain⟨c,v2,u2,rfl,hc,rfl,z1,z2⟩:=z;have:=z1 vs (hq1 H2 Ayr);show BC hv;show EV;have:=z2 us (hq2 H2 Ayr);show BC hu;show EV;have gr:=Gr.laid (o:=HO.tup [v,u]) s3 hc;show Yf gr;exact ZE c xF (tR (AmL gr.f) (tR ((ru.up s2).up gr.f) FH))
def Mt(t:cL):cL:=PP (qc y0 (match x,y with | UI,ALf=>D5 Akf | PH,AUT=>D5 Akf | _,_=>False))
section
variable{X:Cx}{F0 H0:Hp}{a b e tg:Expr}{es:A2}{pos p pt:Pos}{te:cD}{t:cL}{elts:A2}
theorem Sx{x1}(hc:Cn)(hg:Gl X "zip")(hm:U' "zip")(ha:Ahe)(BHu):
  AoJ Aw4 (Mt t):=fun z E cx=>Mg (A6 yjy hg hm DO hs hpl) (AfR (AqC (by
  unfold Mt at*;show PR
  ·show PR
   ·obtain⟨v,_,rfl,⟨l,us,rfl,hq,rs⟩,⟨v2,_,rfl,⟨l2,us2,rfl,hq2,JZ⟩,rfl⟩⟩:=r1;exact⟨false,false,l,l2,us,us2,rfl,ADv,R1.g.seq hq2,fun hz _=>(ARN (z5t (t1:=false) (t2:=false) (AX6 (s.seq hq)) (AX6 (s.seq hq2)) rs JZ hz))⟩
   ·obtain⟨v,_,rfl,⟨l,us,rfl,hq,rs⟩,⟨v2,_,rfl,⟨l2,us2,rfl,hq2,JZ⟩,rfl⟩⟩:=r1;exact⟨true,true,l,l2,us,us2,rfl,Ajv,uz R1.g hq2,fun hz _=>(ARN (z5t (t1:=true) (t2:=true) (AX6 (uz s hq)) (AX6 (uz s hq2)) rs JZ hz))⟩
   ·show mv
  ·show mv)))
#where
def nG:Α ->Δ ->Str ->Ō
 | UR,SB,g=>AOt (some d) (nG fs ds g)
 | _,_,_=>none
theorem zw1{K:W.Frag}{F:Hp}{g:Str}{x:D}:∀{fs:Α} {ds:Δ} {vs:Η},nG fs ds g=some x ->Fm ->∃v,AaF g=some v/\Rep K F x v
 | [],_,_,h,_=>Bn
 | BY,[],_,h,_=>Bn
 | UR,SB,vs,h,r=>by
  show AOY;show BO nG;show Akv;show GG g f
  ·show n_ e;cases h;subst e;exact⟨v,AV,r1⟩
  ·show n9 e;show CS u hu ru zw1 h r2;exact⟨u,BMj e hu,ru⟩
theorem zit:AKJ fs Α (g∉fs) (AaF g=none)
 | [],_,_=>rfl
 | BY,[],_=>rfl
 | UR,ź,h=>by
  show Akv;have h1:g≠f:=fun e=>h (HK e)
  rw[beq_false_of_ne h1];exact IL (zit (vs:=vs)) e (h (zW _ e))
def n8(Ao_ te cD):cD:=XX (Ŵ (C' =C/\∃x,nG fs ds f=some x/\D5 x))
def tV(BIp):cD:=XX (Ŵ (C' =C/\AF'/\A9J))
section
variable{X:Cx}{F0 H0:Hp}{e o:Expr}{es:A2}{pos p apos:Pos}{f m:Str}{C fa:Addr}{fd:FuncData}{ps:Α}{k:Nat}{sp:dI}{te:cD}{t:cL}
theorem Ad(hc:vS)(hn:X0)(he:MR)(hb:X2 f=A7 e:=by rfl):Bz (.Attribute e f pos) (n8 C f te):=fun z E cx=>
 oK (A6 yej IU hb) (DM σ H Q hq1 P hq1 (Tu (by
  cases d with
  | obj C' fs ds=>
   obtain⟨rfl,x,hx,hp⟩:=h1;obtain⟨a,dx,vs,rfl,ea,hl,rs⟩:=r1;show CS u hu ru zw1 hx rs;exact⟨a,C',dx,_,u,rfl,Ane,hc,hn,hu,k x Γ1 F1 H1 u R1 s1 ru hp⟩
  | _=>show wx)))
theorem yho(A9p)(Fn:A1s)(hr:si)(hb:AEU)(ho:AMP)(ha:LJ)
  (hst:starEach DF X.env=EG (A7 e) (EF es):=by rfl) (hpl:AIA:=by rfl)
  (ht:eval AJQ X.env=(do
   let ov<- A7 o
   AAX
   let (f,first)<- ABJ m pl
   ABQ (AAy DF) AHg):=by rfl):
  Abr tV:=by
 rintro z E cx pins s σ H Q I ⟨F,Γ,P,R,h,kk⟩;refine AaO (NA (A6e (Ŵ (C' =C/\AF'/\A9J)) (Tu (Acy d))) u ⟨x,H1,I1,rx,F1,Γ1,d,R1,sF,rd,q⟩) ht
 cases d with
 | obj C' fs ds=>
  show Ap2;have Wi:=rd;show Amn;show aT;refine zmd I1 Awv hc hm (zit Wh) ?_;refine W.callWith_K (first:= MB) (h₀:=X.base) I.ok.mod.GC hm.kp (bU (ha z E cx pos pins s1 σ H1 (ö H2 (∃F2 Γ2 es,A8I/\AQU/\c0 F2 es/\BLG)) I1 (ACa q (AJF es vs ⟨F2,Γ2,es,R2,s2,r2,h2⟩)))
   fun us s2 ⟨ws,H2,I2,r,F2,Γ2,es,R2,Sy,JZ,q2⟩=>(EU I2.kIn)) hst hpl
  exact A_g VH Fn hr hb cx I2 R2 AvJ (tR (Wi.up Sy) JZ) q2 (AfX (kk d Γ2 F' H' v At1 (sF.trans (Sy.trans gr.f)) rv hp))
 | _=>show IG q
#where
inductive DP (A6K dI):Prop
 | mk:∀x dx rest F ds Pd Ex,A9W ->(DC H (Î [])) ->(AQr dx x) ->EJ (dx≠x) ĝ (F x=none) (F dx=none) (A'O (∀d F' H' H3 v,Ω (Gr F H F' H3) Ts (Pd d) (H' =upd H3 x (Î AWp)) AdZ) DP)
def vo(A6O dI):Sp:=AdK (Afp DP)
theorem zm4(h:fB P w outer H2 s2 E e s')(os:s2.os=s.os)(un:AJX AiS [] H2 s2.heap)(kp:qV NN BML):AOb fB :=by
 obtain⟨a,C,H',B,dx,h1,h2,h3,h4,h5,h6,h7,h8,h9⟩:=h;exact⟨a,C,H',B,dx,h1,h2.trans os,h3,un.trans h4,h5,h6,Æ (h7 b o (WB kp) n),h8,h9⟩
def DQ(Ao_ sp dI):dI:=BBk (Τ d (P (.obj C [f] [d])))
section
variable{P:Program}{w:World}{K:W.Frag}{mg:B0}{base:Heap}
theorem ygn{x qual:Str}{st st1:Stmt}(ArQ){N ps:Α}{k:Nat}{sp:dI}{C:Addr}{fl:Str}{value:Expr}{px pos' pos:Pos}(Fn:AOd)(hbd:xq st= [st1,.Assign (ARa (û px) fl) value pos])(S:AAj Aet)
  (hc:L2.Cls K C) (hn:uC fl) (hN:EE N 0 Ab_) (Ph:AlY) (len:AHo)
  (hbody:ABT (∀F0:Hp,
   À (swapsWith value (BU (bi (û px) fl pos')) pos.line (SU).env)/\
   ∃t te,QS SU F0 H st1 t/\QE SU F0 H value te/\
    BDY (t (AC_ (fun Γ=>te Γ A4h av) WG) (gJ N AFk) av))):
  A4P vo:=by
 show yn;show AHu
 ·obtain⟨x,dx,rest,F,ds,Pd,Ex,e,_,_,_,_,_,_,rs,hs,_⟩:=hq1;show Aqc e AdJ
 obtain⟨a,dx,rest,F0,ds,Pd,Ex,ev,hx,hdx,hne,sF,fx,fdx,rs,hsp,hQ,hE⟩:=hq2;subst ev;obtain⟨hsw,t,te,ht,hte,hq⟩:=AdR;show AHq (by
  show A8 ABU AAn;show ABV;show AHl xr z1 z;exact AHt)
 rw[hbd];show Yf (ZQ (ht _ _ cx) (ZR (z97 (rR (i:=0) hN Ph) Aww hsw)));refine⟨F0,gJ N AFk,_,RV sF (tR FH rs),BGK,⟨fun Γ F' H' σ R' s' q=> ?_,li,li,li,li,Abx,Ad0⟩⟩
 refine⟨F',Γ,_,R',q,fun d Γ1 F1 H1 v R1 s1 rv hp=> ?_⟩;obtain⟨h0,hp⟩:=hp;show On eo ro A2Z;show NR rfl ru ro;subst ru;exact⟨AR,eo,a,C,dx,[],rfl,ATl hx,hc,hn,AS,hQ d F1 _ H1 v R1.gr rv hp rfl⟩
#where
section
variable{X:Cx}{F0 H0:Hp}{e:Expr}{es:A2}{pos p:Pos}{x fl:Str}{C f:Addr}{fd:FuncData}{ps:Α}{k:Nat}{sp:dI}{t:cL}
theorem yi5(M:Mk X.K C f)(Fn:A_Y vo)(hr:AAh)(hg:HE)(hm:ASM)(hb:AEU)
  (ha:LJ) (hdb:AT x "__debug__":=by decide) (WS):
  BDm:=by
 rintro z E cx pins s σ H Q I ⟨F,Γ,P,R,h,kk⟩;show APT;refine W.callWith_K (h₀:=X.base) I.ok.mod.GC M.kp (ACt (ASw (ASa (.obj C [fl] [d])))) he hpl;show Alb;show AL8;have I2:=Inv.made (C:=C) I1;have n1:H1 (NC)=none:=AWo;have n2:lS s1.heap.objs.size:=AWn;have ne:AyW:=AZe;have kp:At8 (ADm AKx Au4):=Fc AL0;show AoT ABG (Amj n1 n2)
 have f1:F1 (NC)=none:=by
  cases q:F1 (NC) with
  | none=>rfl
  | some o=>show AqI
 have f2:F1 s1.heap.objs.size=none:=by
  cases q:BLY F1 with
  | none=>rfl
  | some o=>show Cc (R1.g _ _ q) n2 n2
 have hs:vo X.K C fl sp A1k ABG AxK (AoW (∃x F',E Γ1 x/\Gr F1 H1 F' H' /\BK X.K F' H1 H' C' Mu x)):=by
  refine⟨b_,s1.heap.objs.size,vs,F1,ds,_,_,rfl,gG,AkI,ne,Aji,f1,f2,rs,q,?_,BDT⟩
  rintro d F' H' H3 v gr rv hp rfl;show CD rfl;have g1:F' (NC)=none:=by
   cases q:F' (NC) with
   | none=>rfl
   | some o=>
    show A5k (gr.n _ _ q f1)
  have g2:F' s1.heap.objs.size=none:=by
   cases q:BLY F' with
   | none=>rfl
   | some o=>
    show Ġ (gr.n _ _ q f2) z e' z
    ·rw[bC ne,gG] at z;cases z
    ·rw[bC ne,gG] at z;cases z;cases e'
  have abt:H3 s1.heap.objs.size=some AcB:=gr.h _ _ (l_ (bC ne) gG)
  have wH:Gr F1 H1 BAV (AcN H3 [(fl,v)]):=by
   show B5 ANZ ANZ ANZ AFo
   ·rw[i5 f1,i5 f2];exact gr.f _ _ e
   ·show qf b_
    ·subst hb;rw[gG] at e⊢;exact e
    ·rw[ZI] at e⊢;show An0
     ·subst hb2;rw[gG] at e;cases e;exact abt
     ·rw[AUz] at e;exact gr.g _ _ e
   ·show wo n1 (AI5 gr.h sH)
   ·show qf b_
    ·subst hb;exact .inl n1
    ·rw[ZI] at e;show An0
     ·subst hb2;exact .inl n2
     ·rw[AUz] at e;have:=gr.n _ _ e n;unfold u9 at this⊢;show TZ ZI AUz;exact this
  refine kk _ Γ1 _ _ _ (R1.grow wH) (sF.trans wH.f) ?_ hp;have s2:Same F' BAV:=Fc (Amj g1 g2)
  exact⟨b_,s1.heap.objs.size,[v],rfl,gG,rfl,tR (rv.up s2) FH⟩
 show AJc AFy (by
  have e:=AJb;show Aqd AeT e)
 have hbs:=hb (AKT (AKx (W.instObj C s1.heap.objs.size))) AFy I2.kIn AZQ
 show o_;show BIn;show ATs (Fn.run _ X.stack _ _ (ALx AcZ) AFy _ _ _ AWw Ajh hbs A4H hs) (AIz hq');cases r with
 | error e=>
  refine AYe I1 R1 (ArU ?_);have u1:Un g9 [] H1 AIm s1.heap AY_:=Un.laid AG5 D3 n2;have u2:Un g9 [] AIm ABG AY_ BBd:=Un.laid AG5 AqH (B' (Ċ ne) n1)
  exact u1.trans u2
 | ok Wj =>
  cases Wj with
  | ret u=>
   obtain⟨v,H',I3,rv,ev,q3⟩:=I2.after hq';subst ev;exact⟨rv,A_m⟩
  | next=>show oB
  | brk=>show oB
  | cont=>show oB
#where
structure DR (Abu) (base:Heap) (C:Addr) (m:Str) (k:Nat) (ps:Α) (sp:dI):Prop where
 ex:BCG (AJ8 nZ)
structure Mk2 (BAc dI):Prop where
 ex:∃f fd,A4O vo/\Mk K C f/\Aeg/\tq
def Wk(A6L):cD:=BHY PH (¬(AQH 0 l=0/\Ac9 u=xs.length)/\P (.tup A8j) Γ3)
section
variable{X:Cx}{F0 H0:Hp}{e o:Expr}{lo hi:ALU}{es:A2}{pos p p2 apos:Pos}{x m fl:Str}{C:Addr}{ps:Α}{k:Nat}{sp:dI}{te:cD}{tl th:Kw}{t:cL}
theorem SJ(G:AqS DR)(hc:vS)(hr:si)(ho:AMP)(ha:LJ)
  (hst:starEach DF X.env=EG (A7 e) (EF es):=by rfl) (hpl:AIA:=by rfl)
  (ht:eval AJQ X.env=(do
   let ov<- A7 o
   AAX
   let (f,first)<- ABJ m pl
   ABQ (AAy DF) AHg):=by rfl):Abr tV:=by
 obtain⟨f,fd,h1,h2,h3⟩:=G.ex;exact yho hc h2 h1 hr h3 ho ha hst hpl ht
theorem z1u(G:A'2 Mk2)(hr:AAh)(hg:HE)(ha:LJ)(hdb:AT x "__debug__":=by decide)(WS):
  BDm:=by
 obtain⟨f,fd,h1,h2,h3,h4⟩:=G.ex;exact yi5 h2 h1 hr hg h3 h4 ha hdb he hpl
theorem z4i(BHF):AWD e As1 (Wk te tl th):=fun z E cx=>
 oK (BBQ yj6) (DM σ H Q Ci P Ci (BIK (BGy (by
  cases d with
  | tup xs=>
   have r3:=r1.up (s2.trans s3);show EN a vs hq rs r3;have hlen:=jH rs;refine⟨a,vs,rfl,uz R3.g hq,BF hlen h3.1,SH⟩
   have gr:=Gr.laid (o:=HO.tup (yD vs l u)) R3.g hp;refine k _ Γ3 _ _ _ At2 (ABa (AZA gr.f)) ?_ h3.2;exact ZE p xF ((z0t rs l u).up gr.f)
  | _=>show IG h3))))
#where
mutual
def qX:Ő
 | nL=>False
 | wb=>False
 | Ŗ=>False
 | Ŭ=>False
 | AFf=>False
 | PH=>ju xs
 | .obj _ fs xs=>Er fs=false/\ju xs
 | _=>True
def ju:VU
 | []=>True
 | SB=>qX d/\ADY
end
section
variable{K:W.Frag}{F F' :Hp}{A:ATe}
mutual
theorem yhc(hA:P_ F (LD u\/FF F')):BIM
 | AE,_,_,h=>Hm
 | P8,_,_,h=>Hm
 | RO,_,_,h=>Hm
 | R_,_,_,h=>Hm
 | wc,_,_,h=>Hm
 | Š,_,n,h=>by
  show AaM;refine⟨a,vs,h0,?_,zkh hA ds vs n h2⟩;show ATA h1 h1 h1 h1
  ·show IY AG_
   ·exact z.tup.elim
   ·show CB (D9 z)
  ·show IY AG_
   ·exact z.frz.elim
   ·show CB (DH (N0 z))
  ·show CU h1
 | AVH,_,n,h=>by
  show Amz;refine⟨a,dx,vs,h0,?_,h3,zkh hA ds vs n.2 h4⟩;show IY AG_
  ·have:=z.ins;show TZ (z10 h3) n.1;show EV
  ·exact z
 | nL,_,n,_=>Ya
 | wb,_,n,_=>Ya
 | Ŗ,_,n,_=>Ya
 | Ŭ,_,n,_=>Ya
 | AFf,_,n,_=>Ya
theorem zkh(hA:P_ F (LD u\/FF F')):BIN
 | [],_,_,h=>Hm
 | SB,_,n,h=>by
  obtain⟨v,r,h0,h1,h2⟩:=h;exact⟨v,r,h0,yhc hA d v n.1 h1,zkh hA ds r n.2 h2⟩
end
#where
theorem z1b(BAZ):∀{ds:Δ} {vs:Η} (j:Nat),Fm ->Iq (ds.set j d) (vs.set j v)
 | [],vs,j,r=>AgZ
 | x::ds,vs,j,r=>by
  show Qr u r1 r2 r;cases j with
  | zero=>exact tR h r2
  | succ j=>exact tR r1 (z1b h j r2)
def Pj(i:Nat)(ti te:cD):aG:=AXG ((∃xs,AJJ AKe)/\lr ti k (AM_ k Γ2[i]? wT (some AKe) (∃j,A5U/\D.nx (Γ2.set i (.ow (xs.set j d))))))
section
variable{X:Cx}{F0 H0:Hp}{x:Str}{pos pos' npos:Pos}{e k:Expr}{i:Nat}{te ti:cD}
theorem yfb(hN:EC)(hv:Id)(hk:Bz k ti)(he:MR)(hd:AT x "__debug__":=by decide)(hcd:AT x "__classdict__":=by decide)
  (ha:∀v,assign A1q X.env v=(do
   let ov<- Aac [v] HU
   let iv<- Aac [v,ov] k
   standAt pos'
   BDJ
   A1j):=by show MW)
  (hs:AFq AXr e:=by rfl) (hw:AaW AXr:=by rfl)
  (h1:AAw AXr (·.2)= [ALc A1q]:=by rfl):
  kQ AXr e (Pj i ti te):=fun z E cx=>
 rY (BCt (A6 ykf UQ Agm yba ha) h1) fun Dn σ H hq1=>by obtain⟨F,Γ,D2,R,h,kk⟩:=hq1;exact Tu (by
  obtain⟨⟨xs,e0⟩,h2⟩:=h1;obtain⟨o,e1,a,vs,rfl,g1,g2,g3,r⟩:=ANM;refine⟨AR,e1,F1,Γ1,_,R1,h2,fun k Γ2 F2 H2 kv R2 s2 rk q=> ?_⟩;show YA
  ·rename_i k' xs' e2;show Oy j hj q;obtain⟨o,e3,a',ws,rfl,w1,w2,w3,tQ⟩:=Azx;rw[e1] at e3;cases e3;subst rk;have hl:=jH tQ;refine⟨a,ws,k',j,rfl,rfl,w1,BF hl hj,?_⟩
   exact kk.nx _ _ _ _ (R2.wr e2 e1 (z1b (r1.up s2) j tQ)) P7 q
  ·exact q.elim)
#where
section
variable(K:W.Frag)(F0 H0:Hp)
inductive UpR (t:cD) (E:XW) (σ:St) (H:Hp) (Q:VK):Prop
 | mk:BD' A5n UpR
def upR(t:cD)(E:XW):TE:=xz UpR
inductive Wl (t:cL) (E:XW) (σ:St) (H:Hp) (Q:AFP):Prop
 | mk:BEG (aK K (jL F0 F') ds vs) Wl
def abu(t:cL)(E:XW):TA:=xz Wl
#where
def QR(X:Cx)(F0 H0:Hp)(e:Expr)(t:cD):Prop:=ANh upR
def QRA(A5N):Prop:=kq PA es abu
section
variable{X:Cx}{F0 H0:Hp}{e:Expr}{es:A2}{pos:Pos}{te:cD}
theorem z8w(BK')(h0:GU F0)(h:Ae5):mX K (jL F0 F) a vs:=by
 have e:jL F0 F a=F a:=zqa (FE q (AVr h0))
 show Pf h
 ·left;unfold Rd at h⊢;rw[e];exact h
 ·show CU h
def Wm(t:cL):cD:=PP (ADY/\D5 ACp)
#where
section
variable{X:Cx}{F0 H0:Hp}{e:Expr}{es:A2}{pos p:Pos}{x:Str}{f:Addr}{fd:FuncData}{ps:Α}{k:Nat}{sp:dI}{t:cL}{te:cD}
def Hu(Z'):cD:=fun Γ P _=>te AKq (Nn d (P d Γ)) lK
#where
def Wn{α:Type}(lt:eD):Akq ->α
 | .ret a=>a
 | AbV=>Wn lt (k AU8)
def SM(x_)(lt:eD)(n:Nat):Akq ->Bool
 | .ret _=>true
 | AbV=>Μ (i<n)&&(Μ (j<n)&&(Μ ye&&SM lt n (k AU8)))
theorem ye6(hc:∀i j (C:D6 Bool),Ω (i<n) (j<n) ye (C AU8 s) (cmp i j C s)):
  ∀(t:Akq) (Q:D6 α),SM lt n t=true ->Q (Wn lt t) s ->t.kasWp cmp Q s
 | .ret _,_,_,h=>h
 | AbV,Q,ok,h=>by
  unfold SM at ok;show Ale ok;exact hc i j _ ok.1 ok.2.1 ok.2.2.1 (ye6 hc BBc Q ok.2.2.2 h)
section
variable{prog:Program}{w:World}{A:Around}{E:dW}{s:Shared}
theorem z7q{vs:Ο}{p:XN}(hp:AH7 p.size):AH7 (List.toArray (p.toList.map fun i=>vs.getD i Value.none)).size:=BG hp
#where
theorem zvy(h:RA):A4w uu (Vals (Ap5 xs.getD) (is.map (CO (us.getD i Value.none))))
 | [],_=> CC
 | i::is,k=>by
  have hi:=k i zY;show AGa (h.get (zZ hi));refine .cons ?_ (zvy h A0Y);show RelV (xs.getD i AE) (us.getD i Value.none);show AxR hu;exact ru
theorem zve{K:W.Frag}{F:Hp}{ds:Δ}{vs:Η}(h:Fm):A4w (i<ds.length) (Iq (Ap5 ds.getD) (Ap5 vs.getD))
 | [],_=>BG aK
 | i::is,k=>by
  have hi:=k i zY;show Sc hv rv (xG h (zZ hi));refine tR ?_ (zve h A0Y);show Rep K F (ds.getD i AE) (vs.getD i AE);show AxR hv;exact rv
def Hv(xs:At):Prop:=AS1 xs.Pairwise
theorem Wo(h:Hv xs)(hij:i<j)(hj:ALp):xs[i]'(Nat.lt_trans hij hj)<xs[j]:=List.pairwise_iff_getElem.mp h i j _ hj hij
structure Bel (xs:At) (j b:Nat):Prop where
 le:b<=xs.length
 lo:AwX (k<b) (xs[k]<j)
 hi:AwX (b<=k) (j<=xs[k])
theorem zu4(hr:AWd):∀(f lo hi:Nat),lo<=hi ->EJ (hi<=xs.toList.length) (hi - lo<=f) (AwY (k<lo) (Auv<j)) (AwY (hi<=k) (j<=Auv)) (Bel xs.toList j (SetTable.below.go xs j f lo hi))
 | 0,lo,hi,h1,h2,h3,h4,h5=>by
  show Nl lo hi
  exact⟨h2,h4,h5⟩
 | f+1,lo,hi,h1,h2,h3,h4,h5=>by
  unfold SetTable.below.go;by_cases hl:lo<hi
  ·show Db hl;have hm1:lo<=ai:=ω
   have hm2:ai<hi:=ω
   have hm:ai<xs.toList.length:=ω
   have hg:xs.getD (ai) j=xs.toList[ai]:=by
    have:ai<xs.size:=As hm
    simp [Array.getD,this]
   dsimp only;rw[hg];by_cases hc:xs.toList[ai]<j
   ·show Db hc;refine zu4 hr f _ hi χ h2 χ (Ν k hk hlt) h5
    show GG k ai
    ·show N1 hc
    ·exact Nat.lt_trans (Wo hr (ω:k< ai) hm) hc
   ·show Ap hc;refine zu4 hr f lo _ χ χ χ h4 Axm
    show GG k ai
    ·subst e;omega
    ·have:=Wo hr (ω:ai<k) hk
     omega
  ·show Ap hl;show Nl lo hi
   exact⟨h2,h4,h5⟩
theorem zz4(hr:AWd)(j:Nat):Bel xs.toList j A0n:=CI (zu4 hr _ 0 _ fI Χ χ (fun k _ h=>ω) fun k hk h=>by simp at hk;omega)
theorem yj7(h:Bel xs j b)(k:Bel xs j c):b=c:=by
 rcases Nat.lt_trichotomy b c with q | q | q
 ·have hb:b<xs.length:=zM q k.le;have:=k.lo b hb q;have:=h.hi b hb (zN _);omega
 ·exact q
 ·have hc:c<xs.length:=zM q h.le;have:=h.lo c hc q;have:=k.hi c hc (zN _);omega
theorem ygv(hr:AWd)(hn:xs[A0Q]?≠some j):Hv (SetTable.insertAt xs A0n j).toList:=by
 rw[SetTable.toList_insertAt];have hb:=zz4 hr j;generalize A0Q=b at*;have hn' :∀(h:b<xs.toList.length),xs.toList[b]≠j:=fun h e=>hn (by rw[<- Array.getElem?_toList,YN,e])
 unfold Hv;show Af0;show fN hr.take (ER a ha c hc)
 ·rw[List.pairwise_cons];show A8 AnZ hr.drop;show xC k hk hc;rw[List.length_drop] at hk;rw[List.getElem_drop];have h1:=hb.hi (b+k) χ χ
  show GG k 0
  ·subst e;have:=hn' χ
   omega
  ·have:=Wo hr (ω:b<b+k) χ
   have:=hb.hi b χ (zN _)
   omega
 ·show xC k hk ha;rw[List.length_take] at hk;rw[List.getElem_take];have h1:=hb.lo k χ χ
  show P6 hc hc
  ·exact h1
  ·show xC m hm hc;rw[List.length_drop] at hm;rw[List.getElem_drop];have:=hb.hi (b+m) χ χ
   omega
theorem z34(hr:AWd)(hi:i<=xs.toList.length):SetTable.below xs (ATB (0<i) (xs.toList[i - 1]' χ+1) 0)=i:=by
 refine yj7 (zz4 hr _) ⟨hi,Ν k hk hlt,Axm⟩
 ·rw[dif_pos χ]
  show GG k (i - 1)
  ·show N1 ATg
  ·have:=Wo hr (ω:k<i - 1) χ
   omega
 ·split
  ·rename_i h0;have:=Wo hr (ω:i - 1<k) hk
   omega
  ·exact EX
structure Fb (led:Bool) (t:SetTable):Prop where
 ris:Auk
 dum:Aks
 led:t.led=led
theorem z47:Fb led (.fresh 0 0 led):=JO (QY SetTable.fresh Hv) rfl
theorem z7c(n:Nat):Hv (Array.range n).toList:=Θ Array.toList_range List.pairwise_lt_range
theorem zgh(h:AM')(n:Nat):Fb led (t.standIn n):=JO (z7c n) h.led
theorem z90(h:AM'):Fb led {t with plain:=false}:=⟨h.ris,h.dum,h.led⟩
theorem z5d(j:Nat):SetTable.has #[] j=false:=BG SetTable.has
theorem zr5{t:SetTable}(hd:Aks){j:Nat}:(A4g ->t.place[SetTable.below t.place j]?≠some j)/\t.slot j≠ .dummy:=by
 unfold SetTable.slot;rw[hd,z5d];dsimp only;split
 ·exact⟨Agd,Agd⟩
 ·show G1;exact⟨CY (B9 q),Agd⟩
theorem z0o{t:SetTable}(hd:Aks){ha:fT}{h:Int}:∀(f:Nat) (p:SetTable.Probe) {j:Nat} {dm:F6 Nat},p.dummy=none ->SetTable.probe.go t ha h f p=some (.empty j dm) ->dm=none/\A4g
 | 0,p,j,dm,_,e=>ALJ
 | f+1,p,j,dm,hp,e=>by
  have adv:(t.advance p).dummy=none:=by
   unfold SetTable.advance;split<;>exact hp
  show MS SetTable.probe.go;split at e
  ·show G1;cases e;exact⟨hp,q⟩
  ·show G1;exact M1 q (zr5 hd).2
  ·rename_i i q;split at e
   ·cases e
   ·exact z0o hd f _ adv e
theorem yjc{led:Bool}{t:SetTable}(h:AM')(es:pb)(k:Int)(x:Value):Fb led (layNew t es k x).2.1:=by
 unfold layNew;split
 ·rename_i slot wd q;unfold SetTable.freeSlot at q;show YA
  ·rename_i j dm e;cases (q);show X_ hs (z0o h.dum _ _ rfl e);have hn:=(zr5 h.dum).1 hs;dsimp only [Option.getD_none];have hp:Fb led (t.put j).1:=⟨ygv h.ris hn,by show(AI (SetTable.has t.dummies j=true) _ t.dummies)= #[];rw[h.dum,z5d];rfl,h.led⟩
   unfold SetTable.orStandIn;split
   ·exact hp
   ·exact zgh hp _
  ·cases q
 ·exact zgh h _
theorem z94(h:AM')(es:pb)(n:Nat):Fb led (relayAll t es n).2.1:=by
 unfold relayAll;split
 ·rename_i t' order q;dsimp only;split
  ·unfold SetTable.relaid SetTable.laid at q;cases e:SetTable.layClean (SetTable.sizeAbove n - 1) (es.map (·.1)) with
   | none=>rw[e] at q;cases q
   | some owner=>
    rw[e] at q;cases (q);show nN ?_ h.led;have sub:∀l:At,((l.filterMap fun j=>(owner.getD j none).map (j, ·)).map (·.1)).Sublist l:=by
     intro l;induction l with
     | nil=>exact List.Sublist.refl _
     | cons a r ih=>
      rw[List.filterMap_cons];cases owner.getD a none with
      | none=>exact ih.cons _
      | some v=>exact ih.cons₂ _
    exact List.Pairwise.sublist (sub _) List.pairwise_lt_range
  ·exact zgh h _
 ·exact zgh h _
section
variable{prog:Program}{w:World}{κ:Type}[k9](knd:ze)(kf:xw)
structure qm (led:Bool) (o:Obj) (ks:YE) (es:pb) (ep:Nat) (t:SetTable):Prop where
 ex:o.ExactSet
 dat:BDK
 el:AY9 es.toList
 fit:t.fits es.size=true
 tok:AM'
 key:(es.toList.map Ai5).Perm ks
def uJ(led:Bool)(h:Heap)(a:Addr)(ks:YE):Prop:=∃o es ep t,oS/\x6
def sI(ks:YE)(k:κ):YE:=AS2 AXM ks ks k
variable{knd kf}(hkf:Apt)
include hkf
theorem yfl(el:AY9 es):k∈IL es.map e (kf e.2)↔∃e∈es,knd.is k e.2=true:=by
 rw[List.mem_map];constructor
 ·show AEj e he;obtain⟨⟨k',hk',_⟩,_⟩:=el e he;exact⟨e,he,Θ (hkf k' _ hk') hk'⟩
 ·rintro⟨e,he,hk⟩;exact⟨e,he,hkf k _ hk⟩
variable{A:Around}{E:dW}{s:Shared}{a:Addr}{ks:YE}{led:Bool}
theorem z6j{h:Heap}{o:Obj}{es:pb}{ep:Nat}{t:SetTable}(hg:oS)(hd:BDK)(es' :pb)(t' :SetTable):
  Cl (h.update a (Obj.putSet es' t')).get? BCs:=by
 have z:=Heap.get?_update_self (Obj.putSet es' t') hg (FB BBJ)
 rwa [BBJ] at z
omit hkf in
theorem qm.put(S:x6)(el:AY9 es'.toList)(fit:t'.fits es'.size=true)(tok:Fb led t')(key:(es'.toList.map Ai5).Perm ks'):
  qm knd kf led BCs ks' es' (ep+1) t' :=⟨S.ex,rfl,el,fit,tok,key⟩
theorem yle{k:κ}{x:Value}{Q:D6 Bool}(hx:knd.is k x=true)(hsc:x.scannable=true)(S:AbF s.heap ks)(hb:AMG ks.length)
  (h:∀b h',AZn h' ->AbF h' (sI ks k) ->Q b Lu):Ff (setAddHashed a x AFa):=by
 obtain⟨o,es,ep,t,hg,S⟩:=S;have hsz:es.size=ks.length:=lf S.key.length_eq this
 have hmem:=yfl hkf S.el (k:=k);refine ARB [x] (DE (setState a) (wpAny_setState_of hg S.dat S.fit ?_));dsimp only;rw[byScan_of hsc (ω:es.size<scanBound) S.el]
 show D' (NU rule) (wpAny_rule (DE (setScan a x _ _ _) (wpAny_setScan_of hx hg S.dat S.fit S.el ?_)));cases hr:List.findIdx? (Τ e (knd.is k e.2)) es.toList with
 | some j=>
  obtain⟨hj,hpj,_⟩:=List.findIdx?_eq_some_iff_getElem.mp hr;have hk:AXM:=S.key.mem_iff.mp (hmem.mpr (B1 (yU hj) hpj));refine BV (BV ?_);have z:=h false s.heap (Heap.SameBut.refl a s.heap) ⟨o,es,ep,t,hg,by unfold sI;show AFN;exact S⟩
  exact z
 | none=>
  show gN hk (k∉ks) (by
   obtain⟨e,he,hp⟩:=hmem.mp (S.key.mem_iff.mpr q);have:=List.findIdx?_eq_none_iff.mp hr e he;show BC hp;show EV)
  have hperm:=layNew_perm t es AFa x;have hfits:=layNew_fits t es AFa x;have Ky:=yjc S.tok es AFa x;generalize layNew t es AFa x=lay at hperm hfits Ky⊢;obtain⟨es1,t1,wd,gave⟩:=lay;rw[Array.toList_push] at hperm;have el1:AY9 es1.toList:=(S.el.push hx hsc).perm hperm;have key1:(es1.toList.map Ai5).Perm (sI ks k):=by
   unfold sI;show Ap hk;refine AMe hperm.map ?_;show AS4;refine List.Perm.append S.key ?_;show [kf x].Perm [k];rw[hkf k x hx]
  have sz1:es1.size=es.size+1:=lf hperm.length_eq this
  have Wq:BH es1.size:=fits_of_scanBound χ
  have gw:∀(b:Bool) {s₁:Shared} {Q' :AME},Q' () s₁ ->AKf (A_d b) Q':=
   fun b s₁ Q' q=>by
    cases b with
    | true=>exact wpAny_rule q
    | false=>exact BV q
  have tail:∀t2:SetTable,t2.fits es1.size=true ->Fb led t2 ->AJK (do
    AVE es1 t2
    if NS (! wd) t2.tooFull then do
      (A_d Arw.2.2)
      AVE Arw.1 Arw.2.1
      A1x
     else A1x) (ACW (ò (AN' r added (pure added) (setAddHashedIn a x AFa 99999)) s')):=by
   intro t2 f2 k2;refine DE (AVE es1 t2) (wpAny_storeSet_of hg S.dat ?_ Wq);have g1:=z6j (hkf:=hkf) hg S.dat es1 t2;have S1:=S.put (ks' :=sI ks k) el1 f2 k2 key1;have sb1:=Heap.SameBut.update s.heap a (Obj.putSet es1 t2);split
   ·have hp2:=Aaq relayAll_perm t2;have hf2:=Aaq relayAll_fits t2;have ht2:=Aaq z94 k2;generalize Aaq relayAll t2=rl at hp2 hf2 ht2⊢;obtain⟨es2,t3,gave2⟩:=rl;have sz2:es2.size=es1.size:=lf hp2.length_eq this
    show Hn gw gave2;refine DE (AVE es2 t3) (wpAny_storeSet_of g1 rfl ?_ χ)
    have S2:=S1.put (ks' :=sI ks k) (el1.perm hp2) hf2 ht2 (AMe hp2.map key1);refine BV (BV ?_);exact h true _ (BKX sb1.trans a) (ApF (z6j (hkf:=hkf) g1 rfl es2 t3) S2)
   ·exact BV (BV (h true _ sb1 (ApF g1 S1)))
  show Hn gw gave;split
  ·show KB;rw[hashByValue_scannable 8 hsc];show Ś;refine tail _ ?_ ?_
   ·split
    ·exact hfits
    ·exact SetTable.fits_plain_off hfits
   ·split
    ·exact Ky
    ·exact z90 Ky
  ·show JJ BV;exact tail _ hfits Ky
#where
abbrev mJ(AOk):Bool:= !(w.params.followText "set-order")
abbrev Kz(AOk):Obj:={cls:= ATi,dict:=none,data:= .set #[] 0 Ax2}
def lN{κ:Type}(Aao):GT YE
 | 0=> []
 | BM=>A8R
theorem zuz (Aao):∀i,LL lN val i<=i
 | 0=>GL
 | BM=>by
  have ih:=zuz val i;show LL sI ASR (val i)<=BM;unfold sI;split
  ·omega
  ·show AyT;omega
theorem zol (Aao):∀{i},k∈lN val i↔∃j,j<i/\val j=k
 | 0=>BG lN
 | BM=>by
  have ih:=zol val (k:=k) (i:=i);have e:k∈lN val Bi↔k∈lN val i\/k=val i:=by
   show k∈A8R↔_;unfold sI;split
   ·show G1;constructor
    ·exact .inl
    ·rintro(z | rfl)
     ·exact z
     ·exact q
   ·show A0a
  rw[e,ih];constructor
  ·rintro(⟨j,hj,rfl⟩ | rfl)
   ·exact Hc j ω
   ·exact Hc i ω
  ·show AEj j hj;by_cases q:j=i
   ·subst q;exact .inr rfl
   ·show CB (Hc j ω)
theorem zm5 (Aao):∀i,(lN val i).Nodup
 | 0=>List.nodup_nil
 | BM=>by
  have ih:=zm5 val i;show(sI ASR (val i)).Nodup;unfold sI;split
  ·exact ih
  ·show G1;rw[List.nodup_append];show DD ih AV A5q
   rw[List.mem_singleton] at hb;subst hb;exact fE q ha
theorem yc4{prog:Program}{w:World}{κ:Type}[k9]{knd:ze}{kf:xw}:qm knd kf uS AFj [] #[] 0 Ax2:=
 ⟨JO rfl rfl,rfl,fun e he=>(ABs he),JP,z47,AV⟩
section
variable{prog:Program}{w:World}{κ:Type}[k9]{knd:ze}{kf:xw}(hkf:Apt)
theorem uJ.stay(S:AbF h ks)(e:∀o,oS ->la h'.get?):AbF h' ks:=by
 obtain⟨o,es,ep,t,hg,S⟩:=S;exact⟨o,es,ep,t,e o hg,S⟩
include hkf
theorem yai{A:Around}{R:Aha}{I:Addr}{fp wr:AO}{G:BN fg fg}{n:Nat}{P:AIb Value}{St:D6 Nat}
  (W:WalksS prog w A.in1 I fp wr G n P St) {S:Addr} (hS:S∉fp) {val:GT κ} (hv:BGD (P i v)) (hb:AMG n) {led:Bool}:
  ∀(j i:Nat) (s:Shared),EJ (i+j=n) (St i s) (uJ knd kf led s.heap S ASR) (∀s',Moved (S::wr) G s s' ->uJ knd kf led s'.heap S (lN val n) ->Adn Φ s') (Axc "set.update.loop" (GV [.ref S,.ref I]) R):=by
 show gN hw (S∉wr) (hS (W.sub _ q));show B3 grow b wr (b∈S::wr) b q (zW _ q);intro j;induction j with
 | zero=>
  intro i s hij st hs hR;show Nl i n
  show Awz;show Aus;refine DE (pyNext lP) (W.done s _ _ st (AJ s' hm));exact BV (hR s' (hm.mono grow) (hs.stay BGP))
 | succ j ih=>
  intro i s hij st hs hR;show Awz;show Aus;refine DE (pyNext lP) (W.item i s _ _ χ st (De v s1 hP st1 hm))
  obtain⟨hk,hc⟩:=hv i v hP;have hs1:=hs.stay (h' :=s1.heap) BGP;show VX (holding [v] (setAdd S v)) (ARB [v]);refine ARB [v] (DE (pyHash v) (knd.pyHash hk ?_));refine yle hkf (s:={s1 with toks:=s1.toks+1}) hk hc hs1 (by have:=zuz val i;omega) (ER _ h2 sb S2)
  refine BV ⟨ADu PyProof.Rows.F.plain_set_update_loop,ih Bi _ χ (W.frame _ s1 h2 _ st1 BMF fun b hb o e=> ?_) S2 (Ν s3 hm3 S3)⟩
  ·exact Ev sb.2 b (fE hS hb) e
  ·refine hR s3 (Moved.trans W.gtrans ((hm.mono grow).then_heap BMF (tI hb e)) hm3) S3;exact Ev sb.2 b (fE hb zY) e
#where
section
variable{prog:Program}{w:World}{A:Around}{E:dW}{s:Shared}
theorem zxq(v:Value)(h:Q₁ d_ Aqp):
  ĭ Ee A (LZ "set.__new__") (GV [ATi,v]) (wants Q₁ E) s:=by
 refine codeAny_of_tree ?_;show wpAny _ A.in1 (checkBuiltinCall "set.__new__" (GV [ATi,v])>>=CY (again (.builtin "set.__new__" (GV [ATi,v])))) _ _ s;refine z6 (wpAny_of_eq (PySem.F.newCall_set_1 v) (BV ⟨ADu PySem.F.plain_set_new,codeAny_builtin PySem.F.entry_set_new ?_⟩));rw[AJP PySem.F.plain_set_new];unfold Builtin.«set.__new__» Builtin.Frozenset.newClass;have hsub:=sub_set_self;show UX s
 wp_walk
 refine wpAny_askSetting (BV ?_);exact z6 (wpAny_alloc A7V)
#where
section
variable{prog:Program}{w:World}{κ:Type}[k9]{knd:ze}{kf:xw}(hkf:Apt){A:Around}{E:dW}{s:Shared}
include hkf
set_option maxHeartbeats 3200000 in
theorem zov{l:Addr}{items:ES}{val:GT κ}{Q:dW}(hh:Ic)(hl:AU6 items)(hv:BGD (Ô items))(hb:AMG items.size)
  (h:∀(h' :Heap) (tk:Nat),BEt ->(AlB) ->AQp S_):
  Anq "set" [LG]:=by
 obtain⟨c,tl,hmro⟩:=PySem.F.called_set.mro;have hmade:=PySem.F.called_set.made;have hsub:=PySem.F.called_set.sub;show AwD;show eP (callAny (Kb "set") _);show BKy (Code.quiet_builtin _ L') PySem.F.entry_type_call
 rw[Around.under_plain (weight_type_call_type "set" [LG] []) rfl];have q1:=PySem.F.called_set.notType;have q2:=PySem.F.called_set.canCreate;have q3:=PySem.F.typeCall_set_1 ATJ
 show Aqa
 refine codeAny_mono (zxq (AH l) (E:=E) (Q₁:=BAt Aqp) dr) (Ν r s₁ hr);cases r with
 | error e=>exact hr
 | ok fl=>
  cases fl with
  | ret obj=>
   show bS rfl hr;show ArW AFj AFj;have hT:Alh Aqp d_ :=HR hS;have q4:=PySem.F.called_set.init.lookup;have q5:=PySem.F.called_set.init.bind d_
   show Aqa
   show ATs (codeAny_call_builtin (R:=wants (VI s₂ (r= Φ/\∃h' tk,s₂=S_/\BEt/\
     AlB)) E) PySem.F.called_set.init.plain PySem.F.entry_set_init (check_set_init_1 hT ?_)) (Ν r₂ s₂ hr₂)
   ·obtain⟨ol,hol,hcl,nl,hdl⟩:=hl;obtain⟨oc,od,ot,os⟩:=ol;simp only at hcl hdl;subst hcl;subst hdl;show RC hol' s.heap.push AFj l (AIr od (.seq items nl) os) (z8 _ hol);have q6:=PySem.F.sub_list_set;have q7:=PySem.F.sub_list_frozenset;show aI q8 (Value.type "list") (Value.type "dict") AS
    have hl1:Ac0 AFj IsList l items:=JA _ hol' nl rfl;unfold Builtin.«set.__init__» noKeywords Builtin.Frozenset.updateFrom;generalize hPI:pyIter=PI
    wp_walk
    subst hPI;refine wpAny_pyIter_list hl1 (z6 (wpAny_runValue ?_));have hlS:UA l:=zG hol;have hh3:A.in1.in1.in1.handled=none:=BG hh
    show ANq SN (ADN AFj) l';refine yai hkf (led:=mJ w) ((Walks.list hh3 _ l (B' SN (AXR hlS)) items).toS) (S:=s.heap.objs.size) ?_ hv hb items.size 0 _ (Nat.zero_add _)
     ⟨RU,hl1.push _⟩ (ApF (z8 _ hS) yc4) (Ν s' hm hS')
    ·rw[SN];show APi;exact⟨AZe,ALB hlS⟩
    ·show AqQ;show Aqq;show A7y;obtain rfl:os' =s.os:=hm.os;show Ś;refine BV ⟨rfl,h',tk',rfl,hS',ANZ⟩;show AYh;refine hm.heap b o ?_ (ANi e);rw[SN];show APi;exact⟨zK hlt,AXR hlt⟩
   ·cases r₂ with
    | error e=>exact hr₂
    | ok fl₂=>
     cases fl₂ with
     | ret r=>
      obtain⟨rfl,h',tk,rfl,hS',hk'⟩:=hr₂
      show Aqa
      exact h _ _ hS' hk'
     | _=>exact hr₂.elim
  | _=>exact hr.elim
#where
theorem sJ:Awg "__next__" "set_iterator.__next__" := BI4 "__next__"
theorem yku:ASg "set_iterator.__next__" Builtin.«set_iterator.__next__»:=entryFor_of_tree (by kernel_rfl)
theorem ylk(v:Value):argsOk "set_iterator.__next__" (GV [v]):=UC
theorem yda:ASg "set.__iter__" Builtin.«frozenset.__iter__»:=BLP "frozenset.__iter__"
def BR(h:Heap)(I:Addr)(fst:Value)(i:Nat)(S:Addr)(n ep:Nat):Prop:=∃o,wy I/\o.cls= KM "set_iterator" /\o.data= cE #[fst,cz i,.ref S,cz n,cz ep]
theorem BR.ty{s:Shared}{I S:Addr}{fst:Value}{i n ep:Nat}(x:AGj s.heap):s.TypeIs lP "set_iterator" :=let ⟨o,ho,hc,_⟩:=x;ť hc
theorem BR.at(x:AGj h)(e:∀o,wy I ->sf I):AGj h':=AnD e
theorem z1n(hi:uu):(xs[i]::xs.eraseIdx i).Perm xs:=by
 rw[List.eraseIdx_eq_take_drop_succ];refine List.perm_middle.symm.trans ?_;rw[<- List.drop_eq_getElem_cons hi,List.take_append_drop]
section
variable{prog:Program}{w:World}{A:Around}{E:dW}{s:Shared}
theorem z65(hn:n≠0)(h:∀i d,i<n ->Q i AoX):Ff (choose src n):=fun Γ p _=>by
 unfold choose;rw[Sem.wp_choose];exact⟨hn,h _ _ (Nat.mod_lt _ (BLm hn))⟩
theorem zw3(n:Nat):∀(xs:A0) {s:Shared} {Q:D6 A0},xs.length=n ->(∀ys d,ys.Perm xs ->Q ys AoX) ->Ff (drawOrder n xs):=by
 induction n with
 | zero=>
  intro xs s Q hn h;have:xs= []:=List.length_eq_zero_iff.mp hn;show T';exact BV (h [] s.drawn ET)
 | succ n ih=>
  intro xs s Q hn h;cases xs with
  | nil=>cases hn
  | cons x xs=>
  refine kg choose (z65 Χ (Ν i d hi))
  show AvV;refine z6 (ih ((x::xs).eraseIdx i) ?_ fun ys d' hp=>BV (h _ d' ?_))
  ·show AvW;omega
  ·refine AMe hp.cons ?_;exact z1n hi
section
variable{S I:Addr}{fst:Value}{i n ep:Nat}{o:Obj}{es:pb}{t:SetTable}
theorem zyx(hh:Ic)(hQ:AW4 (Heap.ExtBut I h0 h'))(hk:Heap.ExtBut I h0 s.heap):
  wpAny Ee A.in1 (BK4>>=tz (raiseNew e:Sem PySem.Fin)) AIt
   (XB e (ò (do if<- isInstance e AdW then A1P else throw e) s')) s:=by
 show KB;show AW_ AEk
 show AsW
 show AX8 AEk
 show VX _ wpAny_handled;rw[show AeH by simp [hh]]
 show s0 BV (wpAny_throw (α:=_));refine kg isInstance (AsX AJw isSubtype_stop ?_);exact BV (hQ _ ((hk.push _).push _))
#where
#where
section
variable{prog:Program}{w:World}{κ:Type}[k9]{knd:ze}{kf:xw}{A:Around}{E:dW}{s:Shared}{S I:Addr}{fst:Value}{i n ep:Nat}{o:Obj}{es:pb}{t:SetTable}{led:Bool}{ks:YE}
theorem SQ(hit:AGj s.heap)(hg:ox)(O:x6)(hn:es.size=n)
  (h:wpAny Ee A.in1 (if let .int slot _:=fst then do
    match<- setNext S slot.toNat i ep with
    | some (x,next)=>
     ASd lP 0 next
     A3u
     ret x
    | none=>A5v;AyG
   else do
    let some places<- seqItems? fst | AyH
    match places[i]? with
    | some (QU place _)=>
     let x<- setNextDrawn S place.toNat ep
     A3u
     ret x
    | some _=>AyH
    | none=>ASd lP 0 0;A5v;AyG)
   (XB fin (∃r,fin= Aed r/\Q (some r) s'))
   (XB e (ò (do if<- isInstance e AdW then A1P else throw e) s')) s):
  Ż I:=by
 show K_ oi ho hc hd hit;unfold pyNext;refine DE _ (wpAny_attempt (AEV hit.ty sJ (vT sJ hit.ty yku ylk)));unfold Builtin.«set_iterator.__next__»;show AFp BMs;refine NU fieldsOf (wpAny_fieldsOf ho hd ?_);refine DE (setEntries S) (wpAny_setEntries_of hg O.dat O.fit ?_);rw[Do (AL6 hn)]
 refine wpAny_mono h (fun fin s' hz=>by obtain⟨r,hr,hq⟩:=hz;exact⟨r,hr,BV hq⟩) fun e s' he=>he
theorem zk0(h:Q (w.params.followText "set-order") s):Ff setsByText:=CI (DE ask (wpAny_askSetting (BV h)))
theorem zvq(hbt:Azg)(hg:ox)(O:AId true)(hdr:E4 APE)
  (h:Q (match es[A6_]?,t.place[A6_]? with | some (_,x),some j=>some (x,j+1) | _,_=>none) s):BBt e0:=by
 show APG;show AZl;rw[hbt,Th,Do (Ξ (by have z' :NS (! t.plain) BJb:=z;rw[hdr] at z';cases z'))]
 refine DE _ ?_;show eP (AI (NS (! t.led) (! es.isEmpty)) _ (pure PUnit.unit));rw[O.tok.led,AY Χ]
 exact BV (BV h)
theorem zww(hbt:AzF)(hg:ox)(O:x6)
  (h:Q (((pickOrder ASh es)[given]?).map (tz (e.2,slot))) s):BBt ep:=by
 show APG;show AZl;rw[hbt,B4,AY Χ]
 refine DE (setWalk S) ?_;show APG;show AZl;rw[hbt,B4];exact DE ask (wpAny_askSetting A7V)
theorem z4u(hg:ox)(O:x6)(hx:EE es p x)(h:Q x.2 s):Ff (setNextDrawn S p ep):=by
 show APG;dsimp only;rw[AY Χ,hx]
 exact BV h
theorem zxn(hg:ox)(O:x6)(h:Q (! AyF &&APE) s):Ff (setDrawn S):=by
 show APG;show AZl;exact BV h
theorem z9g(nx:OY):∀(f k:Nat) (l:A0) (out:Array α),l.length=f ->(pickOrder.go nx f k l out).toList.Perm (out.toList++l)
 | 0,k,l,out,hl=>by
  unfold pickOrder.go;rw[List.length_eq_zero_iff.mp hl];simp
 | f+1,k,l,out,hl=>by
  unfold pickOrder.go;have hi:A6x<l.length:=Nat.mod_lt _ χ
  show AvV;refine Ev (z9g nx f FI (l.eraseIdx (A6x))) _ (by show AvW;omega) ?_
  rw[Array.toList_push,List.append_assoc];exact List.Perm.append_left _ (z1n hi)
theorem zpa(nx:OY)(xs:Array α):(pickOrder nx xs).toList.Perm xs.toList:=CI (z9g nx _ 0 _ #[] Χ)
#where
theorem yeq:Awg "__iter__" "set_iterator.__iter__" := BI4 "__iter__"
theorem yke:Avj "set_iterator.__iter__":=Ax9
theorem yj5(v:Value):argsOk "set_iterator.__iter__" (GV [v]):=UC
theorem BR.Pk(x:AGj h)(v:Value):õ (h.update I (Obj.mapFields (·.setIfInBounds 0 v))) v i:=by
 obtain⟨o,ho,hc,hd⟩:=x;exact BKR (by rw[Obj.data_mapFields hd];simp)
theorem BR.Pn(x:AGj h):õ (h.update I (Obj.mapFields (·.setIfInBounds 1 (rawInt ((i:Int)+1))))) fst Bi:=by
 obtain⟨o,ho,hc,hd⟩:=x;exact AqR
section
variable{prog:Program}{w:World}{κ:Type}[k9]{knd:ze}{kf:xw}
structure Steps (prog:Program) (w:World) (A:Around) (I S:Addr) (n ep:Nat) (o:Obj) (ex:eE) (vals:Ο) (fst:GT Value):Prop where
 item:∀i (s:Shared) (Q:D6 LX) (E:dW),i<n ->EJ (õ s.heap (fst i) i) ox Aw9 (∀v h',Ô vals ->õ h' (fst Bi) Bi ->Heap.SameBut I s.heap h' ->Q (some v) Lu) (Ż I)
 done:∀(s:Shared) (Q:D6 LX) (E:dW),EJ (õ s.heap (fst n) n) ox Aw9 (AW4 (Heap.ExtBut I s.heap h')) (Ż I)
theorem z4x(T:BKV n ex vals fst)(hS:S≠I)(hX:∀p∈ex,A3≠I):
  Walks prog w A I (I::S::ex.map (·.1)) [I] n AvE (NI h (õ h (fst i) i/\wy S/\∀p∈ex,ACs h.get?)) where
 sub:=A7z
 frame:=fun i h h' st hk=>⟨BCm,hk S Χ o ATZ,WC (hk A3 (by simp only [List.mem_cons,List.mem_map];exact sw (Hc p hp)) p.2 (ATo p hp))⟩
 item:=BHk (T.item i s Q E hi st.1 ATZ ATo fun v h' hv st' sb=>hQ v h' s.toks hv ⟨st',Ev sb.2 S hS ATZ,WC ((sb.2 A3 (hX p hp)).trans (ATo p hp))⟩ (Pp hb e (Ev sb.2 b (Ξ (AP0 z)) e)))
 done:=fun s Q E st hQ=>T.done s Q E st.1 ATZ ATo fun h' eb=>hQ h' s.toks (Pp hb e (eb b o (Fs (AP0 z)) e))
 self:=fun i s Q E st hQ=>by
  refine wpAny_pyIter_slot (st.1).ty yeq (vT yeq (st.1).ty yke yj5);exact BV (BKJ (st.1).ty hQ)
variable{A:Around}{I S:Addr}{n ep:Nat}{o:Obj}{es:pb}{t:SetTable}{ks:YE}
def pL(t:SetTable)(i:Nat):Nat:=ATB (0<i/\BMy) (t.place.toList[i - 1]' χ+1) 0
theorem zqz(hr:Auk)(hi:BMy):SetTable.below t.place (pL t i)=i:=by
 have:=z34 hr hi;unfold pL;by_cases h0:0<i
 ·rw[dif_pos ⟨h0,hi⟩];show BC (dif_pos h0);exact this
 ·rw[dif_neg (Ξ (h0 z.1))];show BC (dif_neg h0);exact this
theorem z0i(h:t.fits n=true):t.place.toList.length=n:=by
 show BJk SetTable.fits beq_iff_eq
 simpa using C_
theorem yi3(hh:Ic)(hbt:Azg)(O:AId true)(hdr:E4 APE):
  Amy [] (es.toList.map (·.2)) (CO (cz (pL t i))) where
 item:=AyA (by
  have hl:=z0i O.fit;have hb:=nI AyI χ
  have hp:i<t.place.size:=As (ω:i<t.place.toList.length)
  show AHs;show VX AUh (zvq (ep:=ep) hbt hg O hdr);rw[A8d i i,hb,Aia,Array.getElem?_eq_getElem hp];show AHj;show AHQ
  show ArF Ay3;show As7;show Aon
  refine BV (NG (hQ _ _ (HK hi) ?_ A4a))
  have e:(Value.int (pL t Bi) 0)=rawInt Ay3:=by
   unfold pL;rw[dif_pos AI']
   simp [rawInt]
  rw[e];exact hit2.Pn)
 done:=Ax_ (by
  have hl:=z0i O.fit;have hb:=AyI (i:=es.size) χ
  show AHs;show VX AUh (zvq (ep:=ep) hbt hg O hdr);rw[A8d es.size es.size,hb,Array.getElem?_eq_none (Nat.le_refl _)];show AHj;show AHQ
  exact Ata (ASu extBut))
theorem yg3(hh:Ic)(hbt:AzF)(O:x6):
  Amy [] ((pickOrder (w.params.setOrder S ep) es).toList.map (·.2)) (CY vc) where
 item:=AyA (by
  show BGl;show AS_ hp;show AHs;refine DE AUh (zww hbt hg O ?_);show UN (pickOrder ASh es).size ω
  rw[Array.getElem?_eq_getElem hi'];show AHj;show AHQ
  show ArF AE';show As7;show Aon
  exact BV (NG (hQ _ _ (HK hi') hit2.Pn A4a)))
 done:=Ax_ (by
  show BGl;show AS_ hp;show AHs;refine DE AUh (zww hbt hg O ?_);rw[Array.getElem?_eq_none χ]
  show AHj;show AHQ
  exact Ata (ASu extBut))
theorem yhk{led:Bool}(hh:Ic)(O:x6){Tp:Addr}{ot:Obj}{ps:At}(hps:AR1 ps.Perm es.size)(hot:∃m,ot.data= .seq Apo m):
  Amy [(Tp,ot)] A7p (CY (.ref Tp)) where
 item:=fun i s Q E hi hit hg hx hQ=>by
  obtain⟨m,hm⟩:=hot;show Aq4 hl
  show UN ps.length ω
  have hlt:MX<es.size:=List.mem_range.mp (hps.mem_iff.mp (yU hi'));show AHs;refine NU seqItems? (wpAny_seqItems A6' hm ?_)
  dsimp only;have e:Ch Apo (.int (FC MX) 0):=by simp [hi',rawInt]
  rw[e];refine DE (setNextDrawn _ _ _) (z4u (x:=es[MX]) hg O (B' Int.toNat_natCast AuV) ?_)
  show AHj;show AHQ
  exact BV (NG (hQ _ _ (by simp [hi',hlt]) hit.Pn (Heap.SameBut.update s.heap I _)))
 done:=fun s Q E hit hg hx hQ=>by
  obtain⟨m,hm⟩:=hot;show Aq4 hl
  show AHs;refine NU seqItems? (wpAny_seqItems A6' hm ?_)
  dsimp only;have e:Apo[es.size]?=none:=BG hl
  rw[e];show AHj;show AHQ
  show ArF 0;show As7;show Aon
  exact Ata (ASu trans (Heap.SameBut.update _ I _)).extBut
#where
section
variable{prog:Program}{w:World}{κ:Type}[k9]{knd:ze}{kf:xw}{A:Around}{E:dW}{s:Shared}{S:Addr}{ep:Nat}{o:Obj}{es:pb}{t:SetTable}{ks:YE}
structure Laid (knd:ze) (kf:xw) (s:Shared) (S:Addr) (o:Obj) (ks:YE) (I:Addr) (h' :Heap) (n:Nat) (vals:Ο) (St:AM0) (fp:AO):Prop where
 wk:A8a (Walks prog w A' I fp [I] n AvE St)
 st:St 0 h'
 len:vals.length=n
 lem:n=ks.length
 key:Ap_
 mem:∀v∈vals,Aex
 new:W' I
 inF:I∈fp
 fpl:WE (b<h'.objs.size)
 fpn:WE (b=S\/W' b)
 kep:AYd
 siz:W' h'.objs.size
theorem yci(hg:ox)(O:AId uS)(hb:Agh)
  (h:∀(I:Addr) (h' :Heap) d n vals St fp,Laid knd kf s S o ks I h' n vals St fp ->F7 I (Aqr h')):AVV S:=by
 have hT:s.TypeIs ATL "set" :=Ahb hg;have hSl:UA S:=zG hg;show Ap0 ks.length
 show B3 scn v (es.toList.map (·.2)) Aex v hv (by
  show Wp e he hv;obtain⟨⟨k,hk,_⟩,hs⟩:=O.el e he;exact⟨⟨k,hk⟩,hs⟩)
 have fin:∀(h1:Heap) d (vals:Ο) (ex:eE) (fst:GT Value),AuE ->(∀b ob,Ac8 ->r6 h1.get?) ->(kL ex (ACs h1.get?/\W' A3)) ->
   Ω (A8a (Steps prog w A' h1.objs.size S es.size ep o ex vals fst)) (vals.length=es.size) Ap_ A3W (F7 h1.objs.size (Aqr (h1.push (ND "set_iterator" #[fst 0,ASE,.ref S,rawInt es.size,rawInt ep])))):=by
  intro h1 d vals ex fst hsz hk hx' hs hl hp hm;show B3 hx p ex (ACs h1.get?) p q (hx' p q).1;refine h _ _ d es.size vals _ _ ⟨fun A' hh=>z4x (hs A' hh) (zK (zM hSl hsz)) (fun p q=>zK (zG (hx p q))),⟨RU,z8 _ (hk S o hg),fun p q=>z8 _ (hx p q)⟩,hl,hlk,hp,hm,hsz,AV,AUs,AUs,EM ob e (z8 _ (hk b ob e)),?_⟩
  ·show Afz;simp only [List.mem_cons,List.mem_map] at q;rcases q with rfl | rfl | ⟨p,hp',rfl⟩
   ·exact Nat.lt_succ_self _
   ·exact Nat.lt_succ_of_lt (zM hSl hsz)
   ·exact Nat.lt_succ_of_lt (zG (hx p hp'))
  ·simp only [List.mem_cons,List.mem_map] at q;rcases q with rfl | rfl | ⟨p,hp',rfl⟩
   ·show CU hsz
   ·show AB'
   ·show CU (hx' p hp').2
  ·rw[Heap.size_push];exact AS0 hsz
 refine wpAny_pyIter_slot hT PySem.F.slot_set_iter (vT PySem.F.slot_set_iter hT yda PySem.F.args_set_iter_1);unfold Builtin.«frozenset.__iter__»;refine kg Builtin.Frozenset.slot0 ?_;show AFp BMs;show Ś;refine DE (Builtin.Frozenset.sizeOf S) ?_;refine DE (setEntries S) (wpAny_setEntries_of hg O.dat O.fit (BV ?_));refine DE (setDrawn S) (zxn hg O ?_);cases hbt:AyF with
 | true=>
  rw[ALD (E4 (! true&&APE)),Th];show AFp (pure _);show A1Z;show ArV;have hp:=zpa ASh es;refine BIy ((pickOrder (w.params.setOrder S ep) es).toList.map (·.2)) (BQ vc) (fun A' hh=>yg3 hh hbt O) (B9 hp.length_eq) ?_ (A's (hp.map _).mem_iff.mp)
  show WU;exact(hp.map _).trans O.key
 | false=>
  have abv:mJ w=true:=by unfold mJ;rw[hbt];rfl
  cases hdr:APE with
  | false=>
   rw[ALD (E4 (! false&&false)),Th];show AFp (pure _);show A1Z;show ArV;rw[abv] at O;refine BIy (es.toList.map (·.2)) (ä (cz (pL t i))) (fun A' hh=>yi3 hh hbt O hdr) Χ ?_ scn
   show WU;exact O.key
  | true=>
   rw[ALD (NS (! false) true),B4];refine kg drawOrder (zw3 es.size (List.range es.size) Χ (Ν ps d hps))
   show Aq4 hpl
   refine NU newTuple (wpAny_newTuple ?_ (AvQ hpl hb))
   have hgt:(s.heap.push A8O).get? S=some o:=z8 _ hg;refine DE (setEpoch S) (wpAny_setEpoch_of hgt O.dat O.fit ?_);show ArV;have hpm:(ps.map fun p=>AfE).Perm (es.toList.map (·.2)):=by
    refine AMe hps.map ?_;have:IL (KU es.size) p AfE=es.toList.map (·.2):=by
     show UB
     ·simp
     ·show yY;have:Ac2:=As h1
      simp [this]
    rw[this]
   refine fin _ d A7p [(s.heap.objs.size,A8O)] (BQ ç) (Ajl Heap.size_push) (EM ob e cS) (Q1 p q) (fun A' hh=>yhk hh O hps C9) (HK hpl) ?_ (A's hpm.mem_iff.mp)
   ·obtain rfl:p=_:=As q
    exact⟨OQ,GL⟩
   ·refine XA hpm.map kf ?_;show WU;exact O.key
abbrev jN:Obj:=AJg
theorem zpk(hh:Ic)(hg:ox)(O:AId uS)(hb:Agh)
  (h:∀(vals:Ο) (h' :Heap) d tk,EJ Ap_ A3W AyY AYd (Q vals BH7)):
  ABp collect S:=by
 have hSl:UA S:=zG hg;show A4v (codeAny_builtin PySem.F.entry_proto_collect ?_);show Aut;show A8b;show A5';show Auu;have hg1:(s.heap.push jN).get? S=some o:=z8 _ hg;have hT1:Alh (AI8 jN) ATL :=Ahb hg1;show ApM hT1;have n1:Builtin.List.listSameRef d_ ATL=false:=Atu (ALB hSl)
 rw[Do (AJN n1)]
 refine NU pyIter (yci hg1 O hb fun I h1 d n vals St fp L=> ?_);show VX (holding _ _) Aeq;have hg2:h1.get? S=some o:=L.kep S o hg1;have hT2:Alh (Aqr h1) ATL :=Ahb hg2;show Apl PySem.F.slot_set_len.lookup;dsimp only;rw[show splitId "set.__len__" =some ("set","__len__") by show KP]
 refine kg isInstance (wpAny_isInstance hT2 sub_set_self ?_);rw[AY Β,BD L']
 show ApM hT2;show Ś;show Db L'
 show VX (rule _) wpAny_rule;have hS1:h1.get? s.heap.objs.size=some jN:=L.kep _ _ AZN;have hNI:s.heap.objs.size≠I:=zK (zM (B' Heap.size_push (Nat.lt_succ_self _)) L.new)
 refine NU Builtin.List.listTouch ?_;refine kg updateSeq (wpAny_updateSeq hS1 rfl ?_);show Agu hS2 (Obj.mapSeq (·.push Value.none)) hS1;refine wpAny_updateSeq hS2 rfl ?_;show Agu hS3 (Obj.mapSeq (·.pop)) hS2;have oth:∀b ob,AR4 ->r6 h1.get? ->r6 ((h1.update s.heap.objs.size (Obj.mapSeq (·.push Value.none))).update s.heap.objs.size (Obj.mapSeq (·.pop))).get?:=
  fun b ob q e=>AN6 q (AN6 q e)
 show gN hNf (s.heap.objs.size∉fp) (by
  show IY (L.fpn _ q)
  ·exact cf z Nat.ne_of_gt hSl
  ·have z' :ADN jN<=s.heap.objs.size:=z;rw[Heap.size_push] at z';exact cf z' Nat.not_succ_le_self _)
 have Hw:BH n:=by
  have e1:=L.lem;have e2:es.size=ks.length:=As O.key.length_eq
  omega
 have W:=L.wk A.in1 AhS
 refine BV ⟨ADu PySem.F.plain_extend_loop,codeAny_extend_loopS W.toS Hw _ hNf _ n 0 _ _ _ rfl fI (W.frame 0 h1 _ L.st fun b q ob e=>oth b ob (Fs (j' hNf q)) e) hS3 BMG BHP⟩;refine NU load (wpAny_load hS' ?_);show Ś;have ev:acc.toList=vals:=by
  apply List.ext_getElem?;intro i;show FS (i<n)
  ·show BID Array.getElem?_toList Aia
  ·exact(List.getElem?_eq_none (by rw[Array.length_toList,ARz];omega)).trans (Tb List.getElem?_eq_none (AIv L.len))
 rw[ev];show AqQ;show Aqq;obtain rfl:d' =d:=hm.drawn;show Axp;refine h vals h' d' tk' L.key L.mem (zG hS') (E8 ob e);show AYh;have hbN:AR4:=zK hlt;refine hm.heap b ob ?_ (oth b ob hbN (L.kep b ob Sf));show APi;exact⟨hbN,Ξ (hbN (by
  subst z;have z2:ADN jN<=b:=L.new;rw[Heap.size_push] at z2;exact cf hlt Nat.not_lt_of_ge (Nat.le_of_succ_le z2)))⟩
#where
def Fd:â Int | AOL=>i | _=>0
theorem yfp:∀k v,AK7 PySem.intKind k v=true ->Fd v=k:=fun k v h=>by
 show Lc (Value.isInt_shape h)
 rfl
theorem z5p:GY vs Ο (A3V PySem.intKind) (IntsAre vs (vs.map Fd))
 | [],_=> CC
 | ź,h=>by
  obtain⟨⟨k,hk⟩,_⟩:=h v zY;show CM t rfl Value.isInt_shape hk;exact Nc _ _ (z5p (AXO A0x))
theorem yk8(hob:SW (c8 xs n)):∃e,Cl BHZ (c8 out e):=by
 have hal:AjV:=zG hob;have h1:=get?_update_seq hob Ac1;have h2:A7b (h.update a (Obj.mapSeq (CY #[]))).push (c8 #[] _):=z8 _ (z8 _ h1);exact AzN h2 out
theorem yer(hb:Q2)(hne:IQ):E5 BHZ:=by
 have h1:E5 (h.update a (Obj.mapSeq (CY (#[]:ES)))).get?:=(AFc hne).trans hb;exact(AFc hne).trans (ANi h1)
section
variable{prog:Program}{w:World}{A:Around}{E:dW}{s:Shared}{S:Addr}{ks:AU}
theorem z2d(hh:Ic)(hS:uJ (PySem.intKind prog w) Fd uS s.heap S ks)(h64:ks.length<64)
  (h:∀(l:Addr) (h' :Heap) d tk (out:Ο) (ms:AU) e,W' l ->IntsAre out ms ->EJ (ms.Perm ks) Awa (ACN l (c8 out.toArray e)) AYd (F7 l BH7)):
  Azd [.ref S]:=by
 obtain⟨o,es,ep,t,hg,O⟩:=hS;show Ap0 ks.length
 show AA_ 64
 refine Calls.call_function_entry kind_sorted plain_sorted entry_sorted BMH A7k;show BLd;show AFp (checkCount "sorted" 1 1 _);refine DE (collect _) (zpk AhS hg O χ BH5)
 have Hw:vals.length=ks.length:=As hk.length_eq
 refine NU newList (wpAny_newList ?_ χ)
 show RC hoL h1.push Auf h1.objs.size Auf OQ;have hI:=z5p hm;show BGS (list_sort_tree (ns:=vals.map Fd) hoL hI χ fun out ms a1 a2 a3=>AFh)
 refine BV AFh;show CM e he (yk8 (vs:=vals) (out:=out)) hoL;have hle:AuE:=Nat.le_of_lt hlt;refine h h1.objs.size _ d tk out.toList ms e hle a1 (a2.trans hk) a3 (B' Array.toArray_toList he) (E8 ob eb)
 have e1:=hold b ob eb;exact yer Ahv (zK (zG e1))
#where
def Hy(P:Program)(w:World)(a:Addr)(ns:AU):HO:= AX5 (uJ (PySem.intKind P w) Fd uS h a (lN AMo ns.length))
theorem yez(I:Ι)(d):iN AoX:=Akn I.ok
inductive Mv (APq):Prop
 | mk:∀(p:Addr) (ns:AU),EJ (vs= [IR]) (mX X.K H p ACO) (AMG ns.length) (AQx q q q (FG q AmX)) (ACk Mv)
def Wr(X:Cx):g_:=ANw Mv
inductive Mw (APq):Prop
 | mk:∀(q:Addr) (ns:AU),Ω AjU (Lv q AmX) (LL lN AMo ns.length<64) (∀(l:Addr) (ms:List Int),H l=none ->ms.Perm (lN (fun i=>ns.getD i 0) ns.length) ->ms.Pairwise (· <= ·) ->Q (.ref l) (upd H l (.lst (ms.map .int)))) (ACk Mw)
def abw(X:Cx):g_:=ANw Mw
theorem ycn(yv):ADR "set" (Wr X):=by
 rintro pins s σ H xs us Q I r ⟨p,ns,e0,hq,hb,k⟩;subst e0;show MZ;cases rx;show Avg;show PZ;show AAe;have hI:=zry rv;show BCN
 refine D8 zov κ Int knd (PySem.intKind X.prog X.w) kf Fd yfp (val:=Az9) N_ pl.isList A4_ Av4 A'm
 ·show Lc (IntsAre.int_at hI i v (B9 hv))
  exact⟨M0 intKind_is,rfl⟩
 ·rw[hsz] at hS;have I2:ē (AbT Hy) S_:=
   oC I.laid hold D3 (UV _ (AbT Hy) ⟨hS,Ayu (N0 e),fun h1 h2 q st=>q.stay st⟩)
  exact AHS I2 k
theorem ybz(yv):kU "sorted" (abw X):=by
 rintro pins s σ H xs us Q I r ⟨q,ns,e0,hq,h64,k⟩;subst e0;show MZ;cases rx;obtain⟨hS,_,_⟩:=dq q hq;refine z2d N_ hS h64 fun l h' d tk out ms e hle a1 a2 a3 hl hold=> ?_;have hlen:BH (B2 ms.map V.int):=by
  show AIE a2.length_eq;have:pz 64:=AS
  omega
 have I2:AlA Aw1:=
  oC I.laid hold hle (UV _ Aw1 ⟨hlen,out,e,Vk a1,hl⟩)
 exact A4x (k l ms (AR0 hle) a2 a3)
def z8m:MD:=Į (∃ns,AYO/\ns.length<63/\∀ms:AU,AS1 ms.Pairwise ->(Amu ns) ->AKZ QU)
theorem z1k:AGV "set" "set":=v_
section
variable{X:Cx}{F0 H0:Hp}{a e:Expr}{pos p pos2 p2:Pos}{t:cL}
theorem ygf(ns:AU)(k:Int):k∈lN AMo ns.length↔k∈ns:=by
 rw[zol];constructor
 ·show AEj j hj;show AS3 AUd;exact yU hj
 ·intro h;show NW j hj BLz;exact⟨j,hj,by show ns.getD j 0=k;rw[List.getD_eq_getElem?_getD,AUd];exact e⟩
theorem yh0(BIq):
  BDZ z8m:=fun z E cx=>by
 have inner:PE E7 Aev (A7H Wr):=A6 Z6 (ycn hc) hg2 hm2 z1k DO Β Β he rfl
 refine oK (A6 Vc (ybz hc) hg hm hb BBL Β Β he2 rfl) (ER σ H Q hq1)
 show KE hq1;refine QQ ?_;unfold z8m at h1;show PR
 ·show APW;obtain⟨ns,hns,hlt,h1⟩:=h1;show AmV;refine⟨l,ns,rfl,ADv,BL_,AWB⟩
  have hml:=zuz AMo ns.length;refine⟨q,ns,rfl,gG,ω,De l2 ms hl2 hp hs⟩
  have R2:SL F1 (U2 q AmX) Γ1:=R1.grow (h_ (Fu (Θ (ţ R1.g hq0) (PM R1.g))) (Fu (AXV hq0)))
  obtain⟨R3,q1,q2,q3,ap⟩:=G6 R2 hl2 (zlo (K:=X.K) (F:=F1) ms);refine k _ Γ1 F1 _ l2 _ R3 s1 q1 q2 q3 (zlo ms) ap (h1 ms ?_ (CO (hp.mem_iff.trans (ygf ns i))));have nd:ms.Nodup:=hp.nodup_iff.mpr (zm5 _ _);have:=List.Pairwise.and hs nd;exact this.imp fun{a b} hz=>by obtain⟨q1,q2⟩:=hz;omega
 ·show mv
#where
def Itv(K:W.Frag)(a:Addr)(xs:Η):It:=⟨AIL (Zp/\uu),fun i H x H' =>H' =H/\bc xs.reverse,fun i _=>AMD⟩
theorem ybe{P:Program}{w:World}{K:W.Frag}{tg:Expr}(a it:Addr)(xs:Η):AG4 Axo (AMX/\h.IsRevIter it a (Ņ - 1 - Fh)) where
 mem:=AV
 obj:=AAo (by
  show ž
  obtain⟨_,o,e,c,d⟩:=st;exact AGL)
 keep:=ARG ⟨st.1,dS (st.2).at (ARH it)⟩
 item:=by
  intro X hP hw hK hc i pins s σ H E I hf st hg;show KL;show AAz;show AM8;show PZ;show UY
  have hj:AVq<xs.length:=ω
  show AGa (rv.get (zZ hj));have hit:=st.2;rw[HC (Ņ - 1 - Fh) (CF AVq)] at hit
  refine wpAny_pyNext_rev_item hit p.isList (x:=u) ATy (Re hit' sb)
  have I1:ő:=AO6;show K_ o e c d hit';show nN u (Rv (s:=Lu) e c d Β ⟨xs[AVq],H,I1,ru,EO ?_,EU hx,ARk⟩)
  ·rw[List.getElem?_reverse hx,AUd]
  ·rw[HC (CF AVq - 1) (Ņ - 1 - Ag0)] at hit'
   exact hit'
 done:=by
  intro X hP hw hK hc i pins s σ H E I hf st hg;show KL;show UY
  have hle:xs.length<=i:=hg;have hit:=st.2;rw[show Ņ - 1 - Fh= -1 by have:=st.1;omega] at hit
  exact wpAny_pyNext_rev_end N_ hit AHT
 self:=Acr (wpAny_pyIter_revIter st.2 h)
theorem zkc:AGV "reversed" "reversed":=v_
def Ws(Alk):TI:=BGb Axo
theorem yk5{X:Cx}{a tg:Expr}(Asl)(hg:AUy)(hm:AUo)(ha:AXJ)(hs:starEach [a] X.env=EG (A7 a) (EF []):=by rfl):
  eK (AKg "reversed") (Ws X.K ta):=by
 show ft;show Amr zkc;show ANf;show Arj;show AiC;cases rx;show AlD;show PZ;show Azl;have hit:(s1.heap.push Arv).IsRevIter s1.heap.objs.size l (Ņ - 1 - AE'):=Mn OQ rfl (by show Data.fields _=_;show ARj;simp [rawInt])
 refine wpAny_pyIter_revIter hit ⟨s1.heap.objs.size,BLa,_,_,H1,rfl,AGr,ybe l _ xs,⟨EX,hit⟩,FV,q hz⟩;show ſ
 exact ABH
def zmt(t:cL):cL:=PP (qc AIV BMe)
theorem yhq(BFG):Hi K F Ku (Itv K a vs) xs.reverse:=by
 have hl:=jH rs;show AHv AuM e (by show AhY;rw[e,List.length_reverse];omega)
 show Sc hv rv (xG (zn9 rs) hd);show AiX (rX (IO hv) List.length_reverse)
 show A8 ⟨AOO,hi⟩ (Ν y H' z);show X_ z z;rw[hv] at z;cases z;exact Ar2
section
variable{X:Cx}{F0 H0:Hp}{a e tg:Expr}{pos p pos2 p2:Pos}{t:cL}
theorem zx2(hc:Cn)(hg:AUy)(hm:AUo)(ha:ADs)(hs:starEach [a] X.env=EG (A7 a) (EF []):=by rfl):
  AGO (AKg "reversed") (zmt t):=A'4 yk5 (AqC (by
  unfold zmt at*;show PR
  ·show APW;exact BBq yhq
  ·show mv))
#where
theorem z4l:Aem (Kb "list_reverseiterator") "__len__" none:=AfV
theorem ycp:Aem (Kb "list_reverseiterator") "__length_hint__" (BU (LZ "list_reverseiterator.__length_hint__")):=AfV
section
variable{prog:Program}{w:World}{A:Around}{E:dW}{s:Shared}
abbrev oM:Obj:=AIF #[]
theorem zxt(hh:Ic)(hit:s.heap.IsRevIter I l (ATS - 1))(hl:AU6 items)(hz:Agf)
  (h:∀h' c tk,(AXi (b≠I)) ->AfT items.reverse c ->AQp S_):
  Anq "list" [.ref I]:=by
 show AJs hIl I (by show Ŀ e hit;exact J_)
 show AJs hll l (by show Ŀ e hl;exact J_)
 have hne:l≠I:=by
  obtain⟨o,e,c,_⟩:=hit;obtain⟨o',e',c',_⟩:=hl;rintro rfl;rw[e] at e';cases e';rw[c] at c';exact e_ Value.type.inj c' Β
 refine callType_codes (Q₁:=BAt (AI8 oM)) PySem.F.called_list (PySem.F.typeCall_list_1 _) PySem.F.entry_list_init (code_list_new _ dr) (Ν obj s₁ h₁);show bS rfl h₁;show ArW oM oM;show A9 (HR hS) (PySem.F.args_list_init_2 _ _);refine NU Builtin.List.listItems (listItems_at hS rfl ?_);refine DE (Builtin.List.listUpdate _ _) (listUpdate_at hS rfl ?_ fI fI);show Agu hS2 Aec hS;show VX (letGo _) wpAny_letGo;have oth:Of AR4 (ADm s.heap.push oM) (E5 (AfM s.heap.objs.size Aec).get?):=
  Pp q e (AN6 q e)
 have hit2:A7R IsRevIter I l (ATS - 1):=dS hit.at (oth I o (zK hIl) Sf);have hl2:A7R IsList l items:=dS hl.at (oth l o (zK hll) Sf);generalize AfM s.heap.objs.size (Obj.mapSeq Ac1)=h2 at*;have hT2:Shared.TypeIs (OM h2) lP "list_reverseiterator" :=hit2.typeIs;show ApM hT2;have n1:Builtin.List.listSameRef d_ lP=false:=Atu (ALB hIl)
 rw[Do (AJN n1)]
 refine NU pyIter (wpAny_pyIter_revIter hit2 ?_);show VX (holding _ _) Aeq;show Apl z4l;show Apl ycp;dsimp only;rw[show splitId "list_reverseiterator.__length_hint__" =some ("list_reverseiterator","__length_hint__") by show KP]
 refine kg isInstance (wpAny_isInstance (b:=true) hT2 BKz ?_)
 rw[AY Β,BD L']
 show Ap L'
 show Ś;show Ap L'
 have hSf:s.heap.objs.size∉ [I,l]:=by
  show APi;exact⟨ALB hIl,ALB hll⟩
 have W:=D8 Walks.listRev prog prog w w A A.in1.in1 AhS I l hne items
 refine BV ⟨ADu PySem.F.plain_extend_loop,codeAny_extend_loopS W.toS hz _ hSf _ items.size 0 _ _ _ rfl fI ⟨EX,Θ (HC (ATS - 1 - AE') (ATS - 1)) hit2,hl2⟩ hS2 BMG BHP⟩
 have ev:acc=items.reverse:=by
  apply Array.ext_getElem?;intro i;show FS (i<items.size)
  ·show BID Aia (Array.getElem?_reverse q)
  ·rw[Array.getElem?_eq_none (by rw[ARz];omega),Array.getElem?_eq_none (by simp;omega)]
 subst ev;show AqQ;show Aqq;show A7y;show Axp;show A8 rfl (h h' c' tk' (qr ?_) hS');show AYh;exact hm.heap b o (by show APi;exact⟨zK hlt,hb⟩) (oth b o (zK hlt) Sf)
#where
theorem yi2(hc:Cn)(hg:AUx)(hm:AUn)(hg2:AUy)(hm2:AUo)(ha:AXJ)(hb:AGV "list" "list":=by show KP)
  (he:starEach [a] X.env=EG (A7 a) (EF []):=by rfl) (he2:starEach (sA AKm [a] pos2) X.env=EG (A7 (ax AKm [a] pos2)) (EF []):=by rfl):
  PE X A_6 (IN ta vs (∃l xs,vs= [LG]/\mX X.K H1 l xs/\BDy AgT)):=by
 show ED;show Aro
 show Alv ?_ he2;rw[he2];show Ag9;refine wpAny_Call_Name_kw (GJ I hg2 hm2 zkc ?_ Β Β)
 show Alv (ACt (AcW pos2)) he;show ANf;show Arj;show AiC;cases rx;show AlD;show PZ;show Azl;show Ag8;have I2:ŋ (zt s1 (s1.heap.push (revObj l (AJn - 1))) s1.toks):=I1.kept Sk;refine zxt (I:=s1.heap.objs.size) (items:=its.toArray) (I2.ok.hd hc) RU (pl.isList.push _) AWI (De h' c tk hold hS)
 show ANq SN (AeP Arv) NC;have kp:At8 sB:=Fc (hold b o AOc Sf);have I3:A4k (U2 (AeP Arv) AgT):=
  oC I1.laid kp (Ajl SN) (UV _ AgT ⟨AuM,its.reverse,c,rv.reverse,AL6 hS⟩)
 exact G0 (.ref _) I3 (q _ (I1.hok.fresh (Ajl SN)))
def ya3:MD:=Į (P xs.reverse)
theorem z9v(hc:Cn)(hg:AUx)(hm:AUn)(hg2:AUy)(hm2:AUo)(ha:ADs)
  (he:starEach [a] X.env=EG (A7 a) (EF []):=by rfl) (he2:starEach (sA AKm [a] pos2) X.env=EG (A7 (ax AKm [a] pos2)) (EF []):=by rfl):
  AKs A_6 ya3:=fun z E cx=>by
 refine oK (A6 yi2 hc hg hm hg2 hm2 DO L' he he2) (ER σ H Q yG)
 show KE yG;refine QQ ?_;unfold ya3 at h1;show PR
 ·show APW;refine JA l us ADv AWB;obtain⟨R2,q1,q2,q3,ap⟩:=G6 R1 hq0 (zn9 rs);exact A'T (zn9 rs)
 ·show mv
theorem zja{K:W.Frag}(self:Value):GY l Ο (Azr l) (refuseLoop self "__setattr__" l=pure ())
 | [],e=>ALJ
 | v::r,e=>by
  rcases Bool.or_eq_true_iff.mp e with q | q
  ·rw[beq_iff_eq.mp q];exact PySem.F.store_ValueError.passes self
  ·show YA
   ·show YA
    ·show BJw beq_iff_eq q;rw[refuseLoop_ref];exact zja self q.2
    ·cases q
   ·cases q
structure jO (x5):Prop where
 cls:gi
 g:Hg K C
 sa:Apa
 hd:AVJ
section
variable{prog:Program}{w:World}{A:Around}{E:dW}{K:W.Frag}{h:Heap}{g:fg}{d:Drawn}{t:Nat}{os:OsState}{x C:Addr}{o:Obj}{name:Str}{v:Value}
theorem z6w{Q:AME}(X:LO)(c:ADw)(hn:Ai')(hx:AjM)(hc:AV')(hnc:Ani)(hd:AUU)
  (hq:∀h' tk',h'.Ns1 h.objs.size (Aq6 none) ->Ago (BJU h.objs.size) ->(AEP x h.get?) ->A3U):
  AGN Ape:=by
 show Ayc;have J:W.InstAt h x o C none:=⟨hx,hc,hnc,by rw[hd];trivial⟩
 show BFx;obtain⟨bm,N,nm,qn,bs,hdct,sn,sub,ab,col,dd,k0,k1,k2,k3,k5,e1,T,ht,cd,hcd,hmro⟩:=Gn X c.cls;have sub:AG1 (isInstance Sr ALz) true:=BBS;refine codeAny_call_builtin SF.slot.plain SF.entry (BLZ Ee _ _ AIS "object.__setattr__" "object" "__setattr__" Sr [.str name t,v] [] _ SF.kind SF.split sub A2p ?_);have hm:AG1 (mroOf E_) cd.mro:=BBW .now;rw[W.osa_eq,refuse_eq];show D' z6 (AaU hm ?_);rw[hmro,refuseLoop_ref,zja _ ht];refine z7 (z6 (AaU (AjY hn) AXn));show BAI;obtain⟨oc,od,oda,osl⟩:=o;subst hc hd;show D' z7 (z6 (z6 (wpAny_loadPart hx (z6 (AQY (AjX hc') ?_)))));rw[hd'];show YV
 show Ap (HK typeHasDict)
 have body:wpAny Ee A.in1 (alloc TD>>=fun d=>(update x (Ac_ d))>>=CY (dictMade E_ x d)) (fun a s' =>∃dx,a=some dx/\BIb) AIt AIS:=by
  have hx₁:DC (h.push TD).get? (ã none oda osl):=z8 _ hx;have hxs:x≠h.objs.size:=zK (zG hx);show D' wpAny_alloc' (z6 (wpAny_update' hx₁ ?_));refine z7 AFh;have hgd:(A7M x AvK).get? h.objs.size=some TD:=
   XA AFc (i' hxs) (Heap.get?_push_at rfl rfl)
  have hnd:(A7M x AvK).Ns h.objs.size AgL:=
   ⟨_,#[],_,hgd,rfl,fun e he=>(ABw he),ALV⟩
  show D' z7 (z6 (wpAny_nsSet1 (Heap.Ns1.of_empty hnd) (Re hn' hs)));show A6d Within.nil;show Aqz (by show A4W;omega)
  have hx' :Ago (ã (some h.objs.size) oda osl):=by
   refine Ev hs.2 x hxs (BMC hx₁ ?_);have hfr:=(Heap.get?_some_iff.mp hx).2;cases oda<;>first | rfl | exact hfr
  refine BV (EO (hq h' _ ?_ hx' fun b ob hbx hb=> ?_))
  ·exact hn'
  ·exact Ev hs.2 b (zK (zG hb)) (XA AFc hbx (z8 _ hb))
 have fin:∀a s',(∃dx,a=some dx/\BIb) ->wpAny Ee A.in1 (AN' a d (Builtin.ObjectAttr.storeInDict d (Value.str name t) name v) (Builtin.ObjectAttr.noDictFor (Value.ref x) (Value.ref C) name false)) (XB fin (match fin with
     | Fin.done f=>
      match Except.ok f with
      | A7O=>ACf
      | Except.ok a=>False
      | BMU=>E e s'
     | Fin.again c' =>
      c'.quiet=true/\
       codeAny Ee A c'
        (ACW (match r with
         | A7O=>ACf
         | Except.ok a=>False
         | BMU=>E e s'))
        s')) (XB e (E e s')) s' :=by
  rintro a s' ⟨dx,rfl,z⟩;exact wpAny_mono z (fun f s2 hz=>by obtain⟨e,q⟩:=hz;subst e;exact q) Adb
 cases oda with
 | cls c=>cases hnc
 | _=>exact wpAny_mono body fin Adb
#where
section
variable{prog:Program}{w:World}{A:Around}{E:dW}{K:W.Frag}{h:Heap}{g:fg}{d:Drawn}{t:Nat}{os:OsState}{x C dx:Addr}{o:Obj}{name:Str}{v:Value}{mA:B0}
theorem ygj(X:LO)(c:ADw)(hn:Ai')(hx:AjM)(hc:AV')(hnc:Ani)(hd:AvT)(hA:Aaa)(hv:A3I)(hv' :Agz v)
  (hq:Q v AIS):AGN (getAttr Sr name expr):=by
 show BS od ho hl zwg hA;have J:W.InstAt h x o C (BU od):=⟨hx,hc,hnc,Θ hd ho⟩
 have LF:AG1 (Builtin.ObjectAttr.find Sr E_ name) (.value v):=W.looks_find X J (W.findObj_own c.hd hn rfl (l_ hl hv))
 have L0:AG1 (typeOf (AH x)) E_:=J.type;have L1:=W.looks_findIn (M:=AoV) X c.g.ga;have L2' :=W.looks_findIn (M:=AoV) X c.g.gn;have b3:=PySem.F.excAttr_ValueError.ga.bind Sr;unfold getAttr getAttrBy;show D' wpAny_mkText (wpAny_holding (z6 (L0.at (z6 (L1.at ?_)))));have hx2:(A4f&&Avn ==Avo)=false:=by
  rw[show E4 (Avn ==Avo) by show KP,Bool.and_false]
 show BKq hx2;unfold getAttrByItsOwn hookBefore callGetattribute;simp only [ALD (A4f=true),if_true];show JJ L2'.at;simp only [ALD (E4 (onTheHeap (Value.builtin "BaseException.__getattribute__"))),Bool.and_false,Bool.false_eq_true,if_false];unfold boundAndCalled;show AUB (wpAny_holding (z6 (wpAny_of_eq b3 ?_)));show AzS PySem.F.excAttr_ValueError.ga.plain F.entry_bexc_ga (zux X c.g hx hc ?_);unfold Builtin.«object.__getattribute__»;show JJ BV;show JJ BV;show D' L0.at (z6 (LF.at ?_));exact BV (W.handed_on hv' hq)
theorem z4g{f:Addr}{rest:Ο}{Q:D6 Fin}(X:LO)(hC:gi)(hi:Ĳ)(hf:APa)
  (hq:wpAny Ee A (AXf AEp rest) (AV2 (Q (.done (.ret (AH AEp))) s')) E
   BFq) (hrest:Agi):
  AGN (Builtin.«type.__call__» (AUJ rest)):=by
 obtain⟨bm,N,nm,qn,bs,hdct,sn,sub,ab,col,dd,k0,k1,k2,k3,k5,hC,T,ht,cd,hcd,hmro⟩:=AAf;show Ayd
 repeat (first | show ue hC | with_reducible refine wpAny_madeBy_exc hC ?_ | wp_step)
 refine codeAny_call_builtin_code (BMO Fv.quiet) (wpAny_check_new_subU Fv Fv.hasB T hC ?_);refine codeAny_exc_new_subU Fv Fv.hasB Fv T hC ?_ hrest;have X1:K.In ((h.push AKd).push AKj):=X.keeps (Fc AL0);have hC₁:=z8 AKj
  (z8 AKd hC)
 have hget:((h.push AKd).push AKj).get? AEp=some
   AKj:=by heap_get
 have hcC:AHa E_=true:=AV
 have LI:=W.looks_findIn (M:=AoV) X1 hi
 repeat (first | show ue hget | show ASX hC₁ hcC | wp_step)
 refine LI.at ?_;refine wpAny_holding (z6 ?_);refine(W.bind_fn X1 (AH AEp) hf).at ?_;show f_ hq (Ν r s' hr) (FE z z);show X_ hQ hr
 wp_walk
 exact hQ
theorem z0d{f:Addr}{rest:Ο}{Q:dW}(X:LO)(hC:gi)(hi:Ĳ)(hf:APa)
  (hq:wpAny Ee (AOG (AUJ rest)) (AXf AEp rest) (AV2 (F7 AEp s')) E
   BFq) (hrest:Agi):
  AGN (call E_ rest):=by
 obtain⟨bm,N,nm,qn,bs,hdct,sn,sub,ab,col,dd,k0,k1,k2,k3,k5,hC',T,ht,cd,hcd,hmro⟩:=AAf;have f1:=tc_lookup;have f2:=tc_bind E_;have hT:(ACG:Shared).TypeIs E_ "type" :=HR hC';show AwD
 repeat (any_goals (first | assumption | show ue hC' | wp_step))
 show CD rfl;exact codeAny_call_builtin_at (BMO L') entry_typeCall (wpAny_check_type_call_sub hC' (z4g X hC hi hf hq hrest))
theorem z92{t0:Addr}{od:Hb}{sl:vn}{rest:Ο}{Q:dW}(X:LO)(hC:gi)(hx:DC h.get? (AKB t0 sl))(hrest:Agi)
  (hq:tN (AEP x h.get?) (Ago (AKB h.objs.size sl)) (Q Φ (qA h' t))):
  AGN (AJ0 "ValueError.__init__" (.ref x::rest)):=by
 obtain⟨bm,N,nm,qn,bs,hdct,sn,sub,ab,col,dd,k0,k1,k2,k3,k5,hC,T,ht,cd,hcd,hmro⟩:=AAf;show Ayd;show AzS Fv.init.plain Fv.initEntry (wpAny_check_init_subU Fv T hC hx rfl ?_);have hx1:DC (h.push AKd).get? (AKB t0 sl):=z8 _ hx
 wp_walk
 refine hq _ (cK u e ?_) ?_
 ·rw[AZI];exact cS
 ·rw[AZR hx1]
  rfl
theorem z6b(hC:gi)(hh:Ic)
  (hm:wpAny M A m (OX s₁ (∃e oe fv,BH0 (ASV s₁))) E s):eA (raiseStmt env (BU m) none):=by
 show f_ hm (AOz v) UU;obtain⟨e,oe,fv,rfl,X,he,hc,hda,hE⟩:=h₁;obtain⟨bm,N,nm,qn,bs,hdct,sn,sub,ab,col,dd,k0,k1,k2,k3,k5,hC,T,ht,cd,hcd,hmro⟩:=AAf;show Anw hcB AHa (T.hasType PySem.F.excBase_ValueError.hasBase)
 show UX s₁;obtain⟨oc,od,oda,osl⟩:=oe;subst hc hda
 show BGG
 exact wpAny_raiseNew_none hh hE
theorem z95(BHo){args:A2}{Q:AhZ}(hC:gi)(hh:Ic)(hplain:BHL)
  (hi:Ĳ) (hf:APa)
  (h:AaA (C5 y np) fv (fv= GW/\AKf (evalArgs E_ true BFW []) (fun a s₂=>a.kw= []/\BH a.pos.length/\Atn/\
    wpAny Ee (AOG (AUJ a.pos)) (AXf ADi a.pos) (AV2 (∃oe fv,Atm/\A2W/\ASc/\Aen/\E (AH ADi) s')) E
     (AzO (VC a.pos.toArray) Atz)))):
  A_o none:=by
 rw[arm_exec_Raise];show Ag6 (z6b hC hh ?_);show f_ (wpAny_Call_ofName (Ģ h (AOz fv) UU)) A6U UU;show X_ h₁ h₁;show AFI (Ģ h₁ (fun a s₂ h₂=>A1w) UU);obtain⟨apos,akw⟩:=a;obtain⟨hkw,hlen,X,h₂⟩:=h₂;obtain rfl:akw= []:=hkw;show UX s₂;obtain⟨bm,N,nm,qn,bs,hdct,sn,sub,ab,col,dd,k0,k1,k2,k3,k5,hC',T,ht,cd,hcd,hmro⟩:=AAf;simp only [hplain];show Hn wpAny_keeperOf_exc hC';show BIg;obtain⟨_,oe,fv,X',he,hc,hda,hE⟩:=hr;exact⟨_,oe,fv,rfl,X',he,hc,hda,hE⟩
#where
def XO(e C:Addr)(od:Hb):HO:= AX5 (∃t,Apb)
theorem SX(hok:Pl)(q:Lv e (XO e C od)):∃t,Apb:=(hok e _ q).1
theorem ybi(q:Apb):bG P w H h e (XO e C od):=
 ⟨ğ t,CH q,fun _ _ hz st=>by obtain⟨u,z⟩:=hz;exact⟨u,st _ z⟩⟩
theorem zv1(k:bG P w H h b u):∃o,Q2:=by
 cases u with
 | lst xs=>show Af2 k;exact CH e
 | tup xs=>obtain⟨_,_,_,o,e,_⟩:=k;exact CH e
 | dK kvs=>show AZr
 | dT kvs=>show AZr
 | set S n=>obtain⟨o,_,_,_,e,_⟩:=k;exact CH e
 | ins C dx fs=>show Af4 k;exact CH e
 | own y=>exact k
 | xd fs=>show Af5 k;exact CH e
 | rng lo hi=>show Af3 k;exact CH e
 | frz ob u=>obtain⟨e,_⟩:=k;exact CH e
 | Kd ps=>show AwO
 | met f y=>show AwO
 | ext φ=>obtain⟨_,e,_⟩:=k;exact e
section
variable{X:Cx}{pins:eE}{σ:St}{H:Hp}{s:Shared}{A:Around}{E:dW}{a C dx:Addr}{f:Str}{y v:V}{u:Value}{fs:fw}
theorem yih(I:Ι)(e:Ix AcQ)(c:Ĕ)(n:X0)(ry:J')
  (h:∀dx s',JS dx ->dx≠a ->OK (upd (FG a AGi) dx (.xd [(f,y)])) s' ->ACf):ArB:=by
 show AoY;show UX s;have hlt:a<hp.objs.size:=zG hx;refine z6w I.kIn c n hx rfl rfl rfl fun h' tk' ns hx' kp=>h hp.objs.size _ Avd (v4 hlt) ?_;have gs:Cl (hp.update a Aka).get? (ã (some hp.objs.size) (cE (AH5 t)) #[]):=AZR hx;have I1:NJ a (AQf hp.objs.size) (zt (qA hp tk:Shared) (hp.update a Aka) tk):=
  AOT a a ASU L8 (cK u z (AQ2 AJR trans z)) (CH gs) (ybi gs)
 refine I1.laid (t' :=tk') (E8 u z) (Nat.le_of_eq (Heap.size_update ..)) (B1 ns (E2 g))
 ·show OA
  ·subst hb;rw[ľ (hp.update b Aka).get? b _ gs] at z;cases z;exact hx'
  ·exact kp b u hb (AQ2 AJR symm.trans z)
 ·show AXg
  ·show Ank hb f q;show AAt FM;exact ry
  ·show aI hb g f AhT;show AAt LH;trivial
theorem yiq(I:Ι)(e:Ix AGi)(ed:Lv dx (.xd fs))(c:Ĕ)(n:X0)(l:AYM)
  (h:A'P):A'D:=by
 show AoY;obtain⟨mA,ns,r⟩:=dq dx ed;show AGa (AbJ (mA f) (BF l (r f)))
 show UX s;exact ygj I.kIn c n hx rfl rfl rfl ns hu (zv8 ru) A5p
#where
def Wt(Ao_ ta TE):TE:=md (∃a dx fs v,x= AR/\AJp AGi/\H1 dx=some (.xd fs)/\AYM/\Q v H1)
def Wu(BEv):TS:=AqL (∃a,x= AR/\Cl H2 AcQ/\∀dx,H2 dx=none ->dx≠a ->Û (upd (upd H2 a AGi) dx (.xd [(f,y)])))
structure Hz (K:W.Frag) (B:Addr):Prop where
 sp:W.specialIn K (AH B) "__getattribute__" =some Awk
 rd:Azs B
 fi:W.findCls K (AH B) AeF "__init__" =some (.val (LZ "ValueError.__init__"))
section
variable{X:Cx}{o e value:Expr}{f:Str}{pos pos' apos p:Pos}{ta tv:TE}{C B:Addr}{x:Str}
theorem yh4(c:Ĕ)(n:X0)(he:qo ta)(hb:X2 f=A7 e):ka Attribute e f (Wt C f ta):=by
 show ED;refine z5a hb (bU gI (pv u hq1));obtain⟨x,H1,I1,rx,a,dx,fs,v,ex,ea,ed,l,q⟩:=hq1;subst ex;show aT;exact yiq I1 ea ed c n l BFO
theorem z5f(BI1):A'7 Wu:=by
 show PY;show Axa u;obtain⟨y,H1,I1,ry,q⟩:=hz1;show g6 AoO ov hz2;obtain⟨x,H2,I2,rx,a,ex,ea,q2⟩:=hz2;subst ex;show È ov rx;exact yih I2 ea c n ry fun dx s3 h1 h2 I3=>⟨σ,_,I3,q2 dx h1 h2⟩
theorem ya9(c:Ĕ)(cb:Hz X.K B)(hg:HE)(hm:AI6 (AH B))(ha:PA X ASF t)(hd:AT x "__debug__":=by decide)
  (hst:starEach ASF X.env=EG (A7 e) (EF [e2]):=by rfl) (hpl:ABc pos [e2]:=by rfl)
  (ht:eval A5z X.env=(do
   let ov<- A7 Ab6
   AAX
   let (f,first)<- ABJ "__init__" pl
   ABQ (AAy ASF) AHg):=by rfl):
  PE X A5z (IN t vs (∃a od v,vs= [AR,v]/\AJp (XO a C od)/\Q AE (U2 a (XO a C od)))):=by
 show ED;refine AaO (Gk I hg hm ?_ hd) ht;refine W.method_cls I.kIn cb.sp (W.cls_value I.kIn cb.rd cb.fi rfl ?_);have I0:=I.tok (AQJ);refine PyProof.Rows.callWith_builtin1 (ACt (ha pos pins _ σ H _ I0 h)) hst hpl;obtain⟨vs,H1,I1,r,a,od,v,ev,ea,q⟩:=hz1;subst ev;show EN u u2 ru ru2 (vals2 r);show È u ru;obtain⟨t0,hx⟩:=AW3 SX;show UX s1;refine z92 I1.kIn c.cls hx (by show A4W;omega) fun h' kp hx' =>(G0 AE (I1.write (x:=a) (e:=a) (Ack ea) L8 (cK u z (kp b u hb z)) (CH hx') (ybi hx')) q)
#where
def yb0(bn:Str)(p apos pos:Pos)(args:A2)(env:Env)(pl:AMZ):Prop:=eval (BKt (C5 bn p) args) env=(do
   let ov<- eval (C5 bn p) env
   AAX
   let (f,first)<- ABJ "__init__" pl
   ABQ (backTo pos (starEach args env)) (backToKw pos (keywordEach [] env)))
theorem zjh:∀(l:AO) {h:Heap},a∈l ->GU (AxC l):=fun l h m=>W.hideAll_none l m
section
variable{X:Cx}{F0 H0:Hp}{tg iter elt:Expr}{ifs:A2}{pos:Pos}{sc:Scope}{own:Α}{caps:At}{N' :Α}{ti:cL}{g:uT}{tc:TT2}{te:cD}
open Classical in
theorem ydq(hN:X.N.Nodup)(hi' :Ch X.N y)(hy:AHJ)(S:AHI)(hc:Cn)(hi:pT Aag)
  (hg:APX) (ht:APY) (he:Aaf)
  (hn:AMb:=by rfl) (hsw:swapsWith T0 (BU (C5 y py)) spos.line X.env=pure true:=by rfl) (hs:am iter:=by show MW):
  BBv (aV i (Hu (Wm AtP))):=by
 subst hn;rintro z E cx pins s σ H Dn I ⟨F,Γ,D2,R,h,k⟩;obtain⟨F1,s1,R1,n1,o1⟩:=z13 R;rw[kG exec_Assign_Name_used hsw];show s0 wpAny_standAt z6;show f_ (D8 (F8 zlc use A8r (Qv:=Eg s' (SP E7 pins Dn uk s')) (g:=AZW)) tc AZX te Anu Q A8c AX4 (pig hc (hi F1 H z lK (O7 cx))) ?_ ?_ ?_ rfl hs I ?_ ?_) (fun _ s' hq=>z7 (z7 hq)) AK2
 ·rintro C s₀ H₀ fp pins s σ H v u Q I r ⟨vh,vm,q⟩;exact AUv hg v u Q r q
 show AXv
 ·rintro C s₀ H₀ fp pins s σ H Q I ⟨vh,vm,q⟩;exact AJj he
 ·refine⟨F1,gK Γ,_,R1,h,fun ds Γ1 F2 H2 J Hx R2 s2 hx hJ h1 acc ha=>zpw R2 hJ hx ha h1 fun ys F' H' vs R' sF a1 a2 a3 rs ap hp=> ?_⟩;have s3:=(z1q R'.g a1 a2).1;have R3:=R'.frzA a1 a2 a3 ap;have s' :=XA s2.trans sF s3;have gr:Az0 (AfO b) H' :=by
   show B5 EK EK R3.gr.h AFo
   ·rw[Ae0 (Ll o1)]
    exact AI5 s' s1
   ·show ACx Avi;split at e'
    ·cases e'
    ·exact R3.g _ _ e'
   ·have e' :Avi=some o:=e;split at e'
    ·cases e'
    ·show ŀ;exact BBe R3.gr.n
  have rep:Rep X.K (jL F1 AfO) ō mw:=CI (VW acc (z8w (R'.gr.f.free a2) (D9 (D9 gG))) (zkh (z7t R3.gr.f) ys vs hp.1 (rs.up s3)))
  refine M_ ((R.grow gr).set i (rep.up EK)) gr.f hp.2;have hb:¬Lo:=fun hb=>by
   obtain⟨_,w,ev,ld⟩:=o1 b hb;exact z1t e w ld ev
  show Ap hb;exact zwc _ _ e
 ·rintro acc C H' s5 I5 q5 ⟨m,hn⟩ c1 c2 c3 c4 c5 c6;refine wpAny_assign_Name (A6 zoo I5 hN hi' Ag1 (v:= Ad8) rfl A8T AhG);show eR a hsb ha;have ha' :AiQ\/Aib a:=ha;have hac:C≠a:=by
   show mt ha' ha'
   ·exact c2
   ·exact BFf
  show DD m (hn.sameBut hsb hac) (AeV (Mn H' (I6.turned (t' :=s6.toks) (it:=C) (qr Aej) c1 c2 AeG c4 c5) q5))
#where
section
variable{K:W.Frag}{F H:Hp}
theorem KC:ArS (fj K F H (ds.map .leaf) vs [])
 | [],_,h=>by subst h;rw[List.map_nil];exact dr
 | SB,_,h=>by
  show Qr v h1 h2 h;rw[List.map_cons];exact⟨v,us,[],[],rfl,rfl,CI (EO h1),KC h2⟩
theorem Pr:∀{ts us:EI} {vs ws:Η} {as bs:AO},Ě ->fj K F H us ws bs ->fj K F H (ts++us) (vs++ws) (as++bs)
 | [],us,vs,ws,as,bs,h1,h2=>by
  show bS rfl h1;exact h2
 | Pe,us,vs,ws,as,bs,h1,h2=>by
  obtain⟨v,vs',a1,a2,rfl,rfl,q1,q2⟩:=h1;rw[List.cons_append];exact⟨v,vs' ++ws,a1,a2++bs,rfl,Hk List.append_assoc,q1,Pr q2 h2⟩
theorem Pu(h:ADg):AQF [t] [v]:=by
 show ML v [] as [] rfl AV h
 exact dr
theorem z1s:∀{ts:EI} {vs:Η} {as:AO} {j:Nat} {t:T},Ě ->L7 ts t ->∃v b1 bs b2,L7 vs v/\as=b1++ (bs++b2)/\Aau bs/\
  ∀{F' H' :Hp} {t' :T} {cs:AO},C8 ->Azt ->ma t' v cs ->AvM (ts.set j t') cs
 | [],_,_,j,t,_,e=>AMk
 | t0::ts,_,_,0,t,h,e=>by
  cases e;show AtR;refine⟨v,[],a1,a2,rfl,rfl,q1,fun{F' H' t' cs} f k r=> ?_⟩;rw[List.set_cons_zero];exact AXA cs a2 rfl r (fj.move f ts vs' a2 (V' (k a ha)) q2)
 | t0::ts,_,_,j+1,t,h,e=>by
  show AtR;obtain⟨w,b1,bs,b2,g1,rfl,g3,g4⟩:=z1s q2 Ŕ
  refine⟨w,a1++b1,bs,b2,As g1,AV,g3,fun{F' H' t' cs} f k r=> ?_⟩
  rw[List.set_cons_succ];exact AXA a1 AlG AV (BFy f) (g4 f BGT r)
#where
mutual
def abx:ALX
 | O0=>qX d
 | YR=>Ae ts
 | AXU=>Ae ts
 | AlI=>Ae ts
 | AmS=>Ae ts
 | ŗ=>True
def Ae:DB EI
 | []=>True
 | Pe=>abx t/\Ae ts
end
abbrev qY:=AHX T
section
variable(K:W.Frag)(F0 H0:Hp)
inductive UpN (t:qY) (E:XW) (σ:St) (H:Hp) (Q:VK):Prop
 | mk:AKL (∀tr Γ' F' H' v as,YI ô C8 as.Nodup A8s (ma tr v as) (OZ tr) k7) UpN
def upN(t:qY)(E:XW):TE:=xz UpN
#where
def QN(X:Cx)(F0 H0:Hp)(e:Expr)(t:qY):Prop:=ANh upN
def nOf(t:cL):qY:=PP (D5 (mM ds.map))
section
variable{X:Cx}{F0 H0:Hp}{e:Expr}{es:A2}{pos p:Pos}{te:cD}{tf:cL}{tn:qY}
theorem yky(h:Al_):VY QN (nOf tf):=fun z E cx=>
 oK Rs (DM σ H Q hq1 P hq1 (KW (fun ds Γ1 F1 H1 a vs R1 s1 e1 e2 e3 r1 ap h1=>by
  refine k _ _ _ _ _ [a] R1 s1 Χ (II (AFb hb ⟨e2,e3,ap⟩)) ?_ h1
  exact⟨a,vs,[],rfl,rfl,e1,KC r1⟩)))
def Px:qY:=ANl (.dic [] [])
theorem S5:Ĥ (.Dict [] [] pos) Px:=fun z E cx=>
 oK yaj fun σ H Q hq2 q hq=>by
  show KE hq2;have R2:SL F (FG q Ag4) Γ:=R.grow (h_ (Fu (Θ (ţ R.g hq) (PM R.g))) (Fu (AXV hq)))
  refine k _ _ _ _ _ [q] R2 ET Χ (II (AFb hb ⟨R.g.free hq,R.gr.h.free hq,R.apart hq⟩)) ?_ h
  exact⟨q,[],[],rfl,rfl,gG,rfl,Ag5⟩
def Af(AXB qY):aG:=TC t tr (∀as,AOV .tr as tr)
theorem zt4(hN:X.N.Nodup)(hi:EC)(hx:oQ)(he:AAg)(hs:ABO ALZ:=by rfl)
  (hf:Z3\/Z_:=by show y9):kQ AX0 e (Af i tn):=OH rY (F8 ZX i i hN hi hx IU hs hf) D yx yx (APp r1 (dP (R1.put i (s:= kC t) (A'W r1) fun a ha=>(hn a ha).2.2) (h1 as)))
def xM(t:qY):aG:=zo D Γ t tr _ (D.rT (.one tr))
theorem Wv(he:AAg):Pw (.Return ALY pos) (xM tn):=fun z E cx=>
 rY (z8g IU) (DM D σ H yG D2 yG (APp r1 (k.rT (.one t) _ _ _ _ R1.gr nd (V' ⟨tT ha,(hn a ha).2.1⟩) r1 h1)))
def nV(xo):qY:=AQz (I_ w8 (some (.tr _ t)) (P t (Γ.set i A_)))
theorem z6s(hN:EC)(hv:Id)(y_):Ĥ fe (nV i):=fun z E cx=>
 oK UQ (AAS Gq (by
  show KE Gq;show BO nV;show Co
  ·rename_i as t e;obtain⟨o,e0,v,rfl,nd,hn,r⟩:=AMs;exact⟨v,e0,k t _ F H v as (R.dropAt e0) ET nd (V' ⟨tT ha,Aco,R.less e e0 (B_ (gH (Slot.tr as t) dC a) ha)⟩) r h⟩
  ·show EB))
#where
section
variable{X:Cx}{F0 H0:Hp}{pos p px:Pos}{x:Str}{i:Nat}
theorem zy4:AKJ ks DL Q_ (Au ks.zip vs (·.1)=ks)
 | [],[],_=>rfl
 | [],BY,h=>Bn
 | BY,[],h=>Bn
 | AAG,ź,h=>A9X zy4
#where
section
variable{K:W.Frag}{F0 H0 F H F' H' :Hp}{σ:St}{Γ:ef}
theorem z2z(e1:xx)(h:xt):qa ŷ a:=fun j q=>by
 have q' :oH ŷ (σ.set i o) j a:=A8J
 rcases Vs q' with ⟨_,z⟩ | ⟨_,z⟩
 ·exact z
 ·exact h j z
theorem SR.wrT(R:D_)(e:AM1)(e1:xx)(h:d4)(r:mD K F AGR H0 t o)(ht:HH (gH t o b) (gH s o b\/ß b)):
  bE F AGR (cy t):=by
 have R1:=R.wrO (t:= A_) (u:=u) e e1 h trivial (Eg z z.elim);have R2:=R1.put i r (E9 (by
  show IY (ht b hb)
  ·rw[AMa (cy Slot.no) (Γ.set i A_)];exact R.less e e1 z
  ·exact z2z e1 z))
 show AY6 R2;exact R2
#where
abbrev uW:=AoS ALX
inductive HB (AaX uW):Prop
 | mk:BE' (∀t v as F' H',WJ ->Ω as.Nodup AYI (ma t v as) (P t) k7) HB
def xO(K:W.Frag)(sp:uW):Sp:=AXx HB
def KD(sp:uW):dI:=BBk (Τ t (P (toD t)))
open Classical in
theorem ybt(MG){sp:uW}{vs:Η}{H:Hp}{Q:VK}{E:XK}(h:nZ K (KD sp) vs H Q E):AJD xO:=by
 obtain⟨F,ds,P,Ex,h1,h2,h3,h4,h5⟩:=h;refine⟨F,ds,fun t=>P (toD t),Ex,h1,h2,h3,fun t v as F' H' g nd hn r p=> ?_,h5⟩;have s1:Same F' A5d:=Fu (by
  show L_ ApN;show Ap (ACm (Ac' ê))
  exact e)
 refine h4 (toD t) v A5d H' ⟨g.f.trans s1,EK,g.h,AFo⟩ (TR.rep s1 t v as (fun a ha u hu=> ?_) r) p
 ·show ACx ApN;split at e'
  ·exact e'
  ·exact g.g b u e'
 ·have e' :ApN=some o:=e;split at e'
  ·show ŀ;exact .inl hG
  ·exact g.n b o e' n
 ·show Db ha;exact hu
structure vp (ABR) (mg:B0) (base:Heap) (x:Str) (k:Nat) (ps:Α) (sp:uW):Prop where
 ex:AqF xO
theorem vp.fn{P:Program}{w:World}{K:W.Frag}{mg:B0}{base:Heap}{x:Str}{k:Nat}{ps:Α}{sp:uW}(G:pk vp x k ps sp):pk cH x k ps (KD sp):=by
 obtain⟨f,fd,h1,h2⟩:=G.ex;exact⟨f,fd,h1.imp (Ļ _ q (ybt q)),h2⟩
section
variable{P:Program}{w:World}{K:W.Frag}{mg:B0}{base:Heap}
theorem HD(AO_)(APo uW)(Fn:Υ x qual st)(S:AAj ps)(len:AHo)
  (hbody:ABT (∀F0:Hp,
   ∃t,AYT sD/\Aah (AqE (Kp Q)))):
  AV7 xO:=by
 show yn;show AHu
 show Abv
 obtain⟨F0,ds,Pd,Ex,sF,rs,hsp,hQ,hE⟩:=hq2;show AYc;show AHq (by
  show A8 ABU AAn;show ABV;show AHl xr z1 z;exact AHt)
 exact AtD (AqE (Kp Pd)) ⟨li,ACg,ACg,li,li,BIm (by(cases t with | one t=>exact hQ t v as F' H' gr nd hn r q | tp ts=>exact q.elim)),Ad0⟩
#where
def sO(sp:uW)(t:cL):qY:=At4 tr tr
section
variable{X:Cx}{F0 H0:Hp}{e:Expr}{es:A2}{pos p:Pos}{x:Str}{ps:Α}{k:Nat}{sp:uW}{t:cL}
theorem Ww(Abo vp):
  Ĥ TL (sO sp t):=by
 obtain⟨f,fd,Fn,hm,hk,hb⟩:=G.ex;rintro z E cx pins s σ H Q I ⟨F,Γ,P,R,h,kk⟩;show APT;refine W.callWith_K (h₀:=X.base) I.ok.mod.GC hk AxH he hpl;show Alb;show AL8;have hs:xO X.K sp vs H1 Q Asn:=A6P F1 q BGz;show AbA
 show A3t;show o_;show AAi (Fn.run X.A X.stack s1 H1 ADn us vs Q _ hr I1.env0 hbs r hs) AGb;cases r with
 | error e=>exact AYe I1 R1 hq
 | ok fl=>
  cases fl with
  | ret u=>exact I1.after hq
  | next=>show N3
  | brk=>show N3
  | cont=>show N3
#where
#print L3
namespace L3
open PySem PySem.Spec PyProof.Rows L2
def mK(ks:DL)(k:Key):Bool:=ks.any fun k' =>(Μ (k' =k))
theorem vq:AGu↔AXM:=by
 unfold mK;rw[List.any_eq_true];exact Ð hz (AgE x h hz (BMT ▸ h)) (D4 ⟨k,h,ADq⟩)
def jw(ks:DL)(k:Key):DL:=AS2 AGu ks ks k
def gD(x_)(ks:DL)(xs:A0)(k:Key)(x:α):A0:=AS2 AGu (List.zipWith (fun k' y=>(Ae2 x)) ks xs) xs x
theorem zr0:AKJ ks DL Q_ (IL (Au ks.zip vs) kv (ASr v)=ks.zip A6b)
 | [],_,_=>rfl
 | BY,[],h=>Bn
 | AVc,w::vs,h=>by
  rw[List.zip_cons_cons,List.map_cons,List.zipWith_cons_cons,List.zip_cons_cons,zr0 (B9 h)]
  by_cases q:k' =k<;>simp [q]
theorem Wx(h:Q_):putK qE k v=(jw ks k).zip BCn:=by
 unfold putK jw gD;have e:((ks.zip vs).any fun kv=>(Μ (kv.1=k)))=true↔AGu:=by
  rw[vq,List.any_eq_true];constructor
  ·rintro⟨kv,hm,q⟩;have:=List.mem_map_of_mem (f:=(·.1)) hm;show BC (zy4 h);rw[<- of_decide_eq_true q];exact this
  ·intro hm;rw[<- zy4 h] at hm;show BS kv h1 h2 zB.mp hm;exact Ă kv At_
 show FS AGu
 ·rw[if_pos (e.mpr q),FM,FM];exact zr0 h
 ·rw[Do (ADG q e.mp),LH,LH,List.zip_append h]
  rfl
theorem zy3(h:ks.length=xs.length):LL jw ks k=K0 (gD ks xs k x):=by
 unfold jw gD;split
 ·rw[List.length_zipWith,<- h,Nat.min_self]
 ·simp [h]
theorem z54{K:W.Frag}{F:Hp}{k:Key}{d:D}{v:V}(r:LE):BH3 (Iq (List.zipWith (fun k' y=>(Ae2 d)) ks xs) A6b)
 | [],xs,vs,h=>BG aK
 | BY,[],vs,h=>Aoq
 | AVc,KF,vs,h=>by
  show Qr u h1 h2 h;rw[List.zipWith_cons_cons,List.zipWith_cons_cons];refine tR ?_ (z54 r h2);by_cases q:k' =k
  ·rw[FM,FM];exact r
  ·rw[AY q,LH];exact h1
theorem zps{K:W.Frag}{F:Hp}{ks:DL}{xs:Δ}{vs:Η}{k:Key}{d:D}{v:V}(h:Ć)(r:LE):Iq (gD ks xs k d) BCn:=by
 unfold gD;split
 ·exact z54 r h
 ·exact Km h (Ko r)
theorem S6(AGd):∀{xs:Δ} {vs:Η} {as:AO},AQF AMc vs ->as= []/\Ć
 | [],vs,as,h=>by rw[List.map_nil] at h;exact⟨h.2,C_⟩
 | KF,vs,as,h=>by
  rw[List.map_cons] at h;obtain⟨v,us,bs,cs,rfl,rfl,h1,h2⟩:=h;show X_ r h1;show APN h2;exact EO (tR r rs)
section
variable{K:W.Frag}{F0 H0 F H F' H' :Hp}{σ σ' :St}{Γ Γ' :ef}
open Classical in
noncomputable def yL (Γ:ef) (σ:St) (H:Hp):Hp:=RY (AKO Lo (H b))
theorem ygb(h:Lo):Azq=none:=wt yL wS
theorem z8k(h:¬Lo):Azq=H b:=wt yL e9
theorem z1j(r:AHR)(h:∀a,d4 ->GU H1):mD K F H H1 s o:=by
 cases s with
 | no=>trivial
 | pu d=>exact r
 | ow ds=>obtain⟨a,vs,e,e1,e2,e3,r⟩:=r;exact⟨a,vs,e,e1,e2,h a e,r⟩
 | tr as t=>obtain⟨v,e,nd,hn,r⟩:=r;exact⟨v,e,nd,Ajt,r⟩
 | nt as ts=>obtain⟨p,v,e,e1,nd,hn,r⟩:=r;exact⟨p,v,e,e1,nd,Ajt,r⟩
 | xe as C fs ts=>obtain⟨a,oe,dx,vs,e,e1,e2,e3,e4,nd,hn,r⟩:=r;exact⟨a,oe,dx,vs,e,e1,e2,e3,e4,nd,Ajt,r⟩
theorem SR.reb(R:D_):SR K F (yL Γ σ H) F H σ Γ:=by
 show B5 (h_ R.g EK) R.len (NM i s) R.ap
 ·show MS yL;split at e
  ·cases e
  ·exact e
 ·show On e1 r (R.sl i s e);exact⟨o,e1,z1j r fun a ha=>ygb ⟨i,s,o,e,e1,ha⟩⟩
theorem Gr.unreb(g:AHn)(s:Same H0 H1)(g' :AOv H1):A1M :=by
 show B5 (g.f.trans g'.f) g'.g (s.trans g'.h) AFo;cases q:F b with
 | none=>exact u9.back s (g'.n b o e q)
 | some u=>have:=g'.f _ _ q;show nk;show EV;exact g.n b _ q n
theorem SR.unreb(g:AHn)(s:Same H0 H1)(R:BEw H1):Afj :=by
 show B5 (g.unreb s R.gr) R.len (NM i t) R.ap;show On e1 r (R.sl i t e);exact P1 e1 (z1j r fun a ha=>s.free (zp r ha).2.1)
#where
#print L3
namespace L3
open PySem PySem.Spec PyProof.Rows L2 PySem.W
structure Ord (lt:eD) (n:Nat):Prop where
 tri:∀i j,Ω (i<n) (j<n) ye (lt i j=false) (lt j i=true)
 irr:ANz (j<n ->AmI ->lt j i=false)
 tr:∀i j k,i<n ->Ω (j<n) (k<n) AmI (lt j k=true) (lt i k=true)
def Sat(x_)(lt:eD)(n:Nat)(t:KasT α)(Q:DB α):Prop:=SM lt n t=true/\Q (Wn lt t)
section
variable{lt:eD}{n:Nat}{α β:Type}
theorem HF(h:Q a):RH (.ret a) Q:=EO h
theorem S7(hi:i<n)(hj:j<n)(hij:ye)(h:RH BBc Q):RH (.ask i j k) Q:=by
 show A8 ?_ h.2;unfold SM;show BLh Bool.and_eq_true;exact⟨hi,hj,hij,C_⟩
theorem S8:GY t (KasT α) (RH t (Τ a (RH (f a) Q))) (RH (t.bind f) Q)
 | .ret a,h=>h.2
 | AbV,h=>by
  have h1:=C_;unfold SM at h1;show Ale h1;exact S7 h1.1 h1.2.1 h1.2.2.1 (S8 ⟨h1.2.2.2,h.2⟩)
theorem Sat.imp(h:RH t Q)(k:∀a,Q a ->Q' a):RH t Q' :=⟨C_,k _ h.2⟩
def Pm(n:Nat)(p:XN):Prop:=AR1 p.toList.Perm n
theorem Pm.size(h:OG):p.size=n:=As (List.Perm.length_eq h)
theorem Wy{p:XN}{k:Nat}(hk:k<p.size):p.getD k 0=p.toList[k]' ATz:=QY Array.getD hk
theorem Pm.below{p:XN}(h:OG){k:Nat}(hk:k<n):Ajm<n:=by
 have hk' :k<p.size:=Θ h.size hk
 rw[Wy hk'];exact List.mem_range.mp (h.mem_iff.mp (yU _))
theorem Pm.ne{p:XN}(h:OG){k j:Nat}(hk:k<n)(hj:j<n)(hkj:k≠j):Ajm≠p.getD j 0:=by
 have nd:p.toList.Nodup:=h.nodup_iff.mpr List.nodup_range;rw[Wy (Θ h.size hk),Wy (Θ h.size hj)]
 show AOl nd;show Aj2 hkj
 ·exact key k j _ _ q
 ·exact Ξ (key j k _ _ q z.symm)
def Lp(lt:eD)(p:XN)(i j:Nat):Bool:=AZ' (p.getD i 0) j
def Up(BGp):Prop:=A5l (RI i j)
def Dn(BGp):Prop:=A5l (RI j i)
theorem z6u(O:ah)(P:OG)(hi:i<n)(hj:j<n)(hij:ye)(h:E4 (Lp lt p i j)):RI j i:=O.tri _ _ (Ý hi) (Ý hj) (P.ne hi hj hij) h
theorem ya0(O:ah)(P:OG)(hi:i<n)(hj:j<n)(hk:k<n)(h:RI i j)(h' :RI j k):RI i k:=O.tr _ _ _ (Ý hi) (Ý hj) (Ý hk) h h'
theorem yf3(O:ah)(P:OG)(hr:r<n)(h1:1<=r)(U:AGM r)(h:RI AL5 r):AGM (r+1):=AOZ (by
 show TU (Ah8 r) q
 ·exact AaB q
 ·show Nl j r
  rcases ALR ADp with q' | q'
  ·exact ya0 O P χ χ hr BDf h
  ·show Nl i (j - 1)
   exact h)
theorem yhv(O:ah)(P:OG)(hr:r<n)(h1:1<=r)(U:AHC r)(h:RI r AL5):AHC (r+1):=AOZ (by
 show TU (Ah8 r) q
 ·exact AaB q
 ·show Nl j r
  rcases ALR ADp with q' | q'
  ·exact ya0 O P hr χ χ h BDf
  ·show Nl i (j - 1)
   exact h)
theorem ygs(O:ah)(P:OG):BAy (AGM m) (RH (kas_asc p f m) (OW (m<=r/\r<=m+f/\AGM r/\ (r<m+f ->RI r AL5))))
 | 0,m,h1,_,U=>HF ⟨GL,GL,U,Ξ (yB z)⟩
 | f+1,m,h1,hn,U=>by
  show Aak
  cases q:AZ' AoZ (m - 1) with
  | true=>
   show WZ;exact HF ⟨GL,ω,U,CY q⟩
  | false=>
   show YV
   refine(ygs O P f (m+1) χ χ (yf3 O P χ h1 U (z6u O P χ χ χ q))).imp fun r hz=>by obtain⟨a1,a2,a3,a4⟩:=hz;exact⟨ω,ω,a3,Ξ (a4 χ)⟩
theorem yfi(O:ah)(P:OG):BAy (AHC m) (RH (kas_desc f p m 0) (OW (AD=p/\m<=BB/\BB<=m+f/\bv=0/\AHC BB)))
 | 0,m,h1,_,U=>BAl GL
 | f+1,m,h1,hn,U=>by
  show Aak
  cases q:AZ' AoZ (m - 1) with
  | true=>
   rw[B4,ALb]
   exact(yfi O P f (m+1) χ χ (yhv O P χ h1 U q)).imp fun r hq1=>by obtain⟨a1,a2,a3,a4,a5⟩:=hq1;exact⟨a1,ω,ω,a4,a5⟩
  | false=>
   show YV
   show Aak
   have q' :lt (p.getD (m - 1) 0) AoZ=true:=z6u O P (i:=m) (j:=m - 1) χ χ χ q
   rw[q',B4];exact BAl (cc (m<=_))
theorem yd3(P:OG)(i j:Nat):Pm n (kas_rev p i j):=A1K (mirror_perm p i j ((j - i)/2))
theorem getD_get?{p q:XN}{i j:Nat}(h:p[i]?=q[j]?):p.getD i 0=q.getD j 0:=by
 rw[Array.getD_eq_getD_getElem?,Array.getD_eq_getD_getElem?,h]
theorem ye2{p:XN}{m k:Nat}(hm:m<=p.size)(hk:k<m):(kas_rev p 0 m).getD k 0=p.getD (m - 1 - k) 0:=by
 have e:=getElem?_mirror_all (i:=0) hm k;rw[BD ⟨EX,hk⟩] at e;have:=AUH;show BC (HC (0+m - 1 - k) (m - 1 - k))
 exact this
theorem yf2(O:ah)(P:OG)(h1:1<=m)(hm:m<=n)(D:AHC m):BEp (kas_tail3 m n p):=by
 have U:Up lt (kas_rev p 0 m) m:=AOZ (AeX Lp (ye2 Aws χ) (ye2 Aws hj) (D (m - 1 - j) (m - 1 - i) χ χ))
 exact S8 ((ygs O (yd3 P 0 m) (n - m) m h1 χ U).imp fun r hz=>by obtain⟨a1,a2,a3,_⟩:=hz;exact HF ⟨yd3 P 0 m,cc (1<=r),cc (r<=n),a3⟩)
theorem yhh(O:ah)(P:OG)(h1:1<=n):BEp (kas_count n p):=by
 refine S8 ((ygs O P (n - 1) 1 D3 χ (fun i j a b=>ω)).imp (AJ r hz1))
 obtain⟨a1,a2,a3,a4⟩:=hz1;show GG r n
 ·show Db (HK e)
  exact A6M
 ·show Ap (HK e)
  by_cases g:r>1
  ·show Db g;show Aak
   have q:lt (p.getD 0 0) (p.getD AL5 0)=true:=a3 0 AL5 χ χ
   rw[q,B4];exact A6M
  ·show Ap g;show Nl r 1
   have q:=a4 χ
   have D:AHC 2:=AOZ (by
    show Nl i 0
    show Nl j 1
    exact q)
   refine S8 ((yfi O P (n - (1+1)) (1+1) χ χ D).imp (AJ r hq2))
   obtain⟨b1,b2,b3,b4,b5⟩:=hq2;rw[AY χ,b1]
   exact yf2 O P χ χ b5
theorem zxu(O:ah)(P:OG)(hk:k<n)(U:AGM k):∀(f l r:Nat),l<=r ->EJ (r<=k) (r - l<=f) (KI l (RI j k)) (A2d (r<=j)) (RH (kas_place p k f l r) (T_ (x<=k/\ (KI x (RI j k))/\A2d (x<=j))))
 | 0,l,r,h1,h2,h3,h4,h5=>BFz
 | f+1,l,r,h1,h2,h3,h4,h5=>by
  unfold kas_place;by_cases g:l≥r
  ·show Db g;exact BFz
  ·show Ap g;have m1:l<=zD:=ω
   have m2:zD<r:=ω
   refine S7 (Ý hk) AcR (P.ne hk χ χ) ?_
   cases q:AZ' (p.getD k 0) (zD) with
   | true=>
    show WZ;refine zxu O P hk U f l _ m1 χ χ h4 (Ν j a b)
    show IY (Nat.lt_or_ge (zD) j)
    ·exact ya0 O P hk χ χ q (U _ j z b)
    ·show Nl j zD
     exact q
   | false=>
    show YV
    have q' :RI (zD) k:=z6u O P hk χ χ q
    refine zxu O P hk U f _ r χ h2 χ (Q1 j a) h5
    show IY (Ah8 (zD))
    ·exact ya0 O P χ χ hk (U j _ z χ) q'
    ·show Nl j zD
     exact q'
theorem yk3(P:OG)(k d:Nat):Pm n (bubble p k d):=A1K (bubble_perm p k d)
theorem yl2(O:ah):∀(f:Nat) (p:XN) (k:Nat),OG ->k+f=n ->AGM k ->A0O (kas_bin f p k)
 | 0,p,k,P,h,U=>by
  show Nl k n
  exact HF ⟨P,U⟩
 | f+1,p,k,P,h,U=>by
  have hk:k<n:=ω
  refine S8 ((zxu O P hk U k 0 k fI D3 χ (fun j a=>ω) (fun j a b=>ω)).imp (AJ l hz1))
  show eR a1 a2 a3;refine yl2 O f _ FI (yk3 P k AZD) χ (ER i j hij hj)
  have at' :∀x,(bubble p k AZD).getD x 0=HI x l Ajm (if l<x/\x<=k then p.getD (x - 1) 0 else p.getD x 0):=fun x=>by
   have e:=getElem?_bubble (xs:=p) (src:=k) (B' P.size hk) AZD χ x
   rw[HC (k - AZD) l] at e
   split
   ·show G1;rw[FM] at e;exact AUH
   ·show G1;rw[LH] at e;split
    ·rename_i q2;rw[BD q2] at e;exact AUH
    ·rename_i q2;rw[AY q2] at e;exact AUH
  show lt _ _=true;rw[at',at'];by_cases e1:i=l
  ·rw[BD e1,UH,YO]
   exact a3 ADp χ χ
  ·show Ap e1;by_cases e2:j=l
   ·rw[BD e2,UH]
    exact a2 i χ
   ·show Ap e2;by_cases e3:l<i/\i<=k
    ·rw[BD e3,YO]
     exact U (i - 1) ADp χ χ
    ·show Ap e3;by_cases e4:l<j/\j<=k
     ·show Db e4;exact U i ADp χ χ
     ·show Ap e4;exact AaB χ
theorem yjw(O:ah):A0O (kas_sort n):=by
 have P0:Pm n (List.toArray (List.range n)):=CI BMA
 by_cases h0:n=0
 ·subst h0;exact⟨rfl,(C6 BMA),fun i j _ hj=>(AuN hj)⟩
 ·refine S8 ((yhh O P0 χ).imp (AJ r hz1))
  obtain⟨a1,a2,a3,a4⟩:=hz1;by_cases g:AD<n
  ·rw[BD g,show max AD 1=AD by omega]
   exact yl2 O _ _ _ a1 χ a4
  ·show Ap g;obtain e:AD=n:=ω
   exact HF ⟨a1,e ▸ a4⟩
#where
#print L3
namespace L3
open PySem PySem.Spec PyProof.Rows L2
def xP(lt:eD)(is:At):Prop:=is.Pairwise fun i j=>AmI
theorem yjr(P:Pm n q)(U:Up lt q n):xP lt q.toList:=by
 unfold xP;show BLe;intro i j hi hj hij;have hj' :j<q.size:=As hj
 show UN q.size ω
 have:=AaB (BF P.size hj')
 unfold Lp at this;show TZ (Wy hi') (Wy hj');exact this
structure KH (prog:Program) (w:World) (A:Around) (E:dW) (vs:Ο) (lt:eD) (T:AgV) (κ:SortKind):Prop where
 kind:∀(s:Shared) (Q:D6 SortKind),Akr ->2<=vs.length ->Q κ s ->Ff (keyKind' vs.toArray)
 ask:∀(s:Shared) (i j:Nat) (C:D6 Bool),Akr ->Ω (i<vs.length) (j<vs.length) ye (C AU8 s) (W.kas_ask prog w A κ vs i j C s)
section
variable{prog:Program}{w:World}{A:Around}{E:dW}{s:Shared}
theorem zuc{a:Addr}{vs:Ο}{lt:eD}{T:AgV}{κ:SortKind}{n:Nat}{P:D6 PySem.Fin}(hob:Agb (c8 vs.toArray n))(O:A2V)(hT:Akr)
  (hst:∀h',(∀x o,Auc ->x≠a ->DC h'.get? o) ->T h') (K:KH prog w A E vs lt T κ) (h64:AuJ)
  (h:∀is:At,AxO ->xP lt is ->P (.done (.ret Φ)) (OM (sortedHeap s.heap a vs Al'))):AJK (Builtin.«list.sort» AKV) P:=by
 have hal:UA a:=zG hob;show Aij S9 AuK
 rw[list_sort_plain];show L4 (listItems_at (n:=n)) hob rfl;show D' (listUpdate_at (n:=n) hob rfl ?_ (B' List.size_toArray S9)) fI
 obtain⟨ea,hoa⟩:∃ea,Cl (BJm get?) Aw7:=AzN hob #[];show Aoh hoa;refine z6 (wpAny_newTuple ?_ (B9 S9))
 refine z6 (wpAny_newList ?_ fI);refine wpAny_holding (m:=_) ?_;have KJ:A7b Ae4 Aw7:=by
  refine Eq.trans AZy (Eq.trans AZy hoa)
  ·show Az8 (AXR hal)
  ·rw[Heap.size_update];exact zK hal
 have T2:T ((Ae4 Ad3).push Adf):=hst _ fun x o hx hxa=>by
  have hlt:=zG hx;refine Eq.trans AZy (Eq.trans AZy (Eq.trans (AFc hxa) hx))
  ·show Az8 (AXR hlt)
  ·rw[Heap.size_update];exact zK hlt
 dsimp only;have hsv:vs.toArray.size=vs.length:=List.size_toArray ..;by_cases hfew:vs.toArray.size<2
 ·rw[BD hfew,BD hfew];show JJ BV;rw[StateT.run_pure];show JJ BV;show Aoh KJ;have eo:Au arrOf (SortSt.mk' general' (vs.toArray.zip vs.toArray) #[] 7 none) (·.2)=WA (KU vs.length) Adp:=by
   show BLk;show UB
   ·simp
   ·intro i q1 q2;have:i<vs.length:=As q2
    simp [this]
  rw[eo];show JJ (Avf KJ rfl ?_ fI)
  ·show Axj;refine BV (h _ ET ?_);unfold xP;show BLe;intro i j hi hj hij;have:j<vs.length:=As hj
   omega
  ·simp;omega
 ·show w9 hfew hfew;show JJ (K.kind _ _ T2 χ)
  show BS ok Pq Uq yjw O;show f_ (W.kat_run (Q:=fun st' s' =>∃p:XN,p.size=vs.length/\arrOf st' =p.map (W.kas_item (vs.toArray.zip vs.toArray))/\failedOf st' =none/\p=A5x/\s' =BBp)
   (G:=fun p s' =>p=A5x/\s' =BBp)
   rfl χ χ (fun p st' s' a1 a2 a3 a4=>⟨p,a1,a2,a3,a4⟩) ?_) ?_ AOr
  ·exact ye6 (fun i j C hi hj hij hC=>K.ask _ i j C T2 hi hj hij hC) _ _ ok dr
  ·rintro⟨⟨⟩,st'⟩ s' ⟨p,hp,har,hf,rfl,rfl⟩;have eo:=W.kat_snds (vs:=vs) rfl har;rw[eo];show Aoh KJ;show JJ (Avf KJ rfl ?_ fI)
   ·rw[hf];show Axj;exact BV (h _ Pq (yjr Pq Uq))
   ·exact zO (Nat.le_of_eq (z7q hp)) χ
theorem zl3{src:Value}{Q:dW}
  (hc:wpAny Ee A.in1 (collect src) (ö s1 (∃lt T κ,A2V/\AuJ/\KH prog w A.in1.in1 E vs lt T κ/\ (∀h2:Heap,(∀x o,DC s1.heap.get? o ->DC h2.get? o) ->T h2)/\
   ∀(l:Addr) (h' :Heap) (is:At) e,s1.heap.objs.size<=l ->EJ AxO (xP lt is) (ACN l (c8 Al' e)) (∀b ob,r6 s1.heap.get? ->r6 h'.get?) (F7 l (AKT h')))) E s):
  Azd [src]:=by
 refine Calls.call_function_entry kind_sorted plain_sorted entry_sorted BMH A7k;show BLd;show AFp (checkCount "sorted" 1 1 _);show ALq (NU collect) hc (pv vs Et) AOr;obtain⟨lt,T,κ,O,h64,K,hT2,h⟩:=Et;show Aij S9 AuK
 refine z6 (wpAny_newList ?_ S9);show RC hoL s1.heap.push Aue s1.heap.objs.size Aue OQ;show BGS (zuc (T:=T) hoL O (hT2 _ fun x o e=>cS) (fun h' k=>hT2 _ fun x o e=>k x o Sf AOc) K h64 fun is a1 a2=>AFh);refine BV AFh;show CM e he (yk8 (vs:=vs) (out:=Al')) hoL;refine h s1.heap.objs.size _ is e D3 a1 a2 he (E8 ob eb);exact yer (z8 _ eb) (zK (zG eb))
#where
def pB(a b:Str):Bool:=Μ (a.cps.toList<b.cps.toList)
theorem zsy(a:Str):pB a a=false:=by unfold pB;simpa using List.lt_irrefl a.cps.toList
theorem ye9(h1:Ü)(h2:pB b c=true):pB a c=true:=by
 unfold pB at*;simp only [decide_eq_true_eq] at*;exact List.lt_trans h1 h2
theorem ygw(h1:pB a b=false)(h2:a≠b):pB b a=true:=by
 unfold pB at*;simp only [decide_eq_false_iff_not,decide_eq_true_eq] at*;cases q:Μ (b.cps.toList<a.cps.toList) with
 | true=>exact of_decide_eq_true q
 | false=>
  have:=List.le_antisymm (List.not_lt.mp h1) (List.not_lt.mp (of_decide_eq_false q));exact M1 (by cases a;cases b;simp at this;rw[this]) h2
theorem z18(h:Ü):pB b a=false:=by
 cases q:pB b a with
 | false=>rfl
 | true=>have:=ye9 h q;show Cc zsy this this
def Py(xs:Α)(i j:Nat):Bool:=pB AW6 (xs.getD j Str.empty)
theorem Fe{α:Type}{xs:A0}{i:Nat}{d:α}(h:uu):xs.getD i d=xs[i]:=Ah5 YN
theorem zy8{xs:Α}(nd:xs.Nodup):Ord (Py xs) xs.length:=by
 show AOl nd;show DD (fun i j hi hj hij h=> ?_) (fun i j _ _ h=>z18 h) (fun i j k _ _ _ h1 h2=>ye9 h1 h2);refine ygw h ?_;rw[Fe hi,Fe hj];show Aj2 hij
 ·exact key i j hi hj q
 ·exact Ξ (key j i hj hi q z.symm)
def pick{α:Type}(d:α)(xs:A0)(is:At):A0:=is.map fun i=>xs.getD i d
theorem zuu{α:Type}{d:α}{xs:A0}{is:At}(h:AR1 is.Perm xs.length):(pick d xs is).Perm xs:=by
 have e:KU xs.length (CO (xs.getD i d))=xs:=by
  show UB
  ·simp
  ·intro i q1 q2;show Ayg;exact Fe q2
 have:=h.map fun i=>xs.getD i d;show nk;exact this
theorem zt8(h:xP (Py xs) is):AKy (pick Str.empty xs is).Pairwise:=by
 unfold pick;rw[List.pairwise_map];exact h
theorem zoi{xs:Α}{vs:Ο}(r:AxX){i:Nat}(hi:uu):∃t,vs.getD i Value.none= .str AW6 t:=by
 show NR e ru (r.get (i:=i) (x:= .str AW6) (by rw[List.getElem?_map,Tk,Fe (d:=Str.empty) hi];rfl))
 rw[List.getD_eq_getElem?_getD,e];exact ru
theorem z1m{prog:Program}{w:World}{A:Around}{E:dW}{xs:Α}{vs:Ο}(r:AxX):BAd (BQ True) :=by
 have hl:vs.length=xs.length:=lf r.length this.symm
 show A8 (fun s Q _ h2 hQ=>W.kas_kind (T:= KM "str") h2 (OX hv ?_) Β Β hQ) (fun s i j C _ hi hj _ hC=> ?_)
 ·show xC k hk hv;show CM t e (zoi r (i:=k)) χ
  rw[Fe hk] at e;rw[e];exact W.Looks.of_pure rfl
 ·show CM t e (nI (zoi r)) χ
  show CM u e' (zoi r (i:=j)) χ
  unfold W.kas_ask;rw[e,e',keyLt'_oneType];exact oneLt_str hC
def KN:â Key | AOL=> AEx | AmH=> ku | _=> .inl 0
theorem ygz:∀k v,AK7 pG k v=true ->KN v=k:=fun k v h=>by
 rcases Cg h with ⟨i,t,rfl,rfl⟩ | ⟨x,t,rfl,rfl⟩<;>rfl
theorem zv9:V_ vs Ο ys Α (A3V pG) (vs.map KN=ys.map Sum.inr) (Vals (ys.map V.str) vs)
 | [],[],_,_=> CC
 | [],BY,_,h=>Bn
 | BY,[],_,h=>Bn
 | ź,y::ys,h,e=>by
  obtain⟨⟨k,hk⟩,_⟩:=h v zY;rw[List.map_cons,List.map_cons] at e;injection e with e1 e2;refine .cons ?_ (zv9 (fun u hu=>A0x) e2);rcases Cg hk with ⟨i,t,rfl,rfl⟩ | ⟨x,t,rfl,rfl⟩
  ·cases e1
  ·have:x=y:=AgA e1
   show T';exact Tm
theorem yao:HP ks DL xs Α (ks.Perm (xs.map Sum.inr)) (∃ys:Α,ks=ys.map Sum.inr/\ys.Perm xs):=fun{ks xs} h=>by
 have e:ks=Au ks.map (ut Abh) Sum.inr:=by
  show WU;show AMg Eq.trans (Tb List.map_id ks) Alp;show AEi x (zB.mp (h.mem_iff.mp hk))
  rfl
 show Yf e;have:=h.map fun k:Key=>Abh
 show BC List.map_map;refine this.trans ?_;rw[Se (List.map ((fun k:Key=>Abh) ∘ Sum.inr) xs) xs (List.map_id' xs)]
def sU(xs:Α):Α:=(lN AfZ xs.length).map fun k=>Abh
theorem zs6(xs:Α):A1u=Au sU xs Sum.inr:=by
 unfold sU;show WU;show AMg Eq.trans (List.map_id _).symm Alp;show AEi j ((zol _).mp hk)
 rfl
theorem Ag{xs:Α}{x:Str}:x∈sU xs↔x∈xs:=by
 have e:x∈sU xs↔ (Sum.inr x:Key)∈A1u:=by
  rw[zs6,List.mem_map];constructor
  ·exact A4r
  ·show ł y h;have:y=x:=AgA e
   show eS;exact h
 rw[e,zol];constructor
 ·show ł j hj;have:xs.getD j Str.empty=x:=AgA e
  rw[<- this,Fe hj];exact yU hj
 ·intro h;show NW j hj BLz;exact⟨j,hj,Gc (Fe hj) e⟩
theorem zr8(xs:Α):d6 sU xs:=by
 have:=zm5 AfZ xs.length;show BC zs6;exact List.Pairwise.imp (fun{a b} h z=>h (by rw[z])) (List.pairwise_map.mp this)
def HJ(P:Program)(w:World)(a:Addr)(xs:Α):HO:= AX5 (uJ ü KN uS h a (Au sU xs Sum.inr))
inductive HN (APq):Prop
 | mk:∀(p:Addr) (xs:Α),EJ (vs= [IR]) (mX X.K H p AjL) (AMG xs.length) (AQx q q q (FG q A2P)) (ACk HN)
def Mz(X:Cx):g_:=ANw HN
inductive HS (APq):Prop
 | mk:∀(q:Addr) (xs:Α),EJ AjU (Lv q A2P) (B2 sU xs<64) (∀(l:Addr) (ms:Α),JS l ->ms.Perm (sU xs) ->ASY ->F7 l (FG l (B8 (ms.map .str)))) (ACk HS)
def Wz(X:Cx):g_:=ANw HS
theorem z9u(yv):ADR "set" (Mz X):=by
 rintro pins s σ H xs us Q I r ⟨p,ns,e0,hq,hb,k⟩;subst e0;show MZ;cases rx;show Avg;show PZ;show AAe;show BCN
 refine D8 zov κ Key knd (pG X.prog X.w) kf KN ygz (val:=CO (.inr Auy)) N_ pl.isList A4_ Av4 A'm
 ·have hi:i<ns.length:=Θ hl (IO (B9 hv))
  show JY t (zoi rv hi);show Aun (show AiO by simpa using hv)
  have e' :v= .str Auy t:=e;subst e';exact Ì (M0 zpr)
 ·rw[hsz,zs6] at hS;have I2:ē (AbT HJ) S_:=
   oC I.laid hold D3 (UV _ (AbT HJ) ⟨hS,Ayu (N0 e),fun h1 h2 q st=>q.stay st⟩)
  exact AHS I2 k
theorem zow(r:Vals xs vs)(h:A1t):Vals (APS xs) (is.map Adp):=zvy r h
theorem zn4{α β:Type}{f:AUu}{d:α}{xs:A0}{is:At}{e:β}(h:A1t):pick e (xs.map f) is=(pick d xs is).map f:=by
 unfold pick;show WU;show AU2 i hi;show(xs.map f).getD i e=f (xs.getD i d);rw[A0R AVG,Fe (h i hi),List.getElem_map]
theorem z8n{X:Cx}(hc:Cn):kU "sorted" (Wz X):=by
 rintro pins s σ H xs us Q I r ⟨q,ns,e0,hq,h64,k⟩;subst e0;show MZ;cases rx;obtain⟨⟨o,es,ep,t,hg,O⟩,_,_⟩:=dq q hq;show Ap0 Ak6
 show AA_ 64
 refine zl3 (zpk Aza hg O χ BH5)
 show BS ys e1 hp yao hk;have rv:=zv9 hm e1;have Hw:vals.length=ys.length:=AxD
 have hly:ys.length=Ak6:=hp.length_eq;refine⟨Py ys,_,_,Θ Hw (zy8 (hp.nodup_iff.mpr (zr8 ns))),ω,z1m rv,BMo,fun l h' is e hle a1 a2 hl Ah=> ?_⟩
 show A6V hlt hle;show B3 hix i is (i< Ak7) i hi (ASG Hw Apw)
 have hrv:=zow rv hix;rw[AbB Str.empty (gy ARV)] at hrv
 have hms:(pick Str.empty ys is).Perm (sU ns):=(zuu (BF Hw a1)).trans hp
 have hlen:Ay':=Aua
 have I2:AlA AW':=
  oC I.laid (AtJ hold) hlt2 (UV _ AW' ⟨hlen,_,e,hrv,hl⟩)
 exact A4x BFn
def vA:Δ ->AG8 Str
 | []=>ATq
 | fh::r=>Au vA r (x:: ·)
 | BY=>none
theorem zvr(KK):∀{ds:Δ} {vs:Η} {xs:Α},Fm ->vA ds=some xs ->vs=xs.map .str
 | [],vs,xs,r,h=>AoA
 | SB,vs,xs,r,h=>by
  show Qr v r1 r r;cases d with
  | str x=>
   show BO vA;unfold Rep at r1;subst r1;cases q:vA ds with
   | none=>rw[q] at h;cases h
   | some ms=>show ArR zvr
  | _=>cases h
theorem WD(KK):∀xs:Α,Iq AjL (xs.map V.str)
 | []=>JP
 | n::ns=>tR FH (WD ns)
def zuf:MD:=Į (∃ns,vA xs=some ns/\ns.length<4095/\ Ak6<64/\A_3 (Amu ns))
section
variable{X:Cx}{F0 H0:Hp}{a e:Expr}{pos p pos2 p2:Pos}{t:cL}
theorem yds(BIq):
  BDZ zuf:=fun z E cx=>by
 have inner:PE E7 Aev (A7H Mz):=A6 Z6 (z9u hc) hg2 hm2 z1k DO Β Β he rfl
 refine oK (A6 Vc (z8n hc) hg hm hb BBL Β Β he2 rfl) (ER σ H Q hq1)
 show KE hq1;refine QQ ?_;unfold zuf at h1;show PR
 ·show APW;obtain⟨ns,hns,hlt,hme,h1⟩:=h1;show Kk (zvr rs hns);refine⟨l,ns,rfl,ADv,BL_,AWB⟩
  refine⟨q,ns,rfl,gG,hme,De l2 ms hl2 hp hs⟩;have R2:SL F1 (U2 q (HJ X.prog X.w q ns)) Γ1:=R1.grow (h_ (Fu (Θ (ţ R1.g hq0) (PM R1.g))) (Fu (AXV hq0)))
  obtain⟨R3,q1,q2,q3,ap⟩:=G6 R2 hl2 (WD (K:=X.K) (F:=F1) ms);exact A'U (h1 ms hs (CO (hp.mem_iff.trans Ag)))
 ·show mv
#where
open PySem.AutoSeq1 (wpAny_loadPart')
open PySem.MeetsSeq PySem.MeetsSeq3 in
theorem ybl(BI7):
  Meets (Builtin.«list.__eq__.loop» (GV [LG,ģ,ASE,ASE]))
   (fun A R s=>(Apv dd sl (A9d sl2) (c9 (pB x y)) s)):=by
 intro prog w A R s h;show UX s;show Aoj
 show AnE
 have hi1:EE items (LA).toNat AKv:=h1;have hi2:EE items2 (LA).toNat (.str y u):=h2;rw[hi1,hi2];have hne:(x.cps.toList==y.cps.toList)=false:=by
  cases q:(x.cps.toList==y.cps.toList) with
  | false=>rfl
  | true=>
   have e:=eq_of_beq q;exact M1 (by cases x;cases y;simp at e;rw[e]) hxy
 refine z6 (SeqRoads2.EqGives.str x y t u prog w _ _ _ _ ?_);rw[hne]
 show AnE
 rw[hi1,hi2];refine DE (richCompare .Lt _ _) (wpAny_richCompare_same (typeIs_str _ x t) (typeIs_str _ y u) slot_str_lt (call_str_lt (EU AV)) rfl)
 wp_walk
 exact h
open PySem.MeetsSeq PySem.MeetsSeq3 in
theorem ycx(BI7):
  A_j Builtin.«list.__lt__» (fun A R s=>(Apv dd sl (A9d sl2) (c9 (pB x y)) s)):=by
 intro prog w A R s h;show UX s;show Aoj;show Ayb
 show AnE
 exact⟨ADu plain_eq_loop,codeAny_builtin entry_eq_loop (B' (AJP plain_eq_loop) (ybl l b items items2 n n2 dd dd2 sl sl2 x y t u h1 h2 hxy prog w A R _ ⟨hl,hb,h⟩))⟩
def J1(h:Heap)(v:Value)(x:Str):Prop:=∃a its t,v= AR/\PlainL h a its/\EE its 0 AKv
theorem ydd(h1:J1 s.heap v x)(h2:J1 s.heap v' y)(hxy:x≠y)(hu:Am_)(h:Q (pB x y) s):Ff (oneLt' true v v'):=by
 obtain⟨a,its,t,rfl,⟨o,n,e1,c1,d1,s1⟩,z1⟩:=h1;obtain⟨b,its2,u,rfl,⟨o2,n2,e2,c2,d2,s2⟩,z2⟩:=h2;obtain⟨cls,dict,data,slots⟩:=o;obtain⟨cls2,abT,data2,Pz⟩:=o2;cases c1;cases d1;cases s1;cases c2;cases d2;cases s2;rw[oneLt'_eq];show Hn wpAny_cRoomFor_or (DH hu);refine z6 (wpAny_callSpecialIfBound?_slot (T:= "list") (HR e1) F.slot_list_lt (call_meets F.slot_list_lt (HR e1) F.entry_list_lt (F.args_list_lt_2 _ _) (ycx a b its its2 n n2 none none slots Pz x y t u z1 z2 hxy) ⟨e1,e2,?_⟩));exact wpAny_truthy_bool h
theorem J1.up(q:J1 h v x)(k:qV Q2 sB):J1 h' v x:=by
 obtain⟨a,its,t,e,p,z⟩:=q;exact⟨a,its,t,e,p.keeps k,z⟩
theorem J1.looks(q:J1 h v x):W.Looks M h (typeOf v) (Kb "list"):=by
 obtain⟨a,its,t,rfl,⟨o,n,e,c,_,_⟩,_⟩:=q;intro A Q E s k hQ;exact wpAny_typeOf_ref (k _ _ e) (B' c hQ)
theorem yfv(hl:vs.length=xs.length)(nd:xs.Nodup)(hu:Am_):
  BAd (MO (∀i,uu ->J1 h (vs.getD i Value.none) AW6)) :=by
 show A8 (fun s Q hT h2 hQ=>W.kas_kind (T:= ABh) h2 (OX hv ?_) Β Β hQ) (fun s i j C hT hi hj hij hC=> ?_)
 ·show xC k hk hv;have:=hT k χ
  show BC (Fe hk);exact this.looks
 ·unfold W.kas_ask;rw[keyLt'_oneType];refine ydd (hT i χ) (hT j χ) ?_ hu hC
  show AOl nd;rw[Fe χ,Fe χ]
  show Aj2 hij
  ·exact key i j χ χ q
  ·exact Ξ (key j i χ χ q z.symm)
def gl(g:Α):D:= .lst (g.map .str)
def hdS(g:Α):Str:=g.headD Str.empty
theorem ymo(I:Ι)(sF:fc)(r:Rep X.K F (gl g) v)(ru:LM)(hg:g≠ []):J1 s.heap u (hdS g):=by
 show EN a vs hq rs r;cases ru;show APK;cases g with
 | nil=>show ACr hg
 | cons x g=>
  show Qr w rfl rs rs;cases rv with
  | cons r0 rr=>
   show Lc r0;exact⟨a,_,t,rfl,pl,BG hdS⟩
def z6t:MD:=Į (∃gs:HZ,xs=gs.map gl/\ (∀g∈gs,g≠ [])/\ d6 gs.map hdS/\gs.length<64/\
   ∀ms:HZ,ms.Perm gs ->ms.Pairwise (r_ Aq2) ->AKZ gl)
theorem yl9(hu:X.A.units+21<cLine):kU "sorted" (Ez X.K z6t):=by
 rintro pins s σ H xs us Q I r ⟨F,ds,P,sF,rs,h,k⟩;show BO z6t;show Co
 ·show iE;obtain⟨gs,rfl,hne,nd,h64,h⟩:=h;show MZ;cases rx;show APK;show PZ;have hl2:=jH rs;show AQP hl2;show AA_ 64
  have hT:∀i,i< AzI ->J1 s.heap (its.getD i Value.none) (Aci (gs.map hdS).getD):=fun i hi=>by
   show AQP hi;show Sc e1 r1 (xG rs (i:=i) (d:=gl gs[i]) (xE Tk))
   show BS u e2 r2 rv.get e1;show Ad7 e2 (A0R hi) List.getElem_map
   exact ymo I sF r1 r2 (hne _ (yU hi))
  have hup:∀x o,Auc ->DC ((s.heap.push (seqObj "list" #[] 0)).update s.heap.objs.size (Obj.mapSeq (· ++its.toArray))).get? o:=fun x o e=>by
   show AYh;exact Eq.trans (AFc (zK hlt)) (z8 _ e)
  refine zl3 (collect_list (vs:=its) pl.isList ?_ χ)
  refine⟨Py (gs.map hdS),_,_,Θ (Avx (its.length=AzI)) (zy8 nd),ω,yfv (by show EQ;omega) nd (AeI (ABf (X.A.units+1))),fun h2 k2 i hi=>(hT i hi).up fun b o e=>k2 b o (WB hup),fun l h' is e hle a1 a2 hl' Ah=> ?_⟩
  have hsz:s.heap.objs.size<=l:=zO (Nat.le_succ _) (zO (Nat.le_of_eq (Tb (Heap.size_update ..).trans (size_push' ..))) hle);show B3 hix i is (i<its.length) i hi Apw;have hrv:=zow rv (is:=is) (ky Ahl)
  have hrs:aK X.K F (APS (gs.map gl)) (APS vs):=zve rs (ky (Ak_ ARV))
  rw[AbB [] Ahl] at hrs
  have hpm:(pick [] gs is).Perm gs:=zuu (Θ (HC gs.length its.length) a1)
  have hlen:BH (XI pick V.non vs is):=by
   unfold pick;show ALC a1.length_eq List.length_range;omega
  have I2:NJ l (B8 (APS vs)) (U1 h' s.toks):=
   AiE (AtJ hup) hsz (UV _ (B8 (APS vs)) ⟨hlen,_,e,hrv,hl'⟩)
  refine G0 LG I2 (k _ _ l hrs (AR0 hsz) (h _ hpm ?_));have hp:=zt8 a2;rw[AbB [] Ahl] at hp
  exact List.pairwise_map.mp hp
 ·show EB
#print L3
namespace L3
open PySem PySem.Spec PyProof.Rows L2
open PySem.AutoSeq1 (wpAny_loadPart')
theorem zql(l:Addr)(items:ES)(n:Nat)(b:Addr)(items2:ES)(n2:Nat)(sl:vn)(hc0:¬(AvF items.isEmpty AyM))(hc1:Agf)(hs2:AyM<=sizeLine+1):
  A_j Builtin.«list.extend» (fun _ R s=>(Apv none #[] (AIr none (.seq items2 n2) sl) Value.none (U1 (s.heap.update l (Obj.mapSeq (T_ (x++items2)))) s.toks))):=
 BG_ (by
  show UX s;show Aoj;have f1:=AutoSeq1.idx_int;have f2:=AutoSeq1.sub_tuple_tuple;show Ayb;have f4:=AutoSeq1.sub_tuple_list;have f5:=AutoSeq1.sub_list_tuple;have hz' :(items++items2).size<=sizeLine+1:=Θ Array.size_append hs2
  wp_walk using (wpAny_updateSeq hl rfl (hz:=hc1) (_hz' :=hz')),BJy,BJz;exact NG h)
theorem z86:OwR X "list.extend" zu1:=by
 intro pins s σ F H l vs args xs ds us P Q I hl sF rs ra rv h k;show BO zu1;show Co
 ·obtain⟨v,_,rfl,⟨b,zs,rfl,hq,rz⟩,rfl⟩:=ra;show BS u rfl ru vals1 rv;cases ru;obtain⟨z,its,n,r,hle,e⟩:=I.lstM hl;obtain⟨its2,r2,⟨o,n2,e2,c2,d2,s2⟩,hz2⟩:=BJa;obtain⟨cls,dict,data,slots⟩:=o;cases c2;cases d2;cases s2;have abY:=r2.length;have l1:=jH rs;have l2:=jH rz;have hsz:BH AyN:=ALW List.size_toArray List.size_toArray
  have WK:¬(AvF its.toArray.isEmpty AyN):=NH (ybr hsz) Bool.and_false zJ
  refine call_meets PySem.F.slot_list_extend (HR e) PySem.F.entry_list_extend (PySem.F.args_list_extend_2 _ _)
   (zql l its.toArray n b its2.toArray n2 slots WK AWI χ) ⟨e,e2,?_⟩
  refine G0 AE (I.lset (its' :=its++its2) hl e Χ (r.append r2) ?_) (k _ _ (Km rs rz) h.2)
  rw[List.length_append];omega
 ·show EB
def zxw:MD:=ABy [.dic ks _] (P (ks.map mC))
theorem zf3:∀{xs:Η} {us:Ο},Au8 ->(∀(i:Nat) (x:V) (u:Value),jp ->Ch us u ->mT) ->RA
 | [],[],_,_=> CC
 | [],BY,h,_=>Bn
 | BY,[],h,_=>Bn
 | KF,u::us,h,k=> .cons (k 0 x u rfl rfl) (zf3 (B9 h) fun i y w e1 e2=>k Bi y w (B9 e1) (B9 e2))
theorem MF:∀{kvs:WO} {ws:AJ'} {i:Nat} {p:κ×Value},Aiq ->Ch ws p ->∃v,ATj (A3,v)/\RelV v p.2
 | _,_,_,_,CC,e=>AMk
 | _,_,0,p,Nc (a:=q) h _,e=>by
  simp at e;subst e;show AG6 h;exact⟨q.2,by rw[<- h1];rfl,h2⟩
 | _,_,BM,p,Nc _ r,e=>by
  show Sc e1 e2 (nI MF r Ŕ)
  exact⟨v,As e1,e2⟩
theorem PB:∀{ks:YE} {vs:Η} {i:Nat} {k:κ} {v:V},Ch qE (k,v) ->Ch ks k/\AFu:=fun{ks vs i k v} e=>by
 rw[List.getElem?_zip_eq_some] at e;exact e
theorem ygi(yv):Ajc (Ez X.K zxw):=by
 rintro pins s σ H xs us Q I r ⟨F,ds,P,sF,rs,h,k⟩;show BO zxw;show Co
 ·rename_i ks ds';obtain⟨v,_,rfl,⟨a,vs,rfl,hq,hkl,rs⟩,rfl⟩:=rs;show MZ;cases rx;obtain⟨hz,hsm,ws,kv,hd⟩:=RD I.hok (sF _ _ hq);show K_ ob es ep hd hd;have hm:Au6:=⟨ob,es,hd⟩;have Tc:ARJ=ws.length:=kv.length;have hlk:ks.length=ws.length:=by rw[<- Tc,List.length_zip,<- hkl,Nat.min_self]
  rw[Tc] at hz;refine W.kdl_call (AtM W.kdl_dict hsm) N_ hm hz fun h' tk acc c hold hg hac=> ?_;have hv:Vals (ks.map kV) acc.toList:=by
   show Asw (AvQ Array.length_toList (hlk.trans (hac.1).symm))
   obtain⟨k,w,e3,e4⟩:=A8P hac.2
   obtain⟨v5,e5,_⟩:=MF kv e3;have e5:=(PB e5).1;show AQQ e5 e1;cases e1;rcases Cg e4 with ⟨j,t,rfl,rfl⟩ | ⟨x,t,rfl,rfl⟩
   ·exact Tm
   ·exact Tm
  have I2:ē (B8 Ais) S_:=
   oC I.laid hold D3 (UV _ (B8 Ais) (A_L Ŏ))
  exact G0 ç I2 (k _ _ _ (Vr ks) Avd h)
 ·show EB
#print L3
namespace L3
open PySem PySem.Spec PyProof.Rows L2
theorem zyl(I:Ι)(e:ş)(ho:Aiu):NJ a cq s:=by
 have ne:Sj wn (AbY) IQ:=AYZ z (by rw[z,e] at q;cases q;exact n _ rfl)
 refine AqG s.toks ⟨fun _ _ q _ _ _=>q,A3k,De b ob q n _,AmP (ğ ob),AkA,A5c,JU ps (EU #[])⟩ gE
 ·rw[ų (by rw[z,e] at n;cases n)];exact n
 ·rw[ApH];exact q
 ·rw[ApH];exact q
 ·rw[ApH];simpa using q
 ·show OA
  ·subst hb;rw[gG] at q;cases q;show CD ho;exact(B_ (ce H s.heap b Iy) (dq b e))
  ·rw[ZI] at q;exact vt I.hok q (pp z z) (Nd z A7Z) (ve z A7Z)
def Itw(As_):It:=A3p (∃k,ATj (k,x))
theorem Td(I:Ι)(e:AJt)(J2:BKP):∃ws,Aiq/\Au6:=by
 obtain⟨ho,_,_,ws,kv,o',es,ep',h1,h2,h3,h4⟩:=(B_ (ce H s.heap a cq) (dq a e));rw[ho] at h1;cases h1;obtain⟨es',h5⟩:=J2;rw[h3] at h5;cases h5;exact⟨ws,kv,o,es,ho,h2,h3,h4⟩
theorem z4z(BDQ):AG4 (Itw a o kvs) (h.IsValIter it a i kvs.length ep) where
 mem:=AV
 obj:=AAo (by
  show ž
  show APl;exact AGL)
 keep:=AaI
 item:=by
  intro X hP hw hK hc i pins s σ H E I hf st hg;show KL;show AAz;show UY
  show AHk;show ŧ;show AHb;show Asy
  show Ara;refine wpAny_pyNext_values_item st hd hw (Re hit' sb);have I1:ő:=AO6;show K_ o' e c d hit';exact JO u (A2z v rv ⟨rfl,k,hv⟩)
 done:=by
  intro X hP hw hK hc i pins s σ H E I hf st hg;show KL;show AAz;show UY
  show AHk;show ŧ;show AHb;exact wpAny_pyNext_values_end N_ st hd (List.getElem?_eq_none hx) AHT
 self:=AOa wpAny_pyIter_valiter
def WL(te:TE):TI:=BK1 (Axt (AIf ->∀o,R (Itw a o kvs) Aio))
theorem z7x(he:SE)(hbase:X2 "values"=A7 e:=by rfl)(hline:sq:=by rfl):
  eK ARF (WL te):=by
 show ft;refine wpAny_Call_method0_late hbase hline (NA gI v hq1);obtain⟨x,H1,I1,r1,a,kvs,ex,ea,q⟩:=hq1;subst ex;show AYC;show AtN (.inl ea);show BAk;obtain⟨hz,_,ws,kv,dd⟩:=AW3 RD;refine call_meetsIn PySem.F.slot_dict_values hT PySem.F.entry_dict_values (PySem.F.args_dict_values_1 _) (meets_dict_values î a hsm) (EU ⟨ws,dd⟩);obtain⟨o,es,ep,h1,h2,h3,h4⟩:=id dd;have hm:AN9:=AbP h1;have I2:=zyl I1 ea h1;show A6c;have I3:OK Aio (zt s1 (BK2 "dict_values") s1.toks):=I2.kept Sk;refine wpAny_pyIter_values vw Agj ?_;refine⟨_,[A3b],_,_,_,rfl,AIQ I3.kept Sk,As3 z4z,?_,FV,q hz o⟩
 ·rw[kv.length];exact RU
 ·show Ab' A3b
  exact I3.fpOk D3 (I3.hok.fresh D3)
section
variable{K:W.Frag}{F0 H0 F H:Hp}{σ:St}{Γ:ef}
theorem SR.chg(R:D_)(h2:wp)(h3:eB)(ap:xt):b9 F AGR:=by
 show B5 ⟨R.gr.f,gE,gE,gS (R.gr.n b o q n)⟩ R.len A0T R.ap
 ·rw[Ø h2];exact R.g b u q
 ·rw[Ø h3];exact R.gr.h b u q
 ·show Abm (R.sl j s' q) A8n IQ (ap j BEY) q'
#where
theorem yaz(BIl):Akg Itw xs:=by
 have hl:=jH rs;show AtF vs.length
 show AHv ω q Adc
 show AN1 hd;show AiX (IO hv);show AlR
 obtain⟨rfl,k,z⟩:=z;have:=(PB z).2;show BC hv;show EV;exact Ar2
def z1p(tn:qY):cL:=AZT (I_ t AXU (P (kj ts) Γ1))
section
variable{X:Cx}{F0 H0:Hp}{e tg:Expr}{apos cpos:Pos}{tn:qY}
open Classical in
theorem z76(he:AAg)(hbase:X2 "values"=A7 e:=by rfl)(hline:sq:=by rfl):
  AGO ARF (z1p tn):=AR6 (A9H z7x) (AfR (AKI (fun t Γ1 F1 H1 v as R1 s1 nd hn r h1=>by
  show PR
  ·rename_i ks ts;show zn;refine ZE a ea (AJ hz o);show Amo;have sF:VV (AQe AWb (AJW H1 F1)):=Fu (by
    show L_ (AI (b=a) AWb (AJW H1 F1));rw[Do (Ξ (AWA (tT List.mem_cons_self))),A'E]
    exact e)
   have R2:=BFj R1.chg (.frz o c_) sF (EK) BBr
   ·refine k _ Γ1 _ _ _ R2 AMI (yaz ?_ hkl (fj.rep sF ts vs bs (fun c hc u hu=> ?_) r) hz) h1
    ·show WZ
    ·rw[Do (show¬c=a from fE nab hc),BD hc];exact hu
   ·show AWY AWb H1 F1;show OA
    ·subst hb;rw[B4] at e';rw[gG];exact e'
    ·show BGB R1.g
   ·show AWY AWb H1 F1;show OA
    ·subst hb;exact(hn b zY).2
    ·show BCx
  ·show mv)))
#where
theorem HW{K:W.Frag}{F:Hp}{k:Key}{v:V}(h:Rep K F ARR v):v=kV k:=by
 cases k with
 | inl i=>exact h
 | inr x=>exact h
theorem zu0(h:Q_)(k:Key):(ji qE k).isSome=AXm:=by
 unfold ji mK;rw[Option.isSome_map];induction ks generalizing vs with
 | nil=>rfl
 | cons k' ks ih=>
  cases vs with
  | nil=>cases h
  | cons v vs=>
   rw[List.zip_cons_cons,List.find?_cons,List.any_cons];by_cases q:k' =k
   ·simp [q]
   ·simp only [q,decide_false,Bool.false_or];exact ih (B9 h)
theorem yac{ks:DL}{vs:Η}{k:Key}{v:V}{q:Nat}(nd:ks.Nodup)(h1:An8)(h2:qi vs v):BGC:=by
 unfold ji;induction ks generalizing vs q with
 | nil=>simp at h1
 | cons k' ks ih=>
  cases vs with
  | nil=>simp at h2
  | cons u vs=>
   show AvR;cases q with
   | zero=>
    have e1:k' =k:=As h1
    have e2:u=v:=As h2
    simp [e1,e2]
   | succ q=>
    have hm:AXM:=yV ħ
    have ne:k' ≠k:=Ξ (j' lI hm);simp only [ne,decide_false];exact ih AHA ħ AKR
def WM(i:Nat)(tk:cD):TT2:=ON tk kd (∃k as ks ts,kd=mC k/\Aja/\D5 (! AXm))
def WQ(i j:Nat)(tn:qY):aG:=TC tn t (∃k as ks ts,Al6/\Aja/\A8N/\AVP/\∀cs,AGY (.tr Ak2 (Kj (ks++ [k]) Aea)))
def WR(i j l:Nat)(tv:cD):aG:=TC tv d (∃k k2 as ks ts q PJ xs,Al6/\EE Γ1 l (.pu (mC k2))/\Aja/\ks.Nodup/\An8/\
 qi ts (.dic PJ AMc)/\Ï PJ.length/\AGY (Acu BCu))
section
variable{X:Cx}{F0 H0:Hp}{ke value:Expr}{pos npos Ai MJ pos' pos2:Pos}{x y w:Str}{i j l:Nat}{tk tv:cD}{tn:qY}
theorem yjv(hu:RS)(hk:Bz ke tk)(hN:EC)(hv:Id)(hd:AT x "__debug__":=by decide)(hcd:AT x "__classdict__":=by decide)
  (hb:behindInMarks vy HU=false:=by show AQR):
  WN (AQc ke vy [.Name x npos]) (WM i tk):=fun z E cx=>
 Ow (A6 ZP (A6 zxg hu Agm UQ) hb) (DM σ H Q hq1 P hq1 (KW (fun kd Γ1 F1 H1 v R1 s1 rk hq2=>by
  obtain⟨kk,as,ks,ts,e1,e2,h1⟩:=hq2;subst e1;show ANS;subst ev;show Apn;show zn;refine⟨AR,e3,a,_,rfl,BAm,_,rfl,?_⟩;rw[zu0 hkl];exact k _ _ _ _ R1 s1 h1)))
theorem yjq(hu:RS)(hN:EC)(hv:Id)(WT:yy)(hv2:AXl)(hval:A1T)(hs:ANU HU AeU:=by rfl)
  (hd:AT x "__debug__":=by decide) (hcd:AT x "__classdict__":=by decide) (hd2:AT y "__debug__":=by decide) (Cu:AT y "__classdict__":=by decide):
  AKo (ACu HU AeU) (WQ i j tn):=fun z E cx=>
 rY (AO2 Z8 UQ Amw hval hs) (DM Dn σ H yx D2 yx (KW (fun t Γ1 F1 H1 v cs R1 s1 ndc hnc rt yG=>by
  obtain⟨kk,as,ks,ts,e1,e2,hh,hl,q⟩:=yG;show Apn;show A6X;show ANS;subst ev;show zn;refine⟨AR,e3,kV kk,e4,a,_,rfl,A'9,?_⟩
  show B3 own b q_ (oH Γ1 σ i b) b hb ⟨_,_,e2,e3,hb⟩;have dis:AR8 (b∉cs):=EM hb hc ((hnc b hc).2.2 i (own b hb));show Amo;rw[Wx hkl];unfold jw gD;rw[Do AWl,Do AWl]
  refine dP (R1.wrT e2 e3 (B_ A1W zY) (t:= .tr (q_++cs) (.dic ACi Aea)) ⟨_,rfl,?_,FV,?_⟩ FV) (q cs)
  ·show Agt (AyV nd (e ▸ hy))
  ·show al
   ·exact AFR
   ·exact⟨Ll hnc,ACe hnc⟩
  ·show ML a (vs++ [v]) AY4 rfl rfl gG Ag_
   have m:=Ap1 AzP (AD' (AVF (fE nab hb)))
   have l:=Ads TR.move AzP ET t v cs (AD' (AVF (Ξ (dis a List.mem_cons_self (z ▸ hb))))) rt
   exact Pr m (Pu l)
  ·show al
   ·show CB hb
   ·show CU (uv hnc))))
theorem ykl(hu:RS)(hN:EC)(hv:Id)(WT:yy)(hv2:AXl)(hN3:ApX)(hv3:Aik qK)(hval:Anh)
  (hs:ANU A9S (C5 w MJ):=by rfl)
  (hd:AT x "__debug__":=by decide) (hcd:AT x "__classdict__":=by decide) (hd2:AT y "__debug__":=by decide) (Cu:AT y "__classdict__":=by decide)
  (hd3:AT w "__debug__":=by decide) (PK:AT w "__classdict__":=by decide) (hns:Kl (.Name y Ai):=by exact AUt):
  AKo (ACu A9S (C5 w MJ)) (WR i j l tv):=fun z E cx=>
 rY (AO2 Z8 (A6 z5x hu UQ Amw hns) (BCO hN3) hval hs) (DM Dn σ H Gq D2 Gq (AWa Ox (by
  obtain⟨kk,k2,as,ks,ts,q,PJ,xs,e1,e1',e2,ndk,hq,ht,hl,hnx⟩:=Ox;show Apn;show A6X;obtain⟨o3,e5,w3,rfl,rk2⟩:=R1.sl l _ e1';show ANS;subst ev;have ev:=HW rk2;subst ev;show zn;obtain⟨u,b1,bs',b2,hu',hbs,rc,back⟩:=Anl;subst hbs;obtain⟨c,us,ds,rfl,rfl,ec,PL,rc⟩:=rc;show APN rc;have nab:a∉AVk:=lI;have nd2:=AHA;have hac:a≠c:=Ξ (ADL nab)
  have hc1:Azk:=EM hb z (by
   subst z;show AnU nd2;show al
   ·exact As9
   ·have:=ABn p.2.1;exact this hb)
  have gd:qO H1 a (kV kk) (BU (AH c)):=rX BAm AsG
  refine⟨AR,e3,kV kk,e4,a,ATU,rfl,gd,kV k2,e5,c,_,rfl,Ab.k (k:=k2) ec (by show AJa PL;exact hl),?_⟩
  rw[Wx PL];refine dP (R1.wrT e2 e3 (B_ (gH (ACy AUD ks ts) jn c) Alx) (t:= .tr AUD (.dic ks BCu)) ⟨_,rfl,nd,hn,?_⟩ AFT) hnx
  show ML a vs AVk rfl rfl (ZN hac ea) hkl
  refine back ET (AD' (Ĵ hc1)) ?_
  exact A6Y PL)))
#where
abbrev PN:=T ->Δ ->BN (BN T D) (BN T XV)
def jx(as:AO)(H:Hp):Hp:=RY (AKO ï (H b))
theorem z6p:fF (jx as H):=Fu (by
 show MS jx;split at e
 ·cases e
 ·exact e)
theorem zus(h:ï):jx as H b=none:=wt jx wS
theorem z9l(h:b∉as):jx as H b=H b:=wt jx e9
theorem TR.root(AGd):∀{t:T} {v:V} {a:Addr} {cs:AO},Aau AJL ->di
 | .leaf _,_,_,_,h=>kH C_
 | nL,_,_,_,h=>Asu
 | Ŗ,_,_,_,h=>Asu
 | Ŭ,_,_,_,h=>Asu
 | .ob _ _ _,_,_,_,h=>by obtain⟨b,_,_,_,rfl,e,_⟩:=h;cases (e);rfl
 | ŗ,_,_,_,h=>kH C_
inductive HX (AaX PN):Prop
 | mk:∀F a bs t ds rest P Ex,(vs=V.ref a::rest) ->Ω ĝ (AiG) ((M3 q_ kB)) (TR K F H t Cb i4) (EJ BKg (sp t ds P Ex) ((∀t' d v cs F' H',YI (AOv AAl) (AJL).Nodup Azp A5V Ts (P t' d) k7)) (∀x C dx t' cs F' H',YI (AOv AAl) (AJL).Nodup Azp A5V (A8u AAl) (Ex t' x) APc) (AJD HX))
def DW(K:W.Frag)(sp:PN):Sp:=AXx HX
def startM(n:Nat)(s:Slot)(ds:Δ):G2:=s::(ds.map .pu++ALG (n - 1 - ds.length) A_)
theorem z8d(A'G){a:Addr}{bs:AO}{t:T}{ds:Δ}{vs:Η}(h:fF F0)(nd:AiG)(hn:AR8 (KS F0))(rt:TR K F0 H t Cb i4)(r:A8M):
  SR K F0 AAl F0 H (L2.start N (AR::vs)) Amt:=by
 have hl:=jH r;have slot:∀(i:Nat) s,Ch Amt s ->∃o,Ch (L2.start N (V.ref a::vs)) o/\mD K F0 H AAl s o/\ (i≠0 ->∀o c,¬gH s o c):=fun i s e=>by
  show MS startM;unfold L2.start;cases i with
  | zero=>cases e;exact AL7 ⟨_,rfl,nd,Ö AFR (zus hb),rt⟩ (Ξ (M1 rfl z))
  | succ i=>
   simp only [List.getElem?_cons_succ] at e;simp only [List.map_cons,List.cons_append,List.getElem?_cons_succ];show Ajf
   ·rw[xl,List.getElem?_map] at e
    cases q:ds[i]? with
    | none=>rw[q] at e;cases e
    | some d=>
     show Y2;cases e;show Sc e1 r1 (xG r q);show B5 uA ?_ (Ū r1) (fun _ _ _ z=>z);show A'X;rfl
   ·show AWi Ĭ
    split at e
    ·cases e;rename_i hlt;show Af7 hlt;show B5 none ?_ trivial (fun _ _ _ z=>z);show A4X (if_pos (by simp only [List.length_map,List.length_cons];omega))
    ·cases e
 show B5 (h_ h z6p) (by simp [L2.start,startM,hl];omega) (NM i s) (De i j c ⟨s,o,e,_,hs⟩ ⟨s',o',e',_,hs'⟩)
 ·obtain⟨o,h1,h2,_⟩:=slot i s e;exact⟨o,h1,h2⟩
 ·by_cases hi:i=0
  ·by_cases hj:j=0
   ·rw[hi,hj]
   ·obtain⟨_,_,_,h3⟩:=slot j s' e';exact(h3 hj _ _ hs').elim
  ·obtain⟨_,_,_,h3⟩:=slot i s e;exact(h3 hi _ _ hs).elim
abbrev PX(a:Addr)(Q:BN T D):rW:={nx:=fun Γ=>(AsP (Q t' AE)),rt:=WG,rm:=fun d Γ=>(AsP (Q t' d))}
abbrev Qa(a:Addr)(Ex:BN T XV):XW:=fun Γ C=>(AsP (Ex t' C))
section
variable{P:Program}{w:World}{K:W.Frag}{mg:B0}{base:Heap}
theorem aby{x qual p0:Str}(APo PN)(Fn:Υ x qual st)(S:AAj (p0::ps))(len:∀t ds Q E,sp t ds Q E ->BJR)
  (hbody:ABT (∀F0 H0:Hp,
   ∃tt,uQ SU F0 H0 sD tt/\∀a bs t ds Q Ex,sp t ds Q Ex ->tt (PX a Q) Amt An5)):
  ABt FI (p0::ps) DW sp:=by
 show yn;refine Oe lk hcd S (fun vs H Q E hh=>by
  obtain⟨F,a,bs,t,ds,rest,P',Ex,ev,_,_,_,_,rs,hs,_⟩:=hh;show Aqc ev (kG len hs)) fun A outer s H vs Q E hr hh=> ?_
 obtain⟨F0,a,bs,t,ds,rest,Pd,Ex,ev,sF,nd,hn,rt,rs,hsp,hQ,hE⟩:=hh;subst ev;obtain⟨tt,ht,hq⟩:=hbody cdv A outer s H E hr F0 AAl;have cx:Ctx BJW F0 AAl An5:=by
  show A8 ABU AAn;show ABV;obtain⟨Γ',F',x,R',_,xr,_,⟨cs,t',e0,z1⟩⟩:=z;obtain⟨o,e1,v,rfl,nd',hn',MK⟩:=ApY;have hv:=MK.root;subst hv;exact hE x C dx t' cs F' H' R'.gr nd' hn' MK (xr.back R.gr.h) z1
 refine⟨_,Adj,F0,startM N.length Ado ds,PX a Pd,z8d sF nd hn rt rs,hq a bs t ds Pd Ex hsp,⟨fun Γ F' H' σ R' _ BAp=> ?_,ACg,ACg,fun d v F' H' gr rv q=>q.elim,li,Abx,fun d v Γ F' H' σ R' rv BAp=> ?_⟩⟩
 ·obtain⟨o,e1,v,rfl,nd',hn',MK⟩:=ApY;have hv:=MK.root;subst hv;exact hQ t' AE AE cs F' H' R'.gr nd' hn' MK FH q
 ·obtain⟨o,e1,u,rfl,nd',hn',MK⟩:=ApY;have hv:=MK.root;subst hv;exact hQ t' d v cs F' H' R'.gr nd' hn' MK rv q
#where
def qZ(h:Heap)(d:Addr)(es:ALw)(ep:Nat):Prop:=∃o,wy d/\o.ExactDict/\AjT
theorem qZ.at(x:AV_)(k:∀o,wy d ->sf d):AQO h':=let ⟨o,e,r⟩:=x;P1 (k o e) r
theorem qZ.lt(x:AV_):d<h.objs.size:=let ⟨_,e,_⟩:=x;J_
theorem qZ.typeIs{s:Shared}{d:Addr}{es:ALw}{ep:Nat}(x:ANA):Alf (AH d) :=let ⟨o,e,c,_⟩:=x;ð c.1
section
variable{prog:Program}{w:World}{A:Around}{E:dW}{s:Shared}{d it:Addr}{es:ALw}{ep i:Nat}
theorem yaq{Q:dW}(hd:AcF d)(hm:ANA)
  (hQ:ANe (ND "dict_keyiterator" #[.ref d,vc,cz es.size,cz ep])):AVV d:=by
 show K_ o ho hc hdat hm;have hT:=hm.typeIs;refine wpAny_pyIter_slot hT PySem.F.slot_dict_iter (vT PySem.F.slot_dict_iter hT PySem.F.entry_dict_iter PySem.F.args_dict_iter_1);unfold Builtin.«dict.__iter__»;show KB;show Hn wpAny_notOrdered_dict hT;refine z7 ?_;show AGS (Builtin.Dict.showsAll d);unfold Builtin.Dict.showsAll;rw[Do (ALQ hd)]
 show gT;show L4 wpAny_dictEntries ho hdat;show L4 wpAny_dictEpoch ho hdat;show D' wpAny_newObj_type (z7 ⟨_,rfl,"dict_keyiterator",_,AJw,PySem.F.slot_dict_keyiterator_next.lookup,?_⟩)
 simpa [rawInt] using hQ
theorem ydz(hit:A3w)(hm:ANA)(hlt:Ac2)
  (hQ:tN (AwI h'.IsKeyIter) (AmO it) (Q (some es[i].key) Lu)):Ż it:=by
 show K_ o ho hc hd hit;show K_ od hod hcd hdd hm;show AUB (AEV hit.typeIs PySem.F.slot_dict_keyiterator_next
  (vT PySem.F.slot_dict_keyiterator_next hit.typeIs PySem.F.entry_dict_keyiterator_next PySem.F.args_dict_keyiterator_next_1))
 show gT;show KB;show KB;show AaR;show L4 wpAny_fieldsOf ho hd;have hown:Azh:=AS
 show ACb (yA AXb);show AZx AXb;show gT;show AwK;show AFG
 show gT;show AwL;show AFG
 refine z7 ?_;show BFQ AuV
 show KB;show AaR;show Hn wpAny_isOneOf_keyiter hit.typeIs;show AGS (ASd t9 1 (Fh+1));refine z6 (wpAny_setField ho hd Χ ?_)
 have hit' :AwI (s.heap.update it (Obj.mapFields (·.setIfInBounds 1 (rawInt ((i:Int)+1))))).IsKeyIter:=
  AqR
 show JJ wpAny_holding;refine z6 (wpAny_isOneOf_keyiter (s:={s with heap:=s.heap.update it (Obj.mapFields (·.setIfInBounds 1 (rawInt ((i:Int)+1))))}) hit'.typeIs ?_);exact z7 (z7 (NG (A0_ hit')))
theorem yh6(hh:Ic)(hit:A3w)(hm:ANA)(hge:es.size<=i)
  (hQ:AW4 BBH):Ż it:=by
 show K_ o ho hc hd hit;show K_ od hod hcd hdd hm;show AUB (AEV hit.typeIs PySem.F.slot_dict_keyiterator_next
  (vT PySem.F.slot_dict_keyiterator_next hit.typeIs PySem.F.entry_dict_keyiterator_next PySem.F.args_dict_keyiterator_next_1))
 show gT;show KB;show KB;show AaR;show L4 wpAny_fieldsOf ho hd;have hown:Azh:=AS
 show ACb (yA AXb);show AZx AXb;show gT;show AwK;show AFG
 show gT;show AwL;show AFG
 refine z7 ?_;show BFQ (Array.getElem?_eq_none hge)
 show KB;show AaR;show AGS (setField t9 0 Φ);refine z6 (wpAny_setField ho hd Χ ?_)
 show KB;show AW_ AEk
 show AsW
 show AX8 AEk
 show Ahk;rw[AyZ];show s0 z7 wpAny_throw;show L4 AsX AJw isSubtype_stop;exact z7 (hQ _ A5y)
theorem z8c(hh:Ic)(I d:Addr)(hne:d≠I)(es:ALw)(ep:Nat):
  Walks prog w A I [I,d] [I] es.size Afb (NI h (h.IsKeyIter I d i es.size ep/\AV_)) where
 sub:=A7z
 frame:=Ļ st hk ⟨BCm,dS (st.2).at (hk d Χ o e)⟩
 item:=BHk (ydz st.1 st.2 hi fun h' hit' hs' =>hQ _ h' s.toks (Ì hi) ⟨hit',dS (st.2).at (hs'.extBut d o hne e)⟩ (A3j hs'.extBut))
 done:=fun s Q E st hQ=>yh6 hh st.1 st.2 D3 fun h' he' =>hQ h' s.toks (A3j he')
 self:=fun _ _ _ _ st hQ=>wpAny_pyIter_keyiter st.1 hQ
theorem zyz{Q:D6 Ο}(hh:Ic)(hsm:AcF d)(hm:ANA)(hb:Agh)
  (h:∀(vals:Ο) (h' :Heap) tk,vals=es.toList.map (·.key) ->AyY ->(AYd) ->Q vals S_):
  ABp collect d:=by
 have K:W.KdlSrc prog w "dict" d d es.size Afb (MO AV_):={
  type:=Eg hm hm.typeIs
  there:=Eg hm ⟨hm.lt,hm.lt⟩
  keep:=fun _ _ hm hk=>(dS hm.at (hk d L8 o e))
  notList:=AS
  notTuple:=AS
  hint:=fun _ _ _ _ hm hq=>W.kdl_hint_dict hm.typeIs hq
  iter:=fun _ _ hh hm=>⟨_,_,(fun _ _ hq=>yaq hsm hm hq),z8c hh _ d (zK hm.lt) es ep,⟨RU,dS hm.at cS⟩⟩}
 have key:Axc "proto.collect" (GV [.ref d]) (ACW BI5):=by
  refine codeAny_builtin PySem.F.entry_proto_collect ?_;show Aut;show A8b;show A5';show Auu;have hm1:AQO (s.heap.push jN):=dS hm.at cS;have hSl:=hm.lt;show ArW jN jN;exact W.kdl_extend (s:=AI8 jN) (R:=fun r s' =>BI5) K hh hm1 s.heap.objs.size (v4 hSl) (v4 hSl) d_ 0 hS (fun h' tk acc c' hold hS' hacc=>⟨h',tk,acc,c',rfl,rfl,hold,hS',hacc⟩) hb
 show A4v (codeAny_mono key (AIz hq1));obtain⟨h',tk,acc,c',er,es',hold,hS',hacc⟩:=hq1;subst er es';refine NU load (wpAny_load hS' ?_);show Ś;refine h acc.toList h' tk ?_ (zG hS') (EM ob e (hold b ob AOc Sf));show UB
 ·show AuW Array.length_toList;exact ARz
 ·intro j q1 q2;have hj:j<acc.size:=As q1
  show JY hlt (hacc.2 j acc[j] (HK hj))
  simp [e]
#where
def Aj:Α ->EI ->Str ->F6 T
 | UR,Pe,g=>AOt (some t) (Aj fs ts g)
 | _,_,_=>none
def vB :Ω Α EI Str T EI
 | UR,Pe,g,t' =>AOt (t' ::ts) (t::vB fs ts g t')
 | _,ts,_,_=>ts
theorem z0f(AGd){g:Str}{t:T}:∀{fs:Α} {ts:EI} {vs:Η} {bs:AO},A5j ->Aj fs ts g=some t ->∃v b1 cs b2,AaF g=some v/\bs=AlG/\Aau cs/\
  ∀{F' H' :Hp} {t' :T} {ds:AO},C8 ->Azt ->ma t' v ds ->AvM (vB fs ts g t') ds
 | [],_,_,_,_,e=>ALJ
 | BY,[],_,_,_,e=>ALJ
 | UR,t0::ts,_,_,h,e=>by
  show AtR;show MS Aj;show Akv;by_cases hg:g=f
  ·rw[BD hg] at e;cases e;subst hg;refine⟨v,[],a1,a2,AV,rfl,q1,fun{F' H' t' ds} s k r=> ?_⟩
   unfold vB;show WZ;exact AXA ds a2 rfl r (fj.move s ts vs' a2 (V' (k a ha)) q2)
  ·rw[AY hg] at e;obtain⟨w,b1,cs,b2,g1,rfl,g3,g4⟩:=z0f q2 e;refine⟨w,a1++b1,cs,b2,BMj hg g1,AV,g3,fun{F' H' t' ds} s k r=> ?_⟩
   unfold vB;show Ap hg;exact AXA a1 (b1++ (ds++b2)) AV (BFy s) (g4 s BGT r)
section
variable{X:Cx}{F0 H0:Hp}{ke value e:Expr}{es:A2}{pos npos Qc apos cpos pos' x1:Pos}{x f:Str}{C:Addr}{i:Nat}{tk tv:cD}{tf:cL}
theorem yfz(A'F){Γ:G2}{as:AO}{fs:Α}{ts:EI}{t:T}(R:D_)(e0:sd AfK)(hl:Aj fs ts f=some t):
  ∃a dx vs v bs b1 cs b2,AVg/\as=ALu/\Ix AiB/\ AaF f=some v/\bs=AlG/\as.Nodup/\ AYX/\Aau cs/\
  ∀{F' H' :Hp} {t' :T} {ds:AO},C8 ->(∀c∈a::dx::(b1++b2),∀u,Lv c u ->H' c=some u) ->ma t' v ds ->ma (.ob C fs (vB fs ts f t')) Cb (a::dx::(b1++ (ds++b2))):=by
 obtain⟨o,e1,v,rfl,nd,hn,r⟩:=o4;obtain⟨a,dx,vs,bs,rfl,rfl,ea,ed,KQ,WW,r⟩:=r;obtain⟨v,b1,cs,b2,g1,g2,g3,g4⟩:=z0f r hl;refine⟨a,dx,vs,v,bs,b1,cs,b2,e1,rfl,ea,g1,g2,nd,hn,g3,fun{F' H' t' ds} s k rt=> ?_⟩;exact⟨a,dx,vs,_,rfl,rfl,xI a ea,xI dx ed,KQ,WW,g4 s (Nd hc (k c (by simp at hc⊢;exact sw hc))) rt⟩
#where
theorem zta:V_ fs Α vs Η AFi (f∉fs) (oG f y (fs.zip vs)=(AQl).zip (vs++ [y]))
 | [],[],_,_=>rfl
 | [],BY,h,_=>Bn
 | BY,[],h,_=>Bn
 | g::fs,ź,h,hf=>by
  have hg:g≠f:=fun e=>hf (HK e)
  rw[List.zip_cons_cons];unfold oG;rw[AY hg,zta (B9 h) (tz (BM1 hf e))]
  rfl
def xQ(C:Addr)(i:Nat)(f:Str)(te:cD):aG:=AXG (BIQ (AOV .tr as Av8))
def Cw(C:Addr)(i:Nat)(f:Str)(tn:qY):aG:=TC tn t (BIQ (∀cs,AOV .tr Ak2 Av7))
section
variable{X:Cx}{F0 H0:Hp}{value e:Expr}{es:A2}{pos npos pos' p:Pos}{x f:Str}{C fa:Addr}{fd:FuncData}{ps:Α}{i k:Nat}{te:cD}{tn:qY}{sp:PN}{t:cL}
theorem zz8(hc:vS)(hn:X0)(he:A1T)(hN:EC)(hv:Id)(hd:AT x "__debug__":=by decide)(hcd:AT x "__classdict__":=by decide)
  (hs:ASm HU:=by rfl):A9' Cw tn:=OH rY (A6 z97 UQ IU hs) Dn hq2 hq2 (KW (fun t Γ1 F1 H1 v cs R1 s1 ndc hnc rt yx=>by
  obtain⟨as,fs,ts,e0,hf,hl,WW,q⟩:=yx;obtain⟨o,e1,w,rfl,nd,hn',r⟩:=ANM;obtain⟨a,dx,vs,bs,rfl,rfl,ea,ed,KQ,_,r⟩:=r;refine⟨AR,e1,a,C,dx,_,rfl,ea,hc,hn,A7N,?_⟩
  show B3 own b ALu (oH Γ1 σ i b) b hb ⟨_,_,e0,e1,hb⟩;have dis:OO ALu (b∉cs):=EM hb hc ((hnc b hc).2.2 i (own b hb));show AmZ;show AsC;rw[zta KQ hf];refine dP (R1.wrT e0 e1 (B_ (AJS (AnM Ag')) zY) (t:= .tr (ALu++cs) Av7) ⟨_,rfl,?_,FV,?_⟩ FV) (q cs)
  ·show Agt (AyV (Aih n1 (Aih n2 n3)) (e ▸ hy))
  ·show al
   ·exact hn' b hb
   ·exact⟨Ll hnc,ACe hnc⟩
  ·have na:AzV:=EM hb z (j' n1 (zW _ hb));refine⟨a,dx,vs++ [v],AY4,rfl,rfl,gG,?_,BG KQ,WW,?_⟩
   ·rw[ų (ADL n1)];exact ed
   ·have m:=Ap1 AZo AxM
    have l:=Ads TR.move AZo ET t v cs (AD' (AVF (Ξ (dis a List.mem_cons_self (z ▸ hb))))) rt
    exact Pr m (Pu l)
  ·show al
   ·show CB hb
   ·show CU (uv hnc)))
theorem WX(hc:vS)(hn:X0)(he:AH8 value)(hN:EC)(hv:Id)(hd:AT x "__debug__":=by decide)(hcd:AT x "__classdict__":=by decide)
  (hs:ASm HU:=by rfl):A9' xQ te:=OH rY (A6 z97 UQ IU hs) Dn yG yG (AWa Gq (by
  obtain⟨as,fs,ts,e0,hf,hl,WW,q⟩:=Gq;obtain⟨o,e1,w,rfl,nd,hn',r⟩:=ANM;obtain⟨a,dx,vs,bs,rfl,rfl,ea,ed,KQ,_,r⟩:=r;refine⟨AR,e1,a,C,dx,_,rfl,ea,hc,hn,A7N,?_⟩
  have nd0:=nd;show AmZ;show AsC;rw[zta KQ hf];refine dP (R1.wrT e0 e1 (B_ (AJS (AnM Ag')) zY) (t:= .tr Ag' Av8) ⟨_,rfl,nd0,hn',?_⟩ AFT) q;have na:AzV:=EM hb z (j' n1 (zW _ hb));refine⟨a,dx,vs++ [v],bs,rfl,rfl,gG,?_,BG KQ,WW,?_⟩
  ·rw[ų (ADL n1)];exact ed
  ·have m:=Ap1 AZo AxM
   have l:fj X.K F1 (U2 a AZo) [O0] [v] []:=Pu (C6 (EO rd))
   have:=Pr m l
   rwa [List.append_nil] at this))
def Cy(C:Addr)(sp:PN)(t:cL):qY:=PP A'L
structure Qd (Abu) (base:Heap) (x:Str) (C:Addr) (k:Nat) (ps:Α) (sp:PN):Prop where
 ex:∃f fd,AJ8 DW/\Mk K C f/\Aeg/\tq
 non:∀ds Q Ex,AwS Q ->AwS (fun t d=>d= AE/\Q t d)
theorem z7b(G:Qd X.prog X.w X.K X.mg X.base x C k ps sp)(hr:AAh)(hg:HE)
  (ha:LJ) (hdb:AT x "__debug__":=by decide) (WS):
  Ĥ TL (Cy C sp t):=by
 obtain⟨f,fd,Fn,M,hm,hb⟩:=G.ex;rintro z E cx pins s σ H Q I ⟨F,Γ,P,R,h,kk⟩;show APT;refine W.callWith_K (h₀:=X.base) I.ok.mod.GC M.kp (NA (ASw A'L) us Et) he hpl;obtain⟨vs,H1,I1,r,F1,Γ1,ds,R1,sF,rs,q⟩:=Et;show AL8;have I2:=Inv.made (C:=C) I1;have n1:H1 (NC)=none:=AWo;have n2:lS s1.heap.objs.size:=AWn;have ne:AyW:=AZe;have kp:dQ s1.heap.get? (ADm AKx Au4):=Fc AL0;show AoT ABG (Amj n1 n2)
 have hid:jx AyS ABG=H1:=by
  funext b
  by_cases hb1:b=NC
  ·subst hb1;rw[zus Χ,n1]
  ·show An0
   ·subst hb2;rw[zus Χ,n2]
   ·rw[z9l (by simp [hb1,hb2]),bC hb1,AUz]
 have hs:DW X.K sp A1k ABG AxK (AoW (∃Γ' F' x,Aqu /\VV F' /\BK X.K F' H1 H' C' Mu x/\ (x.bare=x\/HH AUA (qa Γ' b))/\E Γ' x)):=by
  refine⟨F1,NC,BLa,.ob C [] [],ds,vs,_,_,rfl,Aji,BG ne.symm,FV,?_,rs,G.non _ _ _ q,?_,?_⟩
  ·have:AUA:=by
    show hW
    ·exact n1
    ·show TH hb;exact n2
   exact R1.g.free this
  ·exact⟨_,_,[],[],rfl,rfl,gG,AkI,rfl,rfl,Ag5⟩
  ·rintro t' d v cs F' H' gr nd hn rt rv ⟨ed,hp⟩;rw[hid] at gr hn;subst ed;exact⟨rv,kk t' Γ1 F' H' _ _ ADW ARd nd (II (Ad2 ê hG hG)) rt hp⟩
  ·intro x C' Mu t' cs F' H' gr nd hn rt xr hE;rw[hid] at gr xr;exact⟨Γ1,F',x,R1.grow gr,gr.f,xr,Anb R1.apart,hE⟩
 show AJc AFy (by
  have e:=AJb;show Aqd AeT e)
 have hbs:=hb (AKT (AKx (W.instObj C s1.heap.objs.size))) AFy I2.kIn AZQ
 show o_;show BIn;show ATs (Fn.run _ X.stack _ _ (ALx AcZ) AFy _ _ _ AWw Ajh hbs A4H hs) (AIz hq');cases r with
 | error e=>
  refine cx.pX pins σ Γ1 F1 H1 s1 e s' I1 R1 (ArU ?_);have u1:Un g9 [] H1 AIm s1.heap AY_:=Un.laid AG5 D3 n2;have u2:Un g9 [] AIm ABG AY_ BBd:=Un.laid AG5 AqH (ZN ne.symm n1)
  exact u1.trans u2
 | ok Wj =>
  cases Wj with
  | ret u=>
   obtain⟨v,H',I3,rv,ev,q3⟩:=I2.after hq';subst ev;exact⟨rv,A_m⟩
  | next=>show oB
  | brk=>show oB
  | cont=>show oB
#where
theorem zt1:ASg "proto.unchain" Builtin.«proto.unchain»:=entryFor_of_fast (by kernel_rfl)
section
variable{prog:Program}{w:World}{A:Around}{E:dW}{s:Shared}
theorem zvh(hh:AnP)(ho:Aiu)(hd:AON)(h2:AKG)(ne:a≠e)(he:s.heap.get? e=some oe)(hde:AJV ws)(hz:2<ws.size)
  (h:ASV (OM (s.heap.update e (Obj.mapFields (·.setIfInBounds 2 (.ref a)))))):ABp (raiseNew (α:=α)) e:=by
 simp only [raiseNew];show Ahk;rw[hh];have hne:(ACT !=Value.ref e)=true:=BG ne
 simp only [hne,if_true];show AFI (wpAny_runValue (codeAny_builtin zt1 ?_));unfold Builtin.«proto.unchain»;show AXq ho h2;show Db Β
 refine z7 ?_;show D' z6 (wpAny_load he ?_);rw[hde];show eP (yA (2<ws.size));show Db hz;exact wpAny_update he (wpAny_throw h)
#where
structure Qe (Abu) (base:Heap) (C:Addr) (m:Str) (k:Nat) (ps:Α) (sp:uW):Prop where
 ex:BCG (AJ8 xO)
def HY(C:Addr)(m:Str)(sp:uW)(te:cD):qY:=XX (Ŵ (C' =C/\AF'/\j_ [AIM] t (D5 t) Cx (E Γ1 Cx)))
section
variable{X:Cx}{F0 H0:Hp}{o:Expr}{pos apos:Pos}{m:Str}{C:Addr}{ps:Α}{k:Nat}{sp:uW}{te:cD}
theorem yak(G:AqS Qe)(hc:vS)(hr:si)(ho:AMP)
  (ht:eval Azc X.env=(do
   let ov<- A7 o
   AAX
   let (f,first)<- ABJ m pl
   ABQ (AAy []) AHg):=by rfl):
  Ĥ Azc (HY C m sp te):=by
 obtain⟨fa,fd,Fn,hm,hb⟩:=G.ex;rintro z E cx pins s σ H Q I ⟨F,Γ,P,R,h,kk⟩;refine AaO (NA (A6e (Ŵ (C' =C/\AF'/\j_ [AIM] r (D5 r) Cx (E Γ1 Cx))) (Tu (Acy d))) u ⟨x,H1,I1,rx,F1,Γ1,d,R1,sF,rd,q⟩) ht
 cases d with
 | obj C' fs ds=>
  show Ap2;have Wi:=rd;show Amn;show aT;refine zmd I1 Awv hc hm (zit Wh) ?_;refine W.callWith_K0 (first:= MB) I1.kIn hm.kp ?_;have hs:xO X.K sp MB H1 Q Asn:=⟨F1,_,_,_,R1.g,tR Wi FH,q,BGz,ASv⟩
  show AJc ([ACT]++ []) (Θ List.append_nil AJb)
  have hbs:=hb s1 MB I1.kIn hl;show o_;show AAi (Fn.run X.A X.stack s1 H1 AKV MB MB Q _ hr I1.env0 hbs (AM6 rfl) hs) AGb;cases r with
  | error e=>exact AYe I1 R1 hq
  | ok fl=>
   cases fl with
   | ret u=>exact I1.after hq
   | next=>show N3
   | brk=>show N3
   | cont=>show N3
 | _=>show IG q
#where
def Fg:D ->Option (DL×Δ)
 | .dic ks xs=>some (ks,xs)
 | .dik ks xs=>some (ks,xs)
 | _=>none
def iD:DL ->Δ ->Key ->Ō
 | AVc,KF,k=>HI k' k (some x) (iD ks xs k)
 | _,_,_=>none
theorem MN(KK){d:D}{v:V}{ks:DL}{xs:Δ}(h:ARe d)(r:LE):∃a vs,v= AR/\Rd F a c_/\Q_/\Ć:=by
 cases d with
 | dic ks' xs' =>
  cases (h);show i7 a vs e l rs r;exact eQ a vs (.inl e) l rs
 | dik ks' xs' =>
  cases (h);obtain⟨a,o,vs,rfl,e,l,rs⟩:=r;exact eQ a vs (.inr (N0 e)) l rs
 | _=>cases h
theorem zos{K:W.Frag}{F:Hp}{k:Key}:BH3 ((∀d,Amc xs ->AWS BGC)/\ (iD ks xs k=none ->ji qE k=none))
 | [],xs,vs,_=>by
  show A8 (AJ d h) ALV;cases h
 | BY,[],vs,r=>by
  subst r;show A8 (AJ d h) ALV;cases h
 | AVc,KF,vs,r=>by
  show AOY;have ih:=A'c k r2;unfold ji at ih⊢;show AvR;unfold iD;by_cases q:k' =k
  ·show A8 (AJ d h) AL4
   ·rw[FM] at h;cases h;exact⟨v,BG q,r1⟩
   ·show AOq FM
  ·show Ap q;simp only [q,decide_false];exact ih
def wO:EL:=eL (∃ks xs k d,DC Fg (ks,xs)/\y=mC k/\Amc xs/\P d)
def KR(neg:Bool):EL:=eL (∃ks xs k,ARe y/\x=mC k/\MI (AI neg (! AXm) AXm))
def MP(td ty tx:cD):cD:=ON td d (Aqv (lr ty kd (tx Γ2 (fun df Γ3=>∃k,kd=mC k/\P ((iD ks xs k).getD df) Γ3) E)))
def WY:MY:=ABy [d] (Aqv (NY ks.length))
section
variable{X:Cx}{F0 H0:Hp}{a b o e f:Expr}{pos apos cpos:Pos}{ta tb td ty tx:cD}
theorem Qf(hu:RS)(ha:PQ)(hb:mo)(hs:Kl b:=by exact AUt):AWD a b (cB wO ta tb):=fun z E cx=>
 oK (A6 z5x hu DO Jn hs) (DM σ H Q Ci P Ci (APQ (by
  obtain⟨ks,xs,kk,d,e1,rfl,hl,hp⟩:=h2;show i7 c vs ec hkl rs (MN e1 (r1.up s2));have ev:=HW r2;subst ev;show CS v hv rv (zos rs).1 d hl;exact JA c v (Afc R2.g hv.symm) (BJt rv hp))))
theorem yjj(hu:RS)(ha:PQ)(hb:mo)(hm:AcT .In):Ax4 .In (KR false):=fun z E cx=>
 Ow (A6 ZP (A6 yjn hu DO Jn) hm) (DM σ H Q Ci P Ci (APQ (by
  obtain⟨ks,xs,kk,e1,rfl,hp⟩:=h2;show AAq r2;have ev:=HW r1;subst ev;show N4 c _ rfl Axe _ rfl;rw[zu0 hkl];exact BIA)))
theorem yfr(hu:RS)(ho:Bz o td)(he:Bz e ty)(hf:Bz f tx)(m:AtI "get"):Bz (i3 (ik o "get") [e,f]) (MP td ty tx):=fun z E cx=>
 oK (AO2 yb3 (KO ho) IU hf BAo) (DM σ H Q Ci P Ci (ABZ d1 v1 (by
  obtain⟨ks,xs,e1,h1⟩:=h1;show AAq r1;exact⟨c,rfl,.inl (CH AWt),F1,Γ1,_,R1,h1,AJF d2 v2 (BKn (fun d3 Γ3 F3 H3 v3 R3 s3 r3 h3=>by
   show Ď kk hp h3;have ev:=HW r2;subst ev;have q:=A'c kk (rs.up (s2.trans s3));show Yf (Afc (AZA R3.g) rfl);cases el:iD ks xs kk with
   | none=>
    rw[q.2 el];rw[el] at hp;exact k d3 Γ3 F3 H3 v3 R3 AWu r3 hp
   | some d=>
    show CS v hv rv q.1 d el;rw[hv];rw[el] at hp;exact k d Γ3 F3 H3 v R3 AWu rv hp))⟩)))
theorem z4h:AGC "len" WY:=by
 rintro pins s σ H xs us Q I r ⟨F,ds,P,sF,rs,h,k⟩;show BO WY;show Co
 ·show AJh rd rs;show ST ks xs e1 h;show AAq rd;show MZ;cases rx;refine yms I (JV sF ec) fun t s' I' =>⟨.int ks.length,H,I',EU t,tP⟩
  show AJa hkl
 ·show EB
#where
section
variable{X:Cx}
theorem zwv(he:SE)(I:Ι)
  (h0:te σ H Q0) (h:∀v H1,Q0 v H1 ->∃a kvs,v= AR/\Rd H1 a Iy/\∀(s1:Shared) (ws:Ai6) (ep:Nat) (r:Addr),YI (ŋ s1) AQh AIf Aiq AN9 (s1.heap.IsValuesView r a) (F7 r s1))
  (hbase:X2 "values"=A7 e) (hline:sq):
  Ã (U_ ARF) Q:=by
 refine wpAny_Call_method0_late hbase hline (NA (he pins s σ H _ I h0) v hq1);obtain⟨x,H1,I1,r1,q0⟩:=hq1;obtain⟨a,kvs,ex,ea,q⟩:=h x H1 q0;subst ex;show AYC;show AtN ea;show BAk;obtain⟨hz,_,ws,kv,dd⟩:=AW3 JR;refine call_meetsIn PySem.F.slot_dict_values hT PySem.F.entry_dict_values (PySem.F.args_dict_values_1 _) (meets_dict_values î a hsm) (EU ⟨ws,dd⟩);obtain⟨o,es,ep,h1,h2,h3,h4⟩:=id dd;have hm:AN9:=AbP h1;show A6c;exact q _ ws ep _ (I1.kept Sk) hsm hz kv Agj vw
theorem z2p{ks:DL}{vs:Η}{ws:Ai6}{acc:ES}(hkl:Q_)(kv:KV (ks.zip vs) ws)(h1:acc.size=ws.length)(h2:∀(i:Nat) (u:Value),Ch acc u ->∃k,Ch ws (k,u)):Vals vs acc.toList:=by
 show ŧ;show A6y hl;show Asw (by rw[Se acc.toList.length acc.size Array.length_toList];omega)
 obtain⟨k,e3⟩:=A8P h2
 show CS v e4 r MF kv e3;have:=(PB e4).2;show BC e1;show EV;exact r
theorem yc6{e:Expr}{te:TE}{apos cpos pos p:Pos}(hc:Cn)(hg:AUx)(hm:AUn)(he:SE)(hb:AGV "list" "list":=by show KP)
  (hbase:X2 "values"=A7 e:=by rfl) (Abk):
  PE X A_5 (IN te v (∃(a:Addr) (ks:DL) (vs:Η),v= AR/\Rd H1 a c_/\Q_/\BDy OS)):=by
 show ED;show Aro
 show Alv ?_ he2;rw[he2];show Ag9;show BIF;obtain⟨a,ks,vs,ev,ea,hkl,q⟩:=hq;refine⟨a,ks.zip vs,ev,ea,fun s1 ws ep r I1 hsm hz kv hd vw=> ?_⟩;show Ag8;show AnB;refine W.kdl_call (AtM W.kdl_values) BMt AnA χ fun h' tk acc c hold hg hac=> ?_
 have hv:=z2p hkl kv hac.1 hac.2;have Hw:=hv.length;show A6y hz;have I2:A4k (BJC OS):=
  oC I1.laid hold D3 (UV _ OS (A_L ω))
 exact A9e AgJ
theorem yid(hc:Cn)(hg:Gl X "sum")(hm:U' "sum")(he:SE)(hb:bootBuiltins "sum" =some (LZ "sum"):=by show KP)
  (hbase:X2 "values"=A7 e:=by rfl) (Abk):
  PE X BDN (IN te v (∃(a:Addr) (ks:DL) (ns:AU),v= AR/\Rd H1 a (.dK (ks.zip (ns.map QU)))/\ks.length=ns.length/\Q BLx H1)):=by
 show ED;show Aro
 refine PyProof.Rows.callWith_builtin1 ?_ he2 rfl;rw[he2];show Ag9;show BIF;obtain⟨a,ks,ns,ev,ea,hkl,q⟩:=hq;refine⟨a,ks.zip (ns.map QU),ev,ea,fun s1 ws ep r I1 hsm hz kv hd vw=> ?_⟩;show Ag8;show AnB;have hlk:ws.length=ns.length:=by rw[<- Tc,List.length_zip,List.length_map,<- hkl,Nat.min_self]
 have K:=AtM (P5 W.kdl_values prog X.prog w X.w r r d a);refine call_sum_walkAnyS ?_;obtain⟨oI,St,hit,W,st⟩:=K.iter X.A.in1 s1 BMt AnA;refine hit _ _ ⟨s1.heap.objs.size,_,_,_,_,_,_,Az9,rfl,W.toS,st,FV,Ν i u hu,Ν s' t' hm'⟩
 ·show Afz;show Ao3
  ·rw[e];exact ATg
  ·show TH hb;exact BLX (K.there _ AnA).2
 ·obtain⟨k,e3⟩:=hu;show CS v e4 rv MF kv e3;have e5:=(PB e4).2;rw[List.getElem?_map] at e5;cases en:ns[i]? with
  | none=>show Cc en e5 e5
  | some n=>
   rw[en] at e5;cases e5;show tj (Value.int Als t);show AS3 en;exact rv
 ·have hk:dQ s1.heap.get? (E5 s'.heap.get?):=Fc (hm'.heap b o (Τ hI (e_ zG e (AFb hI (yS _)))) Sf)
  rw[hlk,z59 ns _ (NI _ rfl),Moved.eq_with hm'];exact zn7 (s:=s1) (v:= .int ns.sum) I1 hk C9 q
#where
def Cz(Z'):cL:=XX (Aqv (D5 xs))
def M4(Z'):cD:=XX (∃ks xs ns,ARe d/\AYO/\D5 BLx)
section
variable{X:Cx}{F0 H0:Hp}{e:Expr}{apos cpos pos p:Pos}{te:cD}
theorem z12(hc:Cn)(hg:AUx)(hm:AUn)(he:MR)
  (hbase:X2 "values"=A7 e:=by rfl) (Abk):
  í A_5 (Cz te):=fun z E cx=>
 oK (A6 yc6 hc hg hm IU L' hbase hline he2) (AAS yG (by
 show KE yG;refine Tu ?_;obtain⟨ks,xs,e1,h1⟩:=h1;show AAq r1;refine⟨c,ks,vs,rfl,AWt,hkl,AWB⟩;obtain⟨R2,q1,q2,q3,ap⟩:=G6 R1 hq0 rs;exact A'T rs))
theorem yhm(hc:Cn)(hg:Gl X "sum")(hm:U' "sum")(he:MR)
  (hbase:X2 "values"=A7 e:=by rfl) (Abk):
  Bz BDN (M4 te):=fun z E cx=>
 oK (A6 yid hc hg hm IU L' hbase hline he2) (AAS yG (by
 show KE yG;refine Tu ?_;obtain⟨ks,xs,ns,e1,hns,h1⟩:=h1;show AAq r1;show AmV;exact⟨c,ks,ns,rfl,AWt,Gc hkl List.length_map,ARN FH⟩))
#where
def Itf(As_):It:=A3p (∃k v,ATj (k,v)/\x=kV k)
theorem z2j(BDQ):AG4 (Itf a o kvs) (h.IsKeyIter it a i kvs.length ep) where
 mem:=AV
 obj:=AAo (by
  show ž
  show APl;exact AGL)
 keep:=AaI
 item:=by
  intro X hP hw hK hc i pins s σ H E I hf st hg;show KL;show AAz;show UY
  show AHk;show ŧ;show AHb;show Asy
  show Ara;refine wpAny_pyNext_dict_item st hd hw (De key h' hkey hit' sb);have I1:ő:=AO6;show K_ o' e c d hit';have rk:AwR:=by
   show Ax6
   ·exact Tm
   ·exact Tm
  exact JO key (A2z (kV k) rk ⟨rfl,k,v,hv,rfl⟩)
 done:=by
  intro X hP hw hK hc i pins s σ H E I hf st hg;show KL;show AAz;show UY
  show AHk;show ŧ;show AHb;exact wpAny_pyNext_dict_end N_ st hd Ags AHT
 self:=AOa wpAny_pyIter_keyiter
def Qg(te:TE):TI:=BG1 (Itf a o kvs)
theorem yb7(he:SE):eK e (Qg te):=by
 show ft;show oP gI v hq1;obtain⟨x,H1,I1,r1,a,o,kvs,ex,ea,q⟩:=hq1;subst ex;show AYC;obtain⟨ho,hz,hsm,ws,kv,o',es,ep,h1,h2,h3,h4⟩:=BGA;rw[ho] at h1;cases h1;have hm:AN9:=AbP ho;refine wpAny_pyIter_dict hsm hm ?_;refine⟨_,[s1.heap.objs.size],_,_,_,rfl,AGr,As3 z2j,?_,FV,q hz⟩
 ·rw[kv.length];exact RU
 ·show ſ
  exact ABH
theorem yfg{K:W.Frag}{F:Hp}(k:Key):Rep K F ARR (kV k):=by
 cases k with
 | inl i=>rfl
 | inr x=>rfl
theorem z4s(MG){F:Hp}{a:Addr}{o:Obj}{ks:DL}{vs:Η}(e:Aee)(hkl:Q_)(hz:BH ARJ):Akg Itf (ks.map mC):=by
 show AtF ks.length
 show AHv Ŏ q ⟨AI5 s3 s2,ALW q List.length_map⟩
 rw[List.getElem?_map] at hd;cases qk:ks[i]? with
 | none=>show Cc qk hd hd
 | some kk=>
  rw[qk] at hd;cases hd;have hik:i<ks.length:=IO qk;show AlR
  obtain⟨rfl,k,v,z,rfl⟩:=z;have:=(PB z).1;show BC qk;show EV;exact⟨F2,Gr.refl s3,yfg kk⟩
def ye8(Z'):cL:=XX (I_ d (.dik ks _) (P (ks.map mC) Γ1))
section
variable{X:Cx}{F0 H0:Hp}{e tg:Expr}{te:cD}
theorem yi7(he:MR):AGO e (ye8 te):=fun z E cx=>Mg (A6 yb7 IU) fun σ H R hq2=>by
 show AdE;refine AKI (fun d Γ1 F1 H1 v R1 s1 r h1=> ?_);show PR
 ·obtain⟨a,o,vs,rfl,ea,hkl,rs⟩:=r;exact⟨a,o,_,rfl,Ane,Aeo (z4s ea hkl hz)⟩
 ·exact h1.elim
#where
def DX(tn:qY):cD:=AZT (I_ t oy (D5 ApD))
def Ia(AXB aG):aG:=Akc (∃as ks ts,sd Adk/\t D (cy (.pu ApD)) E)
section
variable{K:W.Frag}{F0 H0 F H:Hp}{σ:St}{Γ:ef}
open Classical in
theorem SR.nailU{w:HO}(R:D_)(hn:A_R):
  ∃F',C8 /\b9 F' (ACX w)/\Cl F' w/\ (M3 bs (IQ ->∀u,wn ->FF F'))/\A8S:=by
 have sF:a_ (AQe ALd (AJW H F)):=Fu (by
  show L_ (AI (b=a) ALd (AJW H F));rw[Do (Ξ (AWA (tT List.mem_cons_self))),A'E]
  exact e)
 refine⟨_,sF,BFj R.chg w sF (EK) BBr,B4,De b hb z u hu,FV⟩
 ·show AWY ALd H F;show OA
  ·subst hb;rw[B4] at e';rw[gG];exact e'
  ·show BGB R.g
 ·show AWY ALd H F;show OA
  ·subst hb;exact(hn b zY).2
  ·show BCx
 ·exact XA if_neg z (XA if_pos hb hu)
 ·rw[List.mem_cons,not_or] at hb;exact XA if_neg hb.1 (if_neg hb.2)
theorem SR.nail(R:D_)(nd:AiG)(hn:A_R)(ea:Ix c_)(hkl:Q_)(r:A5j):
  ∃F',C8 /\b9 F' (ACX (.frz o c_))/\ABl ApD Cb/\A8S:=by
 obtain⟨F',sF,R',e,k,k2⟩:=R.nailU (w:= .frz o c_) hn;exact⟨F',sF,R',⟨a,o,vs,rfl,e,hkl,fj.rep sF ts vs bs (Nd hc (k c hc (fE lI hc))) r⟩,k2⟩
#where
section
variable{X:Cx}{F0 H0:Hp}{e:Expr}{st:Stmt}{tn:qY}{ts:aG}
theorem zxp(he:AAg):Bz e (DX tn):=Axg (by
 show KE hq;show oP (he z E cx pins s σ H (OX H1 (Axt (∀o,Q Cb Aio))) I (APp r ?_)) u hq1
 ·show PR
  ·rename_i ks ts;show zn;refine ZE a ea (E2 o);obtain⟨F',sF,R2,rp,_⟩:=R1.nail (o:=o) nd hn ea hkl r;exact k _ Γ1 F' _ _ R2 AMI rp h1
  ·exact h1.elim
 ·obtain⟨x,H1,I1,r1,a,kvs,ex,ea,q⟩:=hq1;subst ex;show È u r1;obtain⟨_,_,ws,kv,o,es,ep,h1,_⟩:=AW3 RD;exact G0 AR (zyl I1 ea h1) (q o))
theorem ygx(i:Nat)(h:Ť ts):Ť (Ia i ts):=fun z E cx pins s σ H D I hq=>by
 obtain⟨F,Γ,D2,R,⟨as,ks,tr,e0,hp⟩,k⟩:=hq;obtain⟨o',e1,v,rfl,nd,hn,r⟩:=o4;show zn;obtain⟨_,_,ws,kv,o,es,ep,h1,_⟩:=RD I.hok ea;obtain⟨F',sF,R2,rp,_⟩:=(R.dropAt e1).nail (o:=o) nd (II ⟨ê,hG,R.less e0 e1 (B_ (gH (ACy i4 ks tr) jn b) hb)⟩) ea hkl r;have R3:=R2.set i rp;show AY6 R3;exact h z E cx pins s σ _ D (zyl I ea h1) ⟨F',_,D2,R3,hp,k.mono sF⟩
#where
def Qh(i:Nat)(tk tv:cD):aG:=TC tv d ((∃as t,AJJ (.tr as t))/\lr tk kd (∃k as ks xs,kd=mC k/\Ch Γ2 (Acu AMc)/\AVP/\D.nx (Γ2.set i (.tr as (Kj (jw ks k) (AdA ks k))))))
section
variable{X:Cx}{F0 H0:Hp}{ke value:Expr}{pos npos pos' :Pos}{x:Str}{i:Nat}{tk tv:cD}
theorem z0w(hu:RS)(hN:EC)(hv:Id)(hk:Bz ke tk)(hval:Anh)(hs:ANU HU ke:=by rfl)
  (y_):AKo (ACu HU ke) (Qh i tk tv):=fun z E cx=>
 rY (AO2 Z8 UQ Agm hval hs) (DM Dn σ H hq1 D2 hq1 (AWa hq2 (by
  obtain⟨⟨as,t,e0⟩,q⟩:=hq2;obtain⟨o,e1,w,rfl,_⟩:=ANM;refine⟨w,e1,F1,Γ1,_,R1,q,fun kd Γ2 F2 H2 y R2 s2 rk q2=> ?_⟩;obtain⟨kk,as',ks,xs,rfl,e2,hl,q2⟩:=q2;obtain⟨o,e3,w',rfl,nd,hn,r⟩:=Azx;rw[e1] at e3;cases e3;show zn;show APN r;show ANS;subst ev;refine ZE a A'9 ?_
  rw[Wx hkl];refine M_ (R2.wrT e2 e1 (B_ (AJS (ACy [a] ks AMc)) zY) (t:= .tr [a] (BKw kk kk)) ⟨_,rfl,nd,hn,?_⟩ AFT) P7 q2;exact⟨a,_,[],rfl,rfl,gG,zy3 hkl,KC (zps rs (rd.up s2))⟩)))
#where
def zs2:MD:=ABy [d] (∃xs:Α,∃ys,Fg d=some (xs.map .inr,ys)/\xs.Nodup/\AuI/\∀ms:Α,ms.Perm xs ->ASY ->AKZ .str)
inductive DY (APq):Prop
 | mk:∀(q:Addr) (kvs:WI) (xs:Α),AjU ->(Rd H q Iy) ->EJ (kvs.map (·.1)=xs.map .inr) (xs.Nodup) (AuI) (∀(l:Addr) (ms:Α),JS l ->ms.Perm xs ->ASY ->F7 l (FG l (B8 (ms.map .str)))) (ACk DY)
def Qi(X:Cx):g_:=ANw DY
theorem z2s(yv):kU "sorted" (Qi X):=by
 rintro pins s σ H xs us Q I r ⟨q,kvs,ys,e0,hq,hk,nd,h64,k⟩;subst e0;show MZ;cases rx;obtain⟨hz,hsm,ws,kv,ob,es,ep,hd⟩:=JR I.hok hq;obtain⟨ho,hec,hdt,hko,hpr,_⟩:=hd;show AnB;have hlk:kvs.length=ys.length:=As (congrArg List.length hk)
 have hls:es.size=ws.length:=by rw[<- hpr.length,Array.length_toList]
 show AA_ 64
 refine zl3 (zyz Aza hsm ⟨ob,ho,hec,hdt⟩ χ fun vals h1 tk hv hlt hold=> ?_)
 have rv:Vals (ys.map V.str) vals:=by
  have l1:Ak7=ys.length:=List.length_map ..;have l2:vals.length=es.size:=by show AuW hv
  show Asw χ
  show ALE hv e2;cases ee:es.toList[i]? with
  | none=>show Cc ee e2 e2
  | some e=>
   rw[ee] at e2;cases e2;have hi:i<ws.length:=AxJ (IO ee)
   have e3:Ch ws WV:=zZ hi;have e4:=(hpr.get? ee e3).1;obtain⟨v5,e5,_⟩:=MF kv e3;have e6:Ch (kvs.map (·.1)) WV.1:=xE e5
   show ALE hk e6;rw[List.getElem?_map] at e1;cases ey:ys[i]? with
   | none=>show Cc ey e1 e1
   | some y=>
    rw[ey] at e1 e6;cases e1;have e7:WV.1= .inr y:=As e6.symm
    have e8:uZ WV.1 e.key=true:=e4;rcases Cg e8 with ⟨j,t,z,_⟩ | ⟨x,t,z,zz⟩
    ·show AEa e7
    ·rw[e7] at z;cases z;show RelV (V.str y) e.key;rw[zz];exact Tm
 have Hw:vals.length=ys.length:=AxD
 refine⟨Py ys,_,_,Θ Hw (zy8 nd),ω,z1m rv,BMo,fun l h' is e hle a1 a2 hl Ah=> ?_⟩
 show A6V hlt hle;show B3 hix i is (i< Ak7) i hi (ASG Hw Apw)
 have hrv:=zow rv hix;rw[AbB Str.empty (gy ARV)] at hrv
 have hms:(pick Str.empty ys is).Perm ys:=zuu (BF Hw a1)
 have hlen:Ay':=Aua
 have I2:AlA AW':=
  oC I.laid (AtJ hold) hlt2 (UV _ AW' ⟨hlen,_,e,hrv,hl⟩)
 exact G0 LG I2 BFn
section
variable{X:Cx}{F0 H0:Hp}{a:Expr}{pos p:Pos}{t:cL}
theorem z11(hc:Cn)(hg:BKa)(hm:BKZ)(ha:ADs)(hb:bootBuiltins "sorted" =some (LZ "sorted"):=by show KP)
  (he:starEach [a] X.env=EG (A7 a) (EF []):=by rfl):AKs (AKg "sorted") zs2:=fun z E cx=>by
 refine oK (A6 Vc (z2s hc) hg hm hb DO Β Β he rfl) (ER σ H Q hq1)
 show KE hq1;refine QQ ?_;unfold zs2 at h1;show PR
 ·show AJh r1 r1;obtain⟨xs,ys,e1,nd,h64,h1⟩:=h1;show AAq r1;refine⟨c,_,xs,rfl,AWt,?_,nd,h64,De l2 ms hl2 pm pw⟩
  ·rw[List.map_fst_zip χ]
  ·obtain⟨R3,q1,q2,q3,ap⟩:=G6 R1 hl2 (WD (K:=X.K) (F:=F1) ms);exact A'U (h1 ms pm pw)
 ·show mv
#where
theorem hu1(h:n+21<cLine):ABf n:=zL (Nat.add_le_add_left (AL3 (1<=21)) _) h
theorem qv(i:Nat)(hN:EC:=by exact rfl)(hv:Id:=by first | exact Or.inl rfl | exact Or.inr (Or.inl rfl) | exact Or.inr (Or.inr rfl))(y_):Bz fe (cV i):=yk9 hN hv hd hcd
#print L3
namespace Hd
open PySem PySem.W PySem.Calls PyProof.Rows
theorem ycr{l:AgB}{i a:Nat}(e:la (Gz i l).lookup):∃k,a=i+k/\EE l k o/\E4 o.isFreed:=by
 induction l generalizing i with
 | nil=>cases e
 | cons b r ih=>
  show MS Gz;split at e
  ·show BS k hk hr ih e;exact⟨k+1,ω,hr⟩
  ·rename_i hf;rw[List.lookup_cons] at e;split at e
   ·show G1;cases e;exact NV 0 (beq_iff_eq.mp q) hf
   ·show BS k hk hr ih e;exact⟨k+1,ω,hr⟩
theorem ylv(h:Heap)(n:Nat):(cut h n).In h:=FE e (by
 obtain⟨k,hk,hr,hf⟩:=ycr e;rw[hk,Nat.zero_add];exact Heap.get?_some_iff.mpr ⟨BF Array.getElem?_toList hr,hf⟩)
noncomputable section
theorem size(AOk):((boot_heap w.params).isNs mainGlobals&&(Array.mk []:fg).size==0,Â boot_heap w.params,(boot_heap w.params).nsMap mainGlobals "__annotations__")=(true,11,ann):=UC
theorem left
  (e:opening p=plainProg p.main.scope.names) (f:∀s,fenceModules? p s=some s)
  (hA:∀w os,topGo treeTable p w 11 ann 12 Akh AiN=some (fore treeTable topGo p w os,⟨denote treeTable (cB p),cB p,z,AOA⟩))
  (hB:∀w os,segRun treeTable p w 11 ann 1 1 Arq (blockOf Atx (env p) (cB p) z AOA)=some (uk,fore treeTable topGo p w os,cB p,z))
  (hC:∀w os,(Ta Arq).abs=fore treeTable topGo p w os)
  (hD:∀w os,shot treeTable topGo segRunT topRun execs p (rest openSeen p q loose Xt obs n w) w os=some (A4U (cB p) (openGood q loose))):
  LeftO p q loose Xt (Τ s AbK) good 40000:=EA (by
 obtain⟨⟨h,gs,d,k,os⟩,e1,e2⟩:=zE.mp (boot_open (N:=40000) e Β f w)
 obtain⟨rfl,rfl,rfl,rfl⟩:h=boot_heap w.params/\gs=Array.mk []/\d=boot_drawn/\k=boot_toks:=As e2
 obtain⟨z1,z2,z3⟩:_/\_/\_:=by simpa only [Prod.mk.injEq] using size w
 obtain⟨⟨fl,S,c,ps⟩,r1,r2⟩:=Option.bind_eq_some_iff.mp (hD w os);show BS s t1 t2 zE.mp r2;show ATp u1 u2 t2;show ATp v1 v2 u1;show ATp y1 y2 u2;show ATp y3 y4 y2;subst v1 v2;have g1:topRun treeTable p w 11 ann (30000+2) Arq (restOf (behindTheImports p++ []) (env p) (cB p) z AOA)=some s:=
  piece_app (by have:=segRun_of r1;show BC (hC w os);exact this) (piece_nil t1)
 rw[List.append_nil] at g1;have g2:=go_top (hA w os) (piece_block (hB w os) g1);have g3:=topRun_mono (40000 - (12+ (1+ (30000+2)))) _ _ _ _ g2;unfold openEnds;rw[e1];show Au (topFrom treeTable p w 40000) Akh _=_;unfold topFrom S0;dsimp only;rw[z1,z2,z3];have g4:topRun treeTable p w 11 ann 40000 BFp AiN=some s:=g3;rw[g4];show(AEW BIr (some s) none).map _=_
 rw[y1];show some (BGn openSeen,AbK)=_;rw[y3,y4])
#where
open L2 L3
theorem adr_of(h:isRef x=true):x=some (BU (AH (adr x))):=by
 show BO isRef;show Co
 ·rfl
 ·cases h
theorem ix{_:Decidable p}(h:allB l=true)(i:Nat)(e:nth l i=decide p):p:=by
 refine of_decide_eq_true (e.symm.trans ?_);clear e;induction l generalizing i with
 | nil=>rfl
 | cons b l ih=>cases b with
  | false=>cases h
  | true=>cases i with
   | zero=>rfl
   | succ i=>exact ih h i
theorem zw8{K:Frag}{f:Addr}{qual:Str}{g:FuncData}(h:fnO K f qual=some g):∃oc od fd sl,AfG (.func fd) sl/\codeIn K fd.code qual=true/\Mc keepIn FX/\bare fd=g:=by
 show BO fnO;show Co
 ·rename_i oc od fd sl e;show Co
  ·show G1;show CM q1 q2 Bool.and_eq_true_iff.mp q;exact⟨oc,od,fd,sl,e,q1,q2,zF h⟩
  ·cases h
 ·cases h
theorem z8h{fd:FuncData}(Asf){dV:Value}(h:bare fd=AfW dV Φ none Φ Φ):
  fd=BJj dV fd.kwdefaults fd.doc fd.pyModule fd.annotations fd.code fd.closureTuple:=by
 obtain⟨⟩:=fd;injection h with h1 h2 h3 h4 h5 h6 h7 h8 h9 _ _ _ _ _ h10;subst h1 h2 h3 h4 h5 h6 h7 h8 h10
 rfl
theorem fun_of(BHy fnO):∃fd,AOd:=by
 obtain⟨oc,od,fd,sl,e,c,k,b⟩:=zw8 h;exact⟨fd,BI_ (z8h b)⟩
theorem yfo(BHy fnD):
  ∃fd T Qj dn Qk,A'H qual/\K.lookup T=some (Ar' #[Φ]):=by
 obtain⟨g,h1,h2⟩:=Option.bind_eq_some_iff.mp h;obtain⟨oc,od,fd,sl,e,c,k,b⟩:=zw8 h1;split at h2
 ·show G1;subst b;unfold Ul at q;show YA
  ·rename_i T hT;split at q
   ·rename_i t Qj xs dn Qk eT;show CM q1 q2 Bool.and_eq_true_iff.mp q;show Kk (beq_iff_eq.mp q1);have q3:xs= #[Φ]:=by
     split at q2
     ·rename_i ex;exact Array.toList_inj.mp ex
     ·cases q2
    subst q3;refine⟨fd,T,Qj,dn,Qk,BI_ (z8h (dV:= .ref T) ?_),eT⟩;have h3:=zF h2;have h4:(bare fd).defaults= .ref T:=hT;generalize bare fd=g at h3 h4⊢;obtain⟨⟩:=g;injection h3 with a1 a2 a3 a4 a5 a6 a7 _ a9 a10 a11 a12 a13 a14 a15;subst a1 a2 a3 a4 a5 a6 a7 a9 a10 a11 a12 a13 a14 a15 h4
    rfl
   ·cases q
  ·cases q
 ·cases h2
theorem z9b(A'N Um):A7g fnO:=by
 show BO Um;show Co
 ·rename_i e;exact B1 e h
 ·cases h
theorem z9z(A'N fnM):A7g fnD:=by
 show BO fnM;show Co
 ·rename_i e;exact B1 e h
 ·cases h
theorem fun_at(A'M Um):∃f fd,Afa/\Υ x x st:=
 let ⟨f,e,h⟩:=z9b h;let ⟨fd,F⟩:=fun_of h;⟨f,fd,e,F⟩
theorem funM_at(A'M fnM):∃f fd T Qj dn Qk,Afa/\A'H x/\K.lookup T=some (Ar' #[Φ]):=
 let ⟨f,e,h⟩:=z9z h;let ⟨fd,T,a,b,c,F,d⟩:=yfo h;⟨f,fd,T,a,b,c,e,F,d⟩
theorem seen_cons{K:Frag}{d:Str×Stmt}{ds:AUg}(h:seen K AU0=due AU0):Um K d.1=BA'/\seen K ds=due ds:=yX h
def M5:Sum Int Str ->D
 | AEx=> C7
 | ku=> fh
theorem zl8{K:Frag}:BEi (∃vs,Vals vs xs/\∀F,Iq (as.map M5) vs)
 | [],as,h=>by cases h;exact⟨[],CC,fun F=>JP⟩
 | v::r,as,h=>by
  show Aym
  case int i t=>
   show Ar4;show BS vs q1 q2 (zl8 (K:=K)) e;exact⟨C7::vs,.cons C9 q1,A4V⟩
  case str x t=>
   show Ar4;show BS vs q1 q2 (zl8 (K:=K)) e;exact⟨fh::vs,.cons C9 q1,A4V⟩
theorem zwa:BEi (AKN as.length)
 | [],as,h=>by cases h;rfl
 | v::r,as,h=>by
  show Aym
  all_goals (show Ar4;simp [zwa e])
theorem glb_tup{K:Frag}{h:Heap}{mg:B0}{x:Str}{as:List ASq}(X:LO)(G:Ajg)(q:isRef (nsIn K mainGlobals x)=true)(l:tupO K (adr (AcP nsIn x))=some as)(hz:BH as.length):Pa K mg x (.tup (as.map M5)):=by
 unfold tupO at l;split at l
 ·rename_i t od xs n sl e;split at l
  ·rename_i et;subst et;exact L3.glb_tup (mg_of X G (adr_of q)) e (AxJ (zwa l)) (zl8 l)
  ·cases l
 ·cases l
theorem walk_ex{l:OpenLaw}{n k:Nat}{q:Program}{loose:Α}{XP:A3R}{YP:Awi}{d:DefRec}{Fx:BN World Frag}{CX:World ->JQ}{sp:Frag ->Sp}{x:Str}
  (hn:AnQ) (hn2:BH n) (hdf:Aul) (hr:Ati)
  (hY:∀(w:World) (h:Heap),YP w h ->∃K:Frag,LO/\Fx w K)
  (F:∀(w:World) (K:Frag) (mg:B0) (fa:Addr) (h:Heap),Ω (Fx w K) LO Ajg Aw2 (∃fd:FuncData,(Amg u Apq)/\∀b:Heap,K.In b ->AQy b.Ns ->fY l.prog w K mg b (CX w) k fa fd [x] (sp K)))
  (hsp:∀(K:Frag) (H:Hp) (a:Addr) (ns:AU),AhV ->Only H ->Aad ->sp K MB H An6 lh)
  (hCX:∀(w:World) (H:Hp) (s:Shared) (e:Value) (s' :Shared),CX w [] H s (lh) e s' ->False):
  A6a:=by
 refine Att.Ac hn hdf fun w s₀ s₁ mg mb fa o pm cd doc a vs ns G Y ho hd hcd hmg hobj hints hlen hg=> ?_;obtain⟨K,KX,fx⟩:=hY w _ Y;obtain⟨fd,hb,hF⟩:=F w K mg fa _ fx KX G.T.g hmg;exact yde KX G.T.g G.T.b G.T.builtins G.T.nolimit hg hobj hints (zO hlen hn2) hr hF hb (fun H hO hS=>hsp K H a ns hlen hO hS) fun H e s' =>hCX w H s₁ e s'
theorem start_binds{K:Frag}{fd:FuncData}{x:Str}{st:Stmt}{f:Addr}(F:Υ "law" "law" st)
  (h:BIt u Value (bindArgs (Afe (fnOf "law" "law" (JM st) sD ABY Φ kV doc)) (GV [u])=pure [(x,u)])) (s:Shared) (u:Value):Apq:=by
 show AcM F.ex;exact .of_eq (h kV doc pm an cdv ct u)
theorem holds{l:OpenLaw}{q:Program}{loose:Α}{β:Type}{obs:Frag ->β}{good:World ->β}{n:Nat}{d:DefRec}(said:l.wellSaid=true)
  (L:LeftO l.row.prog q loose (BQ true) (Τ s AbK) good 40000)
  (hd:defOf q l.row.name=some (d,[])) (hp:l.row.prog.theDef l.row.name=some (d.params,d.body,d.scope)) (hk:kwWritten? d.params.kwonlyargs d.params.kw_defaults=some [])
  (ok:NS (chainsOk q&&opensWell l.row.prog) (frees l.row.toRowW&&l.row.within.isEmpty)) (hb:l.row.prog.bare) (hw:l.row.toRowW.promised) (wr:E4 l.row.writes)
  (walk:WalkO q loose BMI (fun w h=>∃K:Frag,LO/\APm) l.row.toRowW d [] (fun f vs=>Ae')):l.Holds:=
 holds_law said fun k1=>holds_open (XP:=Eg _ True) (YP:=fun w h=>∃K:Frag,LO/\APm) L (fun _ s e=>(B1 (ylv s.heap n) e)) (Ļ hz k (by show NW K x hz;exact⟨K,x.keeps k,e⟩))
  (FD _ trivial) (Ļ _ _ trivial) hd hp hk (Nn s (recFacts_of rfl)) (FB wr) k1 ok hb hw walk
#print Hd
namespace L3
open PySem PySem.Spec PyProof.Rows L2
def Ql(g:uT)(tc:TT2)(t:cL)(Γ0:G2)(x:D)(P:ATf):Prop:=BEk (t Γ2 (Nn ds (P [ds])) lK)
def vC(one:iP D (Uf D)):iP Δ (Uf D)
 | [],P=>P []
 | KF,P=>BEh vC
def Qm(ds:Δ):T:= Agn ds.map
def Ib(own:Nat)(caps:At)(ti:cL)(g:uT)(tc:TT2)(t:cL):qY:=ON ti ds (vC (Ql g tc t (qj own caps Γ1)) ds fun ys=>(D5 (B8 AnJ)))
def fX(K:W.Frag)(t:cL):TE:=ArA upF
theorem yga(gr:WJ)(h:wp)(e:æ)(ld:LD u):WH:=by
 cases q:F' a with
 | none=>rfl
 | some w=>
  show Ġ (gr.n a w q h) z e' z
  ·show AEa e
  ·rw[e] at z;cases z;subst e';exact ld.tup.elim
section
variable{F0 H0:Hp}{own:Α}{caps:At}{g:uT}{tc:TT2}{t:cL}
theorem z3t(AGd){σ:St}{Γ:G2}{J:It}{Hx:Hp}{ds:Δ}{acc:Addr}{P:ATf}{Q:AFO}(R:D_)(hJ:Aom J)(hx:fF Hx)(ha:JS acc)
  (h:vC (AaV Ql t) ds P)
  (fin:∀ys F' H' as,YI ANu C8 (AnT).Nodup (∀a∈acc::as,WH/\dc) (ma (B8 AnJ) mw AnT) (P ys) Ajn):
  BG4 fX t:=by
 obtain⟨R1,e1,e2,e3,ap⟩:=G6 (ds:= []) (vs:= []) R ha FH
 have hx1:Same Hx Ae_:=Fu (Θ (ţ hx ha) (PM hx))
 have xa:∀u,Hx acc≠ALe:=fun u e=>A_a
 show A9 (fun i m vs H' =>m=ds.length - i/\Ah7/\∃F' ys as,ANu/\C8 /\AFt /\Ò Hx /\ApB/\Ali/\ (AnT).Nodup/\ AYI/\fj K F' H' AnJ vs as/\AhY/\vC (AaV Ql t) (ds.drop i) Ayw) ⟨ds.length,AV,EX,F,[],[],R1,VS,Fu (by(show wo ha e)),hx1,e1,e2,AV,fun a h=>by(cases h),Ag5,GL,As h⟩
 rintro i m vs H' ⟨rfl,hi,F',ys,as,R',sF,sH,hx',ha',O5,nd,hn,rs,lv,hc⟩;have hz:=hJ.1;show A9 ha' ω
 obtain⟨hstop,hgo⟩:=hJ.2 i H' F' sF R'.g hx';have W0:acc∉as:=lI;show AlE
 ·show AtS;show O_ ⟨go,ω,A3O⟩
  obtain⟨F2,gr,rx⟩:=yl x H2 y;rw[List.drop_eq_getElem_cons hlt] at hc;have R2:=R'.grow gr;refine⟨F2,H2,F2,AOj qj Γ,_,ds[i],AOj z02 R2,rx,hc,BIJ⟩;refine⟨F2,H2,F3,Γ3,_,R3,q3,fun b Γ4 F4 H4 R4 s4 q4=> ?_⟩;show BEO;have keep:∀{F5 H5},Gr F' H' F5 H5 ->∀a∈as,GU F5/\dc:=fun g5 a h=>by
   show NR e ld (A9m h);exact⟨yga g5 (tT h) e ld,AjG⟩
  cases b with
  | false=>
   show BBm ⟨ANV,ω,rfl,hlt,F4,ys,as,R'.grow wH,Avl,sH.trans wH.h,A6N,Av2,BBG,nd,keep wH,fj.move wH.f _ _ _ (fun a _ u e=>wH.h a u e) rs,ω,?_⟩
  | true=>
   rw[B4] at q4;refine⟨F2,H2,F4,Γ4,_,R4,q4,fun es Γ5 F5 H5 a us R5 s5 p1 p2 p3 rv apa q5=> ?_⟩;show BEQ;have a5:=Av3;have f5:=ztq BP O5 ha';have W3 :GU H':=gr.h.free p3;have W4:a≠acc:=Ξ (Ahx ha' W3 W3)
   have aas:a∉as:=Ξ (by
    show AEg e (A9m z);rw[e] at W3;cases W3)
   have a0:dc:=sH.free W3;refine⟨a5,ANV,ω,rfl,hlt,F5,ys++ [es],as++ [a],?_,Avm,Fu (by(show wo ha (BP.h b u (sH b u e)))),EK,gG,f5,?_,FV,?_,AEw,?_⟩
   ·have R6:=R'.grow BP;show B5 ⟨R6.gr.f,EK,EK,R6.gr.n⟩ R6.len (NM j sl) R6.ap
    ·rw[i5 f5];exact PM R6.g
    ·show wo e3 At3
    ·show Abm (R6.sl j sl e) (AGo ⟨(zp p2 hc).1,AJ u q⟩) (c≠acc) (ap j A_V) q
   ·rw[ų A1v];exact BP.h b u AeY
   ·rw[<- List.cons_append];exact Aq3 (fun x hx y hy e=>by
     rw[List.mem_singleton.mp hy] at e;show Ps hx z z
     ·exact W4 (e.symm.trans z)
     ·exact aas (e ▸ z))
   ·show al
    ·exact keep BP b hb
    ·show Ahc p2 a0
   ·show AS4;refine Pr (fj.move BP.f _ _ _ (AiU ?_) rs) (Pu ?_)
    ·rw[ų (W0 (BF z hb))];exact PM BP.h
    ·exact⟨a,us,[],rfl,rfl,ZN W4 p1,KC rv⟩
   ·simpa [List.append_assoc] using q5
 ·show Ajs
  refine fA AhU (fin ys F' H' as R' sF nd (fun a h=> ?_) (C6 ⟨acc,vs,as,rfl,rfl,ha',rs⟩) ?_)
  ·show AVI rfl
   ·exact⟨O5,ha⟩
   ·exact hn a h
  ·rw[List.drop_length] at hc
   simpa [vC] using hc
theorem ybh{X:Cx}{elt tg iter:Expr}{ifs:A2}{sc:Scope}{N' :Α}{pos:Pos}{ti:cL}(S:AHI)(hc:Cn)(hi:Aag)
  (hg:APX) (ht:APY) (he:AP8 QF elt t)
  (hn:AMb:=by rfl) (hs:am iter:=by show MW):Ĥ T0 (Ib n caps ti g tc t):=by
 subst hn;rintro z E cx pins s σ H Q I ⟨F,Γ,P,R,h,k⟩;rw[show eval T0 (X.wsh z).env=comprehension T0 sc X.env _ AnI false AMJ from BLg];refine D8 (F8 zlc g AZW) tc AZX te (fX X.K t) Q Q AX4 (pig hc AEy) ?_ ?_ ?_ rfl hs I ?_ ?_
 ·rintro C s₀ H₀ fp pins s σ H v u Q I r ⟨vh,vm,q⟩;exact AUv hg v u Q r q
 show AXv
 ·rintro C s₀ H₀ fp pins s σ H Q I ⟨vh,vm,q⟩;exact AJj he
 ·refine KW (fun ds Γ1 F1 H1 J Hx R1 s1 hx hJ h1 acc ha=>z3t R1 hJ hx ha h1 fun ys F' H' as R' sF nd hn tr hp=>k _ Γ1 F' H' _ _ R' AMI nd (fun a h=>(Ad2 (tT h) AjG AjG)) tr hp)
 ·rintro acc C H' s5 I5 q5 ⟨m,hn⟩ c1 c2 c3 c4 c5 c6;exact⟨m,hn,A3e s5.toks q5⟩
#where
inductive xR (A6K uW):Prop
 | mk:∀x rest F ds Pd Ex,EJ A9W (A4I) ĝ (F x=none) (A'O (∀t as F' H3 v dx H',YI (Gr F H F' H3) as.Nodup AYI (TR K F' H3 t v as) (Pd t) (H3 dx=none) (BHM (.xd AWp) H3)) xR)
def W5(A6O uW):Sp:=AdK (Afp xR)
section
variable{P:Program}{w:World}{K:W.Frag}{mg:B0}{base:Heap}
theorem z5y(AO_)(APo uW){C B:Addr}{fl bn:Str}{value:Expr}{p1 p2 p3 p4 p5 p6 p7 p8 p9 p10:Pos}(Fn:AOd)
  (hbd:xq st= [.Assign [.Attribute AVy fl p2] value p3,.Expr (ax (bi (C5 bn p4) "__init__" p5) BGw p9) p10]) (S:AAj Aet)
  (hc:ADw) (hB:Hz K B) (hmB:VM bn B) (hn:uC fl) (hN:EE N 0 Ab_) (Ph:AlY) (len:AHo)
  (hdb:AT bn "__debug__")
  (hbody:ABT (∀F0:Hp,
   Gl SU bn/\
   À (swapsWith value (BU (bi AVy fl p2)) p3.line (SU).env)/\
   (∃pl,yb0 bn p4 p5 p9 BGw (SU).env pl)/\
   ∃tn,QN SU F0 H value tn/\
    BDY (tn (gJ N AFk) A3N av))):
  A4P W5:=by
 show yn;show AHu
 ·obtain⟨x,rest,F,ds,Pd,Ex,e,_,_,_,rs,hs,_⟩:=hq1;show Aqc e AdJ
 obtain⟨a,rest,F0,ds,Pd,Ex,ev,hx,sF,fx,rs,hsp,hQ,hE⟩:=hq2;subst ev;obtain⟨hgB,hsw,⟨pl,hpl⟩,tn,hte,hq⟩:=AdR;show AHq (by
  show A8 ABU AAn;show ABV;show AHl xr z1 z;exact AHt)
 rw[hbd];show gN Ie (∀q,PE SU (û q) (NT 0)) (rR (i:=0) hN Ph);show Yf (ZQ (z5f hc hn (Ie p1) Aww hsw) (ZR (ZS (ya9 hc hB hgB hmB (Od (Ie p6) (Od (yh4 hc hn (Ie p7) rfl) Rz)) hdb rfl rfl hpl))));refine⟨F0,gJ N AFk,_,RV sF (tR FH rs),BGK,fun t Γ1 F1 H1 v as R1 s1 nd hn tr hp=> ?_⟩
 obtain⟨h0,hp⟩:=hp;show On eo ro A2Z;show NR rfl ru ro;subst ru;refine⟨AR,eo,a,rfl,ATl hx,Ν dx n1 n2⟩;refine⟨AR,eo,AR,eo,a,dx,_,v,rfl,AkJ,gG,BG List.lookup,?_⟩
 show LS a (some dx) v rfl AkJ
 refine hQ t as F1 H1 v dx _ R1.gr nd (II ⟨ê,ASK⟩) tr hp n1 n2 gG (l_ (bC n2) gG) (A7e (bC q1))
#where
def zx4(C:Addr)(fl:Str)(sp:uW)(t:cL):aG:=AlP (ANC BGE)
section
variable{X:Cx}{F0 H0:Hp}{e:Expr}{es:A2}{pos np cpos:Pos}{t:cL}{x fl:Str}{C f:Addr}{fd:FuncData}{ps:Α}{k:Nat}{sp:uW}
theorem z36(hh:Cn)(BG2)(hf:Axn)
  (Fn:A_Y W5) (hr:AAh) (hb:AEU) (ha:LJ)
  (hd:AT x "__debug__":=by decide) (AVK):
  A'k:=by
 rintro z E cx pins s σ H D I ⟨F,Γ,D2,R,h,k'⟩;refine D8 z95 K X.K C C f f hC.cls Ayq ?_ hi AvS (As2 (A6 Gk))
 ·rw[he];show E4 (false || (backTo cpos (starEach es X.env)).any (·.1))
  rw[hpl];rfl
 ·have key:=Acx cpos (ö H1 (∃F1 Γ1 ds,AI1/\Acm/\BH ds.length/\BGE)) I (QQ ⟨F1,Γ1,ds,R1,r1,h1⟩);rw[he] at key⊢;show ALq Calls.evalArgs_plain key (fun us s2 ⟨vs,H1,I1,r,F1,Γ1,ds,R1,rs,hlen,q⟩=>⟨rfl,by show BH us.length;rw[<- r.length,<- Sm];exact hlen,I1.kIn,?_⟩) AOr
  show RC ge AZh xn BL2 A5W (by
   have:=z9 (s2.heap.push AJO) (o:=xn) rfl;show BC Heap.size_push;exact this)
  have kp:dQ s2.heap.get? (ADm AZh xn):=Fc AL0;generalize hh2:(s2.heap.push AJO).push xn=h2 at ge kp⊢;have n1:H1 (ALN)=none:=AWo;generalize hea:ALN=a at ge n1⊢;have hle:s2.heap.objs.size<=a:=ω
  have I2:ACw AAV (AZS h2):=I1.laid kp hle (ybi ge);show AoT AAV (AXV n1)
  have f1:GU F1:=by
   cases q:F1 a with
   | none=>rfl
   | some o=>show AqI
  have u1:Un g9 [] H1 AAV s2.heap h2:=Un.laid kp hle n1;have hs:W5 X.K C fl sp (AR::vs) AAV (OX H' (v= AE/\ARZ /\∃p u F' as tr,Cl H' (AQf p)/\H' p=some (.xd [(fl,u)])/\p≠a/\lS p/\F' p=none/\WH/\VV F' /\Ò F' /\ (Of (E5 F') (KS F1) (u9 H1 b o))/\as.Nodup/\ (M3 as (KS F'/\AUA))/\a∉as/\TR X.K F' H' tr u as/\BK6)) (AoW (∃x F',E Γ1 x/\Gr F1 H1 F' H' /\BK X.K F' H1 H' C' Mu x)):=by
   refine⟨a,vs,F1,ds,_,_,rfl,gG,Aji,f1,rs,q,?_,BDT⟩;intro t as F' H3 v dx H' gr nd hn tr hp n3 n4 e1 e2 e3;have fa:WH:=by
    cases q:F' a with
    | none=>rfl
    | some o=>
     show A5k (gr.n a o q f1)
   show B3 asx b as (IQ/\b≠dx/\AUA) b hb (by
    have h0:=hG;have ba:IQ:=Ξ (Ahx gG h0 h0)
    rw[bC ba] at h0;show AEg e (TR.there _ _ _ tr b hb);exact⟨ba,gP e n3,h0⟩)
   have Ig:Of IQ (E5 H3) (E5 H'):=Pp ba e (Θ (e3 b ba (gP e n3)) e)
   refine⟨rfl,EM o eb (Ig b o AQi (gr.h _ _ (sH _ _ eb))),dx,v,F',as,t,e1,e2,n4,(sH.trans gr.h).free n3,gr.g.free n3,fa,gr.f,Fc (Ig b o (gP e fa) (WB gr.g)),Æ (u9.back sH (gr.n b o e n)),nd,AQ' (uv asx),ACm ((asx a hb).1 rfl),AlH ET (AiU (Ig b u (Ll asx) e)) tr,hp⟩
  show AJc AFx (by
   have e:=AJb;show Aqd (V.ref a) e)
  have hbs:=hb (ay s2 h2) AFx I2.kIn AZQ
  show o_;show AAi (Fn.run _ X.stack _ _ (ALx ACT) AFx _ _ _ AWw Ajh hbs (AfP Cb a) hs) A0U;cases r' with
  | error e' =>exact BGI e' I1 R1 (ArU u1)
  | ok Wj =>
   cases Wj with
   | ret u=>
    obtain⟨v,H',os,bare,un,hok,rv,ev,sS,p,pu,F',as,tr,ea,ep,pa,p1,fp,fa,sF,sFH,nT,nd,oL,aas,rG,hE⟩:=hq';subst ev;show CD rv;have I3:ACw H' s' :=I2.call' (s' :=s') os un hok bare ANt
    obtain⟨t0,gx⟩:=SX hok ea;show N4 _ t0 I3.kIn gx rfl rfl;have Ak:=u1.trans un;have nH:Az4:=EM u eb (by
     show OA
     ·simp [hb] at eb
     ·exact⟨hb,Af' hb eb⟩)
    have yH:Sj IQ (FF H') (FF AK_):=MC hb eb (QY hb eb)
    have nfr:P_ H' (b∉To):=MC eb hm (by
     have:=I3.stkFree b hm;show BC eb;show EV)
    refine BGI Cb I1 R1 ⟨a,GW,AK_,A6z,some p,rfl,os,bare,?_,?_,?_,?_,?_,.pay C [fl] [tr],F',hE,⟨sF,?_,?_,nT⟩,rfl,p,[pu],as,rfl,BBa,rfl,fp,p1,nd,oL,Pu (TR.move ET tr pu as (AiU (yH b u (Fs (j' aas hb)) e)) rG)⟩
    ·refine⟨Ak.keep,Ak.slot,De b o eb n hx,Ak.there,E8 xs eb,tI u eb,E8 ps eb⟩
     show BGU
     ·exact A2O
     ·exact A_H
     ·show LP more q A2b more (ARq q)
    ·intro b u eb;show AZ5;refine vt hok eb (pp q q) (Nd q Aa2) (ve q Aa2)
     ·show AbN
     ·show AbN
    ·show B5 (JU o AuY) (zjh _ zY) ?_ (.inr ⟨_,_,gx,rfl,rfl,rfl,rfl,ŏ⟩);exact W.funFrames_hide (as:=a::To) I3.stack A'_
    ·intro b o eb n;show AAT (Anm Χ)
     show A8 o' (Ţ e' AUr);show P6 hm hm
     ·exact A2w eb
     ·exact n hm
    ·intro b u eb;show AZ5;show CM o eo zv1 (hok b u eb);show A8 o (Ţ eo AUr);show Ps hm hm hm
     ·exact hb hm
     ·exact nfr b u eb hm
    ·exact AYW (gP eb fa) (sFH b u eb)
    ·exact AYW AQi (sS b u eb)
   | next=>show oB
   | brk=>show oB
   | cont=>show oB
structure Qn (BAc uW):Prop where
 ex:BEz (A4O W5) tq
theorem z7k(hh:Cn)(G:A'2 Qn)(hr:AAh)(hg:HE)(ha:LJ)
  (hd:AT x "__debug__":=by decide) (AVK):
  A'k:=by
 obtain⟨f,fd,h1,h2,h3,h4,h5,h6⟩:=G.ex;exact z36 hh hg h5 h4 h2 h3 h1 hr h6 ha hd he hpl
#where
def CG(xo):aG:=Akb (TM w8 (some w_) (D.rt d) (some (.nt _ ts)) (D.rT (.tp ts)))
inductive RN where
 | pl (d:D) | nt (ts:EI)
abbrev M6:=AoS (DB RN)
def tpT(Q:DB RN):DB TW
 | .one _=>False
 | .tp ts=>Q Ak0
abbrev KY(Q:DB RN):rW:={nx:=CY (Q (.pl AE)),rt:=fun d=>Q (.pl d),rT:=tpT Q}
inductive Ih (AaX M6):Prop
 | mk:∀F ds P Ex,YI ĝ ARi (sp ds P Ex) ((Arm Ts (P (.pl d)))) ((∀ts p vs as F' H',YI WJ (F' p=some (.tup vs)) as.Nodup AYI (fj K F' H' ts vs as) (P Ak0) (F7 p H'))) Ad4 (AJD Ih)
def Ii(K:W.Frag)(sp:M6):Sp:=AXx Ih
structure Qo (ABR) (mg:B0) (base:Heap) (x:Str) (k:Nat) (ps:Α) (sp:M6):Prop where
 ex:AqF Ii
section
variable{X:Cx}{F0 H0:Hp}{pos pos' py ep ap tp:Pos}{x y fl c:Str}{C:Addr}{i j k:Nat}{e:Expr}{es:A2}{te:cD}{t:cL}{sp:M6}{ps:Α}
theorem ya1(hi:EC)(hv:Id)(y_):Pw (.Return ALZ pos) (CG i):=fun z E cx=>
 rY (z8g AiV) fun D σ H hq=>by
  obtain⟨F,Γ,D2,R,h,k⟩:=hq;show BO CG;show Co
  ·rename_i d e0;obtain⟨o,eσ,v,rfl,rv⟩:=o4;exact⟨v,eσ,k.rt d v F H R.gr rv h⟩
  ·rename_i as ts e0;obtain⟨o,eσ,p,vs,rfl,ep,nd,hn,rt⟩:=o4;exact⟨IR,eσ,k.rT (.tp ts) ALO as F H R.gr nd hn (og ep rt) h⟩
  ·show EB
#where
section
variable{P:Program}{w:World}{K:W.Frag}{mg:B0}{base:Heap}
theorem abz(AO_)(APo M6)(Fn:Υ x qual st)(S:AAj ps)(len:AHo)
  (hbody:ABT (∀F0:Hp,
   ∃t,AYT sD/\Aah (KY Q))):
  AV7 Ii:=by
 show yn;show AHu
 show Abv
 obtain⟨F0,ds,Pd,Ex,sF,rs,hsp,hQ,hT,hE⟩:=hq2;show AYc;show AHq (by
  show A8 ABU AAn;show ABV;show AHl xr z1 z;exact AHt)
 refine⟨_,Adj,F0,gJ N ds,KY Pd,RV sF rs,BKT,Atb (BIm ?_)⟩
 cases t with
 | one t=>exact q.elim
 | tp ts=>
  show Qr p ep rt r;exact hT ts p us as F' H' gr ep nd hn rt q
#where
abbrev M7:=AHX RN
def abA(K:W.Frag)(F0 H0:Hp)(t:M7)(E:XW):TE:=AIT (∃F Γ P,D_/\t Γ P E/\ (ARn d v Ts (.pl d) k7)/\
 ∀ts Γ' F' H' p vs as,ô ->C8 ->F' p=some (.tup vs) ->Ω as.Nodup A8s (fj K F' H' ts vs as) (OZ Ak0) (F7 p H'))
def W6(X:Cx)(F0 H0:Hp)(e:Expr)(t:M7):Prop:=ANh abA
def Ij(sp:M6)(t:cL):M7:=At4 r r
def CJ(AXB M7):aG:=TC t r (Afr (.pl d) (AGY w_) (.nt ts) (∀as,AOV .nt as ts))
section
variable{X:Cx}{F0 H0:Hp}{e:Expr}{es:A2}{pos p py:Pos}{x y:Str}{ps:Α}{k j:Nat}{sp:M6}{t:cL}{tr:M7}
theorem ycg(Abo Qo):
  B7 W6 TL (Ij sp t):=by
 obtain⟨f,fd,Fn,hm,hk,hb⟩:=G.ex;rintro z E cx pins s σ H Q I ⟨F,Γ,P,R,h,kk,kt⟩;show APT;refine W.callWith_K (h₀:=X.base) I.ok.mod.GC hk AxH he hpl;show Alb;show AL8;have hs:Ii X.K sp vs H1 Q Asn:=⟨F1,ds,_,_,R1.g,rs,q,BAi,fun ts p vs as F' H' gr ep nd hn rt hp=>kt ts Γ1 F' H' p vs as ADW ARd ep nd BLL rt hp,ASv⟩;show AbA
 show A3t;show o_;show AAi (Fn.run X.A X.stack s1 H1 ADn us vs Q _ hr I1.env0 hbs r hs) AGb;cases r with
 | error e=>exact AYe I1 R1 hq
 | ok fl=>
  cases fl with
  | ret u=>exact I1.after hq
  | next=>show N3
  | brk=>show N3
  | cont=>show N3
theorem zz9(hN:X.N.Nodup)(hj:yy)(hy:Loc X.env.scope y)(he:VY W6 tr)(hs:ABO (BU (C5 y py)):=by rfl)
  (hf:X.fn y=true\/AHJ:=by show y9):kQ [AQG] e (CJ j tr):=OH rY (F8 ZX i j hN hj hy IU hs hf) D hq hq ⟨F,Γ,_,R,h,A9b (AMr (R1.set j rv)),fun ts Γ1 F1 H1 p vs as R1 s1 ep nd hn rt h1=>(dP (R1.put j (s:= .nt as ts) (o:=some ALO) ⟨p,vs,rfl,ep,nd,AQ' ASK,rt⟩ AzY) (h1 as))⟩
#where
theorem isV_of{o:BL7}{s:String}(h:isV o s=true):o=some (.val (LZ s)):=by
 show BO isV;show Co
 ·rw[beq_iff_eq.mp h]
 ·cases h
def vD:aG:=lh
theorem zup{X:Cx}{F0 H0:Hp}{st:Stmt}:Ť vD:=fun _ _ _ _ _ _ _ _ _ h=>by obtain⟨_,_,_,_,h,_⟩:=h;exact h.elim
mutual
def szT:T ->Nat
 | .leaf _=>0
 | YR=>Ik ts+1
 | AXU=>Ik ts+1
 | AlI=>Ik ts+1
 | AmS=>Ik ts+2
 | ŗ=>0
def Ik:EI ->Nat
 | []=>0
 | Pe=>szT t+Ik ts
end
#print L3
namespace Hd
open PySem PySem.W PySem.Calls PyProof.Rows L2 L3
#print Hd
namespace L3
open PySem PySem.Spec PyProof.Rows L2
def Itm(As_):It:=
 AK6 (AJt/\i<kvs.length) (∃c k v,x= ATU/\JS c/\H' =upd H c AxA/\ATj (k,v)) (AJt/\kvs.length<=i)
theorem z5k:Avj "dict_itemiterator.__iter__":=
 Ax9
theorem zub{it d:Addr}{i n ep:Nat}{ok ov:Value}{Q:dW}{s:Shared}{P:Program}{w:World}{A:Around}{E:dW}(hit:IsItemIter s.heap it d i n ep ok ov)(h:F7 it s):BKs:=by
 have hT:s.TypeIs t9 "dict_itemiterator" :=HR hit;refine wpAny_pyIter_slot hT PySem.F.slot_dict_itemiterator_iter (vT PySem.F.slot_dict_itemiterator_iter hT z5k PySem.F.args_dict_itemiterator_iter_1);exact z7 ⟨_,rfl,"dict_itemiterator",_,hT,PySem.F.slot_dict_itemiterator_next.lookup,h⟩
theorem z3m(ADf)(Aan){pos:Pos}(a it:Addr)(BLU):Turn P w K AmT (Itm a o kvs) [it] it (NI h (∃ok ov,IsItemIter h it a i kvs.length ep ok ov)) where
 mem:=AV
 obj:=AAo (by
  show ž
  show NW ok ov st;exact AOK e)
 keep:=ARG (by
  show NW ok ov st;exact⟨ok,ov,xI it e⟩)
 item:=by
  intro X hP hw hK hc i pins s σ H E I hf st hg;show KL;show AAz;obtain⟨ok,ov,st⟩:=st;show AHk;show ŧ;show AHb;show Asy
  show Ara;show B3 hlt c [it] (UA c) c hc (by
   obtain rfl:c=it:=As hc
   exact zG st)
  refine wpAny_pyNext_items_item st hd hw fun key h1 hkey hit ht hsz k1=>(NG (wpAny_letOwnedTupleGo_items hit (Ν h2 e2 sb)));have EY:Aox it:=sb;have rk:AwR:=by
   show Ax6
   ·exact Tm
   ·exact Tm
  have I2:AjO AxA s.toks:=
   zx5 (fp:= [it]) (its:= [key,u]) I (Ax5 (k1 c o No e))
    hlt (AnL (Nat.ne_of_gt (hlt it Χ)) ht) (Aq1 rk rv) AXa hf
  exact⟨ç,_,I2,rfl,⟨_,k,v,rfl,I.fresh,rfl,hv⟩,B1 _ (Θ hl e2),AGo (A'g hlt)⟩
 done:=by
  intro X hP hw hK hc i pins s σ H E I hf st hg;show KL;show AAz;obtain⟨ok,ov,st⟩:=st;show AHk;show ŧ;show AHb;exact wpAny_pyNext_items_end N_ st hd Ags (Aup [it] (qr (eb b o No e)))
 self:=Acr (AgE ok ov st (zub e h))
def Qp(te:TE):TI:=BG1 (Itm a o kvs)
theorem ycc{X:Cx}{e:Expr}{te:TE}{apos cpos:Pos}(Aan){pt:Pos}(he:SE)(AwJ):
  PI X ARv Aud (Qp te):=by
 show ft;refine wpAny_Call_method0_late hbase hline (NA gI v hq1);obtain⟨x,H1,I1,r1,a,o,kvs,ex,ea,q⟩:=hq1;subst ex;show AYC;have ea' :Rd H1 a Iy:= .inr (N0 ea);show AtN ea';refine⟨"dict","dict.items",PySem.F.plainAttrs_dict,PySem.F.slot_dict_items,PySem.F.type_dict_items,hT,hN,BLK⟩;obtain⟨ho,hz,_,ws,kv,o',es,ep,h1,h2,h3,h4⟩:=BGA;rw[ho] at h1;cases h1;have hm:AN9:=AbP ho;refine call_meetsIn PySem.F.slot_dict_items hT PySem.F.entry_dict_items (PySem.F.args_dict_items_1 _) (meets_dict_items î a hsm) (EU ⟨ws,o,es,ep,ho,h2,h3,h4⟩);have vw:(s1.heap.push (ND "dict_items" #[AR])).IsItemsView s1.heap.objs.size a:=RU;have I2:ŋ A2H:=At7 Sk;refine wpAny_pyIter_items (s:=A2H) vw Agj ?_;refine⟨_,[_],_,_,_,rfl,AIQ I2.kept Sk,As3 z3m,?_,FV,q hz⟩
 ·rw[kv.length];exact B1 _ OQ
 ·show Kk (zR.mp hb);exact I2.fpOk D3 (I2.hok.fresh D3)
def qp:DL ->Δ ->Δ:=List.zipWith fun k x=> .tup [mC k,x]
theorem z9c(BIl):Akg Itm (qp ks xs):=by
 show AtF ks.length
 have l1:=jH rs;have lp:LL qp ks xs=min ks.length xs.length:=List.length_zipWith;show AHv ω q Adc
 unfold qp at hd;rw[List.getElem?_zipWith] at hd;cases e1:ks[i]? with
 | none=>show Cc e1 hd hd
 | some k=>
  cases e2:xs[i]? with
  | none=>rw[e1,e2] at hd;cases hd
  | some x=>
   rw[e1,e2] at hd;cases hd;show AN1 e2;have hik:i<ks.length:=IO e1;show AlR
   obtain⟨c,k2,v2,rfl,hc,rfl,z⟩:=z;have z1:=(PB z).1;have z2:=(PB z).2;rw[e1] at z1;cases z1;rw[hv] at z2;cases z2;have gr:=Gr.laid (o:=HO.tup [kV k,v]) s3 hc;show Yf gr;exact ZE c xF (tR (yfg k) (tR (AmL gr.f) FH))
def z8z(Z'):cL:=XX (I_ d (.dik ks xs) (D5 (qp ks xs)))
section
variable{X:Cx}{F0 H0:Hp}{e:Expr}{te:cD}{elts:A2}{apos cpos pt:Pos}
theorem yc7{x1}(he:MR)(AwJ):AoJ Aud (z8z te):=AR6 (A9H ycc) (fun σ H R hq2=>by
 show AdE;refine AKI (fun d Γ1 F1 H1 v R1 s1 r h1=> ?_);show PR
 ·obtain⟨a,o,vs,rfl,ea,hkl,rs⟩:=r;exact⟨a,o,_,rfl,Ane,Aeo (z9c ea hkl rs hz)⟩
 ·exact h1.elim)
#where
def Il(C:Addr)(i:Nat)(f:Str)(j:Nat)(tv:cD):aG:=TC tv d (∃k as fs ts ks xs,Al6/\AJJ AfK/\Aj fs ts f=some (.dic ks AMc)/\AVP/\
 AOV .tr as (Axr k k))
section
variable{X:Cx}{F0 H0:Hp}{value:Expr}{pos npos Qc pos' :Pos}{x f:Str}{C:Addr}{i:Nat}{tv:cD}
theorem yae{y:Str}{j:Nat}{yp:Pos}(hu:RS)(hc:vS)(hn:X0)(hval:Anh)(hN:EC)(hv:Id)(WT:yy)(hv2:AXl)
  (hd:AT x "__debug__":=by decide) (hcd:AT x "__classdict__":=by decide) (hd2:AT y "__debug__":=by decide) (Cu:AT y "__classdict__":=by decide)
  (hb:APD HU f HU=A7 HU:=by rfl)
  (hs:ANU A1n (C5 y yp):=by rfl):
  AKo (ACu A1n (C5 y yp)) (Il C i f j tv):=fun z E cx=>
 rY (AO2 Z8 (A6 yej UQ hb) Amw hval hs) (DM Dn σ H NZ D2 NZ (AWa GK (by
  obtain⟨k1,as,fs,ts,ks,xs,g1,e0,hl,hsz,hnx⟩:=GK;obtain⟨o2,e2,v2,rfl,r2⟩:=R1.sl j _ g1;have ev2:=HW r2;subst ev2;obtain⟨a,dx,vs,v0,bs,b1,cs,b2,e1,rfl,ea,hv0,rfl,nd,hn',rt,back⟩:=yfz R1 e0 hl;obtain⟨c,ws,ds,rfl,rfl,ec,hkl,rl⟩:=rt;show APN rl;refine⟨AR,e1,a,C,dx,_,ATU,rfl,ea,hc,hn,hv0,kV k1,e2,c,_,rfl,BKo k1 ec hsz,?_⟩
  rw[Wx hkl];refine dP (R1.wrT e0 e1 (B_ (gH (AnM Awr) jn c) Alx) (t:= .tr Awr (Axr k1 k1)) ⟨_,rfl,nd,hn',?_⟩ AFT) hnx
  refine back ET (ACQ ?_) ?_
  ·have hbc:b≠c:=Ξ (by
    subst z;show AmZ;show AsC;show hW
    ·exact n1 Χ
    ·show hW
     ·exact n2 Χ
     ·show AnU n3;show al
      ·exact As9
      ·exact ABn p.2.1 hb)
   rw[bC hbc];exact q
  ·exact A6Y hkl)))
#where
theorem yar{H1:Hp}(S:ATe)(I:Ι)(hS:AR5 (∃kvs o,AR'/\NN/\GS H1 cq))(hN:OV (¬S b) H1 H):ŋ s:=by
 have ne:Sj wn (AbY) (FF H1):=MC q n (i8 (ANW (by show AY7;rw[e] at q;cases q;exact n _ rfl)))
 refine AqG s.toks ⟨fun _ _ q _ _ _=>q,A3k,De b ob q n _,AmP (ğ ob),AkA,A5c,JU ps (EU #[])⟩ gE
 ·rw[ANW (by show AY7;rw[e] at n;cases n)];exact n
 ·exact AoL
 ·exact AoL
 ·rw[AoL];simp
 ·have st:HP u HO b Addr (Aae H) (Aae H1):=fun k=>k.stay (pp z z) (Nd z AfJ) (ve z AfJ)
  show AWR
  ·obtain⟨kvs,o,e1,e2,e3⟩:=uB;rw[e3] at q;cases q;exact⟨e2,st (I.hok b _ e1)⟩
  ·rw[AUQ] at q;exact Axx
theorem z5b{H2:Hp}(S:ATe)(I:Ι)(hS:A_P)(hN:OV (¬S b) H2 H)(n0:AR5 BJr):OK H2 s:=by
 have ne:Sj wn (A1G) (FF H2):=MC q n (i8 (ANW (by show AY7;rw[e] at q;cases q;exact n _ _ rfl)))
 have nn:AUM (KS H2):=fun b q=>(i8 (ANW (by show AY7;rw[e] at q;cases q)))
 have st:HP u HO b Addr (Aae H) (Aae H2):=fun k=>k.stay (pp z z) (Nd z AaE) (ve z AaE)
 refine⟨I.ok,I.os,I.bare,⟨I.base.keep,I.base.slot,AYZ hx (nn b (I.base.free b u q n hx)),I.base.there,JU xs (ne b _ (I.base.tups b xs q) (FE z Á)),AFm w q,E8 ps q⟩,I.loc,I.cell,nn _ I.free,fun x c q=>nn c (I.freeC x c q),SH,gE,I.len⟩
 ·rw[ANW (n0 b z _ _ q)];exact I.base.mj b u w q
 ·show LP m k (I.base.oE b ps q) m (ne b _ k (FE z Á))
 ·show CS h1 h2 h3 I.pin p hp;exact⟨h1,nn _ h2,h3⟩
 ·show AWR
  ·show Amq;rw[e2] at q;cases q;exact st (I.hok b _ e1).2
  ·rw[AUQ] at q;exact Axx
mutual
def lO:T ->D
 | O0=>d
 | YR=> .lst (pN ts)
 | oy=> .dik ks (pN ts)
 | xj=> .qP ks (pN ts)
 | zS=> .obj C fs (pN ts)
 | .kt k=> AzZ
def pN:EI ->Δ
 | []=> []
 | Pe=>lO t::pN ts
end
section
variable{K:W.Frag}{F H F' :Hp}
def qt(H F' :Hp)(a:Addr):Prop:=AQw ((∃o kvs,u= .dK kvs/\Cl F' ADK)\/ (AbY)/\AVl)
theorem qt.d(h:Aaw)(e:ş):∃o,Cl F' cq:=by
 rcases h _ e with ⟨o,_,_,q⟩ | ⟨n,_⟩
 ·exact N0 q
 ·exact(n _ rfl).elim
theorem qt.o(h:Aaw)(e:æ)(n:AbY):AVl:=by
 rcases h _ e with ⟨o,_,q,_⟩ | ⟨_,q⟩
 ·exact(n _ q).elim
 ·exact q
mutual
theorem TR.repN(f:C8):AtA Aaw (ABl (lO t) v)
 | O0,v,as,k,h=>CI ((h.2).up f)
 | YR,v,as,k,h=>by
  show Amv;exact⟨a,vs,e1,SZ ((k a zY).o e3 AQ0),AjR⟩
 | oy,v,as,k,h=>by
  show AGw;show CM o e (k a zY).d e3;exact⟨a,o,vs,e1,e,e4,AjR⟩
 | xj,v,as,k,h=>by
  show AGw;exact⟨a,vs,e1,.inl ((k a zY).o e3 ę),e4,AjR⟩
 | zS,v,as,k,h=>by
  show Amf;exact⟨a,dx,vs,e1,(k a zY).o e3 ę,e5,ArD fj.repN⟩
 | .kt k,v,as,_,h=>by
  obtain⟨_,a,e1,e2⟩:=h;exact⟨a,_,e1,SZ (f _ _ e2),Vr k⟩
theorem fj.repN(f:C8):AtB Aaw (AIY (pN ts))
 | [],vs,as,k,h=>CI C_
 | Pe,vs,as,k,h=>by
  show AYu;exact⟨v,us,e1,AqK TR.repN,Ast fj.repN⟩
end
#where
def W7:Slot ->Slot | .ow ds=> MH ds | .tr _ t=> .pu (lO t) | .nt _ ts=> AEr (pN ts) | .xe _ C _ _=> Ayy | s=>s
def nJ(Γ:G2):G2:=Γ.map W7
def LDn(u:HO):Prop:=LD u\/∃o kvs,u= .frz o Iy
def cX(Γ:G2)(σ:St)(H:Hp)(b:Addr):Prop:=Lo/\∃kvs,AR'
open Classical in
theorem ydp{K:W.Frag}{F0 H0 F H:Hp}{σ:St}{Γ:G2}(R:D_)(ob:Addr ->Obj):∃F1 H1,kP/\A'1/\ (A_Q)/\ (AOs A0V)/\
  (A9k)/\Aos:=by
 let H1:Hp:=RY (if OU then A8w else H b)
 show aS hS A9k (by
  show JY kvs hb.2;show A9 kvs e;show(AI OU A8w (H b))=_;rw[BD hb,e];rfl)
 show aS hN Aos t_
 let F1:Hp:=RY (qB Ace F (Acf H1))
 show aS fo (AOs (AGB wn)) (by
  obtain⟨j,s,o,e1,e2,hs⟩:=id hb;show Ľ e3 r (R.sl j _ e1);rw[e2] at e3;cases e3;obtain⟨h1,_,u,h2,ld⟩:=zp r hs;exact ul h1 u ld)
 have s1:kP:=Fu (by show(yA _)=_;rw[AEl AgY];exact e)
 have at1:OV Lo F1 H1:=fun b h2=>by
  show Akm=_;rw[Do (ALQ (fo b h2).1),BD h2]
 have s2:VV H1:=Fu (by
  by_cases ho:Lo
  ·rw[at1 b ho] at e;exact e
  ·show ACx Akm;split at e'
   ·rw[hN b (Ξ (ho z.1))];exact R.g b u e'
   ·first | cases e' | (show Cc (AY ho) e' e'))
 have Hl:Asv AKr:=Arz (by
  show MS nJ;show BMV;cases q:w8 with
  | none=>rw[q] at e;cases e
  | some t=>
   show A0H)
 show aS own (AOs A0V) (by
  obtain⟨h1,u,h2,ld⟩:=fo b hb;show CD h1;rw[at1 b hb];by_cases hn:OU
  ·obtain⟨kvs,_,e⟩:=hS b hn;exact B1 e (.inr AUp)
  ·show MT u (Θ (hN b hn) h2) (.inl ld))
 refine⟨F1,H1,s1,BI0 nJ,E8 hb hn,own,hS,hN⟩
 ·show MS nJ;rw[List.getElem?_map] at e;cases q:w8 with
  | none=>rw[q] at e;cases e
  | some sl=>
   show Y2;show On e1 r (R.sl i sl q);show A9 o e1;have mine:HH (gH sl o b) (qt H F1 b):=fun b hb u hu=>by
    have ho:Lo:=BAb;rw[at1 b ho];by_cases hn:OU
    ·obtain⟨kvs,e,e'⟩:=hS b hn;rw[e] at hu;cases hu;exact .inl (xD e')
    ·show O_ ⟨fun kvs z=>hn ⟨ho,kvs,Gc hu z⟩,Θ (hN b hn) hu⟩
   cases sl with
   | no=>cases e;trivial
   | pu d=>cases e;show Sc rfl rv r;exact Ū Air
   | ow ds=>
    cases e;obtain⟨a,vs,rfl,h1,h2,h3,rs⟩:=r;show nX AR;exact VW a (SZ ((mine a rfl).o h1 AQ0)) (rs.up s1)
   | tr as t=>
    cases e;obtain⟨v,rfl,nd,h1,rv⟩:=r;exact Ū (TR.repN s1 t v as A1X rv)
   | nt as ts=>
    cases e;obtain⟨p,vs,rfl,e2,nd,h1,rv⟩:=r;show nX IR;exact og (SZ (s1 _ _ e2)) (fj.repN s1 ts vs as A1X rv)
   | xe as C fs ts=>
    cases e;obtain⟨a,oe,dx,vs,rfl,e2,_⟩:=r;show nX AR;exact A5H
 ·show Akm=none;rw[Do (ALQ hb),AY hn]
section
variable{K:W.Frag}{F F' :Hp}
mutual
theorem ybg(hA:P_ F (LDn u\/FF F')):BIM
 | AE,_,_,h=>Hm
 | P8,_,_,h=>Hm
 | RO,_,_,h=>Hm
 | R_,_,_,h=>Hm
 | wc,_,_,h=>Hm
 | Š,_,n,h=>by
  show AaM;refine⟨a,vs,h0,?_,zk5 hA ds vs n h2⟩;show ATA h1 h1 h1 h1
  ·rcases AG_ with (z | ⟨_,_,z⟩) | z
   ·exact z.tup.elim
   ·cases z
   ·show CB (D9 z)
  ·rcases AG_ with (z | ⟨_,_,z⟩) | z
   ·exact z.frz.elim
   ·cases z
   ·show CB (DH (N0 z))
  ·show CU h1
 | AVH,_,n,h=>by
  show Amz;refine⟨a,dx,vs,h0,?_,h3,zk5 hA ds vs n.2 h4⟩;rcases AG_ with (z | ⟨_,_,z⟩) | z
  ·have:=z.ins;show TZ (z10 h3) n.1;show EV
  ·cases z
  ·exact z
 | nL,_,n,_=>Ya
 | wb,_,n,_=>Ya
 | Ŗ,_,n,_=>Ya
 | Ŭ,_,n,_=>Ya
 | AFf,_,n,_=>Ya
theorem zk5(hA:P_ F (LDn u\/FF F')):BIN
 | [],_,_,h=>Hm
 | SB,_,n,h=>by
  obtain⟨v,r,h0,h1,h2⟩:=h;exact⟨v,r,h0,ybg hA d v n.1 h1,zk5 hA ds r n.2 h2⟩
end
#where
structure Im (Ty) (F0 H0 F H:Hp) (σ:St) (Γ:G2) (F1 H1:Hp):Prop where
 R:A'1
 back:∀{F' H' :Hp} {Γ' :G2},SR K F1 H1 F' H' σ Γ' ->VV F' ->∃F2 H2,b9 F2 H2/\a_ F2/\ (∀ds vs,ADY ->ė ->aK K F2 ds vs)/\ (∀a u,GU H1 ->Acl ->Cl H2 u/\eB/\xt/\ (WH ->GU F2))/\
  (Ad1)/\Ady
 hS:HH OU (∃o kvs,AR'/\GS H1 cq)
 hN:Aos
section
variable{X:Cx}{F0 H0:Hp}{e:Expr}{te:cD}{tf:cL}
open Classical in
theorem lent(MG)(I:Ι)(R:D_):∃F1 H1,ŋ s/\BGM/\AW7:=by
 obtain⟨F1,H1,s1,R1,n1,o1,hS,hN⟩:=ydp R (RY ((s.heap.get? b).getD default));refine⟨F1,H1,yar Amk I AL9 hN,⟨R1,fun{F' H' Γ'} R' s' => ?_,FV,hN⟩,De b hb o u w⟩
 ·obtain⟨kvs,e1,e2⟩:=uB;obtain⟨_,_,_,_,o,_,_,e,_⟩:=(B_ (ce H s.heap b Iy) (dq b e1));exact⟨kvs,o,e1,e,i9 e2 e⟩
 ·have gr:Az0 (F' b) (qh (qB OU H (H' b))):=by
   show B5 EK EK EK AFo
   ·rw[Ae0 (Ll o1)]
    exact AI5 s' s1
   ·show ACx AlS;split at e'
    ·cases e'
    ·show ŀ;show Ap (EA (hb w.1));exact R'.g _ _ e'
   ·split
    ·exact e
    ·show ŀ;exact R'.gr.h _ _ (B' AUQ e)
   ·have e' :AlS=some o:=e;split at e'
    ·cases e'
    ·show ŀ;have:=BBe R'.gr.n;unfold u9 at this⊢;show BC (hN b (EA (hb w.1)));exact this
  refine⟨_,_,R.grow gr,gr.f,fun ds vs hd hr=>zk5 (EK) ds vs hd hr,ER a u h1 h2,E9 ATn,E9 t_⟩
  ·by_cases hb:Lo
   ·obtain⟨_,w,ev,ld⟩:=o1 b hb;have:=s' _ _ ev;show nk;show EV;exact .inl ld
   ·show CU (by show L_ AlS;show Ap hb;exact e)
  ·have nn:¬cX Γ σ H a:=EA (by obtain⟨_,_,e⟩:=hS a w;rw[e] at h1;cases h1)
   have hH:dc:=BF (hN a nn) h1
   show B5 (by show(AI (cX Γ σ H a) (H a) (H' a))=_;show Ap nn;exact h2) ?_ (R.apart hH) (E2 hF)
   ·cases q:H0 a with
    | none=>rfl
    | some w=>have:=R.gr.h _ _ q;show Cc hH this this
   ·split
    ·rfl
    ·exact hF
 ·obtain⟨kvs,e1,e2⟩:=uB;exact Mn kvs e1 e2
 ·obtain⟨kvs,e1,_⟩:=uB;have:=I.base.mj b o u w;show BC e1;show EV
theorem Im.thaw{K:W.Frag}{H2:Hp}(L:BGM)(n0:AW7)(I' :Ñ s)(sm:ARZ)(h1:Ad1)(h2:Ady):OK H2 s:=by
 refine z5b Amk I' AL9 h2 n0;obtain⟨o,kvs,e1,e2⟩:=AhN;exact⟨o,kvs,sm _ _ e2,Θ (h1 b hb) e1⟩
def CK(tf:cL):cL:=fun Γ P _=>tf AKr (Nn ds (ADY/\P ds Γ)) lK
theorem zzw(h:pT Al_):VY QF (CK tf):=fun z E cx=>by
 rintro pins s σ H Q I ⟨F,Γ,P,R,q,k⟩;show AsN;show g6 (AtV H1 H1 Asg I1 ⟨F1,nJ Γ,_,L.R,q,fun ds Γ' F' H' a vs R' s' ea fa ha rs ap hp=> ?_⟩) u hq
 ·obtain⟨F2,H2,R2,sF,rc,at2,e1,e2⟩:=L.back R' s';obtain⟨q1,q2,q3,q4⟩:=at2 a _ ha ea;exact Axs (k ds Γ F2 H2 a vs R2 sF q1 (q4 fa) q2 (rc ds vs hp.1 rs) q3 hp.2)
 ·show A6f
#where
#print L3
namespace L3
open PySem PySem.Spec PyProof.Rows L2
section
variable{X:Cx}{F0 H0:Hp}{pos:Pos}{body:PU}{hs:List ExceptHandler}{h0:ExceptHandler}{tb:aG}
theorem z8j{a b:Expr}{ta tb:cD}(hu:RS)(ha:PQ)(hb:mo)(hm:AcT vy):Ax4 vy (KR true):=fun z E cx=>
 Ow (A6 ZP (A6 zxg hu DO Jn) hm) (DM σ H Q Ci P Ci (APQ (by
  obtain⟨ks,xs,kk,e1,rfl,hp⟩:=h2;show AAq r2;have ev:=HW r1;subst ev;show N4 c _ rfl Axe _ rfl;rw[zu0 hkl];exact BIA)))
#where
section
variable{prog:Program}{w:World}{A:Around}{E:dW}{K:W.Frag}{h:Heap}{g:fg}{d:Drawn}{t:Nat}{os:OsState}{x C dx:Addr}{o:Obj}{name:Str}{v:Value}
theorem z2f{Q:AME}{m:B0}{ns:Α}(X:LO)(c:ADw)(hn:Ai')(hx:AjM)(hc:AV')(hnc:Ani)(hd:AvT)(hns:h.Ns1 dx m)(hw:Within m ns)(hz:BH (ns.length+1))
  (hq:∀h' tk',h'.Ns1 dx (Aq6 (m y)) ->Heap.SameBut dx h h' ->A3U):
  AGN Ape:=by
 show Ayc;obtain⟨od0,es0,ep0,hod,_⟩:=id hns;have J:W.InstAt h x o C (BU od0):=⟨hx,hc,hnc,Θ hd hod⟩
 show BFx;obtain⟨bm,N,nm,qn,bs,hdct,sn,sub,ab,col,dd,k0,k1,k2,k3,k5,e1,T,ht,cd,hcd,hmro⟩:=Gn X c.cls;have sub:AG1 (isInstance Sr ALz) true:=BBS;refine codeAny_call_builtin SF.slot.plain SF.entry (BLZ Ee _ _ AIS "object.__setattr__" "object" "__setattr__" Sr [.str name t,v] [] _ SF.kind SF.split sub A2p ?_);have hm:AG1 (mroOf E_) cd.mro:=BBW .now;rw[W.osa_eq,refuse_eq];show D' z6 (AaU hm ?_);rw[hmro,refuseLoop_ref,zja _ ht];refine z7 (z6 (AaU (AjY hn) AXn));show BAI;obtain⟨oc,od,oda,osl⟩:=o;subst hc hd;show D' z7 (z6 (z6 (wpAny_loadPart hx (z6 (AQY (AjX hc') ?_)))));rw[hd'];show YV
 refine z7 ?_;show D' z7 (z6 (wpAny_nsSet1 hns (Re hn' hs)));show A6d hw;show Aqz (B' List.length_cons (AS0 hz))
 exact z7 (hq h' _ hn' hs)
#where
section
variable{prog:Program}{w:World}{A:Around}{E:dW}{K:W.Frag}{s:Shared}{C a:Addr}{env:Env}{Q:AhZ}
theorem z2q{m c:AIi}(hC:gi)(hh:AnP)(hc:BAz c)
  (hm:AJK m (OX s₁ (∃e oe fv o vs,BH0 (la s₁.heap.get?/\AON/\AKG/\a≠e/\
   tN (ACN e BAq) (AEP e s₁.heap.get?) (ASV (ay s₁ h')))))):Ff (raiseStmt env (BU m) (some c)):=by
 show f_ hm (AOz v) UU;obtain⟨e,oe,fv,o,vs,rfl,X,he,hc',hda,ha,hd,h2,ne,hE⟩:=h₁;obtain⟨bm,N,nm,qn,bs,hdct,sn,sub,ab,col,dd,k0,k1,k2,k3,k5,hC,T,ht,cd,hcd,hmro⟩:=AAf;show Anw hcB AHa (T.hasType PySem.F.excBase_ValueError.hasBase)
 show UX s₁;obtain⟨oc,od,oda,osl⟩:=oe;subst hc' hda;show AFI (hc _ _ AXn)
 show BGG
 have hCe:e≠C:=Ξ (by rw[<- z] at hC;rw[ľ hp.get? e _ hC] at he;cases he)
 have g1:∀(h:Heap) f b u,b≠e ->FF h.get? ->FF (h.update e f).get?:=fun h f b u n q=>AN6 n q;have he3:(hp.update e (Obj.mapFields (·.setIfInBounds 3 Value.none))).get? e=some (AKB fv osl):=AZR he;have he4:((hp.update e (Obj.mapFields (·.setIfInBounds 3 Value.none))).update e (Obj.mapFields (·.setIfInBounds 4 (Value.bool true)))).get? e=some (ã od (cE (BFT fv AKY)) osl):=AZR he3;have hC4:=g1 _ (Obj.mapFields (·.setIfInBounds 4 (Value.bool true))) C _ (i' hCe) (g1 hp (Obj.mapFields (·.setIfInBounds 3 Value.none)) C _ (Ne.symm hCe) hC);have ha4:=g1 _ (Obj.mapFields (·.setIfInBounds 4 (Value.bool true))) a _ ne (g1 hp (Obj.mapFields (·.setIfInBounds 3 Value.none)) a _ ne ha)
 repeat (first | show ue he4 | show ue hC4 | wp_step)
 refine zvh hh ha4 hd h2 ne he4 rfl (AL3 (2<6)) (hE _ (BMC he4 rfl) (MC n q (g1 _ _ b u n (g1 _ _ b u n (g1 _ _ b u n q)))))
theorem z32(BHo){args:A2}{cause:Expr}{Q:D6 Flow}(hC:gi)(hh:AnP)(hplain:BHL)
  (hi:Ĳ) (hf:APa) (hca:BAz (tJ cause))
  (h:AaA (C5 y np) fv (fv= GW/\AKf (evalArgs E_ true BFW []) (fun ar s₂=>ar.kw= []/\BH ar.pos.length/\Atn/\
    wpAny Ee (AOG (AUJ ar.pos)) (AXf ADi ar.pos) (AV2 (∃oe fv o vs,Atm/\A2W/\ASc/\Aen/\
      la s'.heap.get?/\AON/\AKG/\a≠BLu/\
      tN (ACN ADi BAq) (AEP BLu s'.heap.get?) (E (AH ADi) (ą h')))) E
     (AzO (VC ar.pos.toArray) Atz)))):
  A_o (BU cause):=by
 rw[arm_exec_Raise];show Ag6 (z2q hC hh (fun s₁ P hP=>z6 (hca _ _ (z6 (wpAny_standAt (z7 hP))))) ?_);show f_ (wpAny_Call_ofName (Ģ h (AOz fv) UU)) A6U UU;show X_ h₁ h₁;show AFI (Ģ h₁ (fun ar s₂ h₂=>A1w) UU);obtain⟨apos,akw⟩:=ar;obtain⟨hkw,hlen,X,h₂⟩:=h₂;obtain rfl:akw= []:=hkw;show UX s₂;obtain⟨bm,N,nm,qn,bs,hdct,sn,sub,ab,col,dd,k0,k1,k2,k3,k5,hC',T,ht,cd,hcd,hmro⟩:=AAf;simp only [hplain];show Hn wpAny_keeperOf_exc hC';show BIg;obtain⟨_,oe,fv,o,vs,X',he,hc,hda,ho,hdo,h2,ne,hE⟩:=hr;exact⟨_,oe,fv,o,vs,rfl,X',he,hc,hda,ho,hdo,h2,ne,hE⟩
#where
section
variable{X:Cx}{pins:eE}{σ:St}{H:Hp}{s:Shared}{A:Around}{E:dW}{a C dx:Addr}{f f1:Str}{y v1:V}{u:Value}
theorem ybf(I:Ι)(e:Ix AGi)(ed:Lv dx A2n)(c:Ĕ)(n:X0)(nf:f≠f1)(ry:J')
  (h:AXW (NJ dx A4K s')):ArB:=by
 show AoY;obtain⟨mA,ns,r⟩:=dq dx ed;have hw:Within mA [f1]:=fun g hg=>by
  by_cases q:g=f1
  ·rw[q];exact AUW
  ·have:=r g;show aI hb g f1 AhT;simp only [List.lookup,hb] at this;cases z:mA g with
   | none=>show F9 z hg
   | some w=>show BC z;exact this.elim
 obtain⟨hp,gg,d,tk,os⟩:=s;refine z2f I.kIn c n hx rfl rfl rfl ns hw (by rw[List.length_singleton,sizeLine_eq];omega) fun h' tk' ns' sb=>h _ ?_
 obtain⟨o',es,ep,ho',_⟩:=id ns';refine D8 I.write t' tk' x dx e dx (Ack ed) L8 (cK u z (Ev sb.2 b hb z)) (CH ho') (B1 ns' (E2 g))
 have rg:=r g;show AXg
 ·show aI hb g f1 (beq_eq_false_iff_ne.mpr (q ▸ nf));show Ank hb2 f q;simp only [List.lookup,hb,hb2,FM];exact ry
 ·show aI hb2 g f AhT;show Ap q;by_cases q1:g=f1
  ·show Ank hb f1 q1;simp only [List.lookup,hb] at rg⊢;exact rg
  ·show aI hb g f1 (beq_eq_false_iff_ne.mpr q1);simp only [List.lookup,hb,hb2] at rg⊢;exact rg
#where
def Qq(BEv):TS:=AqL (∃a dx f1 v1,x= AR/\Cl H2 AGi/\H2 dx=some A2n/\f≠f1/\Û (upd H2 dx A4K))
section
variable{X:Cx}{o value:Expr}{f:Str}{pos pos' :Pos}{ta tv:TE}{C:Addr}
theorem ydw(BI1):A'7 Qq:=by
 show PY;refine plainObj_wpAny_Assign_Attribute (NA AeJ u hq1) hs;obtain⟨y,H1,I1,ry,q⟩:=hq1;show g6 AoO ov hq2;obtain⟨x,H2,I2,rx,a,dx,f1,v1,ex,ea,ed,nf,q2⟩:=hq2;subst ex;show È ov rx;exact ybf I2 ea ed c n nf ry A3x
#where
structure Qs (Abu) (base:Heap) (k:Nat) (f:Addr) (fd:FuncData) (C:Addr) (f1 f2 a1 a2:Str):Prop where
 run:∀(b0:Addr) (A:Around) (outer:GA) (s:Shared) (H:Hp) (args:Args) (us:Ο) (x:Addr) (v1 v2:V) (Q:VK),ASA ->AYs ->EJ (BindsTo s fd args ((kr).zip us)) (þ [.ref x,v1,v2]) A4I (∀dx H',JS dx ->BHM A4L H) (ĭ sC (A.mark (some (AH b0))) FX args (ACW (∃u,r= .ok (.ret u)/\AtU)) s)
section
variable{P:Program}{w:World}{K:W.Frag}{mg:B0}{base:Heap}
theorem z72(Asf){f:Addr}{fd:FuncData}{k:Nat}{C:Addr}{f1 f2 a1 a2:Str}{p1 p2 p3 p4 p5 p6 p7 p8:Pos}(Fn:AOd)
  (hbd:xq st= [.Assign [.Attribute AVy f1 p2] (C5 a1 p3) p4,.Assign [.Attribute (û p5) f2 p6] (C5 a2 p7) p8]) (S:E6 kr kr st)
  (hc:ADw) (hn1:uC f1) (hn2:uC f2) (nf:f2≠f1) (hv0:AlY) (hv1:qK (aX st) a1) (hv2:qK (aX st) a2)
  (hs1:∀env:Env,À (swapsWith (C5 a1 p3) (BU (bi AVy f1 p2)) p4.line env)) (hs2:∀env:Env,À (swapsWith (C5 a2 p7) (BU (bi (û p5) f2 p6)) p8.line env))
  (hd1:AT a1 "__debug__":=by decide) (hc1:AT a1 "__classdict__":=by decide) (hd2:AT a2 "__debug__":=by decide) (hc2:AT a2 "__classdict__":=by decide):
  BAh FI:=by
 show yn;refine⟨fun b0 A outer s H args us a v1 v2 Q hr e0 hb r hx hQ=> ?_⟩;show A_8;show A_9;show B3 hkind y ((kr).zip us) (Axk y.1=some ACS\/ (Axk y.1=some i_/\ (AXX UF (aX st).names [] y.1).isSome=true)) y hy (by
  obtain⟨n,v⟩:=y;show TU (S.par n (AeD hy)) q
  ·show CB q
  ·show CU A2S)
 refine codeAny_call_function (A:=A.mark (some (AH b0))) hr.depth (KX _ _ lk) rfl S.co S.gen rfl A7G BMv;refine wpAny_newFunctionEnv_cells S.kind hkind (ER env he s1 x);subst he;show A'f;have I0:Inv Anx [] Aqf H s1:=BG' rfl;have I:Inv (((Anx).hand b0).wsh AP_) [] Aqf H s1:=ye1 (z:=CH []) (pins:= []) (zoh I0 b0);have W:=(ZQ (X:=((Anx).hand b0).wsh AP_) (z5f (pos:=p4) (pos' :=p2) hc hn1 (AaG p1 0 rfl hv0) (AaG p3 1 rfl hv1 hd1 hc1) (hs1 _)) (ZR (ydw (pos:=p8) (pos' :=p6) hc hn2 (AaG p5 0 rfl hv0) (AaG p7 2 rfl hv2 hd2 hc2) (hs2 _)))) [] s1 Aqf H A9V I
  ⟨v1,rfl,AR,rfl,a,rfl,hx,fun dx n1 n2=>⟨v2,rfl,AR,rfl,a,dx,f1,v1,rfl,AkJ,gG,nf,hQ dx _ n1 n2 (by rw[Ċ n2,Ċ n2,gG]) gG (A7e (bC q2))⟩⟩
 rw[<- hbd] at W;refine wpAny_mono W (Ν fl s' hs) fun e s' z=>z.elim;cases fl with
 | ret u=>
  obtain⟨v,σ',H',J,rv,q⟩:=hs;exact⟨_,rfl,v,H',J.os,J.bare,J.base,J.hok,rv,q⟩
 | next=>
  obtain⟨σ',H',J,q⟩:=hs;exact⟨_,rfl,V.non,H',J.os,J.bare,J.base,J.hok,rfl,q⟩
 | brk=>
  show AbI
 | cont=>
  show AbI
#where
def CN(F:Hp)(a:Addr):Prop:=∃o C,Aob/\AUU
def zst(C:Addr)(f1 f2:Str)(t:cL):aG:=AlP (∃d1 d2,ds= AY1/\A2k)
section
variable{X:Cx}{F0 H0:Hp}{e1 e2:Expr}{pos np cpos cp:Pos}{t:cL}{x f1 f2 a1 a2:Str}{C f b0:Addr}{fd:FuncData}{k:Nat}
theorem z2x{j}(hA:CN F0 b0)(BG2)(hf:Axn)
  (Fn:AIq Qs k f fd C f1 f2 a1 a2) (hr:AAh) (hb:Binds X.K fd kr []) (ha:QA (X.hand b0) F0 H0 AEX t)
  (hd:AT x "__debug__":=by decide) (he:starEach AEX X.env=EG (A7 e1) (EF [e2]):=by rfl) (hpl:ABc cpos [e2]:=by rfl):
  A'I:=by
 rintro z E cx pins s σ H D I ⟨F,Γ,D2,R,h,k'⟩;refine P5 z32 K X.K C C f f a b0 hC.cls rfl ?_ hi AvS (fun s₁ P hP=>Constant_none hP) (As2 (Gk (X:=AWs z)))
 ·rw[he];show E4 (false || (backTo cpos (starEach [e2] X.env)).any (·.1))
  rw[hpl];rfl
 ·have key:=Acx cpos (ö H1 (∃F1 Γ1 d1 d2,AI1/\c0 F1 AY1/\A2k)) I (QQ (by
   obtain⟨d1,d2,rfl,hE⟩:=h1;exact⟨F1,Γ1,d1,d2,R1,r1,hE⟩))
  rw[show starEach AEX (AWs z).env=_ from he] at key⊢;show ALq Calls.evalArgs_plain key (Ν us s2 hq) AOr;obtain⟨vs,H1,I1,r,F1,Γ1,d1,d2,R1,rs,hE⟩:=hq;have hlen:BH us.length:=by rw[<- r.length,<- Sm,sizeLine_eq];show 2<=_;omega
  show HQ rfl hlen I1.kIn;show RC ge AZh xn BL2 A5W (by
   have:=z9 (s2.heap.push AJO) (o:=xn) rfl;show BC Heap.size_push;exact this)
  have kp:dQ s2.heap.get? (ADm AZh xn):=Fc AL0;generalize hh2:(s2.heap.push AJO).push xn=h2 at ge kp⊢;have n1:H1 (ALN)=none:=AWo;have hle:s2.heap.objs.size<=ALN:=BL';generalize hea:ALN=a at ge n1 hle⊢;have I2:Inv (AWs z) pins σ AAV (AZS h2):=I1.laid kp hle (ybi ge);have f1n:GU F1:=by
   cases q:F1 a with
   | none=>rfl
   | some o=>show AqI
  have u1:Un g9 [] H1 AAV s2.heap h2:=Un.laid kp hle n1;obtain⟨v1,_,rfl,rv1,v2,_,rfl,Sw,rfl⟩:=rs;have hl:K0 AFx= K0 kr:=by
   rw[List.length_cons,<- r.length];rfl
  have hbs:=hb (ay s2 h2) AFx I2.kIn AZQ
  show o_;have E0:=I2.env0;have E1:A_I (AZS h2) AAV:=⟨E0.frames,E0.mod,E0.bs,E0.bsz,E0.funs,E0.frf,E0.hok,E0.bare⟩;show AAi (Fn.run b0 (X.A.under (AcV (ALx GW))) X.stack _ _ (ALx ACT) AFx a v1 v2 (OX H' (v= AE/\∃p,Cl H' (AQf p)/\H' p=some A4L/\p≠a/\lS p/\∀b,IQ ->b≠p ->H' b=H1 b)) AWw (E1.make C us []) hbs (AfP Cb a) gG fun dx H' n3 n4 e1 e2 e3=>⟨rfl,dx,e1,e2,n4,by rw[bC n4] at n3;exact n3,EM h1 h2 (Gc (e3 b h1 h2) (bC h1))⟩) A0U
  show NR rfl hq' hq';obtain⟨v,H',os,bare,un,hok,rv,ev,p,ea,ep,pa,p1,e3⟩:=hq';subst ev;show CD rv;have I3:Inv (AWs z) pins σ H' s' :=I2.call' (s' :=s') os un hok bare ANt
  obtain⟨t0,gx⟩:=SX hok ea;have sS:ARZ :=Fc (Θ (e3 b (gP e n1) (gP e p1)) e)
  obtain⟨o0,C0,ho0,hd0⟩:=hA;have g0:H' b0=some (.frz o0 (uw b0 C0)):=sS _ _ (R1.g _ _ (R1.gr.f _ _ ho0));obtain⟨k1,⟨o1,vs1,k2,k3,k4,k5⟩,_⟩:=I3.hok b0 _ g0;rw[k1] at k2;cases k2;have k6:EE vs1 2 Value.none:=k5.resolve_right fun n=>n hd0;have ne0:b0≠a:=Ξ (Ahx ea g0 g0)
  refine⟨_,t0,o0,vs1,I3.kIn,gx,rfl,rfl,k1,k4,k6,ne0,Re gh kh⟩;have Ak:=u1.trans un;have nH:Az4:=EM u eb (by
   show OA
   ·simp [hb] at eb
   ·exact⟨hb,Af' hb eb⟩)
  have yH:Sj IQ (FF H') (FF AK_):=MC hb eb (QY hb eb)
  have nfr:P_ H' (b∉To):=MC eb hm (by
   have:=I3.stkFree b hm;show BC eb;show EV)
  have old:dQ s2.heap.get? IQ:=Pp eb z (A2w (z ▸ eb));have nfa:a∉To:=nfr a _ ea;have fp:F1 p=none:=R1.g.free p1;refine cx.px pins σ Γ1 F1 H1 s2 Cb (ą h') I1 R1 ⟨a,GW,AK_,A6z,some p,rfl,os,bare,?_,?_,?_,?_,?_,.pay C [f1,f2] BK8,F1,hE,h_ ?_ ?_,rfl,p,[v1,v2],[],rfl,BBa,rfl,fp,p1,List.nodup_nil,(II (kH hb)),?_⟩
  ·refine⟨fun b o eb n h1 h2=>kh b o AoH (Ak.keep b o eb n h1 h2),fun b o eb n h1 h2=> ?_,De b o eb n hx,tI eb hx,E8 xs eb,tI u eb,E8 ps eb⟩
   ·show LP sl q (Ak.slot b o eb n h1 h2) sl (kh b _ AoH q)
   show BGU
   ·show LP o' q (Anm hx) o' (kh b _ AoH q)
   ·exact A2O
   ·exact A_H
   ·show LP more q A2b more (ARq q)
  ·intro b u eb;show AZ5;refine vt hok eb (fun c o hc q=>kh c o (Τ hca ?_) q) (Nd q Aa2) (ve q Aa2)
   ·rcases hc with hc | hc
    ·exact hb (hc ▸ hca)
    ·rw[hca,ea] at hc;cases hc
   ·show AbN
   ·show AbN
  ·show B5 (JU o (kh b o (Fs (ASI (zjh _ List.mem_cons_self))) AzL)) (zjh _ zY) ?_ (.inr ⟨_,_,gh,rfl,rfl,rfl,rfl,.inr (Ξ Á)⟩)
   have k:=W.funFrames_hide (as:=a::To) I3.stack A'_;exact k.of_keeps (gS (AUc (kh b o (Fs (by subst z;rw[gx] at q;cases q;exact n _ rfl)) q)))
  ·intro b o eb n;show AAT (Anm Χ)
   show A8 o' (Ţ e' AUr);show P6 hm hm
   ·show ACr (old _ _ eb)
   ·exact n hm
  ·intro b u eb;show AZ5;show CM o eo zv1 (hok b u eb);show A8 o (Ţ eo AUr);show Ps hm hm hm
   ·exact hb hm
   ·exact nfr b u eb hm
  ·exact AYW (gP (R1.g b u eb) n1) (sS b u (R1.g b u eb))
  ·exact AYW AQi (sS b u eb)
  ·show ML v1 [v2] [] [] rfl rfl ?_
   ·exact EO rv1
   ·show ML v2 [] [] [] rfl rfl ?_
    ·exact EO Sw
    ·exact dr
#where
theorem zpv{A B C:Around}(h:SameStack A B)(k:SameStack B C):SameStack A C:=fun Γ' e=>by
 obtain⟨Γ1,a1,a2,a3⟩:=h Γ' e;obtain⟨Γ2,b1,b2,b3⟩:=k Γ1 a1;exact⟨Γ2,b1,b2.trans a2,b3.trans a3⟩
def Io(pl:Bool)(K:W.Frag)(C1 C2:Addr)(tb Te Tf:aG):aG:=fun D Γ E=>tb D Γ fun Γ1 x=>(pl=true ->∃C,x= GW)/\oJ K x.cls/\EH (bO K x.cls C1) (Te D Γ1 E) (Sl x.cls C2/\Tf D Γ1 E)
def Ip(pl:Bool)(F:Hp)(a:Addr):Prop:=Om F a/\ (pl=true ->CN F a)
section
variable{X:Cx}{F0 H0:Hp}{pos np1 hp1 KZ hp2:Pos}{x1 x2:Str}{C1 C2:Addr}{body yM yN:PU}{b1 b2:Stmt}{tb Te Tf:aG}{pl:Bool}
theorem z87(hex:AWe)(hst:X.stack=Am3)(hfr:AnO)(hg1:Gl X x1)(hm1:X.mg x1=some (AH C1))(W8:oJ X.K C1)(hg2:Gl X x2)(hm2:X.mg x2=some (AH C2))(hC2:oJ X.K C2)(hb:∀F,uQ X F H0 body tb)
  (hh1:AsY (b1::yM) Te) (hh2:AsY (b2::yN) Tf) (hd1:AT x1 "__debug__":=by decide) (hd2:AT x2 "__debug__":=by decide):
  Pw (.Try body BH6 [] [] pos) (Io pl X.K C1 C2 tb Te Tf):=by
 rintro z E cx pins s σ H D I ⟨F,Γ,D2,R,h,k⟩;refine wpAny_Try_except ?_;have key:=hb F ⟨fun e s₁=>(ì (noteFrame e X.env) (FD s₂ (ì (setFlight e none) (FD s₃ (ì (handleBy e X.env BH6) (SP E7 pins D) z.xe s₃)) z.xe s₂)) z.xe s₁),z.pn++pins⟩
  (fun Γ1 x=>(pl=true ->∃C,x= GW)/\oJ X.K x.cls/\EH (bO X.K x.cls C1) (Te D2 Γ1 E) (bO X.K x.cls C2=true/\Tf D2 Γ1 E)) ⟨? px,FE h (PassesOwnAt.lookingOf h)⟩ [] s σ H D (ye1 I) ⟨F,Γ,D2,R.base,h,k.base R.gr⟩
 ·refine wpAny_mono key (pv f q) lj;have q' :=ymy q;cases f with
  | next=>exact wpAny_execs_nil q'
  | ret v=>exact q'
  | brk=>exact q'
  | cont=>exact q'
 ·intro tO σ1 Γ1 F1 H1 s1 e s' I' R1 hx;have I1:AVo H1 s1:=V0 I';obtain⟨a,Cv,H',B,dx,rfl,os,bare,un,hok,JW,inB,xu,Γ2,F2,xv,R2,Sy,xr,apx,hpl,hCc,hth⟩:=hx;have abB:Cv= .ref xv.cls:=xr.1;subst abB;show gN pl0 (pl=true ->dx=none) (by
   show CM C rfl hpl q;exact xr.2)
  generalize xv.cls=C at hCc hth JW hok xu inB un;refine z0h (env:=X.env) (outer:=X.outer) (I1.ok.frames.trans (congrArg some hst)) hfr (BF hst JW) (Ν h4 held up4)
  refine GX (s:=ą h4) held (Ν h5 fl up5);have I5:AVo H' (ą h5):=Inv.landed (t' :=s'.toks) I1 hex os bare un hok JW.1 fl.1 inB xu (up4.trans up5);obtain⟨ob,hob,hobc⟩:=fl.there;have suite:∀(th:aG) (b:Stmt) (su:PU) (hp:Pos),(AsY (b::su) th) ->th D2 Γ2 E ->
    codeAny SK (X.A.mark (some Cb)) (.handlers Cb [.ExceptHandler none none (b::su) hp] X.env) (VI s₂ (Afr (.ok f) (AYm E7 s₂) (.error x) (cameBackBy SK X.A X.env z.xe x s₂))) (ą h5):=by
   intro th b su hp hh hth;refine codeAny_handlers_suite (GX (s:=ą h5) fl (Ν h6 fl6 up6));have I6:AVo H' AWF:=Inv.landed (t' :=s'.toks) I1 hex os bare un hok JW.1 fl6.1 inB xu (A0b up6);obtain⟨oe,vs,T,oT,ts,g1,⟨g2,gd,g4⟩,g3,_⟩:=fl6.2.2.2;have nB:AhC:=fl6.2.1;have nH:GU H':=by
    cases q:H' a with
    | none=>rfl
    | some u=>show AAT (xu a u q);show Cc nB e' e'
   have nfs:a∉To:=fun hm=>by
    obtain⟨_,o2,e2,nf⟩:=I1.stack.mem hm;show d5 e3 (un.any e2 (I1.stkFree a hm) Χ)
    obtain⟨sl',e4⟩:=(A0b up6) a _ e3 nf;rw[g1] at e4;cases e4;exact nf _ g3
   have Ir:GU s1.heap.get?:=by
    cases q:s1.heap.get? a with
    | none=>rfl
    | some o=>
     show AAT (inB a o q nfs);show Cc nB e' e'
   have W9:GU X.s₀.heap.get?:=by
    cases q:X.s₀.heap.get? a with
    | none=>rfl
    | some o=>
     show AAT (I1.base.there a o q (by show a∉X.ex;rw[hex];simp))
     show Cc Ir e' e'
   have abC:a≠X.env.locals:=Ξ (nfs (by rw[hst];unfold frs;rw[List.filterMap_cons,hfr,z];exact zY))
   have Xa:ui a:=fun x c e z=>by
    obtain⟨v,o,ho,_⟩:=I1.cell x c e;rw[z,Ir] at ho;cases ho
   have abD:∀p∈z.pn++pins,A3≠a:=fun p hp z=>by
    have ho:=AEI I1.pin;rw[z,Ir] at ho;cases ho
   have IT:AVo AXD AWF:=Inv.track I6 nH ⟨g1,⟨oe,vs,g1,g2,g3,Θ gd g4⟩,⟨oe,g1⟩,fun h1 h2 hq1 st=>by obtain⟨o,ws,p1,p2,p3,p4⟩:=hq1;exact⟨o,ws,st o p1,p2,p3,p4⟩⟩ W9 abC Xa abD
   have wH:Gr F2 H' Ajp AXD:=Gr.laid R2.g nH;have IH:Inv A9G pins σ1 AXD AWF:=zoh (X:=X.wsh ⟨z.xe,z.pn⟩) ⟨z7l IT.ok _,IT.os,IT.bare,IT.base,IT.loc,IT.cell,IT.free,IT.freeC,IT.pin,IT.hok,IT.len⟩ a;have R7:=R2.grow wH;have R8:=R7.unbase R.gr;have cxs:Ctx A9G Ajp H0 E:=by
    show A8 (fun Xb σ2 Γ3 F4 H4 s4 e s5 I4 R4 hx4=> ?_) (fun A' A'' hS=>cx.pq A' A'' (zpv hS (SameStack.mark _ _)));refine cx.pX Xb σ2 Γ3 F4 H4 s4 e s5 (V1 I1.ok I4) (R4.unbase R8.gr) (hx4.imp (ER C dx H' hq));obtain⟨Γ',F',x,R',s,xr,ap,hE⟩:=hq;exact⟨Γ',F',x,R'.unbase R8.gr,s,xr,ap,hE⟩
   have run:=hh a Ajp ⟨⟨oe,C,gG⟩,fun q=>⟨oe,C,gG,gd.trans (pl0 q)⟩⟩ ⟨z.xe,z.pn⟩ E cxs pins AWF σ1 AXD D IH ⟨_,Γ2,D2,R7.base,hth,(((k.base R.gr).mono R2.gr.f).mono wH.f).base R7.gr⟩;exact wpAny_mono run (fun f s2 q=>z55 I1.ok q) (cx.pq _ _ (SameStack.mark _ _))
  obtain⟨bm,N,nm,qn,bs,hdct,sn,sub,ab,col,dd,k0,k1,k2,k3,k5,e1,_,_,_⟩:=Gn I5.kIn hCc;refine wpAny_handleBy_cons (codeAny_handlers_test (Gk (X:=(X.wsh z).hand a) (zoh I5 a) hg1 hm1 ?_ hd1)) Awc
  obtain⟨bm',N',nm',qn',bs',Ma,sn',sub',ab',col',JT,j0,j1,j2,j3,j5,e2,tl,_,_⟩:=Gn I5.kIn W8;show BGZ e2 tl.hasType;rw[z08 I5.kIn hCc C1 e1];by_cases hs1:bO X.K C C1=true
  ·rw[hs1];rw[BD hs1] at hth;exact suite Te b1 yM hp1 hh1 hth
  ·rw[AY hs1] at hth;rw[Bool.eq_false_iff.mpr hs1];refine wpAny_handleBy_cons (codeAny_handlers_test (Gk (X:=(X.wsh z).hand a) (zoh I5 a) hg2 hm2 ?_ hd2)) Awc
   obtain⟨bm2,N2,nm2,qn2,bs2,abU,sn2,abZ,ab2,ab0,dd2,l0,l1,l2,l3,l5,e3,tl2,_,_⟩:=Gn I5.kIn hC2;show BGZ e3 tl2.hasType;rw[z08 I5.kIn hCc C2 e1,hth.1];exact suite Tf b2 yN hp2 hh2 hth.2
#where
open Classical in
theorem yax{P:Program}{w:World}(BBn s'){e:Value}{E E' :XK}{H H2:Hp}(S:ATe)(h:AOb fB)(hS:A_P)(hN:OV (¬S b) H2 H)
  (k:∀C dx H' H2',(AR5 (H' b=H b/\H2' b=H2 b)) ->(OV (¬S b) H2' H') ->APc ->E' C dx H2'):fB P w outer H2 s E' e s' :=by
 obtain⟨a,C,H',B,dx,h1,h2,h3,un,hok,JW,inB,xu,hE⟩:=h;show aS fz (OV (S b) H' H) (by
  obtain⟨o,kvs,e1,_⟩:=uB;rw[e1];exact un.mj b _ _ e1)
 show aS i1 (OV (S b) AqB H2) ATn;show aS i2 (OV (¬S b) AqB H') t_;have no:Sj (H2 b=u) (∀kvs,u≠some Iy) (¬S b/\H b=u):=MC q n (by
  have hb:¬S b:=fun hb=>by
   obtain⟨_,kvs,_,e2⟩:=uB;rw[e2] at q;exact n kvs q.symm
  exact⟨hb,BF AUQ q⟩)
 generalize AqB=H3 at i1 i2;have ne:Sj (FF H') (A1G) (FF H3):=MC q n (by
  rw[i2 b (E2 hb)];exact q;obtain⟨_,_,e1,_⟩:=uB;rw[fz b hb,e1] at q;cases q;exact n _ _ rfl)
 have st:HP u HO b Addr (A8h H') (A8h H3):=fun k=>k.stay (pp z z) (Nd z AaE) (ve z AaE)
 refine⟨a,C,H3,B,dx,h1,h2,h3,⟨A5S,A5S,De b o eb n q2,un.there,AkA,tI u q,E8 ps q⟩,gE,JW,inB,gE,k C dx H' H3 (II ⟨fz b hb,i1 b hb⟩) i2 hE⟩
 ·exact un.keep b o eb (no b _ n ę).2 q1 q2
 ·exact un.slot b o eb (no b _ n ę).2 q1 q2
 ·show AJG n' (no b _ n ę)
  rw[Ş];exact un.free b o eb n' q2
 ·show AJG q' AoM
  rw[Ş];exact un.tups b xs q'
 ·show AJG q' AoM
  rw[Ş];exact un.mj b o u q'
 ·show AJG q' AoM
  rw[Ş];exact un.oE b ps q'
 ·show AWR
  ·show Amq;rw[i1 b hb,e2] at q;cases q;exact st (hok b _ BA_).2
  ·rw[Ş] at q;exact st (hok b u q)
 ·show AWR
  ·show Amq;exact xu b _ BA_
  ·rw[Ş] at q;exact xu b u q
#print L3
namespace L3
open PySem PySem.Spec PyProof.Rows L2
mutual
def K1:ALX
 | O0=>qX d
 | YR=>Ų
 | AXU=>Ų
 | AlI=>Ų
 | AmS=>Ų
 | ŗ=>False
def tW:DB EI
 | []=>True
 | Pe=>K1 t/\Ų
end
section
variable{K:W.Frag}{F F' H:Hp}
mutual
theorem z4o(BGR):∀(t:T) (v:V) (as:AO),K1 t ->ADg ->TR K F' H t v as
 | O0,v,as,n,h=>by
  have:=hA [d] [v] (C6 (Af6 n)) (Ko h.2)
  obtain⟨v',_,ev,r2,rfl⟩:=this;cases (ev);exact⟨C_,r2⟩
 | YR,v,as,n,h=>by
  obtain⟨a,vs,bs,e1,e2,e3,h⟩:=h;exact⟨a,vs,bs,e1,e2,e3,Aa0⟩
 | oy,v,as,n,h=>by
  obtain⟨a,vs,bs,e1,e2,e3,e4,h⟩:=h;exact⟨a,vs,bs,e1,e2,e3,e4,Aa0⟩
 | xj,v,as,n,h=>by
  obtain⟨a,vs,bs,e1,e2,e3,e4,h⟩:=h;exact⟨a,vs,bs,e1,e2,e3,e4,Aa0⟩
 | zS,v,as,n,h=>by
  obtain⟨a,dx,vs,bs,e1,e2,e3,e4,e5,e6,h⟩:=h;exact⟨a,dx,vs,bs,e1,e2,e3,e4,e5,e6,Aa0⟩
 | ŗ,v,as,n,h=>Ya
theorem Tg(BGR):∀(ts:EI) (vs:Η) (as:AO),Ų ->Ě ->fj K F' H ts vs as
 | [],vs,as,n,h=>Hm
 | Pe,vs,as,n,h=>by
  obtain⟨v,us,bs,cs,e1,e2,h1,h2⟩:=h;exact⟨v,us,bs,cs,e1,e2,z4o hA t v bs n.1 h1,Tg hA ts us cs n.2 h2⟩
end
#where
def Fi:DB XV
 | .pay _ _ ts=>Ų
 | _=>True
section
variable{X:Cx}{F0 H0 F H F1 H1 K3 Fj :Hp}{z:Ov}{E:XW}{pins:eE}{σ:St}{Γ Γ1:G2}{s1 s' :Shared}{e:Value}
theorem yal(cx:Ab4)(R:AHG)(L:BId)(n0:AW7)(I1:ACw Fj s1)(R1:A_7)(sF:VV K3)
  (hq:fB X.prog X.w X.stack Fj s1 BGc e s'):z.xe e s' :=by
 obtain⟨F2,H2,R2,Sy,_,_,e1,e2⟩:=L.back R1 sF;have I2:ACw H2 s1:=A6 L.thaw n0 I1 R1.gr.h e1 e2;have sH:Same H H2:=JU u (by
  by_cases hb:OU
  ·rw[e1 b hb];exact q
  ·rw[e2 b hb];exact R1.gr.h b u (B' (L.hN b hb) q))
 have R3:SL F H2 Γ:=R.grow ⟨VS,fun b u q=>sH b u (R.g b u q),sH,gS A0X⟩
 refine cx.pX pins σ Γ F H2 s1 e s' I2 R3 (yax Amk hq AL9 e2 fun C dx H' H3 fz i2 hx=> ?_)
 ·obtain⟨o,kvs,q1,q2⟩:=AhN;exact⟨o,kvs,ATl q2,Θ (e1 b hb) q1⟩
 obtain⟨x,F',⟨nx,hE⟩,gr,xr⟩:=hx;obtain⟨F4,H4,R4,sF4,rs4,at4,f1,f2⟩:=BFw;obtain rfl:H4=H3:=funext fun b=>by
  by_cases hb:OU
  ·rw[f1 b hb,Ĝ fz,e1 b hb]
  ·rw[f2 b hb,Ş]
 refine⟨Γ,F4,x,R4,sF4,EU xr.1,Anb R3.apart,hE⟩;have nn:HH (KS Fj) (¬OU):=EM q hb (by
  obtain⟨o,kvs,_,q2⟩:=AhN;rw[ATl q2] at q;cases q)
 cases x with
 | ref C=>exact xr.2
 | any C=>trivial
 | pay C fs ts=>
  obtain⟨p,vs,as,e3,ep,el,fp,hp,nd,hn,rt⟩:=xr.2;refine⟨p,vs,as,e3,Θ (i2 p (nn p hp)) ep,el,(at4 p _ (R1.gr.h.free hp) ep).2.2.2 fp,Θ (e2 p (nn p hp)) hp,nd,FV,?_⟩
  ·show AEg q (fj.there ts vs as rt b hb);exact⟨(at4 b _ (R1.gr.h.free hG) q).2.2.2 ê,Θ (e2 b (nn b hG)) hG⟩
  ·exact Tg rs4 ts vs as nx (fj.move ET ts vs as (AD' (i2 b (nn b hG))) rt)
#where
def zzf(BIp):cD:=fun Γ P E=>te AKr (fun d Γ1=>(Ŵ (C' =C/\AF'/\t Γ1 (Nn es Ash) lK))) lK
section
variable{X:Cx}{F0 H0:Hp}{e o:Expr}{es:A2}{pos p apos:Pos}{x m:Str}{f fa C:Addr}{fd:FuncData}{ps:Α}{k:Nat}{sp:dI}{t:cL}{te:cD}{pl:AMZ}
theorem Qt{z:Ov}{E:XW}{F H F1 H1 K3 Fj :Hp}{pins:eE}{σ:St}{Γ Γ1:G2}{s:Shared}{us:Ο}{vs:Η}{ds:Δ}{P:BN D G2}{Q:VK}(BIY)
  (R:AHG) (L:BId) (n0:AW7) (I:ACw Fj s) (R1:A_7) (sF:VV K3) (r:AM7) (rs:c0 K3 ds) (h:j_ ds d (qX d/\P d Γ) x (Fi x/\AQu))
  (kk:∀d Γ' F' H' v,Ω Aqu C8 (ASi F') (OZ d) k7):
  BCI:=by
 have hs:nZ X.K sp vs Fj Asg BGc:=
  A6P K3 h (AfX (by
   obtain⟨F2,H2,R2,Sy,JZ,_,e1,e2⟩:=BFw;have r2:=JZ [d] [v] (C6 (Af6 hp.1)) (Ko rv)
   obtain⟨v',_,ev,r2,rfl⟩:=r2;cases (ev);exact⟨R1.gr.h.trans gr.h,H2,e1,e2,kk d Γ F2 H2 v R2 Sy r2 hp.2⟩))
 show AbA
 have hbs:=hb s us I.kIn hl;show o_;show AAi (Fn.run X.A X.stack s Fj ADn us vs _ _ hr I.env0 hbs r hs) AGb;cases r with
 | error e=>exact yal cx R L n0 I R1 sF hq
 | ok fl=>
  cases fl with
  | ret u=>
   obtain⟨x,H',I',rv,sm,H2,e1,e2,hQ⟩:=I.after hq;exact⟨x,H2,A6 L.thaw n0 I' sm e1 e2,rv,hQ⟩
  | next=>show N3
  | brk=>show N3
  | cont=>show N3
theorem z8f(A9p)(Fn:A1s)(hr:si)(hb:AEU)(ho:pT AMP)(ha:pT LJ)
  (hst:starEach DF X.env=EG (A7 e) (EF es):=by rfl) (hpl:AIA:=by rfl)
  (ht:eval AJQ X.env=(do
   let ov<- A7 o
   AAX
   let (f,first)<- ABJ m pl
   ABQ (AAy DF) AHg):=by rfl):
  Abr zzf:=by
 rintro z E cx pins s σ H Q I ⟨F,Γ,P,R,h,kk⟩;show AsN;refine AaO (NA (ho F1 H1 z lK (O7 cx) pins s σ H1 (OX H2 (∃F2 Γ2 d,Aer F2 H2 Γ2/\AQU/\ASi F2/\ (Ŵ (C' =C/\AF'/\t Γ2 (Nn es Ash) lK)))) I1 ⟨F1,nJ Γ,_,L.R,h,fun d Γ1 F2 H2 v R1 s1 r1 h1=>⟨F2,Γ1,d,R1,s1,r1,h1⟩⟩) u ⟨x,H2,I2,rx,F2,Γ2,d,R2,sF,rd,q⟩) ht
 cases d with
 | obj C' fs ds=>
  show Ap2;have Wi:=rd;show Amn;show aT;refine zmd I2 (R2.g _ _ ea) hc hm (zit Wh) ?_;refine W.callWith_K (first:= MB) (h₀:=X.base) I.ok.mod.GC hm.kp (bU (BHa pos s1 σ H2 (ö H3 (∃F3 Γ3 es,Aer F3 H3 Γ3/\Same F2 F3/\c0 F3 es/\Ash)) I2 ⟨F2,Γ2,_,R2,q,fun es Γ3 F3 H3 vs R3 s3 r3 h3=>⟨F3,Γ3,es,R3,s3,r3,h3⟩⟩)
   fun us s2 ⟨ws,H3,I3,r,F3,Γ3,es,R3,sF3,rs3,q3⟩=>(EU I3.kIn)) hst hpl
  exact A_g Qt Fn hr hb cx R L n0 I3 R3 (sF.trans sF3) AvJ (tR (Wi.up sF3) rs3) q3 kk
 | _=>show IG q
theorem z3p(G:AqS DR)(hc:vS)(hr:si)(ho:pT AMP)(ha:pT LJ)
  (hst:starEach DF X.env=EG (A7 e) (EF es):=by rfl) (hpl:AIA:=by rfl)
  (ht:eval AJQ X.env=(do
   let ov<- A7 o
   AAX
   let (f,first)<- ABJ m pl
   ABQ (AAy DF) AHg):=by rfl):Abr zzf:=by
 obtain⟨f,fd,h1,h2,h3⟩:=G.ex;exact z8f hc h2 h1 hr h3 ho ha hst hpl ht
#where
def Iu(t:qY):qY:=fun Γ P _=>t AKr (Nn tr (K1 tr/\P tr Γ)) lK
theorem yc9(BEM){tn:qY}(h:pT AAg):VY QN (Iu tn):=fun z E cx=>by
 rintro pins s σ H Q I ⟨F,Γ,P,R,q,k⟩;show AsN;show g6 (AtV H1 H1 Asg I1 ⟨F1,nJ Γ,_,L.R,q,fun t Γ' F' H' v as R' s' nd hn rt hp=> ?_⟩) u hq
 ·obtain⟨F2,H2,R2,sF,rc,at2,e1,e2⟩:=L.back R' s';show B3 hh a as (GU F2/\eB/\xt/\∀u,Acl ->Cl H2 u) a ha (by
   obtain⟨g1,g2,_⟩:=hn a ha;show AEg eu (TR.there t v as rt a ha);obtain⟨q1,q2,q3,q4⟩:=at2 a u g2 eu;exact⟨q4 g1,q2,q3,fun w ew=>by rw[eu] at ew;cases ew;exact q1⟩)
  exact Axs (k t Γ F2 H2 v as R2 sF nd (V' ⟨(hh a ha).1,(hh a ha).2.1,(hh a ha).2.2.1⟩) (TR.move ET t v as (V' (hh a ha).2.2.2) (z4o rc t v as hp.1 rt)) hp.2)
 ·show A6f
def M8(tn:qY):cD:=AZT (P (toD t) Γ1)
open Classical in
theorem yfs(BEM){tn:qY}(he:AAg):Bz e (M8 tn):=Axg (by
 show KE hq;refine he z E cx pins s σ H Q I (APp r ?_);have s2:VV (qh (qB ï H1 (F1 b))):=JU u (by
  show L_ ApO;rw[Do (ACm (AVr ê))];exact q)
 refine k _ Γ1 _ H1 v (R1.frzM s2 (gE) (AFm q n)) P7 (TR.rep s2 t v as (fun a ha u q=>by show L_ (AI AWg (H1 a) (F1 a));show Db ha;exact q) r) h1
 ·change L_ ApO at q
  split at q
  ·exact q
  ·exact R1.g b u q
 ·change L_ ApO at q
  by_cases hb:ï
  ·exact hG
  ·rw[t_,n] at q;cases q)
#print L3
namespace L3
open PySem PySem.Spec PyProof.Rows L2
structure Xo2 (ABR) (mg:B0) (base:Heap) (x:Str) (C:Addr) (f1 f2 a1 a2:Str) (k:Nat):Prop where
 ex:BEz (BAh k) (Binds K fd kr [])
section
variable{X:Cx}{F0 H0:Hp}{e1 e2:Expr}{pos np cpos cp:Pos}{t:cL}{x f1 f2 a1 a2:Str}{C b0:Addr}{k:Nat}
theorem zxa{j}(hA:CN F0 b0)(hg:HE)(G:AIq Xo2 x C f1 f2 a1 a2 k)(hr:AAh)(ha:QA (X.hand b0) F0 H0 AEX t)
  (hd:AT x "__debug__":=by decide) (he:starEach AEX X.env=EG (A7 e1) (EF [e2]):=by rfl) (hpl:ABc cpos [e2]:=by rfl):
  A'I:=by
 obtain⟨f,fd,Fn,hi,hf,hC,hm,hb⟩:=G.ex;exact z2x hA hg hm hC hi hf Fn hr hb ha hd he hpl
#where
section
variable{X:Cx}{pins:eE}{σ:St}{H:Hp}{s:Shared}{a:Addr}{A:Around}{E:dW}{kvs:WI}{k:Key}{u r:Value}{d:V}
theorem ymk(AfC)(e:ş)(ry:RelV (kV k) u)(rd:RelV d r)(hl:AMd)
  (h1:∀v w' s',AmU v ->AC' ->RelV v w' ->Q w' s') (h2:∀s',AxZ ->NJ a (.dK (Aab d)) s' ->Q r s'):
  A5L "dict.setdefault":=by
 obtain⟨z,hd,vs,rel,dd⟩:=VT RD;have hz:BH (XI putK kvs k d):=GB (zi9 kvs k d)
 refine call_meetsIn PySem.F.slot_dict_setdefault dd.typeIs PySem.F.entry_dict_setdefault (PySem.F.args_dict_setdefault_3 _ _ _) (kt_meets_setdefault î a AG7 hd r)
  ⟨vs,dd,AvB,AJ v hv,fun hn h' JT hs=>h2 _ ?_ ?_⟩
 ·obtain⟨v0,l,rv⟩:∃v0,AmU v0/\RelV v0 v:=by
   have q:=rel.val k;rw[hv] at q;cases l:AZt with
   | none=>rw[l] at q;exact q.elim
   | some v0=>rw[l] at q;exact⟨v0,rfl,q⟩
  exact h1 v0 v _ l Ħ rv
 ·have q:=rel.val k;rw[hn] at q;cases l:AZt with
  | none=>rfl
  | some v0=>rw[l] at q;exact q.elim
 ·have he:Arf:=Ayk;exact BGX hz rd
def abE(td ty tx:TE):TE:=A'u (∃kvs k,Cl H3 Iy/\y=kV k/\AMd/\
 (∀v,AmU v ->Q v H3)/\ (AxZ ->Q z (upd H3 a (.dK (Aab z)))))
theorem ykz{o e f:Expr}{apos cpos:Pos}{td ty tx:TE}(ho:AK1)(he:qo ty)(hf:PE X f tx)(m:AtI "setdefault"):A4o "setdefault" abE:=by
 show ED;refine wpAny_Call_method m.base m.few m.line PySem.F.plainAttrs_dict PySem.F.slot_dict_setdefault PySem.F.type_dict_setdefault A2I;obtain⟨x,H1,I1,rx,a,ex,d,q1⟩:=Ol;subst ex;show aT;obtain⟨t1,t2,_⟩:=Vj I1 d;show A9 t1 t2;rw[m.trees];show A8l (A7d (fun iv s2 (ANa y I2 ry)=>
  (A_N ⟨z,H3,I3,rz,kvs,k,ea,ey,hl,q3,q4⟩)))
 subst ey;exact ymk I3 ea ry rz hl (fun v w' s4 l I4 tQ =>⟨v,H3,I4,tQ,q3 v l⟩) fun s4 l I4=>⟨z,_,I4,rz,q4 l⟩
#where
def Xc(i j l:Nat):aG:=Akb (∃k d as ks ts,L7 Γ (.pu ARR)/\EE Γ l w_/\sd Adk/\ks.Nodup/\AVP/\
 ((A8N/\∀c,D.nx (Γ.set i (.tr (as++ [c]) (Kj (ks++ [k]) AvI))))\/
  ∃q xs,An8/\qi ts (mM xs.map)/\AVO/\D.nx (Γ.set i (.tr as BFX))))
def Iv(tn:qY)(ta:cL):M7:=AZT (ta Γ1 (fun ds Γ2=>ds.length<30/\P (.nt (t::ds.map .leaf)) Γ2) lK)
def M9(i j l:Nat)(tr:M7):aG:=TC tr r (∃t d1 d2,r= .nt [t,My d1,My d2]/\∀as,D.nx (((Γ1.set i (.tr as t)).set j (.pu d1)).set l (.pu d2)))
def Qu(xo):TT2:=AQz (TM w8 (some (.pu AE)) (P true Γ) (some (.nt _ _)) (P false Γ))
section
variable{X:Cx}{F0 H0:Hp}{pos np KZ Ti lp ap cp ap2 Xd:Pos}{x y w:Str}{i j l:Nat}{e:Expr}{es:A2}{tn:qY}{ta:cL}{tr:M7}
theorem yka(hi:EC)(hv:Id)(hj:yy)(hv2:AXl)(hl:ApX)(hv3:Aik qK)
  (m:M2 X AIU "setdefault" ap (C5 y KZ) (.List [] lp) cp)
  (hbase:APD ASy "append" ASy=A7 ASy)
  (hfew:NS (AWJ Xd Ae7 x x.1&&AbL Xd all AZs) (Abj (K0 [Expr.Name w Ti])):=by rfl)
  (hline:ip ap2.endLine Xd.line:=by rfl) (hs:starEach Ae7 X.env=EG (A7 (C5 w Ti)) (EF []):=by rfl)
  (hsw:AcE BGO none:=by rfl)
  (hd:AT x "__debug__":=by decide) (hcd:AT x "__classdict__":=by decide) (hd2:AT y "__debug__":=by decide) (Cu:AT y "__classdict__":=by decide)
  (hd3:AT w "__debug__":=by decide) (PK:AT w "__classdict__":=by decide):
  AkF BGO (Xc i j l):=fun z E cx=>by
 refine rY (A6 ZS (F8 ylb T "list" (id:= "list.append") (r:=z67) PySem.F.plainAttrs_list PySem.F.slot_list_append PySem.F.type_list_append ?_
  (A6 ykz AiV (BKS hj) (A6 yef (A6 Rz)) BAo) (A6 Od (BCO hl) (A6 Rz) hs) hbase hfew hline hs rfl) hsw) (ER Dn σ H hq)
 ·exact fun pins s σ H x xs v us Q I rx rs h=>zpt pins s σ H x xs v us Q I rx rs h
 obtain⟨F,Γ,D2,R,⟨kk,d,as,ks,ts,e1,e2,e0,ndk,hkz,h⟩,k⟩:=hq;obtain⟨o,e3,v,rfl,nd,hn,r⟩:=o4;obtain⟨o2,e4,v2,rfl,rk⟩:=R.sl j _ e1;obtain⟨o3,e5,v3,rfl,rd⟩:=R.sl l _ e2;show ANS;subst ev;show zn;refine⟨AR,e3,a,rfl,.inl (CH (.inl ea)),kV kk,e4,EX,SH⟩;have Tj:a≠p:=gP ea hp;refine⟨ks.zip vs,kk,ZN Tj ea,rfl,by show AJa hkl;exact hkz,AJ v lv,E2 lv⟩
 ·
  rcases h with ⟨hh,_⟩ | ⟨q,xs,hq,ht,hxl,hnx⟩
  ·have:=zu0 hkl kk;show TZ lv hh;show EV
  obtain⟨u,b1,bs',b2,hu',hbs,rc,back⟩:=Anl;subst hbs;obtain⟨c,us,ds,rfl,rfl,ec,rc⟩:=rc;show APN rc;rw[AsG] at lv;cases lv;have nab:a∉AVk:=lI;have nd2:=AHA;have hac:a≠c:=Ξ (ADL nab)
  have hc1:Azk:=EM hb z (by
   subst z;show AnU nd2;show al
   ·exact As9
   ·exact ABn p.2.1 hb)
  have gr:=Gr.laid (o:=HO.lst []) R.g hp;have R1:=R.grow gr;have ncp:c≠p:=gP ec hp;refine⟨AnX us (ZN ncp ec),v3,e5,c,us,v3,rfl,rfl,ZN ncp ec,BF Sm hxl,?_⟩
  refine M_ (R1.wrT e0 e3 (B_ (gH (ACy AUD ks ts) jn c) Alx) (t:= .tr AUD BFX) ⟨_,rfl,nd,FV,?_⟩ AFT) gr.f hnx
  ·show Ľ q1 r' ANM;rw[e3] at q1;cases q1;exact⟨(zp r' hb).1,(zp r' hb).2.1⟩
  show ML a vs AVk rfl rfl (NH (bC hac) (bC Tj) ea) hkl
  refine back gr.f (ACQ (NH (Ĵ hc1) (Ø hp) q)) ?_
  exact⟨c,_,[],rfl,rfl,gG,KC (Km (rs.up gr.f) (Ko (rd.up gr.f)))⟩
 ·
  rcases h with ⟨hh,hnx⟩ | ⟨q,xs,hq,ht,hxl,hnx⟩
  rotate_left
  ·obtain⟨u,_,_,_,hu',_⟩:=Anl;show Cc AsG lv lv
  have pa:AR8 (b≠p):=EM hb z (by
   show AEg q1 (zp (B_ (mD X.K F H H0 (.tr i4 (Kj ks ts)) jn) ⟨_,rfl,nd,hn,a,vs,bs,rfl,rfl,ea,hkl,r⟩) hb).2.2;rw[z,hp] at q1;cases q1)
  have fp:F p=none:=R.g.free hp;have h0p:H0 p=none:=R.gr.h.free hp;have app:ß p:=R.apart hp;show Amo
  
  have R1:SL F (FG p Ç) Γ:=R.grow ⟨VS,JU u (Θ (bC (gP (R.g b u q) hp)) (R.g b u q)),JU u (i8 (Ø hp)),gS A0X⟩
  have trl:∀t v bs',(M3 bs' (b≠p)) ->(M3 bs' IQ) ->fj X.K F H t v bs' ->fj X.K F (upd (upd (FG p Ç) a (.dK A1L)) p (B8 [v3])) t v bs' :=fun t v bs' h1 h2 r=>fj.move ET t v bs' (ACQ (by rw[Ĵ h1,Ĵ h2,Ĵ h1];exact q)) r
  rw[Wx hkl];unfold jw gD;rw[Do AWl,Do AWl]
  refine⟨AnX [] (B' (Ċ Tj) gG),v3,e5,p,[],v3,rfl,rfl,Ay2,ABo (Ï (FC 0)),?_⟩
  have R2:=R1.wrT e0 e3 (u:= .dK A1L) (show A1W from zY) (t:= .tr Adu (.dic ACi BJ')) ⟨_,rfl,Aq3 (fun b hb c hc e=>A7u),E9 (by
   show al
   ·exact AFR
   ·show Ahc fp h0p),a,vs++ [IR],bs++ [p],rfl,rfl,gG,Ag_,Pr (fj.move ET ts vs bs (ACQ (NH (AVF (fE nab hb)) (bC (pa b (List.mem_cons_of_mem _ hb))) q)) r) (Pu (B_ (TR X.K F _ Ç ALO [p]) ⟨p,[],[],rfl,rfl,Ay2,dr⟩))⟩ (E9 (by
   show al
   ·show CB hb
   ·show TH hb;exact .inr app))
  have e0' :Ch (cy ArN) ArN:=List.getElem?_set_self (IO e0);have R3:=R2.wrT e0' e3 (u:= .lst [v3]) (show gH ArN jn p from by show p∈_;simp) (t:= .tr Adu (.dic ACi AvI)) ⟨_,rfl,Aq3 (fun b hb c hc e=>A7u),E9 (by
   show al
   ·exact AFR
   ·show Ahc fp h0p),a,vs++ [IR],bs++ [p],rfl,rfl,ZN Tj gG,Ag_,Pr (trl ts vs bs (II (pa b (zW _ hb))) (EM hb z (j' nab hb)) r) (Pu (B_ (TR X.K F _ (B8 [O0]) ALO [p]) ⟨p,[v3],[],rfl,rfl,gG,KC (ds:= [d]) (Ko rd)⟩))⟩ AFT
  rw[List.set_set] at R3;exact M_ R3 ET (hnx p)
theorem z4b{x1}(he:AAg)(ha:pT (B7 QA es ta))(hs:starEach DF X.env=EG (A7 e) (EF es):=by rfl):B7 W6 (.Tuple DF x1 pos) (Iv tn ta):=fun z E cx=>by
 have hA:PA E7 es (fun σ H Q=>∃F1 H1,Ou X.K F1 H1 ta lK σ H Q):=by
  rintro ps pins s σ H Q I ⟨F1,H1,h⟩;exact BHa ps s σ H Q I h
 refine oK (A6 yfk (A6 Od IU hA hs)) (ER σ H Q hq);obtain⟨F,Γ,P,R,h,kd,kt⟩:=hq;refine APp rt ⟨F1,yL Γ1 σ H1,F1,Γ1,_,R1.reb,h1,fun ds Γ2 F2 H2 vs R2 s2 rs hp=> ?_⟩;have abF:∀c,gM Γ1 σ c ->H0 c=none:=fun c yx=>by
  obtain⟨m,s,o,q1,q2,q3⟩:=yx;show Ľ q4 r (R1.sl m s q1);rw[q2] at q4;cases q4;exact(zp r q3).2.1
 have sub:Same H0 (yL Γ1 σ H1):=fun c u q=>(Lm z8k (Ξ (AVr (abF c z))) (R1.gr.h c u q))
 show B3 stay c as (H2 c=H1 c/\F2 c=none/\qa Γ2 c) c hc (by
  show NR hu ld (TR.there t v as rt c hc);have hr:L_ (yL Γ1 σ H1 c):=Lm z8k (fun(ğ m)=>(hn c hc).2.2 m q) hu
  show fN (Θ hu (R2.gr.h c u hr)) (AJ m q)
  ·cases q:F2 c with
   | none=>rfl
   | some w=>
    show Ġ (R2.gr.n c w q (hn c hc).1) z e' z
    ·show AEa hr
    ·rw[hr] at z;cases z;subst e';exact ld.tup.elim
  ·obtain⟨s,o,q1,q2,q3⟩:=q;show Ľ q4 r (R2.sl m s q1);rw[q2] at q4;cases q4;have:=(zp r q3).2.1;show Cc hr this this)
 have R3:A8I:=SR.unreb R1.gr sub R2;show A8 (AIa List.length_cons Sm (zO (Nat.succ_le_succ (Nat.le_of_lt hp.1)) Β)) (AJ p hp0)
 have gr:=Gr.laid (o:=HO.tup (ź)) R3.g hp0;have lv:OO as (b≠p):=EM hb z (by
  show AEg q (TR.there t v as rt b hb);rw[<- Ll stay,z,hp0] at q;cases q)
 refine kt _ Γ2 _ _ p (v::vs) as At2 (XA s1.trans s2 gr.f) gG nd (II ⟨Θ (Ĵ lv) (ACe stay),ASK,uv stay⟩) ?_ hp.2
 exact⟨v,vs,as,[],rfl,(List.append_nil _).symm,AlH (s2.trans gr.f) (ACQ (gr.h b u (B' (Ll stay) q))) rt,KC (rs.up gr.f)⟩
theorem yg9{px py pw pt:Pos}{kt}(hc:Cn)(hN:X.N.Nodup)(hi:EC)(hx:oQ)(hj:yy)(hy:Loc X.env.scope y)(hl:ApX)(hw:Aik Loc)(he:VY W6 tr)
  (hf:Z3\/Z_:=by show y9) (hf2:X.fn y=true\/AHJ:=by show y9) (hf3:X.fn w=true\/X.env.scope.names.lookup w=some ACS:=by show y9)
  (hs:AFq ArO e:=by rfl) (hsw:AaW ArO:=by rfl):
  kQ ArO e (M9 i j l tr):=fun z E cx=>
 rY (A6 z7d IU (F8 yee n 3 hc (A6 ZW BES (A6 ZW (F8 ZV i j hN hj hy hf2) (A6 ZW (F8 ZV i l hN hl hw hf3) (A6 z6q))))) hs hsw) fun Dn σ H hq=>by
  obtain⟨F,Γ,D2,R,h,k⟩:=hq;refine⟨F,Γ,_,R,h,A9b (by obtain⟨_,_,_,q,_⟩:=h1;cases q),fun ts Γ1 F1 H1 p vs as R1 s1 ep nd hn rt h1=> ?_⟩
  obtain⟨t,d1,d2,q,h1⟩:=h1;cases q;obtain⟨v,us,bs,cs,rfl,rfl,rv,rt⟩:=rt;show CM rfl rr (S6 (xs:= AY1)) rt;show Qr v1 r1 rr rr;show Qr v2 r2 rr rr;obtain rfl:us= []:=rr;rw[List.append_nil] at nd hn;refine⟨p,_,rfl,SZ (R1.g _ _ ep),rfl,v,_,rfl,v1,_,rfl,v2,_,rfl,rfl,?_⟩;exact dP (((R1.put i (s:= .tr bs t) (o:=uA) (A'W rv) AzY).set j r1).set l r2) (h1 bs)
theorem yjk{jc pc}(hi:EC)(hv:Id)(y_):WN (AQc AIU .Is [.Constant Φ jc pc]) (Qu i):=fun z E cx=>
 Ow (A6 ZP (A6 yjt AiV)) (AAS hq (by
  show KE hq;show BO Qu;show Co
  ·rename_i e0;obtain⟨o,eσ,v,rfl,rv⟩:=o4;obtain rfl:v= AE:=rv;exact A7r AE
  ·rename_i as ts e0;obtain⟨o,eσ,p,vs,rfl,ep,nd,hn,rt⟩:=o4;exact A7r IR
  ·show EB))
#where
#print L3
namespace HM
theorem z1g(a b:Int):Int.gcd b (a.fmod b)=Int.gcd a b:=by
 rw[Int.fmod_def,Int.gcd_sub_mul_left_right,Int.gcd_comm]
theorem zfe{a b:Int}(h:kF):(a.fmod b).natAbs<b.natAbs:=by
 rw[Int.fmod_eq_emod];have h1:=Int.emod_nonneg a h;have h2:=Int.emod_lt a h;split
 ·omega
 ·show G1;have q1:b<0:=ω
  show UM q2 (a % b) (q (DH (Int.dvd_of_emod_eq_zero z)));omega
def dv(AHD):Int:=if b<0 then -(AX ZZ) else ZZ
def fr(AHD):Int×Int:=(t.fdiv (dv t b),b.fdiv (dv t b))
theorem Xe(yi):om≠0:=by
 unfold dv;have:ZZ≠0:=by
  intro e;exact h (BMa e)
 split<;>omega
theorem yhx(AHD):om∣t:=by
 unfold dv;split
 ·exact BLs Af8
 ·exact Af8
theorem yab(AHD):om∣b:=by
 unfold dv;split
 ·exact BLs Af9
 ·exact Af9
theorem Tn{a b:Int}(h:b∣a):b*a.fdiv b=a:=Θ (Int.fdiv_eq_ediv_of_dvd h) (Int.mul_ediv_cancel' h)
theorem z0q(AHD):om* Os=t:=Tn (yhx t b)
theorem Tq(AHD):om* Na=b:=Tn (yab t b)
theorem z9o(yi):0< Na:=by
 have e:=Tq t b;show AaY;generalize Na=y at*;unfold dv at e n;split at e
 ·show ŀ;have g0:LA<ZZ:=by
   rw[ATn] at n;have:LA<=ZZ:=BMB;omega
  show Pf (Int.lt_or_le 0 y)
  ·exact h
  ·have:0<= -(AX ZZ)*y:=AIa Int.neg_mul Int.mul_neg (Int.mul_nonneg χ χ)
   omega
 ·show ŀ;have g0:LA<ZZ:=by
   rw[t_] at n;have:LA<=ZZ:=BMB;omega
  show Pf (Int.lt_or_le 0 y)
  ·exact h
  ·have:AX ZZ*y<=0:=BMb χ
   omega
theorem z80(yi):Int.gcd Os Na=1:=by
 have e1:=z0q t b;have e2:=Tq t b;show AaY;have e3:Int.gcd (om* Os) (om* Na)=AHE*Int.gcd Os Na:=Int.gcd_mul_left ..;rw[e1,e2] at e3;have e4:AHE=ZZ:=by
  unfold dv;split<;>simp
 rw[e4] at e3;show UM g0 ZZ (h Awd);exact(Nat.eq_of_mul_eq_mul_left (BLm g0) (B' Nat.mul_one e3)).symm
theorem ztr{t b:Int}:Os*b=t* Na:=by
 have e1:=z0q t b;have e2:=Tq t b
 calc Os*b=Os* (om* Na):=Hk e2
  _=(om* Os)* Na:=by rw[<- Int.mul_assoc,Int.mul_comm Os]
  _=t* Na:=Hk e1
theorem zsj{a b c d:Int}(hb:0<b)(hd:0<d)(h1:Int.gcd a b=1)(h2:Int.gcd c d=1)(h:a*d=c*b):a=c/\b=d:=by
 have bd:b∣d:=by
  have:b∣a*d:=⟨c,Gc h Int.mul_comm⟩
  show Ayz this;rw[Int.gcd_comm,h1] at z
  simpa using z
 have db:d∣b:=by
  have:d∣c*b:=⟨a,by rw[<- h,Int.mul_comm]⟩
  show Ayz this;rw[Int.gcd_comm,h2] at z
  simpa using z
 have e:b=d:=Int.dvd_antisymm (Int.le_of_lt hb) (Int.le_of_lt hd) bd db;subst e;exact Ì (Int.eq_of_mul_eq_mul_right (Int.ne_of_gt hb) h)
theorem ymi{t b t' b' :Int}(h:kF)(h' :b' ≠0)(e:t*b' =t' *b):fr t b=fr t' b' :=by
 have c1:=AkO t b;have c2:=AkO t' b';have p1:=z9o (t:=t) h;have p2:=z9o (t:=t') h';have k:Os* (fr t' b').2=(fr t' b').1* Na:=by
  generalize Os=x at*;generalize Na=y at*;generalize (fr t' b').1=x' at*;generalize (fr t' b').2=y' at*
  
  have:(x*y')* AXZ=(x' *y)* AXZ:=by
   calc (x*y')* AXZ=(x*b)* (b' *y'):=ATE
    _=(t*y)* (b' *y'):=Hk c1
    _=(t*b')* (y*y'):=ATE
    _=(t' *b)* (y*y'):=ġ
    _=(t' *y')* (b*y):=ATE
    _=(x' *b')* (b*y):=Hk c2
    _=(x' *y)* AXZ:=ATE
  exact Int.eq_of_mul_eq_mul_right (Int.mul_ne_zero h h') this
 show vz e1 (zsj p1 p2 (z80 h) (z80 h') k);exact A1H
theorem yl0{a b:Int}(hb:0<b)(h:Int.gcd a b=1):fr a b=(a,b):=by
 have c1:=AkO a b;show vz e1 (zsj (Ay0 (z9o (t:=a))) hb (Ay0 z80) h (by rw[c1]))
 exact A1H
theorem yel(yi):AVD<=t.natAbs:=by
 have e:=congrArg Int.natAbs (z0q t b);show AhD;show AaY;have:1<=AHE:=ω
 calc AVD=1* AVD:=Hk Nat.one_mul
  _<=AHE* AVD:=AgK this
  _=t.natAbs:=e
theorem yfc(yi):AVC<=b.natAbs:=by
 have e:=congrArg Int.natAbs (Tq t b);show AhD;show AaY;have:1<=AHE:=ω
 calc AVC=1* AVC:=Hk Nat.one_mul
  _<=AHE* AVC:=AgK this
  _=b.natAbs:=e
#print HM
namespace L3
open PySem L2 HM
def qD(AGf):D:= š q.num q.den
theorem yj4{a b:Rat}(h:qD a=qD b):a=b:=by
 show BO qD;simp only [D.tup.injEq,List.cons.injEq,D.int.injEq,and_true,Int.natCast_inj] at h;exact Rat.ext C_ h.2
theorem ygo(yi):fr t b=(AV3,AX AM9):=by
 have hb:LA< AM9:=GB (AQL den_pos)
 have hg:Int.gcd AV3 AM9=1:=by
  have:=AQL reduced
  simpa [Int.gcd] using this
 have e:AV3*b=t* AM9:=by
  have q:=Rat.num_divInt_den (Rat.divInt t b);rw[Rat.divInt_eq_divInt_iff χ h] at q
  exact q
 have:=P5 ymi t t b b t' AV3 b' AM9 h χ e.symm
 rw[this,yl0 hb hg]
theorem Xf(yi):fr t b=((NE t b).num,AX (NE t b).den):=Gc (ygo h) Rat.divInt_eq_div
theorem Nb(AGf):AUb≠0:=by
 have:=q.den_pos;intro e;have:ņ=0:=ALH e
 omega
theorem Nf(AGf):NE q.num ņ=q:=by
 have:=BMZ;show BC Rat.divInt_eq_div;exact this
def Sz(n:Nat)(q:Rat):Prop:=cW q.num<=n/\cW ņ<=n
theorem Sz.up{m n:Nat}{q:Rat}(h:Sz m q)(k:m<=n):Sz n q:=⟨zO C_ k,zO h.2 k⟩
theorem Ng{t b:Int}{n:Nat}(h:kF)(h1:cW t<=n)(h2:cW b<=n):Sz n (NE t b):=by
 have e:=Xf (t:=t) h;have e1:Os=_:=w4 Prod.fst;have e2:Na=_:=w4 Prod.snd;show AnG;show A8 (AXc h1) (AXc h2)
 ·rw[<- e1];exact yel h
 ·rw[<- e2];exact yfc h
theorem yeh(AGH):a+b=AmF (AWj+b.num*a.den):=by
 have ha:=Nb a;have hb:=Nb b;have h1:=Nf a;have h2:=Nf b;rw[Rat.intCast_add,Rat.intCast_mul,Rat.intCast_mul,Rat.intCast_mul];show AZ6;show AZ7;show AZ9;show AZ8;show Ķ
 grind
theorem yea(AGH):a - b=AmF (AWj - b.num*a.den):=by
 have ha:=Nb a;have hb:=Nb b;have h1:=Nf a;have h2:=Nf b;rw[Rat.intCast_sub,Rat.intCast_mul,Rat.intCast_mul,Rat.intCast_mul];show AZ6;show AZ7;show AZ9;show AZ8;show Ķ
 grind
theorem ye7(AGH):a*b=AmF (a.num*b.num):=by
 have ha:=Nb a;have hb:=Nb b;have h1:=Nf a;have h2:=Nf b;rw[Rat.intCast_mul,Rat.intCast_mul];show AZ6;show AZ7;show AZ9;show AZ8;show Ķ
 grind
theorem Al{b:Rat}:b.num=0↔b=0:=Rat.num_eq_zero
theorem yd2(a b:Rat)(h:kF):a/b=AIu AWj (AX (a.den*b.num)):=by
 have ha:=Nb a;have hb:=Nb b;have h1:=Nf a;have h2:=Nf b;rw[Rat.intCast_mul,Rat.intCast_mul];show AZ6;show AZ7;show AZ9;show AZ8;show Ķ
 grind
theorem yg1(AGH):pE (Μ (a<b)) (AWj<b.num*a.den):=Θ decide_eq_decide (Rat.lt_iff a b)
theorem Tr(AGH):P3 (a.den*b.den):=Int.mul_ne_zero AkE (ARQ b.den_pos)
theorem yk6(yi):D.tup (AIc Os Na)=qD (NE t b):=FB (Xf h)
theorem yd9(AtE):Sz (m+n+1) (a+b):=by
 rw[yeh];refine Ng Al8 ?_ ?_
 ·have h1:=Eu a.num b.den;have h2:=Eu b.num a.den;have h3:=zij (a.num*b.den) AzQ;have:=ha.1;have:=ha.2;have:=hb.1;have:=hb.2;omega
 ·show AqM
theorem K4(AtE):Sz (m+n+1) (a - b):=by
 rw[yea];refine Ng Al8 ?_ ?_
 ·have h1:=Eu a.num b.den;have h2:=Eu b.num a.den;have h3:=zl0 (a.num*b.den) AzQ;have:=ha.1;have:=ha.2;have:=hb.1;have:=hb.2;omega
 ·show AqM
theorem yd8(AtE):Sz (m+n) (a*b):=by
 rw[ye7];refine Ng Al8 ?_ ?_
 ·have h1:=Eu a.num b.num;have:=ha.1;have:=hb.1;omega
 ·show AqM
theorem z9d{m n:Nat}{a b:Rat}(ha:Sz m a)(hb:Sz n b)(h0:kF):Sz (m+n) (a/b):=by
 rw[yd2 a b h0];have hn:P3 (a.den*b.num):=Int.mul_ne_zero AkE (Fs (h0 (Al.mp z)))
 refine Ng hn ?_ ?_
 ·have h1:=Eu a.num b.den;have:=ha.1;have:=hb.2;omega
 ·have h1:=Eu a.den b.num;have:=ha.2;have:=hb.1;omega
theorem Qw(i:Int):qD (An i)= .tup [C7,.int 1]:=rfl
theorem Tt{i:Int}{n:Nat}(h:Si<=n)(hn:1<=n):Sz n (An i):=⟨h,zO (rq 1 (AL3 (FC 1<2^1))) hn⟩
def gb:AB ->Rat | []=>0 | q::qs=>q+gb qs
theorem zyp(a b:AB):gb (a++b)=gb a+gb b:=by
 induction a with
 | nil=>simp [gb,Rat.zero_add]
 | cons x xs ih=>simp only [List.cons_append,gb,ih,Rat.add_assoc]
theorem yd4{m:Nat}:Apz (Sz m q) (Sz (qs.length* (m+2)+1) (gb qs))
 | [],_=>⟨by show cW 0<=_;exact A5R,by show cW 1<=_;exact A5R⟩
 | q::qs,h=>by
  have i:=yd4 (qs:=qs) AiJ;refine(yd9 (h q zY) i).up ?_;have:(qs.length+1)* (m+2)=qs.length* (m+2)+ (m+2):=Gc Nat.add_mul Nat.one_mul
  simp only [List.length_cons];omega
abbrev Qx(l:AB):Prop:=l.Pairwise (· <= ·)
def cnt(Arx):Nat:=B2 l.filter A9K
def wQ(l:AB)(q:Rat):AB:=AwT++q::AwU
def oA(SD):AB:=qs.foldl wQ []
theorem yju(Arx):AS9 (cnt q l):=Agw
theorem z06{q:Rat}:GY l AB (Qx l) ((∀o∈AwT,o<=q)/\∀o∈AwU,q<o)
 | [],_=>⟨AV,AV⟩
 | x::l,hs=>by
  show Aat hs;show CM i1 i2 (z06 (q:=q) (l:=l)) p2;by_cases hx:q<x
  ·have all:∀o∈x::l,q<o:=by
    intro o ho;show P6 ho ho
    ·exact hx
    ·exact Std.lt_of_lt_of_le hx (p1 o ho)
   have e:cnt q (x::l)=0:=by
    unfold cnt;rw[List.filter_eq_nil_iff.mpr]
    ·rfl
    ·intro o ho;simp [all o ho]
   rw[e];exact⟨AV,As all⟩
  ·have e:cnt q (x::l)=cnt q l+1:=by
    unfold cnt;rw[List.filter_cons,BD Ags,List.length_cons]
   rw[e,List.take_succ_cons,List.drop_succ_cons];show A8 (AJ o ho) i2;show P6 ho ho
   ·exact Rat.not_lt.mp hx
   ·exact i1 o ho
theorem ydj{l:AB}{q:Rat}(h:Qx l):Qx (wQ l q):=by
 show AG6 (z06 (q:=q) h);unfold wQ Qx;show Af0;show DD (h.sublist (List.take_sublist _ _)) (List.pairwise_cons.mpr ⟨AMj (Rat.le_of_lt (h2 o ho)),h.sublist (List.drop_sublist _ _)⟩) A5q;show hW
 ·exact h1 a ha
 ·exact Rat.le_trans (h1 a ha) (Rat.le_of_lt (h2 b hb))
theorem zv6(l:AB)(q:Rat):(wQ l q).Perm (q::l):=by
 refine List.perm_middle.trans ?_;rw[List.take_append_drop]
theorem zyk:∀(qs acc:AB),Qx acc ->Qx (qs.foldl wQ acc)/\ (qs.foldl wQ acc).Perm (qs++acc)
 | [],acc,h=>⟨h,VS⟩
 | q::qs,acc,h=>by
  show AG6 (zyk qs (wQ acc q) (ydj h));show A8 h1 (h2.trans ?_);refine(List.Perm.append_left qs (zv6 acc q)).trans ?_;exact List.perm_middle
theorem yhg(SD):Qx (oA qs):=BBN.1
theorem Qy(SD):(oA qs).Perm qs:=rX BBN.2 List.append_nil
theorem Xg(SD):A2_ oA:=(Qy qs).length_eq
def Qz(l:AB):Rat:=HI AnF 1 AV0 ((tF (S4 - 1)+AV0)/2)
def wd(l:AB)(j:Nat):Rat:=tF (j+1) - tF j
structure Best (l:AB) (b:Nat):Prop where
 lt:AUf b
 le:A5G (AUf j)
 gt:A2e (AUf j)
theorem Best.unique{l:AB}{a b:Nat}(x:Best l a)(y:Best l b):a=b:=by
 rcases Nat.lt_trichotomy a b with h | h | h
 ·exact Ah0 (x.gt b y.lt h) (y.le a x.lt)
 ·exact h
 ·exact Ah0 (y.gt a x.lt h) (x.le b y.lt)
abbrev Pt:=Rat×Rat
def pD(p:Pt):D:= .tup [qD A3,qD p.2]
def uK(l r:Pt)(x:Rat):Rat:=l.2+ ANE* AZE/ ANI
def J3(a b:Pt):Bool:=Azn&& !(Μ (b.2<a.2))
def Gd:DB DA
 | []=>True
 | [_]=>True
 | AUF=>(a.1<b.1/\a.2<=b.2)/\Gd (b::t)
def jJ:A1S
 | [],_=>0
 | [p],_=>p.2
 | AWf,x=>if x<AD then(AI (l.1<x) AHY l.2) else jJ (r::t) x
def yO:A1S
 | [],_=>0
 | [p],_=>p.2
 | AWf,x=>if x<AD then AHY else yO (r::t) x
theorem z1e(A_c):∃k:Rat,0<=k/\ (l.2<r.2 ->0<k)/\k* ANI=r.2 - l.2/\∀x,AHY=l.2+ ANE*k:=by
 have hd:0<AOE:=LN
 have hi:0< ANI⁻¹:=Rat.inv_pos.mpr hd;have hn:AOE≠0:=by grind
 refine⟨AZE* ANI⁻¹,Rat.mul_nonneg lL (Rat.le_of_lt hi),D4 (Rat.mul_pos lL hi),?_,E2 x⟩
 ·rw[Rat.mul_assoc,ň hn,Rat.mul_one]
 ·unfold uK;rw[Rat.div_def,Rat.mul_assoc]
theorem yin(A_c):uK l r l.1=l.2:=by
 obtain⟨k,_,_,_,e⟩:=AZw;rw[e];grind
theorem z45{l r:Pt}(h:AK0)(h2:ASS){x:Rat}(hx:l.1<=x):l.2<=AHY:=by
 obtain⟨k,k0,_,_,e⟩:=AZw;have:0<=ANE*k:=Apu
 rw[e];grind
theorem yhn{l r:Pt}(h:AK0)(h2:ASS){x:Rat}(hx:x<=AD):AHY<=r.2:=by
 obtain⟨k,k0,_,ek,e⟩:=AZw;have:0<=(AD - x)*k:=Apu
 rw[e];grind
theorem z4w{l r:Pt}(h:AK0)(h2:ASS){x y:Rat}(hx:x<=y):AHY<=uK l r y:=by
 obtain⟨k,k0,_,ek,e⟩:=AZw;have:0<=(y - x)*k:=Apu
 rw[e,e];grind
theorem z0l:∀{ps:DA} {x:Rat},oz ->(∀p,ps.head?=some p ->A3<=x) ->yO ps x=jJ ps x
 | [],_,_,_=>rfl
 | [p],_,_,_=>rfl
 | AWf,x,hg,hx=>by
  have hl:=hx l rfl;show AYo;unfold yO jJ;by_cases h:x<AD
  ·rw[wS,wS];by_cases h' :l.1<x
   ·show Db h'
   ·show Ap h';have:x=l.1:=LN
    show T';exact yin h1 h2
  ·rw[e9,e9];exact z0l h3 (WC (by cases hp;grind))
theorem z82{x:Rat}:BFs (l.2<=jJ AXT x)
 | l,[],_=>Rat.le_refl
 | l,r::t,hg=>by
  show AYo;unfold jJ;split
  ·split
   ·exact z45 h1 h2 lL
   ·exact Rat.le_refl
  ·exact Rat.le_trans h2 (z82 h3)
def jP:DA ->Pt | []=>kR | [p]=>p | _::r::t=>jP (r::t)
theorem ydr{x:Rat}{l:Pt}{t:DA}(hg:Gd (l::t))(hx:¬l.1<x):jJ AXT x=l.2:=by
 cases t with
 | nil=>rfl
 | cons r t=>
  show AYo;unfold jJ;rw[BD lL,AY hx]
theorem z0b{x y:Rat}(hxy:x<=y):BFs (jJ AXT x<=jJ AXT y)
 | l,[],_=>Rat.le_refl
 | l,r::t,hg=>by
  show AYo;unfold jJ;by_cases hx:x<AD
  ·show Db hx;by_cases hy:y<AD
   ·show Db hy;by_cases lx:l.1<x
    ·rw[BD lx,BD lL];exact z4w h1 h2 hxy
    ·show Ap lx;split
     ·exact z45 h1 h2 lL
     ·exact Rat.le_refl
   ·show Ap hy;refine Rat.le_trans ?_ (z82 h3);split
    ·exact yhn h1 h2 lL
    ·exact h2
  ·show w9 hx lL
   exact z0b hxy h3
#print L3
namespace HM
abbrev Bd:=Int×Int
def xU(b:Bd)(x:Int):Bool:=Μ (b.1<=x)&&Μ (x<=b.2)
def Am(S l:AU)(b:Bd):AU:=Ann AxU
def rk(S:AU)(bs:Go):GT AU
 | 0=> [0]
 | BM=>Am S (rk S bs i) (bs.getD i kR)
def gk(S:AU)(n:Int)(rb:Go):GT AU
 | 0=> [n]
 | BM=>Ann ((gk S n rb i).any fun one=>xU AzB (one - e))
def jQ(S:AU)(n:Int):AU:=S.reverse.map (n - ·)
theorem ydk{S:AU}{n e:Int}:AGK∈jQ S n↔AKk:=by
 unfold jQ;rw[List.mem_map];constructor
 ·rintro⟨x,hx,h⟩;show Nl x e
  exact List.mem_reverse.mp hx
 ·exact D4 (Hc e (List.mem_reverse.mpr h))
theorem rA{S l:AU}{b:Bd}{e:Int}:e∈Am S l b↔AKk/\∃s∈l,xU b (e - s)=true:=nv Am List.mem_filter List.any_eq_true
theorem qu{S:AU}{n e:Int}{rb:Go}{i:Nat}:e∈gk S n rb Bi↔AKk/\∃one∈gk S n rb i,xU AzB (one - e)=true:=by
 show e∈S.filter _↔_;rw[List.mem_filter,List.any_eq_true]
theorem zzd{S:AU}{n:Int}{rb:Go}:∀(i:Nat) (e:Int),e∈gk S n rb i↔ AGK∈rk ADd rb i
 | 0,e=>by
  show e∈ [n]↔ AGK∈ [0];rw[List.mem_singleton,List.mem_singleton];omega
 | BM,e=>by
  rw[qu];show _↔ AGK∈Am ADd (rk ADd rb i) _;rw[rA,ydk];refine and_congr_right (CY (AFr (ť w) ⟨n - o,(zzd i o).mp ho,?_⟩ ⟨s,hs,w⟩ ⟨n - s,(zzd i (n - s)).mpr ?_,?_⟩))
  ·rw[HC (n - e - (n - o)) (o - e)];exact w
  ·rw[HC (n - (n - s)) s];exact hs
  ·rw[HC (n - s - e) (n - e - s)];exact w
theorem z93{S:AU}{n:Int}{rb:Go}(hn:AKl):BAK (e∈gk S n rb i)
 | 0,e,h=>AvX hn
 | _+1,_,h=>(qu.mp h).1
theorem ykn{S:AU}{bs:Go}(h0:LA∈S):BAK (e∈Amb)
 | 0,e,h=>AvX h0
 | _+1,_,h=>(rA.mp h).1
theorem zuy{bs:Go}{i:Nat}(h:i<bs.length):bs.reverse.getD (AQK Bi) kR=bs.getD i kR:=by
 rw[List.getD_eq_getElem?_getD,List.getD_eq_getElem?_getD,List.getElem?_reverse χ]
 congr 2
 omega
theorem meet(BDo):∀i,i<=bs.length ->((∃e∈Amb,AQj e (AQK i))↔ AO')
 | 0,_=>Ð (Ă e h2) (by rw[List.mem_singleton.mp h1] at h2;exact h2) (D4 ⟨0,AUW,h⟩)
 | BM,hi=>by
  rw[<- meet h0 hn i χ]
  have e1:bs.length - i=bs.length - Bi+1:=ω
  constructor
  ·rintro⟨e,h1,h2⟩;obtain⟨_,s,hs,w⟩:=rA.mp h1;show A9 s hs;rw[e1,qu];exact ul (ykn h0 hs) e (Lm zuy χ w)
  ·rintro⟨e,h1,h2⟩;rw[e1,qu] at h2;obtain⟨_,o,ho,w⟩:=h2;show DD o (rA.mpr ⟨z93 hn ho,e,h1,?_⟩) ho;rw[zuy χ] at w;exact w
theorem z3j(BDo):n∈rk S bs bs.length↔ AO':=by
 rw[<- meet h0 hn bs.length BME];rw[Nat.sub_self];exact⟨D4 ⟨n,h,AUW⟩,fun(Ă e h2)=>by rw[List.mem_singleton.mp h2] at h1;exact h1⟩
def Tv:AU ->Int
 | []=>0
 | [x]=>x
 | x::y::r=>if Tv (y::r)<=x then x else Tv (y::r)
theorem yad:GY l AU (l≠ []) (Tv l∈l/\∀i∈l,i<=Tv l)
 | [],h=>Ant
 | [x],_=>⟨AUW,ky (AFb hi ATh)⟩
 | x::y::r,_=>by
  show CM h1 h2 (yad (l:=y::r)) Χ
  unfold Tv;split
  ·show G1;show YU zY i hi;show P6 hi hi
   ·exact ATh
   ·exact Int.le_trans (h2 i hi) q
  ·show G1;show YU (zW _ h1) i hi;show P6 hi hi
   ·omega
   ·exact h2 i hi
def cand(S:AU)(n:Int)(bs:Go)(k:Nat)(f:Int):AU:=Ann (xU AO3 (e - f)&&(gk S n bs.reverse AJ6).contains e)
def fk(S:AU)(n:Int)(bs:Go):fT
 | 0=>0
 | k+1=>Tv (cand S n bs k BJp)
theorem vG(ASx){k:Nat}{f e:Int}:e∈cand S n bs k f↔AKk/\xU AO3 (e - f)=true/\AQj e AJ6:=by
 unfold cand;rw[List.mem_filter,Bool.and_eq_true,List.contains_iff_mem]
theorem zx6(ASx)(hn:AKl)(hg:AO'):∀k,k<=bs.length ->A5Z/\ (k<bs.length ->AYt≠ [])
 | k,hk=>by
  have a:A5Z:=by
   cases k with
   | zero=>exact hg
   | succ k=>
    have ih:=BFM χ
    exact(vG.mp (yad ih).1).2.2
  show A8 a AL4;rw[HC (bs.length - k) (bs.length - FI+1),qu] at a
  obtain⟨_,o,ho,w⟩:=a;rw[zuy h] at w;intro e;have:=P5 vG S S n n bs bs k k (f:=ARA) (e:=o) |>.mpr ⟨z93 hn ho,w,ho⟩
  show Cc e this this
theorem yko(ASx)(hn:AKl)(hg:AO'){k:Nat}(hk:k<bs.length):
  AMt∈AYt/\∀i∈AYt,i<=AMt:=yad (BFM hk)
theorem z6r:∀{a b:AU},AS1 a.Pairwise ->AS1 b.Pairwise ->(∀i,i∈a↔i∈b) ->a=b
 | [],[],_,_,_=>rfl
 | [],y::b,_,_,h=>e_ (h y).mpr zY Χ
 | x::a,[],_,_,h=>e_ (h x).mp zY Χ
 | x::a,y::b,ha,hb,h=>by
  rw[List.pairwise_cons] at ha hb;have e:x=y:=by
   rcases zU.mp ((h x).mp zY) with e | e
   ·exact e
   ·rcases A2X y with e' | e'
    ·exact e'.symm
    ·have:=hb.1 x e;have:=ha.1 y e';omega
  subst e;rw[z6r ha.2 hb.2 (CO ?_)];constructor
  ·show BHx mp ha.1
  ·show BHx mpr hb.1
section
variable{α:Type}[AMW]
def dM(g hs:A0):Bool:=hs.any fun h=>(Μ (h∈g))
theorem sV{g hs:A0}:AOI g↔∃x,ALt/\x∈hs:=by
 unfold dM;rw[List.any_eq_true];exact AFr Akd ⟨x,of_decide_eq_true h2,h1⟩ Akd ⟨x,h2,decide_eq_true h1⟩
theorem z6e{g hs:A0}(h:AEt (dM g hs)){x:α}(h1:ALt):x∉hs:=fun h2=>by
 rw[sV.mpr ⟨x,h1,h2⟩] at h;cases h
structure m7 (Ss fs:MM):Prop where
 ne:AOi (f≠ [])
 dj:fs.Pairwise fun a b=>BKF
 co:∀x,(∃f∈fs,AFK)↔∃S∈Ss,x∈S
 sub:AJ9 (AY8 (jS S f))
 min:∀C:DB α,(∀S∈Ss,APg S S) ->AOi (APg f f)
theorem m7.nil:m7 ([]:MM) []:=by
 show P9 ?_ List.Pairwise.nil ?_ ?_
 ·show APP
 ·intro x;constructor
  ·rintro⟨_,h,_⟩;cases h
  ·rintro⟨_,h,_⟩;cases h
 ·show APP
 ·intro _ _ _ h;cases h
theorem Xh:GY fs MM Aoa (∀{a b:A0} {x:α},Ω (a∈fs) (b∈fs) (x∈a) (x∈b) (a=b))
 | [],_,_,_,_,ha,_,_,_=>kH ha
 | UR,h,a,b,x,ha,hb,xa,xb=>by
  show AhM;show Ps ha e1 ha1
  ·subst e1;show Ao3
   ·exact e.symm
   ·show F9 xb (C_ b hb x xa)
  ·show Ao3
   ·show N1 (M1 xa (C_ a BLq x xb))
   ·exact Xh h.2 BLq hb xa xb
theorem m7.step{Ss fs:MM}{S g:A0}(h:AGp)(hS:S≠ [])(hg:AQE g (x∈S\/AY8 (dM f S=true/\AFK))):
  m7 (Ss++ [S]) (AHN xN++ [g]):=by
 have mf:∀f,f∈AHN xN++ [g] ->(f∈fs/\ AEt xN)\/f=g:=fun f hf=>by
  show Aqw
  ·show CB (zA.mp hf)
  ·show CU (zR.mp hf)
 have mg:g∈AHN xN++ [g]:=Aqt;have ml:AOi (AEt xN ->f∈AHN xN++ [g]):=fun f h1 h2=>zP _ (zA.mpr AX2);refine⟨AJ f hf,?_,T_ (EU ?_),AJ T hT,De C hC f hf hx⟩
 ·show Arh
  ·exact h.ne f hf.1
  ·intro z;cases S with
   | nil=>exact hS rfl
   | cons x S=>
    show AlW (AlK zY) z
 ·show Af0;show DD (h.dj.filter _) BMJ (fun a ha b hb x xa=> ?_);show TH hb;show CM ha hn zA.mp ha;intro xg;rcases(hg x).mp xg with xs | ⟨f,hf,hm,xf⟩
  ·exact z6e hn xa xs
  ·have:=Xh h.dj ha hf xa xf;show T';rw[hm] at hn;cases hn
 ·rintro⟨f,hf,xf⟩;show Arh
  ·obtain⟨T,hT,xT⟩:=(h.co x).mp ⟨f,hf.1,xf⟩;exact⟨T,zP _ hT,xT⟩
  ·rcases(hg x).mp xf with xs | ⟨f,hf,_,xf⟩
   ·exact⟨S,Aqt,xs⟩
   ·obtain⟨T,hT,xT⟩:=(h.co x).mp (AK4 xf);exact⟨T,zP _ hT,xT⟩
 ·rintro⟨T,hT,xT⟩;show OR hT hT hT
  ·obtain⟨f,hf,xf⟩:=(h.co x).mpr ⟨T,hT,xT⟩;cases q:xN with
   | true=>show MT g mg (A_X xf)
   | false=>show MT f (ml f hf Aii) xf
  ·rw[List.mem_singleton.mp hT] at xT;exact⟨g,mg,AlK xT⟩
 ·show OR hT hT hT
  ·show CS f hf k h.sub T hT;cases q:xN with
   | true=>show MT g mg (AGF (A_X (k x hx)))
   | false=>show MT f (ml f hf Aii) k
  ·show TH hT;exact⟨g,mg,AGF (AlK hx)⟩
 ·show B3 W8 T Ss (APg T T) T hT (hC T (zP _ hT));have hCS:=hC S (zQ _ (zR.mpr rfl));show Arh
  ·exact h.min C W8 f hf.1 hx
  ·have all:AQq S:=by
    obtain⟨x,xf,cx⟩:=hx;rcases(hg x).mp xf with xs | ⟨f,hf,hm,xf⟩
    ·exact hCS ⟨x,xs,cx⟩
    ·have:=h.min C W8 f hf ⟨x,xf,cx⟩;show BS y y1 y2 sV.mp hm;exact hCS ⟨y,y2,this y y1⟩
   intro y hy;rcases(hg y).mp hy with ys | ⟨f,hf,hm,yf⟩
   ·exact all y ys
   ·show BS z z1 z2 sV.mp hm;exact h.min C W8 f hf ⟨z,z1,all z z2⟩ y yf
theorem m7.incl{Ss J4 fs fs' :MM}(h:AGp)(h' :m7 J4 fs')(e:Ao9){f f' :A0}{x:α}(hf:f∈fs)(hf' :f' ∈fs')(h1:AFK)(h2:x∈f'):∀y∈f,y∈f' :=by
 refine h.min (· ∈f') (De S hS ⟨z,z1,z2⟩ y hy) f hf Akd;show CS S' hS' k e S hS;show CS f2 hf2 k2 h'.sub S' hS';have:=Xh h'.dj hf' hf2 z2 (k2 z ((k z).mp z1));show T';exact k2 y ((k y).mp hy)
theorem m7.same{Ss J4 fs fs' :MM}(h:AGp)(h' :m7 J4 fs')(e:Ao9)(e' :∀S∈J4,BKM Ss){f:A0}(hf:f∈fs):∃f' ∈fs',AJB f f' :=by
 cases q:f with
 | nil=>exact absurd q (h.ne f hf)
 | cons x r=>
  rw[<- q];have hx:AFK:=Θ q zY
  obtain⟨S,hS,xS⟩:=(h.co x).mp (AK4 hx);show CS S' hS' k e S hS;obtain⟨f',hf',xf'⟩:=(h'.co x).mpr ⟨S',hS',(k x).mp xS⟩;exact⟨f',hf',fun y=>(AFr hy (h.incl h' e hf hf' hx xf' y hy) hy (h'.incl h e' hf' hf xf' hx y hy))⟩
theorem m7.perm{Ss fs gs:MM}(h:AGp)(p:gs.Perm fs):m7 Ss gs:=by
 refine⟨fun f hf=>h.ne f (p.mem_iff.mp hf),?_,E2 x,AJ S hS,fun C hC f hf=>h.min C hC f (p.mem_iff.mp hf)⟩
 ·exact(p.pairwise_iff (fun{a b} k x xb xa=>k x xa xb)).mpr h.dj
 ·rw[<- h.co x];exact⟨A6n p.mem_iff.mp,A6n p.mem_iff.mpr⟩
 ·show CS f hf k h.sub S hS;exact⟨f,p.mem_iff.mpr hf,k⟩
theorem ztc{β:Type}{R:BN β β}(as:∀a b,R a b ->¬R b a):∀{l m:GH},AvO ->m.Pairwise R ->(AJB l m) ->l=m
 | [],[],_,_,_=>rfl
 | [],b::m,_,_,h=>by have:=(h b).mpr zY;show EV
 | DU,[],_,_,h=>by have:=(h a).mp zY;show EV
 | DU,b::m,h1,h2,h=>by
  rw[List.pairwise_cons] at h1 h2;have e:a=b:=by
   show TU (zU.mp ((h a).mp zY)) e
   ·exact e
   ·rcases A2X b with e | q'
    ·exact e.symm
    ·show F9 (h1.1 b q') (as _ _ (h2.1 a q))
  subst e;have irr:¬R a a:=Ξ (as a a z z);rw[ztc as h1.2 h2.2 (T_ ⟨E2 hx,E2 hx⟩)]
  ·show TU (zU.mp ((h x).mp Aid)) e
   ·show N1 (M1 (h1.1 _ hx) irr)
   ·exact q
  ·show TU (zU.mp ((h x).mpr Aid)) e
   ·show N1 (M1 (h2.1 _ hx) irr)
   ·exact q
theorem Iw:∀{l U:A0},l.Nodup ->(∀x∈l,x∈U) ->l.length<=U.length
 | [],U,_,_=>EX
 | DU,U,nd,h=>by
  have nd' :=List.nodup_cons.mp nd;have ha:=h a zY;have:=Iw (l:=l) (U:=U.erase a) nd'.2 (AGF (by
   have ne:x≠a:=Ξ (j' nd'.1 hx);exact(List.mem_erase_of_ne ne).mpr (h x (zW _ hx))))
  show BC (List.length_erase_of_mem ha);have:0<U.length:=List.length_pos_of_mem ha;rw[List.length_cons];omega
theorem zma:∀{fs:MM},Aoa ->(AOp f.Nodup) ->fs.flatten.Nodup
 | [],_,_=>AV
 | UR,h,k=>by
  show AhM;rw[List.flatten_cons,List.nodup_append];show DD (k f zY) (zma h.2 fun g hg=>k g (zW _ hg)) (De a ha b hb e);subst e;show AT3 g hg ag hb;exact C_ g hg a ha ag
#where
def cQ(g:pM):ATw
 | []=>0
 | gL=>g c cs - VO d ds (g d eI) cs
abbrev Row:=PF
def dt:CA ->At ->Rat
 | [],[]=>1
 | [],BY=>0
 | UO,cs=>ApR (r c)
theorem zl6{g h:pM}:AfI (∀c ds,g c ds=h c ds) (cQ g cs=cQ h cs)
 | [],_=>rfl
 | gL,e=>by
  unfold cQ;rw[e,AGJ zl6 fun d ds=>e d eI]
theorem zs3{g h:pM}:A6u (g c ds+h c ds) (cQ g cs+cQ h cs)
 | []=>kz cQ
 | gL=>Adh cQ (AGJ zs3)
theorem Xi{g:pM}(k:Rat):A6u (k*g c ds) (k*cQ g cs)
 | []=>kz cQ
 | gL=>Adh cQ (AGJ (Xi k))
theorem zll{g:pM}:GY cs At (∀c∈cs,∀ds,g c ds=0) (cQ g cs=0)
 | [],_=>rfl
 | gL,h=>AVn cQ (h c List.mem_cons_self) (AGJ zll fun d hd ds=>h d (BMN hd) _)
def two(r s:Row)(h:ATw)(cs:At):Rat:=VO c ds (r c*AlZ ds) cs
theorem zz2(r s:Row):∀(cs:At) (h:ATw),two r s h cs= - two s r h cs
 | [],h=>by unfold two cQ;grind
 | gL,h=>by
  have key:∀r s:Row,two r s h (c::cs)=r c*ArH (s d) - s c*ArH (r d)+two r s (Τ es (h (c::es))) cs:=by
   intro r s;show r c*ArH (s d) - VO x ds (r x*AlZ eI) cs=_;have e:(fun(FC x) (ds:At)=>r x*AlZ eI)=fun x ds=>(s c* (r x*h ds))+ G_* (r x*A2y):=by
    funext x ds
    show r x* (s c*h ds - A2y)=_
    grind
   rw[e,zs3,Xi,Xi];unfold two
   grind
  rw[key r s,key s r,zz2 r s cs]
  grind
theorem z42(r s:Row)(rs:CA)(cs:At):dt (r::s::rs) cs= - dt (s::UO) cs:=zz2 r s cs (dt rs)
theorem half{x:Rat}(h:x= -x):x=0:=LN
theorem yeu{r:Row}:AsO (r∈rs) (dt Ű cs=0)
 | [],_,h=>Bn
 | s::rs,cs,h=>by
  show AVI e
  ·show N1 (half (z42 r r rs cs))
  ·rw[z42];have:dt (s::UO) cs=0:=zll fun c _ ds=>(UK (yeu h))
   rw[this];grind
def comb:AB ->CA ->Row
 | AAG,UO=>DJ (k*r j+ż)
 | _,_=>lT
theorem ylx(r s:Row)(k:Rat)(rs:CA)(cs:At):dt ((WF (r j+k*s j))::rs) cs=dt Ű cs+k*dt (s::rs) cs:=by
 show cQ (Nd ds ((r c+k*s c)*K2 ds)) cs=ApR (r c)+k*ApR (s c);rw[<- Xi,<- zs3];exact zl6 fun c ds=>LN
theorem Xj{rs:CA}{cs:At}:∀{ks:AB} {ss:CA} {r:Row},(∀s∈ss,s∈rs) ->dt (AxQ::rs) cs=dt Ű cs
 | [],ss,r,_=>by
  have:(WF (r j+comb [] ss j))=r:=Aw8
  rw[this]
 | AAG,[],r,_=>by
  have:(A2u [])=r:=Aw8
  rw[this]
 | AAG,s::ss,r,h=>by
  have e:(A2u (s::ss))=DJ (AxQ j+k*s j):=by
   funext j
   show r j+ (k*s j+comb ks ss j)=_
   grind
  rw[e,ylx,Xj (ks:=ks) fun t ht=>(AUN h t ht),yeu (h s List.mem_cons_self)]
  grind
theorem zto{r:Row}{rs:CA}{j:Nat}{cs:At}(h:∀c∈cs,r c=0):dt Ű ko=r j*K2 cs:=by
 show A6t=_;rw[zll fun c hc ds=>(UK (h c hc))]
 grind
def Xk(f:ATw):Prop:=∀pre c d post,f (pre++c::AJv)= - f (pre++d::re)
theorem zwm:∀(pre:At) (g:pM) (c d:Nat) (post:At),(∀x,Xk (g x)) ->cQ g AiA= - cQ g Ah'
 | [],g,c,d,post,h=>by
  have key:∀c d,cQ g (c::AJv)=g c (d::post) - g d (c::post)+Arp:=by
   intro c d;show g c (d::post) - (g d (c::post) - Arp)=_
   grind
  have e:cQ (fun x es=>g x (d::c::es)) post=G_*Arp:=BF Xi (zl6 fun x es=>by
    have:=h x [] d c es;simp only [List.nil_append] at this;rw[this];grind)
  show cQ g (c::AJv)= - cQ g (d::re);rw[key c d,key d c,e]
  grind
 | a::pre,g,c,d,post,h=>by
  show g a AiA - A2x AiA= - (g a Ah' - A2x Ah');rw[h a pre c d post,zwm pre (fun x ds=>g x (a::ds)) c d post fun x p c d q=>h x (a::p) c d q]
  grind
theorem zih:∀rs:CA,Xk (dt rs)
 | []=>A'Z (by cases pre<;>(unfold dt;grind))
 | UO=>A'Z (zwm pre _ c d post fun x p a b q=>(UK (zih rs p a b q)))
theorem Xl(rs:CA):∀{post pre:At} {c:Nat},c∈post ->dt rs AJU=0
 | [],_,_,h=>Bn
 | AJv,pre,c,h=>by
  show AVI e
  ·show N1 (half (zih rs pre c c post))
  ·rw[zih rs pre c d post];have:=Xl rs (pre:=pre++ [d]) h;show BC List.append_assoc;rw[AMa (pre++d::re) (pre++ ([d]++re)),this];grind
def lQ(rs:CA)(f:Row):Prop:=∃ks:AB,ks.length=rs.length/\∀j,f j=ż
theorem zzu:∀{ks ls:AB} {rs:CA},Avr ->ls.length=rs.length ->BAY (AVX=ż+AIH ls)
 | [],[],[],_,_=>Anz (kz comb)
 | AAG,l::ls,UO,h1,h2=>by
  show CS ms h3 h4 (D8 zzu ks ks ls ls rs rs) ħ AKR
  show DD ((k+l)::ms) (BG h3) AFU
  show(k+l)*r j+AVX=(k*r j+ż)+ (l*r j+AIH ls);rw[h4];grind
 | [],_,BY,h,_=>Bn
 | BY,_,[],h,_=>Bn
 | _,[],BY,_,h=>Bn
 | _,BY,[],_,h=>Bn
theorem zzr(x:Rat):HP ks AB rs CA Avr (BAY (AVX=x*ż))
 | [],[],_=>Anz (kz comb)
 | AAG,UO,h1=>by
  show BS ms h3 h4 (zzr x (ks:=ks) (rs:=rs)) ħ
  show DD ((x*k)::ms) (BG h3) AFU
  show(x*k)*r j+AVX=x* (k*r j+ż);rw[h4];grind
 | [],BY,h=>Bn
 | BY,[],h=>Bn
theorem lQ.add(A_')(h1:oa)(h2:AMU):Ů (f j+g j):=by
 obtain⟨ks,a,b⟩:=h1;obtain⟨ls,c,d⟩:=h2;show Oy ms e (zzu a c);exact⟨ms,e,DJ (by show f j+g j=_;rw[q,b,d])⟩
theorem lQ.mul{rs:CA}{f:Row}(x:Rat)(h:oa):Ů (x*f j):=by
 show Fr ks a b;show Oy ms e (zzr x a);exact⟨ms,e,DJ (by show x*f j=_;rw[q,b])⟩
theorem zqj:∀(rs:CA),∀j,AoE=0
 | [],j=>JP
 | UO,j=>by
  show 0*r j+AoE=0;rw[zqj rs j];grind
theorem lQ.zero(rs:CA):lQ rs lT:=⟨rs.map lT,AV,DJ (zqj rs j).symm⟩
theorem lQ.cons{rs:CA}{f:Row}(r:Row)(h:oa):lQ Ű f:=by
 show Fr ks a b;show DD (0::ks) (BG a) AFU
 show f j=0*r j+ż;rw[b];grind
theorem lQ.head(r:Row)(rs:CA):lQ Ű r:=by
 show DD (1::rs.map lT) AV AFU
 show r j=1*r j+AoE;rw[zqj];grind
theorem lQ.mem{r:Row}:GY rs CA (r∈rs) (lQ rs r)
 | s::rs,h=>by
  show AVI e
  ·show N1 (lQ.head r rs)
  ·exact(lQ.mem h).cons s
theorem lQ.congr(A_')(h:oa)(e:∀j,g j=f j):AMU:=by
 show Fr ks a b;exact⟨ks,a,DJ (Gc e b)⟩
theorem z5j{rs:CA}:HP cs At g (Nat ->Nat ->At ->Rat) (∀x ds,Ů (g j x ds)) (Ů (cQ (g j) cs))
 | [],g,_=>lQ.zero rs
 | gL,g,h=>by
  have h1:=h c cs;have h2:=(z5j (cs:=cs) (g:=fun j x ds=>g j x eI) fun x ds=>h x eI).mul (-1);exact AOJ h1.add h2 (by
   show g j c cs - VO d ds (g j d eI) cs=_
   grind)
theorem z1d:∀(rs:CA) (cs:At),Ů (K2 ko)
 | [],cs=>Anz JP
 | UO,cs=>by
  have h1:=(lQ.head r rs).mul (dt rs cs);have h2:lQ Ű (DJ (BKl x (r x))):=z5j fun x ds=>(((z1d rs ds).cons r).mul (r x));exact AOJ h1.add (h2.mul G_) (by
   show A6t=_
   grind)
theorem z5m(rs:CA):∀(n:Nat) (pre post:At),pre.length=n ->Ů (K2 Ah_)
 | 0,pre,post,h=>by
  have:=List.length_eq_zero_iff.mp h;show T';exact z1d rs post
 | n+1,pre,post,h=>by
  have hne:pre≠ []:=Ξ (by subst z;cases h)
  have e:=List.dropLast_concat_getLast hne;have ih:=(z5m rs n pre.dropLast (AyJ::post) (HK h)).mul (-1)
  refine ih.congr AFU;have e2:pre.dropLast++AyJ::ARc=pre++ARc:=by
   have:=w4 (· ++j::post)
   simpa only [List.append_assoc,List.singleton_append] using this
  rw[<- e2,zih rs pre.dropLast (pre.getLast hne) j post]
  grind
def vH(x:Rat):Prop:=∃z:Int,x=ATV
theorem vH.sub(A5Y):vH (x - y):=by
 show bS a h1;show bS b h2;exact ARO (a - b) Rat.intCast_sub
theorem vH.mul(A5Y):vH (x*y):=by
 show bS a h1;show bS b h2;exact ARO (a*b) Rat.intCast_mul
theorem z4y{g:pM}:AfI (∀c ds,vH (g c ds)) (vH (cQ g cs))
 | [],_=>⟨0,JP⟩
 | gL,h=>(h c cs).sub (AGJ z4y fun d ds=>h d eI)
theorem z5r:AsO (∀r∈rs,AKK r) (vH (dt rs cs))
 | [],[],_=>⟨1,JP⟩
 | [],BY,_=>⟨0,JP⟩
 | UO,cs,h=>z4y fun c ds=>BEg (z5r fun s hs=>A0v)
theorem zt2{rs:CA}{cs:At}{f:Row}(h:oa)(z:AYg)(d:K2 cs≠0)(j:Nat):f j=0:=by
 obtain⟨ks,_,e⟩:=h;show Ard;have h2:dt (f::rs) ko=dt BMz ko:=by
  show Aby (j::cs) lT;show eS
  congr 2
  funext i
  rw[e];grind
 have h3:dt BMz ko=0:=zll fun c _ ds=>(AWk (0*K2 ds) 0)
 rw[h3,h1] at h2;show Aj3 h2
 ·exact q
 ·show F9 q d
theorem yf5(BHm)(hf:Al4)(hg:AMU)(z:AYg)(wa:AKK a)(wr:AkG)(j:Nat):vH (K2 cs*f j):=by
 obtain⟨ks,_,e⟩:=hg;show Ard;have h2:dt (f::rs) ko=AmK:=by
  show Aby (j::cs) a;show eS
  congr 2
  funext i
  rw[hf,e]
 rw[Rat.mul_comm,<- h1,h2];exact z5r fun r hr=>by
  show zC hr
  ·subst q;exact wa
  ·exact wr r q
theorem yjg{rs:CA}{pre post:At}{c:Nat}{f:Row}(h:oa)(one:f c=1)(z:Azj)(wr:AkG)(d:K2 AJU≠0)(j:Nat):vH (Aiy):=by
 have hl:=z5m rs _ pre post rfl;have e:dt rs Ah_=Aiy:=by
  have key:=zt2 (cs:=pre++re) BBX AYE d j
  ·grind
  ·by_cases hc:x=c
   ·subst hc;rw[one];grind
   ·have hx' :x∈AeZ:=by
     show AK3
     ·exact zP _ q
     ·show zC q
      ·show F9 q hc
      ·exact zQ _ q
    rw[z x hx'];have:dt rs Ath=0:=by
     show OR hx' q q
     ·show BS p1 p2 rfl List.append_of_mem q;have:=D8 (Xl rs) pre p1 post (p2++x::post) c x Χ
      rw[List.append_assoc];exact this
     ·exact Xl rs q
    rw[this];grind
 rw[<- e];exact z5r wr
structure Low (rs:CA) (cs:At) (a f:Row):Prop where
 g:∃g:Row,AMU/\Al4
 z:AYg
structure Up (rs:CA) (cs:At) (c:Nat) (f:Row):Prop where
 l:oa
 o:f c=1
 z:∀x∈cs,x≠c ->f x=0
theorem Low.dt{rs:CA}{cs:At}{a f:Row}(h:AOW f)(p:Nat):HM.dt đ ů=A6s:=by
 obtain⟨⟨g,⟨ks,_,e⟩,hf⟩,z⟩:=h;have h1:HM.dt (f::rs) ů=A6s:=zto z;have h2:HM.dt (f::rs) ů=HM.dt đ ů:=by
  show Aby (p::cs) a;show eS
  congr 2
  funext i
  rw[hf,e]
 rw[<- h2,h1]
theorem Low.lin(AsI){a f:Row}(h:AOW f):lQ đ f:=by
 obtain⟨⟨g,l,hf⟩,_⟩:=h;exact((lQ.head a rs).add (l.cons a)).congr hf
theorem Low.step{rs:CA}{cs:At}{a b q f:Row}{p:Nat}(hq:AOW q)(hp:q p≠0)(h:Low rs cs b f):Low đ ů b A4z:=by
 obtain⟨g,l,hf⟩:=h.g;show YU (B1 ((l.cons a).add (hq.lin.mul (AVZ))) (DJ (by show Aye=b j+ (g j+ AVZ*q j);rw[hf j];grind))) c hc
 show Ps hc e hc
 ·show A0t
 ·rw[h.z c hc,hq.z c hc];grind
theorem Up.step(AsI){a q f:Row}{p c:Nat}(hq:AOW q)(hp:q p≠0)(h:Up rs cs c f)(hc:c∈cs):Up đ ů c A4z:=by
 show fN (AOJ (h.l.cons a).add (hq.lin.mul (AVZ)) (AWk Aye (f j+ AVZ*q j))) A3P
 ·rw[h.o,hq.z c hc];grind
 ·show Ao4
  ·show A0t
  ·rw[h.z x hx n,hq.z x hx];grind
theorem Up.new(AsI){a q:Row}{p:Nat}(hq:AOW q)(hp:q p≠0):Up đ ů p (WF (q j/q p)):=by
 show fN (AOJ hq.lin.mul (1/q p) (AWk (q j/q p) (1/q p*q j))) A3P
 ·grind
 ·show Ao4
  ·show F9 e n
  ·rw[hq.z x hx];grind
def cols:GT At
 | 0=> []
 | p+1=>p::ADJ
theorem jR{x:Nat}:∀{p:Nat},x∈ADJ↔x<p
 | 0=>BG cols
 | p+1=>by
  unfold cols;rw[List.mem_cons,jR];omega
theorem zl9:∀p,d6 cols p
 | 0=>List.nodup_nil
 | p+1=>CI (Aih (D4 (GB (jR.mp h))) (zl9 p))
def iV(A:OT)(k:Nat):Row:=DJ (An (A k j))
theorem z01(A:OT)(k j:Nat):vH (iV A k j):=C9
structure BT (n:Nat) (A:OT) (p:Nat) (d:Int) (tb:OT) (rs:CA) (fs:ABv) (ix:OY):Prop where
 w:∀r∈rs,A4m
 de:AEq=AbD
 nz:œ
 up:∀i,i<p ->Up rs AVS i (fs i)
 lo:AN5 p (ix i<n/\Low rs AVS (iV A (ix i)) (fs i))
 all:∀k,k<n ->iV A k∈rs\/∃i,p<=i/\i<n/\ix i=k
 t:xi (∀j,An (tb i j)=d*fs i j)
theorem yco(n:Nat)(A:OT):BT n A 0 1 A [] (iV A) id:=by
 refine⟨fun r h=>(by cases h),?_,AS,fun i h=>(AuN h),fun i _ h=>⟨h,B1 (lQ.zero []) (DJ (AWk (iV A i j) (iV A i j+0))),fun c h=>Bn⟩,fun k h=> .inr (AEe k EX h),Ν i _ j⟩
 ·rfl
 ·show An AFZ=1* An AFZ
  grind
theorem BT.dz(A'Q):AbD≠0:=BF h.de (Ξ (h.nz (by show AJm)))
theorem yit{n:Nat}{rs:CA}{p:Nat}{f:Row}(wr:AkG)(dz:AbD≠0)(h:(∃c,c<p/\Up rs AVS c f)\/∃a,(AKK a)/\Low rs AVS a f)(j:Nat):vH (AbD*f j):=by
 rcases h with ⟨c,hc,u⟩ | ⟨a,wa,l⟩
 ·show NW pre post (List.append_of_mem (jR.mpr hc));have nd:=zl9 p;rw[e] at nd;have key:=D8 (yjg (rs:=rs) (pre:=pre)) post post c c f f u.l u.o AYE wr (BF e dz) j
  ·rw[e];exact key
  ·refine u.z x ?_ nK
   ·show BCv
   ·subst z;rw[List.nodup_append] at nd;show AK3
    ·exact nd.2.2 x q x zY rfl
    ·exact ABn nd.2.1 q
 ·obtain⟨g,lg,hf⟩:=l.g;exact yf5 hf lg l.z wa wr j
def sW(p s i:Nat):Nat:=XU p s (XU s p i)
def nextT(p s:Nat)(d:Int)(tb:OT):OT:=fun i j=>(XU p (tb s j) BFm)
theorem yie{x d z:Int}(d0:œ)(e:x=d*z):x.fdiv d=z:=by
 rw[e,Int.mul_comm,Int.mul_fdiv_cancel _ d0]
theorem QB{a b:Int}(h:An a=An b):a=b:=ALH h
theorem BT.step{n p s:Nat}(Asr)(h:vv)(ps:p<=s)(sn:s<n)(nz:tb s p≠0):
  ∃rs' fs' QC,BT n A (p+1) (tb s p) (nextT p s d tb) rs' fs' QC :=by
 obtain⟨hk,lq⟩:=h.lo s ps sn;have ts:ATW=d*AMq:=h.t s sn p;show UM qz AMq (nz (QB (by rw[ts,z];grind)))
 show UM d0 AEq (h.nz (QB (FB z)))
 let rs' :CA:=iV A (ix s)::rs
 let fs' :ABv:=CO (XU p (WF (AWm/AMq)) (L9 j (fs Ğ j) (fs Ğ p/AMq*AWm)))
 let QC :OY:=CO (ix (sW p s i))
 have dd:dt rs' AnK=ATW:=by
  show dt (iV A (ix s)::rs) AnS=_;rw[lq.dt p,<- h.de,ts,Rat.mul_comm]
 show B3 w' r rs' A4m r hr (by
  show zC hr
  ·exact B1 hk q
  ·exact h.w r q)
 have wr' :∀r∈rs',AKK r:=fun r hr j=>by show AEi k (w' r hr);exact z01 A k j
 show UM nz' ATW (nz (QB (FB z)))
 have up' :∀i,i<p+1 ->Up rs' AnK i (fs' i):=fun i hi=>by
  show GG i p
  ·subst e;show Up rs' (i::cols i) i (AI (i=i) _ _);show WZ;exact Up.new lq qz
  ·have hip:i<p:=ω
   have es:Aa1=i:=by unfold sW;rw[AY e,UH]
   show Up rs' AnS i Axb;rw[AY e,es];exact Up.step lq qz (h.up i hip) (jR.mpr hip)
 have Xm :AN5 (p+1) (QC i<n/\Low rs' AnK (iV A (QC i)) (fs' i)):=fun i hi hn=>by
  have hs:p<=Aa1/\Aa1<n:=by
   unfold sW;show Ap χ
   split<;>omega
  obtain⟨g1,g2⟩:=h.lo _ hs.1 hs.2;show CD g1;show Low rs' AnS _ Axb;show Ap χ
  exact Low.step lq qz g2
 refine⟨rs',fs',QC,w',dd.symm,nz,up',Xm,AJ k hk',Ν i hi j⟩
 ·rcases h.all k hk' with q | ⟨i,q1,q2,q3⟩
  ·show CB (zW _ q)
  ·show GG i s
   ·show N1 (.inl (BF q3 zY))
   ·by_cases ep:i=p
    ·subst ep;show O_ ⟨s,ω,sn,?_⟩
     show ix (sW i s s)=k;unfold sW;rw[AY χ,B4];exact q3
    ·show O_ ⟨i,ω,q2,?_⟩
     show ix Ğ=k;unfold sW;show w9 ep e;exact q3
 ·show GG i p
  ·subst e;show JE (XU i (tb s j) _)=An (tb s i)* (AI (i=i) (WF (AWm/fs s i)) _) j;rw[B4,B4,h.t s sn j,ts]
   grind
  ·have hs:Aa1<n:=by unfold sW;show Ap e;split<;>omega
   have iz:vH (dt rs' (cols (p+1))*fs' i j):=yit (n:=n) wr' (B' dd nz') (by
    show FS (i<p)
    ·show CB ⟨i,ω,up' i χ⟩
    ·obtain⟨g1,g2⟩:=Xm i χ hi
     exact .inr (B1 (z01 A _) g2)) j
   obtain⟨z,hz⟩:=iz;rw[dd] at hz;have hf:fs' i j=fs Ğ j - fs Ğ p/AMq*AWm:=by
    show(XU p _ _:Row) j=_;show Ap e
   show JE (XU p _ BFm)=ATW*fs' i j;rw[AY e,hz]
   congr 1
   refine yie h.nz (QB ?_);rw[Rat.intCast_sub,Rat.intCast_mul,Rat.intCast_mul,Rat.intCast_mul,h.t _ hs j,h.t _ hs p,h.t s sn j,<- hz,hf,ts]
   grind
def dN:pr (PF) Rat
 | 0,_=>0
 | n+1,g=>dN n g+g n
theorem Nh{g h:PF}:GY n Nat (xi (g i=h i)) (dN n g=dN n h)
 | 0,_=>rfl
 | n+1,e=>nv dN (Nh fun i hi=>e i χ) (e n χ)
theorem z1z{g:PF}{c:Nat}:∀{n:Nat},c<n ->(∀i,i<n ->i≠c ->g i=0) ->dN n g=g c
 | n+1,hc,h=>by
  unfold dN;show GG c n
  ·subst e;have:dN c g=0:=by
    rw[Nh (h:=lT) (ky (h i χ χ))]
    clear h hc;induction c with
    | zero=>rfl
    | succ c ih=>show Apf
   rw[this];grind
  ·rw[z1z (n:=n) χ fun i hi n' =>h i χ n',h n χ (Ξ (e z.symm))];grind
theorem z51{rs:CA}{fs:ABv}(a:PF):GY p Nat (∀c,c<p ->lQ rs (fs c)) (Ů (dN p (rV (a c*fs c j))))
 | 0,_=>lQ.zero rs
 | p+1,h=>AOJ (z51 a (AGo (h c χ))).add ((h p χ).mul (a p)) rfl
theorem BT.span{n p:Nat}(Asr)(h:vv){f:Row}(l:oa)(j:Nat):f j=dN p (rV (f c*fs c j)):=by
 have hl:=l.add ((z51 (rs:=rs) (fs:=fs) f (p:=p) (AGo (h.up c hc).l)).mul G_);have key:=zt2 (cs:=ADJ) hl (Nd hc ?_) h.dz j
 ·grind
 ·have hc' :=jR.mp hc;rw[z1z hc' fun i hi ni=>(UK ((h.up i hi).z c hc (Ne.symm ni))),(h.up c hc').o]
  grind
theorem BT.eqn(Afl){ix:OY}(h:vv){j:Nat}(z:AN5 p (fs i j=0)){k:Nat}(hk:k<n):
  iV A k j=dN p (vx (fs c j)):=by
 rcases h.all k hk with q | ⟨i,q1,q2,rfl⟩
 ·exact h.span (lQ.mem q) j
 ·obtain⟨_,l⟩:=h.lo i q1 q2;obtain⟨g,lg,hf⟩:=l.g;have h1:=h.span lg j;have h2:∀c,c<p ->g c= - iV A (ix i) c:=fun c hc=>by
   have:=hf c;show BC (l.z c (jR.mpr hc))
   grind
  have h3:=hf j;rw[z i q1 q2] at h3;have h4:(dN p (rV (g c*fs c j)))= - dN p (rV (iV A (ix i) c*fs c j)):=by
   have neg:BDe:=fun m u=>by
    induction m with
    | zero=>unfold dN;grind
    | succ m ih=>show Apf
   rw[<- neg];exact Nh fun c hc=>(UK (h2 c hc))
  rw[h4] at h1
  grind
theorem BT.sol{n:Nat}{A:OT}{d:Int}(BKW)(h:BJH n){k:Nat}(hk:k<n)(j:Nat):iV A k j=dN n (vx (fs c j)):=
 h.eqn (fun i h1 h2=>ω) hk
theorem BT.diag{n p:Nat}(Asr)(h:vv){i:Nat}(hi:i<p)(hn:i<n):tb i i=d:=by
 have:=h.t i hn i;show BC (h.up i hi).o;exact QB (UK this)
theorem BT.stuck(Afl){ix:OY}(h:vv)(pn:p<n)(z:AN5 p (tb i p=0)):
  ∃x:PF,x p=1/\∀k,k<n ->(dN n (vx (x c)))=0:=by
 show gN d0 (AEq≠0) (h.nz (QB Aii))
 have z' :AN5 p (fs i p=0):=fun i h1 h2=>by
  have:=h.t i h2 p;show BC (z i h1 h2);show TU (Rat.mul_eq_zero.mp (show AEq*fs i p=0 by show eS;rfl)) q
  ·show F9 q d0
  ·exact q
 show DD (rV (if c<p then - AKn else AfN c)) AV Alp
 have e:=h.eqn z' hk;have cut:∀m,p<m ->m<=n ->(dN m BDH)=(dN p (vx (- AKn)))+iV A k p:=fun m=>by
  induction m with
  | zero=>intro hm;omega
  | succ m ih=>
   intro hm hn;show(dN m BDH)+iV A k m* (AI (m<p) (- fs m p) (AfN m))=_;by_cases q:m=p
   ·subst q;rw[AY χ,B4]
    rw[Nh (h:=vx (- fs c m)) (AGo (by show Db hc))]
    grind
   ·rw[ih χ χ,UH,LH];grind
 rw[cut n pn (Nat.le_refl _),e];have neg:(dN p (vx (- AKn)))= - dN p (vx AKn):=by
  have:BDe:=fun m u=>by
   induction m with
   | zero=>unfold dN;grind
   | succ m ih=>show Apf
  show eS;exact Nh fun c _=>LN
 rw[neg];grind
def aC{α:Type}:A0 ->(DS) ->Rat
 | [],_=>0
 | DU,f=>f a+Pc
section
variable{α β:Type}
theorem lZ{f g:DS}:APF (f a=g a) (aC l f=aC l g)
 | [],_=>rfl
 | DU,h=>nv aC Awu (lZ fun b hb=>A1b)
theorem Tw{f g:DS}:AGk (Τ a (f a+g a)) (Pc+aC l g)
 | []=>AVt
 | DU=>Api Tw
theorem K5{f g:DS}:AGk (L9 a (f a) (g a)) (Pc - aC l g)
 | []=>AVt
 | DU=>Api K5
theorem J5(k:Rat){f:DS}:AGk (Τ a (k*f a)) (k*Pc)
 | []=>AVt
 | DU=>Api (J5 k)
theorem Ni{f:DS}:APF (f a=0) (aC l f=0)
 | [],_=>rfl
 | DU,h=>AVn aC Awu (Ni fun b hb=>A1b)
theorem Nj(k:Rat):AGk (BQ k) (BL4*k)
 | []=>by
  show nE=AMu*k;have:AMu=0:=rfl;rw[this];grind
 | DU=>by
  show k+aC l (BQ k)=sL (l.length+1)*k;rw[Nj k];have:sL (l.length+1)=BL4+1:=ALH rfl
  rw[this];grind
theorem Xn{f:α ->β ->Rat}{m:GH}:AGk (Τ a ArK) (aC m (RY (AML (f a b))))
 | []=>CI (Tb Ni AUt)
 | DU=>by
  show ArK+aC l (Τ a ArK)=aC m (RY (f a b+AML (f a b)));rw[Xn (l:=l),<- Tw]
theorem zqq{f:DS}:∀{l m:A0},aC (l++m) f=Pc+AWT
 | [],m=>by show aC m f=0+AWT;grind
 | DU,m=>by show f a+aC (l++m) f=(f a+Pc)+AWT;rw[zqq];grind
theorem z8b{f:DS}{l m:A0}(h:l.Perm m):aC l f=AWT:=by
 induction h with
 | nil=>rfl
 | cons x _ ih=>show f x+_=f x+_;rw[ih]
 | swap x y l=>show f y+ (f x+Pc)=f x+ (f y+Pc);grind
 | trans _ _ h1 h2=>rw[h1,h2]
theorem J6{f:DS}{p:xA}:AQk (aC (l.filter p) f=BCH)
 | []=>rfl
 | DU=>by
  rw[List.filter_cons];show _=(AI ĳ (f a) 0)+BCH;rw[<- J6 (l:=l)];by_cases h:ĳ
  ·rw[wS,wS];rfl
  ·rw[e9,e9];grind
theorem J7{f:He}{g:AUu}:AQk (aC (l.map g) f=AML (f (g a)))
 | []=>rfl
 | DU=>by show f (g a)+_=f (g a)+_;rw[J7]
theorem Xo{f:DS}:APF (0<=f a) (0<=Pc)
 | [],_=>CI Rat.le_refl
 | DU,h=>by
  have h1:=h a zY;have h2:=Xo (E9 Asj);show 0<=f a+Pc
  grind
theorem Tz{f:DS}:AQk ((ñ (0<=f a)) ->aC l f=0 ->∀a∈l,f a=0)
 | DU,h,e=>by
  have h1:=h a zY;have h2:=Xo (E9 Asj);have e' :f a+Pc=0:=e;have e1:f a=0:=by grind
  have e2:aC l f=0:=LN
  intro b hb;show zC hb
  ·rw[q];exact e1
  ·exact Tz (II Asj) e2 b q
 | [],_,_=>fun a h=>Bn
#where
section
variable{α:Type}[AMW]
theorem TF{f:DS}{s hs:A0}(ns:s.Nodup)(nh:hs.Nodup)(sub:jS s hs):aC hs (MO (IM js (f h)))=aC s f:=by
 have p:(hs.filter (D4 (Μ js))).Perm s:=by
  rw[List.perm_ext_iff_of_nodup (nh.filter _) ns];intro a;rw[List.mem_filter];exact⟨D4 (BLW h.2),D4 ⟨sub a h,decide_eq_true h⟩⟩
 rw[<- z8b p,J6];exact KA a (by by_cases h:a∈s<;>simp [h])
def cN(s:A0)(x:DS):Rat:=AcK (aC s x)
theorem z41{s:A0}(h:s≠ [])(x:DS):AgM*Ë=aC s x:=by
 have z:AgM≠0:=by
  have:=List.length_pos_iff.mpr h;intro e;have:s.length=0:=ALH e
  omega
 unfold cN;rw[Rat.div_def,Rat.mul_comm,Rat.mul_assoc,ň z];grind
theorem zs4(s:A0)(x:DS):aC s AxW=0:=by
 rw[K5,Nj];by_cases h:s= []
 ·subst h;show nE - AMu*_=0;have:AMu=0:=rfl;rw[this];grind
 ·rw[z41 h];grind
def qw(S:MM)(x:DS)(h:α):Rat:=A2L
theorem z0m(AsH)(ns:AMn)(nh:hs.Nodup)(sub:AYG)(c x:DS):aC hs (Τ h (c h*AGs))=aC S fun s=>aC s (D4 (c h* UT)):=by
 unfold qw;show UP e hs h (c h) A2L (aC hs (D4 (AKt (c h* UT)))) (KA h (BF J5 (KA s (by split<;>grind))))
 rw[e,Xn];exact lZ fun s hS=>A5m
theorem ygm(AsH)(ns:AMn)(nh:hs.Nodup)(sub:AYG)(x:DS):aC hs (qw S x)=0:=by
 have e:=z0m ns nh sub (BQ 1) x;show UP e1 hs h 1 AGs BEe (KA h LN)
 rw[<- e1,e];exact Ni fun s _=>by
  show UP e2 s h 1 UT (aC s AxW) (KA h LN)
  rw[e2,zs4]
theorem zlu(r:Rat):0<=r*r:=by
 show Pf (Rat.le_total (a:=0) (b:=r))
 ·exact Rat.mul_nonneg h h
 ·have h' :0<= -r:=LN
  have:=Rat.mul_nonneg h' h'
  grind
theorem z7u{r:Rat}(h:r*r=0):r=0:=by
 rcases Rat.mul_eq_zero.mp h with h | h<;>exact h
theorem ya7{S:MM}{hs:A0}(ns:AMn)(nh:hs.Nodup)(sub:AYG){x:DS}(z:∀h∈hs,AGs=0):à (∀h∈s,x h=Ë):=by
 have e:=z0m ns nh sub x x;rw[Ni fun h hh=>(UK (z h hh))] at e
 have e2:∀s,aC s (Τ h (x h* UT))=aC s (D4 (UT* UT)):=by
  intro s;have a1:=zs4 s x;show UP a2 s h UT UT (aC s (D4 (x h* UT - Ë* UT))) (KA h LN)
  rw[a2,K5,J5,a1];grind
 have e3:aC S (Τ s (aC s (D4 (UT* UT))))=0:=Θ e (KA s (Tb e2 s))
 intro s hs h hh;have h1:=Tz (Nn s (Xo fun h _=>zlu _)) e3 s hs;have h2:=Tz (Nn h (zlu _)) h1 h hh;have:=z7u h2
 grind
def jf(S:MM)(h:α):Rat:=AKt 1
theorem zsa(S:MM)(h:α):0<=yk:=Xo fun s _=>BLp
theorem yf0{S:MM}{h:α}(i:∃s∈S,js):0<yk:=by
 obtain⟨s,hs,hh⟩:=i;refine Rat.lt_of_le_of_ne (zsa S h) nK;have:=Tz (l:=S) (f:=fun s=>(IM js (An 1))) (Nn s BLp) z.symm s hs
 show BC (BD hh);exact AUj this
theorem z8v{S:MM}{h0:α}{hs:A0}(ns:AMn)(nh:(AK8).Nodup)(sub:à (jS s ā))(on:AMM (∃s∈S,js))
  (min:∀C:DB α,(∀s∈S,APg s s) ->(∃x∈ā,C x) ->AQq ā)
  {x:DS} (z:∀h∈hs,AGs=0) (w:aC AK8 (Τ h (yk*x h))=0):AMM (x h=0):=by
 have z' :AMM (AGs=0):=by
  have e:=ygm ns nh sub x;have e' :qw S x h0+BEe=0:=e;rw[Ni z] at e';intro h hh;show zC hh
  ·rw[q];grind
  ·exact z h q
 have ev:=ya7 ns nh sub z';have same:AMM (x h=x h0):=min (MO (x h=x h0)) (fun s hS hx b hb=>by
  obtain⟨a,ha,ea⟩:=hx;have ea' :x a=x h0:=ea;rw[ev s hS b hb,<- ev s hS a ha,ea']) (Hc h0 zY)
 show UP e1 AK8 h yk (x h) (x h0*BBV) (BF J5 (lZ fun h hh=>(UK (same h hh))))
 rw[e1] at w;have pos:BBV≠0:=fun zz=>by
  have:=Tz (Nn h (zsa S h)) zz h0 zY;have p:=yf0 (on h0 zY);rw[this] at p;exact AUj p
 show Aj3 w
 ·intro h hh;rw[same h hh,q]
 ·show F9 q pos
def fP(S:MM)(h o:α):Rat:=(AI (h=o) yk 0) - AIl AHV AWH
theorem z5v(AsH)(ns:AMn)(nh:hs.Nodup)(sub:AYG)(x:DS){h:α}(hh:fq):aC hs (Τ o (fP S h o*x o))=AGs:=by
 show UP e1 hs o (fP S h o) (x o) (aC hs (Τ o (IM (o∈ [h]) (yk*x o))) - aC hs fun o=>(AIl AHV ANK)) (by
  rw[<- K5];show AFz o;unfold fP;have e2:(aC S fun s=>(IM AHV ANK))=x o*AIl AHV AWH:=BF J5 (KA s (by split<;>first | (simp only [Rat.div_def];grind) | grind))
  rw[e2];by_cases q:h=o
  ·subst q;rw[B4,AvU rfl];grind
  ·show w9 q A2m;grind)
 rw[e1,TF Χ nh fun y hy=>(AFb hy hh),Xn]
 show UP e3 [h] o yk (x o) (AKt (x h)) (by
  show yk*x h+0=_;unfold jf;have:(aC S fun s=>(IM js (x h)))=x h*AKt 1:=BF J5 (KA s (by split<;>grind))
  rw[this];grind)
 rw[e3,<- K5];refine lZ (AJ s hS);show FS js
 ·rw[FM,FM]
  congr 1
  have e4:aC hs (Τ o (IM AHV ANK))=aC hs fun o=>(IM (o∈s) ANK):=KA o (BG q)
  rw[e4,A5m];unfold cN;have e5:aC s (Τ o ANK)=AgM⁻¹*aC s x:=BF J5 (KA o (UK Rat.div_def))
  rw[e5,Rat.div_def];grind
 ·rw[LH,LH,Ni fun o _=>(BG q)];grind
variable{σ:Type}
def m8(k:AYy)(y:AZ_)(S:ATG)(h:α):Rat:=A0k
theorem yce{k:AYy}{S:ATG}{hs:A0}(ns:A8q)(nh:hs.Nodup)(sub:à (jS (k s) hs))(y:AZ_):aC hs (m8 k y S)=0:=by
 show aC hs (MO A0k)=0;rw[Xn];refine Ni (AJ s hS);rw[TF (f:=D4 BLR) (ns s hS) nh (sub s hS)];exact zs4 _ _
theorem z9r(s:A0)(x y:DS):cN s (L9 o (x o) (y o))=Ë - cN s y:=by
 unfold cN;rw[K5,Rat.div_def,Rat.div_def,Rat.div_def];grind
theorem ycd{k:AYy}(y:AZ_)(x:DS)(S:ATG)(h:α):AO8 APM=AO8 y - qw (S.map k) x h:=by
 unfold m8 qw;rw[J7,<- K5];exact KA s (by
  rw[z9r];split<;>grind)
theorem ya8{k:AYy}{S:ATG}{h0:α}{hs:A0}(ns:A8q)(nh:(AK8).Nodup)(sub:à (jS (k s) ā))(y:AZ_)(x:DS)
  (e:∀h∈hs,qw (S.map k) x h=AO8 y):AMM (AO8 APM=0):=by
 show B3 e' h hs (AO8 APM=0) h hh (by rw[ycd,e h hh];grind)
 have q:=yce ns nh sub fun s o=>y s o - x o;have q' :m8 k APM S h0+aC hs (m8 k APM S)=0:=q;rw[Ni e'] at q';intro h hh;show Ps hh r r
 ·rw[r];grind
 ·exact e' h r
theorem zvl{β:Type}[X9 β](f:He):∀(l:GH),dN l.length (WF (f (l.getD j default)))=Pc:=by
 intro l;have key:∀(m:GH) n,n<=m.length ->dN n A0N=aC (m.take n) f:=by
  intro m n;induction n with
  | zero=>show MW
  | succ n ih=>
   intro h;have e:m.take (n+1)=m.take n++ [m[n]]:=i9 List.take_succ YN
   show dN n A0N+f (m.getD n default)=_;rw[ih χ,e,zqq]
   have:m.getD n default=m[n]:=Ah5 YN
   rw[this];show _+f m[n]=_+ (f m[n]+0)
   grind
 have:=key l l.length (zN _)
 show BM0
#where
def ZB(B:Nat)(x:Rat):Prop:=∃z:Int,x=ATV/\AjI
theorem ZB.sub(BEW):ZB (A+B) (x - y):=by
 show Ď a ha h1;show Ď b hb h2;exact⟨a - b,BG Rat.intCast_sub,ω⟩
theorem ZB.mul(BEW):ZB (A*B) (x*y):=by
 show Ď a ha h1;show Ď b hb h2;exact⟨a*b,BG Rat.intCast_mul,Θ Int.natAbs_mul (Nat.mul_le_mul ha hb)⟩
theorem ZB.mono{A B:Nat}{x:Rat}(h:ZB A x)(l:A<=B):ZB B x:=by
 show Fr a rfl ha;exact JO a (zO ha l)
theorem ZB.zero(B:Nat):ZB B 0:=JO 0 EX
theorem yeg{B:Nat}{g:pM}:A'J (ZB B (g c ds)) (ZB (cs.length*B) (cQ g cs))
 | [],_=>CI (ZB.zero _)
 | gL,h=>by
  have h1:=(h c cs rfl).sub (yeg (cs:=cs) (g:=fun d ds=>g d eI) BFI)
  refine ZB.mono h1 ?_;show Akt;omega
theorem yb6{M N:Nat}:V_ rs CA cs At (∀r∈rs,AsQ) (cs.length<=N) (ZB (Aj5) (dt rs cs))
 | [],[],_,_=>⟨1,JP,AV⟩
 | [],BY,_,_=>CI (ZB.zero _)
 | UO,cs,h,l=>by
  have h1:ZB (cs.length* (M* Aj5)) (cQ (Nd ds (r c*K2 ds)) cs):=yeg fun c ds e=>BEg (yb6 (fun s hs=>A0v) χ)
  refine ZB.mono h1 ?_;rw[List.length_cons,Nat.pow_succ,Nat.mul_comm (Aj5),Nat.mul_assoc];exact AgK l
theorem zj3{g:pM}:A'J (g c ds=0) (cQ g cs=0)
 | [],_=>rfl
 | gL,h=>AVn cQ (h c cs rfl) (AGJ zj3 BFI)
theorem yfe:AsO (rs.length≠cs.length) (dt rs cs=0)
 | [],[],h=>Ant
 | [],BY,_=>rfl
 | UO,cs,h=>zj3 fun c ds e=>(UK (yfe (by simp at h;omega)))
theorem Xp:∀p,B2 cols p=p
 | 0=>rfl
 | p+1=>nv cols List.length_cons (Xp p)
theorem BT.len(A'Q):rs.length=p:=by
 have z:=h.dz;show TU (Nat.decEq rs.length (B2 cols p)) q
 ·exact e_ yfe q z
 ·rw[q,Xp]
theorem yje(BHm)(hf:Al4)(hg:AMU)(z:AYg)(j:Nat):K2 cs*f j=AmK:=by
 obtain⟨ks,_,e⟩:=hg;show Ard;have h2:dt (f::rs) ko=AmK:=by
  show Aby (j::cs) a;show eS
  congr 2
  funext i
  rw[hf,e]
 rw[Rat.mul_comm,<- h1,h2]
theorem ym2{rs:CA}{pre post:At}{c:Nat}{f:Row}(h:oa)(one:f c=1)(z:Azj)(d:K2 AJU≠0)(j:Nat):Aiy=K2 Ah_:=by
 have hl:=z5m rs _ pre post rfl;have key:=zt2 (cs:=pre++re) BBX AYE d j
 ·grind
 ·by_cases hc:x=c
  ·subst hc;rw[one];grind
  ·have hx' :x∈AeZ:=by
    show AK3
    ·exact zP _ q
    ·show zC q
     ·show F9 q hc
     ·exact zQ _ q
   rw[z x hx'];have:dt rs Ath=0:=by
    show OR hx' q q
    ·show BS p1 p2 rfl List.append_of_mem q;have:=D8 (Xl rs) pre p1 post (p2++x::post) c x Χ
     rw[List.append_assoc];exact this
    ·exact Xl rs q
   rw[this];grind
theorem zzk{z w:Int}{B:Nat}(e:ATV=An w)(h:w.natAbs<=B):AjI:=Lm QB e h
theorem BT.small(BIo){ix:OY}(h:vv)(hA:Arl A M)(hp:p+1<=N)(h1:1<=N*M){i:Nat}(hi:i<n)(j:Nat):(tb i j).natAbs<=(N*M)^ (p+1):=by
 have wr:∀r∈rs,AsQ:=fun r hr j=>by
  show ď k hk (h.w r hr);exact JO (A k j) (hA k hk j)
 have hl:=h.len;have pw:(N*M)^p<=(N*M)^ (p+1):=Nat.pow_le_pow_right h1 χ
 have ht:=h.t i hi j;rw[h.de] at ht;show FS (i<p)
 ·have u:=h.up i q;show NW pre post (List.append_of_mem (jR.mpr q));have nd:=zl9 p;have dz:=h.dz;have ll:=Xp p;rw[e] at nd dz ht ll;have key:=D8 (ym2 (rs:=rs) (pre:=pre)) post post c i f (fs i) u.l u.o AYE dz j
  ·rw[key] at ht;obtain⟨z,ez,hz⟩:=A8' (pre++ARc) (by simp at ll⊢;omega)
   rw[hl] at hz;rw[ez] at ht;exact zO (zzk ht hz) pw
  ·refine u.z x ?_ nK
   ·show BCv
   ·subst z;rw[List.nodup_append] at nd;show AK3
    ·exact nd.2.2 x q x zY rfl
    ·exact ABn nd.2.1 q
 ·obtain⟨hx,lo⟩:=h.lo i χ hi
  obtain⟨g,lg,hf⟩:=lo.g;rw[yje hf lg lo.z j] at ht;show CS z ez hz (P5 yb6 rs (iV A (ix i)::rs) cs (j::ADJ) M M N N) (VI hr (by
   show zC hr
   ·subst q;exact DJ (JO (A (ix i) j) (hA _ hx j))
   ·exact wr r q)) (by show AdS Xp;omega)
  rw[List.length_cons,hl] at hz;rw[ez] at ht;exact zzk ht hz
theorem BT.lead(BIo){ix:OY}(h:vv)(hA:Arl A M)(hp:p<=N):d.natAbs<=(N*M)^p:=by
 have wr:∀r∈rs,AsQ:=fun r hr j=>by
  show ď k hk (h.w r hr);exact JO (A k j) (hA k hk j)
 obtain⟨z,ez,hz⟩:=A8' ADJ (Θ Xp hp)
 rw[h.len] at hz;exact zzk (h.de.trans ez) hz
section
variable{α β:Type}[AMW][ABk β]
def dg(Ap4):FA:=Aim (Μ (AD=w))
def BX(rows:FA)(h:β):FA:=Aim AZY
def ofM(rows:FA)(m:GH):FA:=Aim AgP
def Uq(rows:FA):Prop:=rows.Pairwise fun a b=>BDj
def kW(Ap4):GH:=ć fun r=>BB
def yW(rows:FA)(w:α)(h:β):Rat:=AN' (IL rows.find? r (Μ AsT)) r ME 0
theorem bH{rows:FA}{w:α}{r:hV}:r∈dE↔AGP/\ADX:=nv dg List.mem_filter decide_eq_true_iff
theorem jd{rows:FA}{h:β}{r:hV}:r∈AZJ↔AGP/\BB=h:=nv BX List.mem_filter decide_eq_true_iff
theorem lD{rows:FA}{m:GH}{r:hV}:r∈AZK↔AGP/\sQ:=nv ofM List.mem_filter decide_eq_true_iff
theorem Uq.M(xk)(u:FR)(m:GH):Uq (ofM rows m):=u.filter _
theorem z19{γ δ:Type}{f:γ ->δ}{R:BN γ γ}:∀{l:List γ},AvO ->(ñ (OO l (R a b ->f a≠f b))) ->d6 l.map f
 | [],_,_=>List.nodup_nil
 | DU,h,k=>by
  show AhM;rw[List.map_cons,List.nodup_cons];show A8 nK (z19 h.2 fun a ha b hb=>k a (zW _ ha) b (zW _ hb));show NW b hb (zB.mp z);exact k a zY b (zW _ hb) (C_ b hb) e.symm
theorem zs5(xk)(u:FR)(w:α):AIh Nodup:=by
 refine z19 (u.filter _) (AqP (n ⟨?_,e⟩));rw[AQo ha,AQo hb]
theorem ycf(xk)(u:FR)(h:β):d6 BLC (OW AD):=by
 refine z19 (u.filter _) (AqP (n (EU e)));rw[(jd.mp ha).2,(jd.mp hb).2]
theorem jT{rows:FA}{w:α}{h:β}:s_↔Xs AsT:=by
 unfold kW;rw[List.mem_map];exact AFr (dl h1 h2) ⟨r,(bH.mp h1).1,AQo h1,h2⟩ A2r ⟨r,bH.mpr AX2,h3⟩
theorem yiy:GY rows FA FR (∀{a b:hV},Ω (a∈rows) (b∈rows) (a.1=b.1) (a.2.1=b.2.1) (a=b))
 | r::rows,u,a,b,ha,hb,e1,e2=>by
  unfold Uq at u;rw[List.pairwise_cons] at u;show zC ha
  ·show Ps hb q' q'
   ·rw[q,q']
   ·subst q;exact absurd ⟨e1,e2⟩ (u.1 b q')
  ·show Ps hb q' q'
   ·subst q';exact absurd ⟨e1.symm,e2.symm⟩ (u.1 a q)
   ·exact yiy u.2 q q' e1 e2
theorem zzp{rows:FA}(u:FR){r:hV}(hr:AGP):yW rows AD BB=ME:=by
 unfold yW;cases e:IL rows.find? s (Μ BCQ) with
 | none=>
  have:=List.find?_eq_none.mp e r hr;simp at this
 | some s=>
  have h1:=List.mem_of_find?_eq_some e;have h2:BCQ:=lf (List.find?_some e) this
  rw[yiy u h1 hr h2.1 h2.2]
theorem yfa{rows:FA}{w:α}(f:He):aC AMK f=aC jv (OW ADt):=J7
theorem TJ(Ap4):AAZ=AIX:=by unfold kW;show EQ
theorem yep(xk){ws:A0}(u:FR)(nw:ws.Nodup)(cw:AZc)(h:β)(F:DS):aC ws A8p=aC (BX rows h) (OW (F AD)):=by
 have e:aC ws A8p=aC ws (EA (IM A6h (F w))):=by
  show AFz w;have:s_↔A6h:=NH jT List.mem_map (AFr A2r ⟨r,jd.mpr ⟨h1,h3⟩,h2⟩ (dl h1 h2) (ul r Ava (jd.mp h1).2))
  show FS s_
  ·rw[FM,if_pos (this.mp q)]
  ·show w9 q (ADG q this.mpr)
 rw[e,TF (ycf u h) nw (AGU (by
  show BS r h1 h2 zB.mp hw;rw[<- h2];exact cw r Ava)),J7]
def wK(rows:FA)(x:He)(h:β):Prop:=
 aC (BX rows h) (L9 r (ME - So) A7s)=0
def QD(rows:FA)(x:He)(m:GH):Prop:=aC TN (t6 So)=0
theorem Xq{rows:FA}(u:FR)(x:He)(w:α):cN AMK (L9 o (ANs o) (x o))=AWc:=by
 unfold cN;rw[TJ,yfa]
 congr 1
 show AAm;have:=zzp u vk;rw[ANd] at this;rw[this]
theorem yan(ĺ)(u:FR)(nw:ws.Nodup)(cw:AZc)(x:He)(h:β)(e:m8 AI9 (fun w o=>ANs o - x o) ws h=0):x0:=by
 show MS m8;rw[BCL] at e;unfold wK;rw[<- e];show AAm;show AZP;have y:=zzp u hr'.1;rw[hr'.2] at y;rw[Xq u,hr'.2];show _=yW rows AD h - x h - _;rw[y]
theorem ydu(ĺ)(u:FR)(nw:ws.Nodup)(cw:AZc)(h:β):jf IP h=Aqj:=by
 unfold jf;rw[J7,BCL,Nj];grind
theorem z5z(xk){m:GH}(nm:m.Nodup)(sub:L5 sQ)(f:He):aC m (Τ h (Aqj*f h))=ANJ ADt:=by
 show UP e m h Aqj (f h) (aC m (D4 (ANJ A9v))) (by
  show AFz h;rw[<- Nj (l:=AZJ)];unfold BX;rw[J6];refine lZ (AJ r _);show AZj
  ·rw[if_pos (decide_eq_true q),FM,q]
  ·rw[AY (HK q),LH])
 rw[e,Xn];show AAm;have e2:aC m (MO A9v)=aC m (D4 (IM (h∈ [BB]) ADt)):=KA h (by
  show AZj
  ·rw[FM,AvU q.symm]
  ·show w9 q A2m)
 rw[e2,TF (f:=CY ADt) Χ nm fun y hy=>(AFb hy (sub r hr))]
 show ADt+0=_
 grind
structure vI (rows:FA) (ws:A0) (m:GH):Prop where
 u:FR
 nw:ws.Nodup
 cw:AZc
 nm:m.Nodup
 sub:L5 sQ
 on:ZT (Xs (BB=h))
 min:∀C:DB β,(∀w∈ws,APg p_ p_) ->(∃x∈m,C x) ->AQq m
theorem vI.sub'(A9f):A8e (jS s m):=fun s hs x hx=>by
 show AEi w (zB.mp hs);obtain⟨r,h1,_,h3⟩:=jT.mp hx;rw[<- h3];exact L.sub r h1
theorem vI.ns(A9f):A8e s.Nodup:=fun s hs=>by
 show AEi w (zB.mp hs);exact zs5 L.u w
def oh [X9 β](rows:FA)(ws:A0)(m:GH)(i j:Nat):Rat:=
 if j<m.length then(AI (i=0) (jf IP (m.getD j default)) (fP IP ASf AoC))
 else XU 0 0 (m8 AI9 AI_ ws ASf)
theorem Xr{γ:Type}[X9 γ]{m:List γ}{i:Nat}(h:AgW):m.getD i default∈m:=AMO YN (yU h)
theorem zzv [X9 β](ĺ){m:GH}(x:He):dN m.length (Τ j (oh rows ws m 0 j*AdD x))=aC m (D4 (jf IP h*x h)):=by
 rw[<- zvl];refine Nh (AJ j hj);unfold oh;rw[BD hj,B4]
theorem z9p [X9 β](ĺ){m:GH}(L:AK5)(x:He){i:Nat}(hi:AgW)(h0:i≠0):dN m.length Ami=qw IP x ASf:=by
 rw[<- z5v L.ns L.nm L.sub' x (Xr hi),<- zvl];refine Nh (AJ j hj);unfold oh;rw[BD hj,AY h0]
theorem z07 [X9 β]{m:GH}{h0:β}{hs:GH}(e:m=ā){h:β}(hh:fq):∃i,AgW/\i≠0/\m.getD i default=h:=by
 show BS i hi q List.getElem_of_mem hh;subst e;show HQ BM AEw ω
 show Ad7 List.getElem?_cons_succ Tk q;rfl
theorem vI.null [X9 β](ĺ){m:GH}(L:AK5)(x:He)(z:Ajr (dN m.length Ami=0)):ZT (x h=0):=by
 cases em:m with
 | nil=>intro h hh;cases hh
 | cons h0 hs=>
  have nm:=L.nm;have sub:=L.sub';have on:=L.on;have mn:=L.min;rw[em] at nm sub on mn;refine z8v L.ns nm sub (Q1 h hh) (fun C hC=>mn C (AGU (hC _ (zB.mpr (Hc w hw))))) (Q1 h hh) ?_
  ·show CS r h1 h2 on h hh;exact⟨AI7 kW,zB.mpr ⟨AD,L.cw r h1,rfl⟩,jT.mpr (NV r h1 h2)⟩
  ·obtain⟨i,hi,i0,e⟩:=z07 em hh;rw[<- e,<- BEa];exact z i hi
  ·rw[<- em,<- zzv];exact z 0 (by rw[em];simp)
theorem vI.ans [X9 β](ĺ){m:GH}(L:AK5)(x:He)(z:Ajr (oh rows ws m i m.length=dN m.length Ami)):(∀h∈m,x0)/\AmA:=by
 have e0:m≠ [] ->AmA:=fun ne=>by
  have q:=z 0 (List.length_pos_iff.mpr ne);rw[zzv] at q;unfold oh at q;rw[AZf,B4] at q;rw[<- z5z L.nm L.sub,q];exact KA h (Hk (ydu L.u L.nw L.cw))
 cases em:m with
 | nil=>
  show CD (AOB (by cases hh))
  cases er:rows with
  | nil=>rfl
  | cons r rs=>
   show AlW (L.sub r (B' er zY)) em
 | cons h0 hs=>
  show A8 (AOB (yan L.u L.nw L.cw x h (P5 ya8 S ws k (kW rows) h0 h0 hs hs (Nn w (zs5 L.u w)) (em ▸ L.nm) (fun w hw y hy=>(BF em (L.sub' _ (zB.mpr (Hc w hw)) y hy))) AI_ x (Q1 g hg) h hh))) (e0 (AL6 em))
  obtain⟨i,hi,i0,e⟩:=z07 em hg;have q:=z i hi;rw[BEa] at q;unfold oh at q;rw[AZf,AY i0,e] at q;exact q.symm
#where
section
variable{α γ:Type}[ABk γ]
theorem z20{f:DS}{p:xA}:AGk f (aC (l.filter p) f+aC (l.filter fun a=> ! p a) f):=by
 intro l;rw[J6,J6,<- Tw];show AFz a;cases p a
 ·simp [Rat.zero_add]
 ·simp [Rat.add_zero]
theorem z4a(key:α ->γ)(g:DS)(φ:γ ->Rat):∀(n:Nat) (l:A0),l.length<=n ->(∀c,aC (l.filter fun a=>(Μ (key a=c))) g=0) ->aC l (Τ a (φ (key a)*g a))=0:=by
 intro n;induction n with
 | zero=>
  intro l hl _;obtain rfl:l= []:=List.eq_nil_of_length_eq_zero χ
  rfl
 | succ n ih=>
  intro l hl h;cases l with
  | nil=>rfl
  | cons a r=>
   rw[z20 (p:=RY Ĺ)];show UP e1 A4p b (φ (key b)) (g b) 0 (by
    have:aC A4p (Τ b (φ (key b)*g b))=aC (AEc (RY Ĺ)) (Τ b (φ (key a)*g b)):=
     lZ fun b hb=>by rw[of_decide_eq_true (List.mem_filter.mp hb).2]
    rw[this,J5,h,Rat.mul_zero])
   rw[e1,ih]
   ·show KP
   ·have:B2 AEc (RY (! Ĺ))<=r.length:=Lm List.filter_cons_of_neg Χ Agw
    simp only [List.length_cons] at hl;omega
   ·intro c;rw[List.filter_filter];by_cases e:c=key a
    ·subst e;rw[Se (IL AEc b (Ĺ&& ! Ĺ)) [] (List.filter_eq_nil_iff.mpr fun b _=>AV)]
     rfl
    ·rw[show IL AEc b (Μ (key b=c)&& ! Ĺ)=AEc (qh (Μ (key b=c))) from BMk b (by
      show FS (key b=c)
      ·simp [q,e]
      ·simp [q])]
     exact h c
theorem ygk{l:A0}{f d:DS}(o:aC l (Τ a (d a*f a))=0):A9M (aC l (Τ a (f a*f a))+AML (d a*d a)):=by
 have:A9M (aC l (Τ a (f a*f a+d a*d a+2* (d a*f a)))):=KA a LN
 rw[this,Tw,Tw,J5,o,Rat.mul_zero,Rat.add_zero]
#where
section
variable{α β:Type}[AMW][ABk β]
def fV(rows:FA)(x:He)(r:hV):Rat:=(ME - So) - A7s
theorem z7s(rows:FA)(x:He)(w:α):aC jv AZd=0:=by
 have e:aC jv AZd=aC jv Acp - aC jv (CY AWc):=by
  rw[<- K5];show AAm;unfold fV;rw[ANd]
 rw[e,Nj];by_cases z:A3l
 ·rw[z];show nE - AMu* (0/ An (FC 0))=0
  show KP
 ·show gN n0 (An AIX≠0) (BLt z (by exact_mod_cast q))
  rw[Rat.div_def,Rat.mul_comm (An AIX),Rat.mul_assoc,ň n0,Rat.mul_one,Rat.sub_self]
theorem zxr(xk){x:He}(ev:AOw)(p:DS)(q:He):aC rows (Τ r (ph*W_))=0:=by
 show UP e rows r ph W_ (AlJ (p AD)+ANJ (q BB*W_)) (BF Tw (KA r LN))
 rw[e,z4a (fun r:hV=>AD) AZd p rows.length rows BME (Þ (z7s rows x w)),
  z4a (fun r:hV=>BB) AZd q rows.length rows D3 AL4]
 ·show KP
 ·by_cases z:Xs (BB=h)
  ·show ď r hr z;exact ev r hr
  ·rw[Se (IL rows.filter r AZY) [] (List.filter_eq_nil_iff.mpr fun r hr=>by
    simp only [decide_eq_true_eq];exact tz (z ⟨r,hr,e⟩))]
   rfl
theorem zv4(xk){x:He}(ev:AOw)(p:DS)(q:He){g:hV ->Rat}(hg:L5 (g r=W_+ ph)):
  AlJ W_<=A2q/\ (aC rows (Τ r (W_*W_))=A2q ->L5 (g r=W_)):=by
 show UP e rows r (g r) (g r) (AlJ W_+ANJ (ph* ph)) (BF (ygk (zxr ev p q)) (Aor (Hk (hg r hr))))
 have n:0<=ANJ (ph* ph):=Xo fun r _=>zlu _;show A8 LN (Ν z r hr)
 show UP z2 rows r ph ph 0 LN
 have:=z7u (Tz (VI _ (zlu _)) z2 r hr);rw[hg r hr,this,Rat.add_zero]
#where
section
variable{α β:Type}[AMW][ABk β]
theorem zwt(BDt)(ev:AOw)(ev' :An1):L5 (fV rows x' r=W_):=by
 have h1:=zv4 ev (L9 w AWc A1O) (L9 h (x h) (x' h)) (g:=fV rows x') fun r _=>(kz fV)
 have h2:=zv4 ev' (L9 w A1O AWc) (L9 h (x' h) (x h)) (g:=fV rows x) fun r _=>(kz fV)
 exact h1.2 (Rat.le_antisymm h1.1 h2.1)
theorem z7g(BDt)(ev:AOw)(ev' :An1){r s:hV}(hr:AGP)(hs:s∈rows)(e:AD=s.1):So - ADM=x VZ - x' VZ:=by
 have h1:=zwt ev ev' r hr;have h2:=zwt ev ev' s hs;unfold fV at h1 h2;rw[e] at h1
 grind
theorem z6v(xk){x x' :He}{m:GH}(ev:AOw)(ev' :An1)(em:AZZ)(em' :A1m)
  (min:∀C:DB β,(AIj (∀s∈rows,AD=s.1 ->C BB ->C VZ)) ->(∃h∈m,C h) ->ZT (C h)) (on:ZT (Xs (BB=h))):ZT (x h=x' h):=by
 intro h0 hh;have same:=min (MO (x h - x' h=Ayf)) (fun r hr s hs e c=>by
  have:=z7g ev ev' hr hs e;show eS;exact c) (Hc h0 hh)
 have z:aC TN (L9 r So ADM)=0:=by rw[K5,em,em'];show KP
 have z2:aC TN (L9 r So ADM)=aC TN (CY Ayf):=Aor (same _ Anr);rw[z2,Nj] at z;show CS r hr e on h0 hh;have pos:0< AQ8 ofM m:=List.length_pos_iff.mpr fun q=>by
  have:=lD.mpr ⟨hr,e ▸ hh⟩;show BC q;show EV
 show TU (Rat.mul_eq_zero.mp z) q
 ·have:AQ8 ofM m=0:=ALH q
  omega
 ·grind
#where
#print HM
namespace L3
open PySem L2 HM
def TQ(Be):dI:=DI (∃i j,A4t)
def J8(FU):dI:=ng (∃i j:Int,ds= ADb/\AU4/\Ah2/\HI j 0 False A8o)
def QH(FU):dI:=Amd (a+b)
def Iz(FU):dI:=Amd (a - b)
def Xu(FU):dI:=Amd (a*b)
def TV(FU):dI:=ng (∃a b:Rat,Ad6 (HI b 0 False (Q3 (a/b))))
def BZ(FU):dI:=Adr (Ad6 (MI (ë (a<b))))
def fK(ns:AU)(k:Nat):Int:=ATB Ah3 ns[k] (let m:Int:=HI ns [] (Cf*7919+5) ((ns.getD ((k*7) % ns.length) 0*48271+ Cf*7919).fmod 2147483647)
 (m*m).fmod 2147483629)
def xV(Be):dI:=We ns AU k Nat (ds= [ATu,.int k]/\AJd/\k<1000/\NY (fK ns k))
def z17(Be):dI:=zua
def QJ(FU):dI:=DI (∃qs:AB,ds= AeN/\ AEH/\ (∀k,AlX)/\Q3 (gb qs))
def QK(FU):dI:=ng (∃qs:AB,ds= AeN/\AVN/\ AEH/\ (∀k,AlX)/\HI qs [] False (Q3 (gb qs/ wP)))
def QL(FU):dI:=A5s AVN (XG Ahh)
abbrev Mx:=OT
abbrev Mq:=AH0 Rat
def Xv(k s:Nat)(a:Mx):Mx:=CO (a (sW k s i))
def iG(m:Nat)(f:fT):D:= .lst (AmQ f)
def pW(n m:Nat)(a:Mx):D:= .lst (AGG ADe)
def pJ(m:Nat)(f:PF):D:= .lst (KU m fun j=>qD (f j))
def IK(n m:Nat)(a:Mq):D:= .lst (AGG (pJ m (a i)))
def SzE(AGf):Prop:=cW q.num<=128/\ ņ∣27720
def wL(N:Nat)(d:Int)(q:Rat):Prop:=∃t:Int,q=NE t d/\cW t<=N
def IV(n:Nat):Nat:=147* NF+1
def zdt(Be):dI:=We m Nat f PF (ds= [pJ m f]/\m<=13/\ (KI m (SzE (f j)))/\∀(μ:Int) (g:fT),0<μ ->(KI m (An (g j)=An μ*f j)) ->(A2j) ->P (iG m g))
def Xw(Be):dI:=DI (∃(m k:Nat) (f g:fT) (p:Int),ds= [iG m f,iG m g,wT,.int p]/\k<m/\p≠0/\NL (cW p)/\ (∀j,NL (cW (f j)))/\ (∀j,NL (cW (g j)))/\P (iG m (DJ ((A7a).fdiv p))))
def Fl(k:Nat)(p:Int)(a:Mx):Mx:=fun i j=>(XU k (a k j) BHH)
def Xx(Be):dI:=DI (∃(a:Mx) (n m k:Nat) (p:Int),ds= [Aav,wT,.int p]/\k<n/\k<m/\p≠0/\NL (cW p)/\ (ANz (NL (AMx a)))/\P (pW n m (Fl k p a)))
def Xy(Be):dI:=DI (∃(a:Mx) (n m k s:Nat),ds= [Aav,wT,.int s]/\k<n/\s<n/\A'e)
def Xz(FU):dI:=ng (∃(a:Mx) (n m k:Nat),ds= [Aav,.int k]/\n<=1000/\k<n/\k<m/\ (∀s,k<=s ->s<n ->a s k≠0 ->A'e)/\ ((A8G (s<n)) ->False))
def Sys(n:Nat)(A:Mq)(ds:Δ):Prop:=ds= [IK n n A,pJ n (CO (A i n))]/\n<=12/\∀i j,i<n ->j<=n ->SzE (A i j)
def Slv(n:Nat)(A:Mq)(x:PF):Prop:=∀r,r<n ->A r n=dN n (DJ (A r j*x j))
def XC(FU):dI:=ng (∃(n:Nat) (A:Mq),Sys n A ds/\ (∀(y:PF) (k:Nat),k<n ->y k=1 ->(∀r,r<n ->(dN n (DJ (A r j*y j)))=0) ->False)/\∀x,Slv n A x ->(∃d:Int,œ/\ZA<=IV n/\xi (wL (IV n) d (x i))) ->P (pJ n x))
def pO:Str:=ASz "mean"
def TX:Str:=ASz "middle"
def mL:Str:=ASz "pair"
def mids(l:AB):AB:=HI AnF 1 [AV0] [tF (S4 - 1),AV0]
def XD(Be):dI:=DI (∃l:AB,ds= SS sg/\1<=l.length/\XG (Au mids l qD))
def QM(Be):dI:=Adr (ds= SS [qD a,qD b]/\Sz 1900 a/\Sz 1900 b/\Q3 (b - a))
def XF(Be):dI:=DI (∃l:AB,ds= SS sg/\AS9 2/\Atr/\ Aw_/\AzW)
def XH(FU):dI:=ng (∃(l:AB) (g:Rat),ds= [.lst sg,qD g]/\AS9 2/\Atr/\ Aw_/\Ŧ/\
 if l.length=2/\g<wd l 0 then E (AH c.Apart) else AzW)
theorem ybm(AG XD):GM:=OF
theorem yh5(AG QM):GM:=EZ
theorem z9j(AG XF):GM:=OF
theorem yl3(AG XH):DT:=EZ
def XJ(Be):dI:=DI (∃r:Str,ds= [ALy]/\NY AYp)
def Gw(n:Nat)(p:Pt):Prop:=Sz n A3/\Sz n p.2
def xW(ps:DA):Bool:=Μ (1<ps.length)&&(List.zipWith J3 ps ps.tail).all id
def XM(Be):dI:=DI (∃a b:Pt,ds= [pD a,pD b]/\Gw 4000 a/\Gw 4000 b/\MI (J3 a b))
def XQ(Be):dI:=DI (∃ps:DA,ds= SS Zs/\ Avh/\MI (xW ps))
def XR(Be):dI:=DI (∃(l r:Pt) (x:Rat),ds= [pD l,pD r,qD x]/\Gw 300 l/\Gw 300 r/\Anf/\AK0/\Q3 (uK l r x))
def QV(FU):dI:=ng (∃ps:DA,ds= SS Zs/\ Avh/\if xW ps=true then P (.tup Zs) else False)
def Ao(c:Cls)(ps:DA):D:= .obj c.Scale ["points"] [.tup Zs]
def XS(FU):dI:=We ps DA x Rat (ds= [AOu,qD x]/\Aj7/\oz/\ AlQ/\Anf/\Q3 (jJ ps x))
def intD(n:Nat):D:= .int FL
def tY(SD):AB:=(oA qs).reverse
def IW(f:AB)(k:Nat):Bool:=Μ (k+1=f.length) || Μ (f.getD FI 0<AW8)
def iR(f:AB):At:=0::Au (AQm f.length filter) (IW f) (· +1)
def Fall(f:AB):Prop:=∀i j,i<=j ->j<f.length ->f.getD j 0<=f.getD i 0
def uL(l:AU):D:= .lst AiP
def Ja(b:Bd):D:= š b.1 b.2
def Jb(bs:Go):D:= Ai7 Ja
def iW(qs:AB)(m:Rat):Nat:=B2 qs.filter (T_ (!(Μ (x<m))))
def gU(SD):AU:=Au iR AIW Int.ofNat
def Last(S:AU)(n:Int):Prop:=mi S.map D.int G_ (C3 n)
def rB(Aai):Bool:=(gk xB qs.length bs.reverse bs.length).contains 0
def Jc(Aai):AU:=AUC fun k=>fk xB qs.length bs FI
def TY(Be):dI:=We x Int b Bd (ds= [.int x,Ja b]/\MI (xU b x))
def X3(Be):dI:=DI (∃(S l:AU) (b:Bd),ds= [uL S,uL l,Ja b]/\P (uL (Am S l b)))
def QX(Be):dI:=We S AU bs Go (ds= [uL S,Jb bs]/\AVM/\XG (ALs fun i=>uL (rk S bs i)))
def lsT(ls:AhL):T:= .lst (ls.map fun l=> (Agn (Au l.map D.int)))
def CP(Aai):AhL:=ALs fun i=>rk xB bs i
def T3(Be):uW:=DI (∃ls:AhL,ds= SS (ls.map uL)/\P (lsT ls))
def X4(Be):dI:=We m Rat qs AB (ds= [qD m,ATv]/\P2 m/\ AEH/\NY (iW qs m))
def X5(Be):dI:=A5s (AS7 61) (P (uL xB))
def X6(Be):dI:=BGv (ds= [uL S,Jb bs]/\AVM/\Last S n/\XG BAS)
def X7(Be):dI:=BGv (ds= [uL S,Jb bs]/\AVM/\Last S n/\AKl/\ AO'/\P (uL (KU bs.length fun k=>AMt)))
def X8(FU):dI:=ng (∃(qs:AB) (bs:Go),ds= [ATv,Jb bs]/\AS7 61/\ AEH/\AVM/\ (AZB bs ->P (uL (Jc qs bs)))/\ (rB qs bs=false ->E (A3T [lsT (CP qs bs)])))
def bD:ATd ->D | none=> AE | some q=>qD q
def Gx(f:AB)(c:Nat):ATd:=HI c 0 none (some (f.getD (c - 1) 0))
def isIn(m:Rat):ATd ->Bool | none=>false | some q=> !(Μ (m<q))
def gj(bs:vb)(m:Rat):Nat:=bs.findIdx (isIn m)
def Yb(n:Nat)(b:ATd):Prop:=∀q,b=some q ->Sz n q
def Yc(Be):dI:=We qs AB cs At (ds= [ATv,.lst (cs.map intD)]/\AVN/\ AEH/\0<cs.length/\ (∀c∈cs,Awe)/\XG (Au cs.dropLast.map A4j bD))
def Yd(Be):dI:=We bs vb m Rat (ds= [Ai7 bD,qD m]/\ AOM/\P2 m/\NY (gj bs m))
abbrev Rw:=Str×Str×Int
def Ca(r:Rw):D:= A2c kK
def d9(rs:A1):D:= .lst (rs.map Ca)
def wR(AZ4):Α:=Au rows.filter (OW (Μ (AD=w))) fun r=>BB
structure Fam (rows:A1) (Ss:HZ):Prop where
 of:AJ9 (A0f S)
 to:L5 (∃S∈Ss,AJB S (AI7 wR))
structure CQ (rows:A1) (ms:HZ):Prop where
 sr:pV (AKy m.Pairwise)
 up:ms.Pairwise fun a b=>Aq2
 pi:∃Ss,Fam rows Ss/\m7 Ss ms
def Aq(p:Α×Δ):T:= Kj Ahn ((p.2).map .leaf)
structure Nk (rows:A1) (ws:Α) (ps:AK9):Prop where
 len:Au9
 nd:ws.Nodup
 lw:ws.length<=rows.length
 wm:AaS (Xs ADX)
 pt:BGk
 ex:A6i
def QZ(Be):uW:=DI (∃rows:A1,ds= [ADo]/\Ats/\∀ws ps,AfF ->P (Kj AJx AJ1))
def T4(Be):dI:=DI (∃g hs:Α,ds= [gl g,gl hs]/\MI (dM g hs))
def Ye(Be):dI:=DI (∃(fs:HZ) (hs U:Α),ds= [.lst (fs.map gl),gl hs]/\hs.length+fs.flatten.length<4000/\fs.length<4000/\Am'/\ (∀x∈hs,x∈U)/\ (AOp (oq f))/\
 ∀g:Α,g.Pairwise (r_ Ü) ->(AQE g (x∈hs\/AY8 (AOI f/\AFK))) ->XG ((AHN ACh++ [g]).map gl))
def Yg(Be):uW:=BK_ (ds= [ADo]/\Ats/\Am'/\ Aef/\∀ms,ADc ->P (mM Ay6))
def Cds(N:Nat)(m:Α)(x:CL):Prop:=∃d:Int,œ/\ZA<=N/\ZT (wL N d (x h))
def Nm(AZ4):D:= Kj (AIh map .inr) (ć AU3)
def wU(Aol):D:= .lst (ws.map (Nm rows))
structure LB (rows:A1):Prop where
 few:AS8 200
 mm:L5 (ARr 100)
 wk:∀w,AIX<=12
def Ar(Aol):Prop:=ws.length<=200/\∀w∈ws,AFg
def Np(Be):dI:=BHl (ds= [.str h,AMv]/\P (wU rows (ws.filter fun w=>AgQ)))
def Yh(Be):dI:=DI (∃(rows:A1) (ws:Α) (h o:Str),ds= [.str h,.str o,AMv]/\RR/\AAR/\Q3 (fP IP h o))
def Yi(Be):dI:=DI (∃(rows:A1) (ws m:Α) (h:Str),ds= [.str h,gl m,AMv]/\RR/\AAR/\XG (Đ o (ARx h)))
def Yj(Be):dI:=We rows A1 w Str (ds= [Nm rows w]/\RR/\AFg/\Q3 (AJE (t6 ME)))
def Yk(Be):dI:=BHl (ds= [.str h,AMv]/\FR/\RR/\AAR/\Q3 BDg)
def Yl(Be):dI:=DI (∃(rows:A1) (ws m:Α),ds= [gl m,AMv]/\AK5/\RR/\AAR/\m≠ []/\m.length<=12/\
 ∀x:CL,(∀h∈m,x0) ->AmA ->Aq0 ->XG (Đ h (qD (x h))))
structure Lean (rows:A1) (ms:HZ) (x:CL):Prop where
 g:ADc
 ev:pV (ZT x0)
 em:pV AZZ
 sz:pV Aq0
def gF(Aa3):T:= Kj ū (Awl .leaf)
def rC(Aa3):D:= .dik ū (hs.map AKw)
def T5(Be):uW:=BG3 (U.length<=12) (P (gF ms.flatten x))
def T6(Be):dI:=We n Int m Nat (ds= AIc n m/\m<=20/\∀xs:Α,AKN m ->xs.Nodup ->P (B8 (xs.map .str)))
def Ym(Be):dI:=DI (∃a b d e n:Int,ds= [AEu,AEv,.int d,ATb,.int n]/\e≠0/\∀t:Bool,MI t)
def Yn(Be):dI:=DI (∃(ns:AU) (hands works:Nat),ds= [ATu,.int hands,.int works]/\AJd/\1<=hands/\hands<=5/\works<=8/\
 ∀(rows:A1) (U:Α),AS8 40 ->Ω (U.length<=hands) Aef FR Aoe (P (d9 rows)))
def Yo(Be):dI:=DI (∃i j:Int,A4t)
theorem z8e(AG QZ):GM:=OF
theorem yk1(AG T4):DT:=EZ
theorem ybv(AG Ye):DT:=ae
theorem ya4(AG Yg):GM:=EZ
theorem ztl(AG Np):DT:=ae
theorem ygq(AG Yh):YY:=AZF
theorem ydn(AG Yi):YY:=AZF
theorem zy1(AG Yj):GM:=EZ
theorem yca(AG Yk):DT:=ae
theorem zns(AG Yl):DT:=ae
theorem z3s(AG T5):GM:=EZ
theorem zxl(AG T6):DT:=EZ
theorem zxi(AG Ym):iS 5:=AAv
theorem z38(AG Yn):YY:=ae
theorem ztj(AG Yo):DT:=EZ
def sX(hs:Α)(h:Str):Α:=AS2 fq hs hs h
def Q5(Be):dI:=DI (∃i j:Int,ds= ADb/\AU4/\Ah2/\ADl/\A8o)
theorem z39(AG Q5):DT:=EZ
def yP(r:Str)(g:Rat)(qs:AB):ATc:=if qs.length< AYp then some false else Afw (r=mL/\qs.length=2/\A'Y) (some true)
inductive sY (SD):BN Str Rat
 | mean:sY qs pO (gb qs/ wP)
 | mid:sY qs TX (Qz (oA qs))
 | pair:HH (Best (oA qs) b) (sY qs mL ((á b 0+ á (b+1) 0)/2))
def qx(r:Str):Prop:=r=pO\/r=TX\/r=mL
def Fo(c:Cls)(r:Str)(g:Rat)(qs:AB)(P:DB Rat)(E:DB Bool):Prop:=AN' (yP r g qs) f (E f) (∀v,AmR ->P v)
def Q6(FU):dI:=ng (∃(r:Str) (qs:AB) (g:Rat),ds= [.str r,ATv,qD g]/\Ŧ/\AVN/\ (∀q∈qs,AD_)/\qx r/\ (∀k,AlX)/\Fo c r g qs (Τ v (Q3 v)) fun f=>E (AH (AI (f=true) c.Apart c.wF)))
theorem yio(AG Q6):YY:=ae
structure iH where
 rule:D
 gap:D
 scale:D
 leans:D
 sheets:D
 marks:D
def iH.fs:Α:= ["rule","gap","scale","kept_leanings","sheets","marks"]
def iH.xs(S:iH):Δ:= [S.rule,S.gap,S.scale,S.leans,S.sheets,S.marks]
def iH.d(c:Cls)(S:iH):Ō ->D
 | none=> .obj c.ao iH.fs S.xs
 | AQ7=> .obj c.ao AzK (S.xs++ [b])
structure jm where
 rule:D
 gap:D
 scale:D
 leans:D
 sheets:T
 marks:T
def jm.ts(S:jm):EI:= [My S.rule,My S.gap,My S.scale,My S.leans,S.sheets,S.marks]
def jm.t(c:Cls)(S:jm):Ō ->T
 | none=> .ob c.ao iH.fs S.ts
 | AQ7=> .ob c.ao AzK (S.ts++ [My b])
def jm.pl(S:jm):iH:=⟨S.rule,S.gap,S.scale,S.leans,lO S.sheets,lO S.marks⟩
def Yp(FU):dI:=AYf (∃S b hand ks ys,ds= [AOf,.str hand]/\Fg S.leans=some (ks,ys)/\Q ((iD ks ys (DH hand)).getD (.tup (AIc 0 1))))
def Yq(FU):dI:=AYf (∃S b work ks ys,ds= [AOf,AUL]/\AmG/\mK ks AUO=true/\Q AE)
def T7(FU):dI:=AYf (∃S b work ks ys d,ds= [AOf,AUL]/\AmG/\iD ks ys AUO=some d/\Q d)
def Jd(bs:vb):D:= Ai7 bD
def Yr(FU):dI:=AYf (∃S bs work ks ys d,ds= [iH.d c S AJi,AUL]/\AmG/\iD ks ys AUO=some (qD d)/\P2 d/\ AOM/\Q (C3 (gj bs d)))
def pC(x:CL)(L:A1):AB:=L.map fun r=>ME - So
structure Je (x:CL) (L:A1):Prop where
 ne:L≠ []
 few:L.length<=12
 mm:∀r∈L,ARr 100
 sx:∀r∈L,Sz 4000 (x BB)
 cd:∃d:Int,œ/\ZA<=837/\∀q∈pC x L,wL 837 d q
structure Jf (ps:DA):Prop where
 len:Aj7
 gd:oz
 sz:∀p∈ps,Gw 300 p
def Nq(L:A1):D:= .dik AXK (L.map AU3)
def Ys(FU):dI:=fun ds Q E=>∃(S:iH) (b:Ō) (work:Str) (L:A1) (hs:Α) (x:CL) (r:Str) (g:Rat) (ps:DA),ds= [AOf,AUL,Nq L]/\S.leans=rC hs x/\S.rule= ALy/\qx r/\S.gap=qD g/\Ŧ/\S.scale=AOu/\Jf ps/\ (∀r∈L,BB∈hs)/\Je x L/\
 Fo c r g Aop (Τ v (Q (qD (jJ ps v)))) fun f=>E (A_h work)
def Jg(BGq):Δ:=Aiw A5i
def Yt(FU):uW:=DI (∃(S:iH) (ws:Α) (v:CL) (bs:vb),ds= [iH.d c S AJi]/\S.marks=rC ws v/\ws.Pairwise (r_ Ü)/\ws.length<64/\ (∀w∈ws,Sz 4000 (v w))/\ AOM/\P (mM A_z))
def isW(AZ4):Prop:=∃s∈rows,s.1=w
structure Sorted (Aol):Prop where
 so:AvL
 wm:AaS AUG
structure Yu (rows:A1) (r:Str) (g:Rat) (x:CL) (ws:Α) (v:CL):Prop where
 so:Sorted rows ws
 ok:∀w∈ws,yP r g AHr=none/\sY AHr r (v w)
structure qy (rows:A1):Prop where
 u:FR
 few:AS8 40
 hs:∃U:Α,U.length<=4/\L5 (BB∈U)
 mm:L5 (ARr 82)
def Made(rows:A1)(r:Str)(g:Rat)(ws:Α)(u:CL):Prop:=∃ms x,AEb/\Yu rows r g x ws u
def K6(FU):PN:=fun t ds P E=>∃(rows:A1) (r:Str) (g:Rat) (ps:DA) (bd:Go),t= .ob c.ao [] []/\ds= [ADo,ALy,qD g,AOu,Jb bd]/\AFQ/\qx r/\Ŧ/\Jf ps/\0<bd.length/\bd.length<=90/\
 (∀ms x w f,AEb ->AUG ->yP r g AHr=some f ->∀t',E t' (A_h w))/\
 (∀qs:AB,AS7 40 ->rB qs bd=false ->∀ls t',E t' (A3T [lsT ls]))/\
 ∀ws u bs,As' ->AOM ->BDq (P BKC AE)
def Yv(Be):dI:=Aba (∀bs:Go,0<bs.length ->bs.length<=12 ->P (Jb bs))
def Yw(Be):dI:=Aba (∀r g,qx r ->Ŧ ->P (.tup [ALy,qD g]))
def Yx(Be):dI:=Aba (∀ps:DA,Jf ps ->XG Zs)
def Yy(FU):M6:=DI (∃(ns:AU) (rows:A1) (ps:DA),ds= [ATu,ADo,AOu]/\AJd/\AFQ/\Jf ps/\
 ∀r g ws u bs,Ω (qx r) Ŧ As' AOM (BDq (P (.nt [jm.t c S AJi,My (.str r),My (qD g)]))))
def lvD(x:CL)(r:Rw):D:= A2c AlV
def Yz(Be):dI:=BG3 (U.length<=4) (XG (rows.map (lvD x)))
def YB(Be):uW:=DI (∃(rows:A1) (r:Str) (g:Rat) (ws:Α) (u:CL),ds= [ADo,ALy,qD g]/\AFQ/\qx r/\Ŧ/\As'/\∀Av:Α,Av.Perm ws ->P (gF Av u))
def tbE(ps:DA)(bs:vb)(w:Str)(a:Rat):D:= .tup [.str w,AHB a,AsK a]
def YC(Be):dI:=DI (∃(ps:DA) (bs:vb) (w1 w2:Str) (a b:Rat),ds= [tbE ps bs w1 a,tbE ps bs w2 b,qD a,qD b]/\Jf ps/\Sz 1000 a/\Sz 1000 b/\MI true)
theorem z8p(BBl):iS 5:=AZG
theorem z6k(BBl):K6 c t ds (fun t d=>d= AE/\P t d) E:=by
 obtain⟨rows,r,g,ps,bd,h1,h2,h3,h4,h5,h6,h7,h8,h9,h10,h⟩:=h;exact⟨rows,r,g,ps,bd,h1,h2,h3,h4,h5,h6,h7,h8,h9,h10,fun ws u bs a b S e=>(EO (h ws u bs a b S e))⟩
theorem zl2(AG Yp):DT:=AAv
theorem zji(AG Yq):DT:=AAv
theorem zq6(AG T7):DT:=AZG
theorem zp8(AG Yr):DT:=AZG
theorem zk8(AG Ys):YY:=by obtain⟨_,_,_,_,_,_,_,_,_,rfl,_⟩:=h;rfl
theorem zo9(AG Yt):GM:=AZF
theorem zwk(AG Yv):GM:=OF
theorem z2y(AG Yw):GM:=OF
theorem zld(AG Yx):GM:=OF
theorem zt6(AG Yy):YY:=ae
theorem z35(AG Yz):GM:=EZ
theorem zvv(AG YB):YY:=AAv
theorem z2m(AG YC):iS 4:=AZG
def zdx(ψ):aG:=(cG (cT (cB (KR true) Ε AV4))
 vD
 bh)
def zmh(ψ):aG:=(aW (cB wO AV4 Ε))
def zh7(ψ):aG:=(aD (fQ (tV c.ao "must_have" (Yq c) Ρ (QP Ε)))
 (zmh K c))
def z09(ψ):aG:=(aW (cB qT AXC Azy))
def zjv(ψ):aG:=(cG (iy (cT (cB jk B6 ĥ)) (AWv Ε B6))
 (aW AQ)
 bh)
def zlx(ψ):aG:=(aW XY)
def zgt(ψ):aG:=(aD (dJ (AGe sE) (ACd (Da 2) 3)
 (zjv K c))
 (zlx K c))
def zgs(ψ):aG:=(Zl Yd (ÿ "kept_borders") (tV c.ao "mark" (T7 c) Ρ (aj Ε ak)))
def zgr(ψ):aG:=(xM (nOf (cY 1 [0] (iL (dX (XE zs2 AV4))) NB dF (dB (aj Ρ (DZ (AGe (tV c.ao "mark" (T7 c) Ε)) (AGe (tV c.ao "grade" (Yr c) Ε))))))))
def zfw(ψ):aG:=(aV 7 (cB cJ eg (HV AQ (JI (AU7 ATN UD (OP sG (eG (cB lJ my EW) (D1 qU Ain 1)))) 26))))
def zid(ψ):aG:=(aD (aV 9 (Azo (cB cJ (ADj (MV Ρ 24) 48271) (ADj (MA my my) 69621)) my 7))
 (zfw K c))
def zmn(ψ):aG:=(AYS 5 eg)
def zmq(ψ):aG:=(aD (tU (QP (AU7 B6 UD (OP sG (D1 lJ Ain 1)))) (Da 8)
 (zid K c))
 (zmn K c))
def zqw(ψ):aG:=(aD (aV 7 (ó ""))
 (zmq K c))
def zrm(ψ):aG:=(aW UE)
def zrb(ψ):aG:=(aD (tU (QP Ε) (Da 6)
 (zqw K c))
 (zrm K c))
def zrc(ψ):aG:=(aD (cM 5 (eO ak))
 (zrb K c))
def zfd(ψ):aG:=(aD (aV 4 (cB bQ (MV Ρ 24) B6))
 (zrc K c))
def zi6(ψ):aG:=(aD (cG (cT (D1 lJ Ain 1))
 (aV 3 IJ)
 bh)
 (zfd K c))
def zi5(ψ):aG:=(aD (aV 3 (AFl (JI (MV Ρ 3) 8)))
 (zi6 K c))
def zhf(ψ):aG:=(aD (aV 2 (ó "abcdefghijklmnopqrstuvwxyz"))
 (zi5 K c))
def zte(ψ):aG:=(aW (JI (MA AQ AQ) 2147483629))
def zul(ψ):aG:=(aD (cG (cT (ADz XY))
 (aV 2 (Azo (ADj (HV Ρ (cB bQ (ADj Ε 7) XY)) 48271) Ε 7919))
 bh)
 (zte K c))
def zt3(ψ):aG:=(aD (aV 2 (D1 cJ (ADj Ε 7919) 5))
 (zul K c))
def zqk(ψ):aG:=(aD (cG (cT (cB qT Ε XY))
 (aW AkL)
 bh)
 (zt3 K c))
def zpf(ψ):aG:=Au1
def zht(ψ):aG:=(aD (cG (cT (D1 lJ Ρ 2))
 (aW (eG (cB lJ (JI Ε 2) (JI AQ 2)) (ADz (JI EW 4))))
 bh)
 (zpf K c))
def zg4(ψ):aG:=(aD (cG (cT (D1 lJ Ρ 1))
 (aW (jj (cB lJ AQ (cB bQ Ε B6)) (cB lJ AQ (cB bQ (AMp Ε) B6))))
 bh)
 (zht K c))
def zga(ψ):aG:=(aD (cG (cT (D1 lJ Ρ 0))
 (aW (ADz (du EW)))
 bh)
 (zg4 K c))
def zgp(ψ):aG:=(cG (cT (aq (Ym c) (aj B6 (Ŷ my ATN Ε (cV 10)))))
 (AYS 7 (dB (aj (HV UE my) (DZ (HV UD ATN) (cB bQ (MV (cV 10) 12) EW)))))
 bh)
def ze9(ψ):aG:=(aD (OB 10 xV Ρ (cB cJ (AU7 (LU 6) my Ε) ATN))
 (zgp K c))
def ze4(ψ):aG:=(tU (QP Ε) (Da 9)
 (ze9 K c))
def zkp(ψ):aG:=(RE (iB (dX (pA eg (n6 (cV 11)) pI)) (dX (pA eg pI (n6 (cV 11))))))
def zks(ψ):aG:=(aD (aV 11 (cB bQ (MV (uj 3) 4) (AMp (fJ (ja eg)))))
 (zkp K c))
def zk9(ψ):aG:=(aD (tU (QP AQ) (Da 8)
 (ze4 K c))
 (zks K c))
def zla(ψ):aG:=(aD (cM 7 (eO ak))
 (zk9 K c))
def zlv(ψ):aG:=(aD (OB 6 T6 (uj 5) Ε)
 (zla K c))
def zgg(ψ):aG:=(aD (OB 5 T6 (uj 4) AQ)
 (zlv K c))
def zlw(ψ):aG:=(aD (aV 4 (HV (tm (Ŷ AgO (LU 4) AgO (D1 jE AgO 12))) (AkH 3)))
 (zgg K c))
def zge(ψ):aG:=(aD (aV 3 (AkH 2))
 (zlw K c))
def zlz(ψ):aG:=(jD 0 1 (DZ Ε Av'))
def znx(ψ):aG:=(aW Ρ)
def znu(ψ):aG:=(aD (Cp (cT (ADz Ε))
 (zlz K c))
 (znx K c))
def zn1(ψ):aG:=(aD (aV 1 (OP rP Ε))
 (znu K c))
def ziy(ψ):aG:=(aD (aV 0 Av6)
 (zn1 K c))
def zws(ψ):aG:=BAO
def zvk(ψ):aG:=(aD (cG (cT (D1 qT Ε 0))
 (aV 2 (cB fO sT AQ))
 bh)
 (zws K c))
def zsk(ψ):aG:=(aD (OB 2 Yo Ρ Ε)
 (zvk K c))
def zuj(ψ):aG:=(aW (dB (DZ (HV (tm (aj AVw (DZ AuG AuF))) (du Ε)) (FK Q5 (JI (MV Ε 3) 40) (AFl (du (MV Ε 120)))))))
def zot(ψ):aG:=(aD (OB 1 xV Ρ (LU 58))
 (zuj K c))
def zwi(ψ):aG:=(aW (eG (FK BZ Ĉ ĩ) (cr fC BZ WP MQ)))
def zqy(ψ):aG:=(aW (eG (D1 qe XY 1) (OP yhl (AGA (cY 2 [] (AoD (dX Apm)) AHL) XM Ρ Ε))))
def zec(ψ):cD:=(OP uG Ε)
def zfj(ψ):aG:=(cG (AJe (AMV XQ))
 vD
 bh)
def z48(ψ):aG:=(aW (OP yd0 (ANQ [0] ŵ (cB AXQ Ρ Ε))))
def zwn(ψ):aG:=(cG (cr cT T4 EW Ε)
 (ql 3 zu1 (QP EW))
 bh)
def zpx(ψ):aG:=(RE (iB AQ (tm (aj (dX (XE zuf B6)) ak))))
def zxz(ψ):aG:=(aD (uD Ρ (Da 4)
 (zwn K c))
 (zpx K c))
def zy7(ψ):aG:=(aD (cM 3 (XE rQ Ε))
 (zxz K c))
def zwr(ψ):aG:=(aD (aV 2 (ANR [1] xh (AJe (FK T4 Ρ Ε))))
 (zy7 K c))
def zh3(ψ):aG:=(WR 1 2 3 EW)
def zun(ψ):aG:=(aD (cG (WM 1 AQ)
 (WQ 1 2 Px)
 bh)
 (zh3 K c))
def znk(ψ):aG:=(xM (nV 1))
def zxd(ψ):aG:=(aD (uD Ρ (fG 3 (aZ (Da 2) (AVb 3 4)))
 (zun K c))
 (znk K c))
def zr3(ψ):aG:=(aD (Af 1 Px)
 (zxd K c))
def zv7(ψ):aG:=(OB 1 Ye Ε (dX (XE zxw AQ)))
def zyw(ψ):aG:=(xM (nOf (XE z6t Ε)))
def zx7(ψ):aG:=(aD (dJ (z1p (SI sO (QZ c) Ρ)) (Da 2)
 (zv7 K c))
 (zyw K c))
def zwu(ψ):aG:=(aD (aV 1 (tm ak))
 (zx7 K c))
def zoy(ψ):aG:=(aV 1 AQ)
def zop(ψ):aG:=(aD (aV 0 Ε)
 (zoy K c))
def zt9(ψ):aG:=(aD (aV 2 Av')
 (zop K c))
def zva(ψ):aG:=(aW Av6)
def zrq(ψ):aG:=(aD (Cp (cT (D1 qU Ε 0))
 (zt9 K c))
 (zva K c))
def zp2(ψ):aG:=(aV 1 (MA Ε (cB dw (zw AQ) (FK TQ Ε (zw AQ)))))
def zrg(ψ):aG:=(ApQ [1] xh (MA Ĉ (cB dw Ε MQ)))
def zq9(ψ):aG:=(aD (uD Ρ (Da 2)
 (zp2 K c))
 (zrg K c))
def znd(ψ):aG:=(aD (aV 1 IJ)
 (zq9 K c))
def zrt(ψ):aG:=(RE (cY 2 [0,1,2,3] (AoD Ε) AHL dF (cB dw (cB fO (MA (HV B6 EW) Ρ) (MA (HV AQ EW) Ε)) UE)))
def zwe(ψ):aG:=(RE (cY 2 [1,2,3] (AGe sE) AHL dF (qQ (cT (AMz AQ)) Ε (aq (Xw c) (Ŷ Ε EW AQ B6)))))
def zrv(ψ):aG:=(aD (aV 3 AkL)
 (zwe K c))
def zu2(ψ):aG:=BAO
def zsq(ψ):aG:=(aD (cG (cT (D1 qT Ε 0))
 (aV 2 (cU fZ AQ))
 bh)
 (zu2 K c))
def zs7(ψ):aG:=(aD (OB 2 TQ Ρ Ε)
 (zsq K c))
def zox(ψ):aG:=(aD (cG (cT (D1 lJ Ε 0))
 vD
 bh)
 (zs7 K c))
def zq4(ψ):aG:=(aW B6)
def zri(ψ):aG:=(aD (Pj 3 AQ AkL)
 (zq4 K c))
def zrl(ψ):aG:=(aD (Pj 3 Ε AvD)
 (zri K c))
def zna(ψ):aG:=(aD (cM 3 AwA)
 (zrl K c))
def z69(ψ):aG:=(cG (cT (D1 qU (HV AvD Ε) 0))
 (aW (o5 Xy Ρ Ε AQ))
 bh)
def ya5(ψ):aG:=vD
def yfj(ψ):aG:=(aD (G9 (DZ Ε XY) (Da 2)
 (z69 K c))
 (ya5 K c))
def zq7(ψ):aG:=(aV 3 (HV (HV AQ EW) EW))
def zvc(ψ):aG:=(aD (aV 2 (o5 Xx (FK Xz AQ EW) EW B6))
 (zq7 K c))
def zyr(ψ):aG:=(RE (cY 2 [] (sE (aj AQ ak)) AHL dF (aq (J8 c) (DZ Aew (HV Ε Ρ)))))
def zx1(ψ):aG:=(aD (tU (QP (ja AQ)) (Da 4)
 (zvc K c))
 (zyr K c))
def zpb(ψ):aG:=(aD (aV 3 IJ)
 (zx1 K c))
def zu6(ψ):aG:=(aD (aV 2 (dX (cY 2 [] (AoD Ε) AHL dF (i6 zdt (dX (iB Ρ (AV6 Ε)))))))
 (zpb K c))
def zi2(ψ):aG:=(RE (cY 1 [0] ŵ NB (vi (KR false) Ε Ρ) Ρ))
def zm8(ψ):aG:=(aW (cP uE uE ĩ Ρ WP))
def zr1(ψ):aG:=(RE (cY 1 [1,2] xh NB (cT (OP yd0 (AGA (cY 1 [0,2] ŵ NB) TY (cB fO Ε Ρ) AQ))) Ρ))
def z43(ψ):aG:=(Zl J8 (AU7 AXC ĩ MQ) (MA MQ WP))
def zx9(ψ):aG:=(OB 1 QH Ε AQ)
def z2o(ψ):aG:=AUa
def z2k(ψ):aG:=(aD (uD Ρ (Da 2)
 (zx9 K c))
 (z2o K c))
def z1f(ψ):aG:=(aD (aV 1 AWP)
 (z2k K c))
def z26(ψ):aG:=(aW (qQ (cT (AMz Ε)) (FK QH (ċ (ja B6)) EW) EW))
def z28(ψ):aG:=(aD (aV 4 (i6 QJ (ANQ [] (iL B6) (dB (DZ (cU fZ IJ) Aw0)))))
 (z26 K c))
def z1x(ψ):aG:=(aD (OB 3 Np Ε (FK Np Ρ AQ))
 (z28 K c))
def zvt(ψ):aG:=(ApQ [0,2] ŵ (o5 Yh Ε Ρ AQ))
def z03(ψ):aG:=(Zl J8 (cB fO AXC Azy) (MA MQ WP))
def zne(ψ):aG:=(Zl J8 (M4 Ρ) Aw0)
def zu7(ψ):aG:=(aW (i6 QJ (AGA (cY 1 [0] (cr iL Np Ρ Ε) NB) Iz (ċ (cB wO Ρ Ε)) (ZU Yj))))
def zep(ψ):aG:=(Zl XC (dX (iB (AV6 EW) AQ)) (dX (iB (tm (AqJ sT IJ)) B6)))
def zeg(ψ):aG:=(aD (aV 4 (ANQ [1] xh (ċ (ja (FK Np Ρ Ε)))))
 (zep K c))
def zi8(ψ):aG:=(aD (aV 3 (AGA (cY 1 [1] (iL (dX Apm)) NB) Yk Ρ Ε))
 (zeg K c))
def zfg(ψ):aG:=(aD (aV 2 (ANQ [0,1] (iL (dX Apm)) (o5 Yi Ρ Ε AQ)))
 (zi8 K c))
def zi1(ψ):aG:=(Qh 1 EW UE)
def zgv(ψ):aG:=(dJ (Mt (DZ AQ (FK Yl AQ B6))) (ACd (Da 4) 5)
 (zi1 K c))
def zi4(ψ):aG:=(aD (aV 3 (dX (Cz (SI aq (KD (QZ c)) (ANR [2] xh (vi AXQ MQ Ε))))))
 (zgv K c))
def zuk(ψ):aG:=(xM (nV 1))
def zk6(ψ):aG:=(aD (uD (SI aq (KD (Yg c)) Ρ) (Da 2)
 (zi4 K c))
 (zuk K c))
def zqc(ψ):aG:=(aD (Af 1 Px)
 (zk6 K c))
def zz3(ψ):aG:=(Zl J8 (MA Ĉ ĩ) (MA MQ WP))
def z6m(ψ):aG:=(Zl J8 AXC (MA MQ ĩ))
def zw0(ψ):aG:=(Zl QH MQ (FK TV B6 (FK Iz ĩ Ĉ)))
def zsf(ψ):aG:=(aD (OB 3 Xu (FK Iz AQ Ĉ) (FK Iz WP MQ))
 (zw0 K c))
def zkg(ψ):aG:=(cG (cr cT BZ Ε (qS B6))
 (aW (o5 XR AQ B6 Ε))
 bh)
def zmc(ψ):aG:=(aW (zw (HV AO0 (cU fZ IJ))))
def zm2(ψ):aG:=(aD (dJ (Mt (DZ AO0 (Wk AO0 (n6 IJ) pI))) (ACd (Da 2) 3)
 (zkg K c))
 (zmc K c))
def zhd(ψ):aG:=(aD (cG (AWv (qS (qS AO0)) Ε)
 (aW (zw (qS AO0)))
 bh)
 (zm2 K c))
def zey(ψ):aG:=(aW (MP (ÿ "kept_leanings") Ε AWP))
def z75(ψ):aG:=(Zl TV (ZU QJ) (ċ XY))
def zia(ψ):aG:=(aW (qQ (cT (AMz AuF)) ATY IJ))
def zz1(ψ):aG:=(Zl Iz MQ Ĉ)
def zh1(ψ):aG:=(cG (AWv (AMV QM) (i6 QM B6))
 (aV 1 B6)
 bh)
def zsu(ψ):aG:=(aD (aV 3 (dX (pA Ρ (n6 AQ) (n6 (D1 cJ AQ 2)))))
 (zh1 K c))
def zu8(ψ):aG:=AUa
def zng(ψ):aG:=(aD (G9 (DZ IJ Aw') (Da 2)
 (zsu K c))
 (zu8 K c))
def zsn(ψ):aG:=(aD (aV 1 (dX (pA Ρ pI (n6 ATY))))
 (zng K c))
def z5e(ψ):aG:=(aW (ZU XF))
def z5c(ψ):aG:=(aD (cG (iy (cT (D1 lJ XY 2)) (cr cT BZ Ε (ZU QM)))
 (SI cO c.Apart (ó "two marks lie farther apart than the gap"))
 bh)
 (z5e K c))
def zvo(ψ):aG:=(RE (pA Ρ (n6 (MV Aw' 2)) (n6 (AMp (MV XY 2)))))
def zq2(ψ):aG:=(ql 1 uI (DZ B6 AQ))
def zvx(ψ):aG:=(aD (aV 3 (fJ (ja (ANR [2] ŵ (AWv Ε Ρ)))))
 (zq2 K c))
def zy5(ψ):aG:=AUa
def zyn(ψ):aG:=(aD (uD Ρ (Da 2)
 (zvx K c))
 (zy5 K c))
def zvm(ψ):aG:=(aD (cM 1 (eO ak))
 (zyn K c))
def z2t(ψ):aG:=(aW (i6 QK (FK XH (AMV QL) (qQ (cT (cB uF AQ ĥ)) (cC BJq) AQ))))
def z29(ψ):aG:=(aD (cG (cT (AMz AuG))
 (aW (i6 QK (i6 XD (AMV QL))))
 bh)
 (z2t K c))
def z3a(ψ):aG:=(aD (cG (cT (AMz AVw))
 (aW (AMV QK))
 bh)
 (z29 K c))
def zss(ψ):aG:=(aD (cG (cT (cB qT (ja Ε) (ZU XJ)))
 (SI cO c.wF (ó "the rule needs more marks than these"))
 bh)
 (z3a K c))
def zig(ψ):aG:=(Io true K c.Apart c.wF (aW (tV c.Scale "scaled" (XS c) (ÿ "scale") (QP (o5 Q6 (ÿ "rule") B6 (ÿ "gap")))))
 (BFZ AKW)
 (BFZ ý))
def zei(ψ):aG:=(aD (aV 3 (AGA (cY 2 [0] (z8z AQ) AHL) Iz (ċ Ε) (AGe (tV c.ao "leaning" (Yp c) AQ))))
 (zig K c))
def ziw(ψ):aG:=(ApQ [2] (iL (dX (pA Ε pI (n6 (cU fZ IJ))))) A9z)
def ze1(ψ):aG:=(aD (aV 2 (ZU QL))
 (ziw K c))
def zyq(ψ):aG:=(AYS 2 (o5 X3 Ρ (jl 2 (cU fZ IJ)) B6))
def z3u(ψ):aG:=(aW AQ)
def z3l(ψ):aG:=(aD (uD Ε (Da 3)
 (zyq K c))
 (z3u K c))
def z14(ψ):aG:=(aD (cM 2 (eO (aj (AV6 sT) ak)))
 (z3l K c))
def zex(ψ):qY:=(Ib 1 [] ŵ NB dF AwA)
def zi0(ψ):aG:=(aW (ja (ANR [0] ŵ (AJe (FK BZ Ρ Ε)))))
def z7n(ψ):aG:=(RE (XE z8m (dX (iB (AV6 sT) (AGA (cY 1 [0] xh NB) X4 Ρ Ε)))))
def zfv(ψ):aG:=(RE (pA (dX (XE ya3 B6)) (n6 IJ) pI))
def zmp(ψ):aG:=(aD (OB 3 QX AQ (dX (XE ya3 Ε)))
 (zfv K c))
def zhl(ψ):aG:=(aD (aV 2 (ANQ [0] (AGe zmt) A2Y))
 (zmp K c))
def zg2(ψ):aG:=(AYS 2 (OP z5s (ANR [0,4] (iL UE) (vi AXQ A2Y AQ))))
def zjf(ψ):aG:=(aD (aV 5 (Hu (Wm (cY 1 [2,3] xh NB (cr cT TY (cB fO Ρ Aew) AQ) Ρ))))
 (zg2 K c))
def zln(ψ):aG:=(RE (pA AQ (n6 IJ) pI))
def zk1(ψ):aG:=(aD (dJ (Mt (DZ Ε (FK X6 Ρ Ε))) (ACd (Da 3) 4)
 (zjf K c))
 (zln K c))
def zgo(ψ):aG:=(aD (cM 2 (eO (aj sT ak)))
 (zk1 K c))
def z53(ψ):aG:=(Zl X7 AQ Ε)
def z4q(ψ):aG:=(aD (cG (cT (cB (qN true) XY (HV B6 (cU fZ IJ))))
 (zx4 c.bW "reach" (T3 c) (QP B6))
 bh)
 (z53 K c))
def z7i(ψ):aG:=(aD (OB 3 QX AQ Ε)
 (z4q K c))
def z7h(ψ):aG:=(aD (aV 2 (ZU X5))
 (z7i K c))
def zgx(ψ):aG:=(Il c.ao 0 "marks" 6 (zzf c.ao "reckoned" (Ys c) Ρ (DZ UD (cB wO AuP UD))))
def zg0(ψ):aG:=(xQ c.ao 0 "kept_borders" (FK Yc eg (FK X8 eg UE)))
def zg5(ψ):aG:=(aD (aV 7 (dX (CK (Cz AV4))))
 (zg0 K c))
def zhe(ψ):aG:=(aD (uD (dX (CK (XE zs2 AuP))) (Da 6)
 (zgx K c))
 (zg5 K c))
def zhj(ψ):aG:=(aD (Cw c.ao 0 "marks" Px)
 (zhe K c))
def zhg(ψ):aG:=(aD (Cw c.ao 0 "sheets" (SI sO (QZ c) Ε))
 (zhj K c))
def zhb(ψ):aG:=(aD (xQ c.ao 0 "kept_leanings" (Awf Ε))
 (zhg K c))
def zhw(ψ):aG:=(aD (xQ c.ao 0 "scale" (BCK (dX (XE rQ (n8 c.Scale "points" EW)))))
 (zhb K c))
def zhy(ψ):aG:=(aD (xQ c.ao 0 "gap" B6)
 (zhw K c))
def zcn(ψ):aG:=(aD (xQ c.ao 0 "rule" AQ)
 (zhy K c))
def zly(ψ):aG:=(ql 1 qM (AqJ EW (cB cJ EW (HV (tm (Ŷ (LU 60) ATY (LU 4) (JI (MV B6 36) 7))) (JI (MV B6 9) 4)))))
def zkv(ψ):aG:=(aD (aV 4 (MA (du B6) (OP sG (D1 lJ (du (MV B6 3)) 1))))
 (zly K c))
def znl(ψ):aG:=(aD (OB 3 xV Ρ (cB cJ (LU 54) AQ))
 (zkv K c))
def zqe(ψ):aG:=AUa
def zo0(ψ):aG:=(aD (tU (QP (AFl (AkH 53))) (Da 2)
 (znl K c))
 (zqe K c))
def zkx(ψ):aG:=(aD (cM 1 (eO ak))
 (zo0 K c))
def zn2(ψ):aG:=(CG 5)
def zgq(ψ):aG:=(aD (cG (Qu 5)
 (CJ 5 (Iv (Cy c.ao (K6 c) (aj Ε (Ŷ AVw AWP AQ (tm (DZ A0Z A0Z))))) (DZ AVw AWP)))
 bh)
 (zn2 K c))
def znw(ψ):aG:=(aD (Io false K c.Open c.bW (CJ 5 (Iv (Cy c.ao (K6 c) (aj Ε (Ŷ B6 EW AQ (ZU Yv)))) (DZ B6 EW)))
 (aV 5 ĥ)
 (aV 5 ĥ))
 (zgq K c))
def zny(ψ):aG:=(aD (aV 5 ĥ)
 (znw K c))
def zi3(ψ):aG:=(aD (jC (ZU Yw) (fG 2 (AVb 3 4)))
 (zny K c))
def zki(ψ):aG:=(RE (cY 3 [1] xh (fG 3 (aZ NB (AVb 1 2))) dF (dB (aj Ρ (DZ Ε (FK Iz (ċ AQ) (cB wO B6 Ε)))))))
def zqg(ψ):aG:=(aD (aV 1 (Awf Ρ))
 (zki K c))
def znp(ψ):aG:=(Xc 3 4 6)
def znn(ψ):aG:=(Qh 7 EW (o5 Q6 Ε (cB wO B6 EW) AQ))
def zo8(ψ):aG:=(xM (nV 7))
def zpu(ψ):aG:=(aD (Ia 3 (dJ (ye8 B6) (Da 4)
 (znn K c)))
 (zo8 K c))
def zp1(ψ):aG:=(aD (Af 7 Px)
 (zpu K c))
def zpy(ψ):aG:=(aD (uD (ZU Yz) (fG 3 (aZ (Da 4) (AVb 5 6)))
 (znp K c))
 (zp1 K c))
def zko(ψ):aG:=(aD (Af 3 Px)
 (zpy K c))
def zfl(ψ):aG:=(aV 2 (cB cJ (MA (LU 6) (AMp (OP rP AQ))) (du (MV UD 105))))
def zcq(ψ):aG:=(aD (aV 1 (cB cJ (AMp Ε) (JI (MV UD 15) 7)))
 (zfl K c))
def zcv(ψ):aG:=(aD (ql 4 qM (AqJ (FK Q5 Ε B6) eg))
 (zcq K c))
def zfu(ψ):aG:=(aD (cG (iy (cT (ADz UE)) (cT (D1 lJ (JI UD 5) 4)))
 (aV 7 (zw (jl 4 (D1 fO UE 1))))
 bh)
 (zcv K c))
def zfz(ψ):aG:=(aD (OB 7 Q5 AQ (AFl (du (MV UD 5))))
 (zfu K c))
def zgw(ψ):aG:=(aD (OB 6 xV Ρ (cB cJ (LU 49) UE))
 (zfz K c))
def zh4(ψ):aG:=(aW EW)
def zhv(ψ):aG:=(aD (tU (QP (cB cJ ATY (du (uj 48)))) (Da 5)
 (zgw K c))
 (zh4 K c))
def zhi(ψ):aG:=(aD (cM 4 (eO ak))
 (zhv K c))
def zh5(ψ):aG:=(aD (aV 3 (AFl (du (MV (uj 46) 15))))
 (zhi K c))
def zh6(ψ):aG:=(aD (aV 2 (D1 fO (JI (uj 47) 21) 4))
 (zh5 K c))
def zd9(ψ):aG:=(aD (aV 1 (D1 fO (JI (uj 46) 15) 9))
 (zh6 K c))
def zkj(ψ):aG:=(aW (jj (cr fC BZ MQ WP) (cB uU AkB AkC)))
def zk3(ψ):aG:=(aD (cG (iy (cT (cB lJ MQ WP)) (vi qU AkB AkC))
 ANv
 bh)
 (zkj K c))
def zj7(ψ):aG:=(aD (cG (iy (cr cT BZ AQ B6) (uR (cr cT BZ WP MQ) (vi qT AkB AkC)))
 ANv
 bh)
 (zk3 K c))
def zjg(ψ):aG:=(aD (cG (iy (cT (cB lJ AQ B6)) (vi qU MQ WP))
 ANv
 bh)
 (zj7 K c))
def z8x(ψ):aG:=(cG (AJe (aq (YC c) (Ŷ eg my (cB wO UE (qS eg)) (cB wO UE (qS my)))))
 ANv
 bh)
def z6f(ψ):aG:=(uD UD (Da 8)
 (z8x K c))
def yay(ψ):aG:=Au1
def yby(ψ):aG:=(aD (uD UD (Da 7)
 (z6f K c))
 (yay K c))
def z0u(ψ):aG:=(aD (cG (cT (cB qU (ja UD) (OP WY UE)))
 ANv
 bh)
 (yby K c))
def z0s(ψ):aG:=(aD (aV 6 (M8 (Iu (HY c.ao "table" (Yt c) AQ))))
 (z0u K c))
def ycm(ψ):aG:=(aD (aV 5 (DX (sO (YB c) (aj Ε (DZ B6 EW)))))
 (z0s K c))
def ycs(ψ):aG:=(aD (M9 2 3 4 (Ij (Yy c) (aj Ρ (DZ Ε (BCK (ZU Yx))))))
 (ycm K c))
def z85(ψ):aG:=(aD (aV 1 (o5 Yn Ρ (AFl (JI (FK xV Ρ sT) 4)) (JI (FK xV Ρ IJ) 7)))
 (ycs K c))
theorem z4m(AG TQ):DT:=EZ
theorem z3n(AG J8):DT:=EZ
theorem yla(AG QH):DT:=EZ
theorem yi1(AG Iz):DT:=EZ
theorem yii(AG Xu):DT:=EZ
theorem yj0(AG TV):DT:=EZ
theorem yhi(AG BZ):DT:=EZ
theorem vJ{j:Int}(h:j.natAbs<2^64):Ah2:=zO (kE h) Β
abbrev fin(Q:Ő):rW:=Aph
theorem z7f(AM TQ):Y3 zrq:=by
 show AMm i j;show A9 (fun m Γ=>∃a b r,Γ= [BI a,we,r]/\m=b.natAbs/\Int.gcd a b=AcY) ⟨_,i,j,A_,rfl,rfl,rfl⟩;rintro m _ ⟨a,b,r,rfl,rfl,hg⟩;show CD rfl;show qf 0
 ·subst hb;have:E4 (! iM ø ø):=wf
  rw[this];show Q (C3 A'x);have e:A'x=AKS:=by
   rw[<- hg,Int.gcd_zero_right];split<;>omega
  rw[e];exact h
 ·have:AEt (iM (C3 b) ø):=QY iM hb
  rw[this];exact⟨hb,_,zfe hb,b,a.fmod b,BI (a.fmod b),rfl,rfl,Gc z1g hg⟩
theorem zwy{i j:Int}(hj:ADl):dv i j≠0/\∀n,Si<=n ->kM<=n ->AMx dv<=n:=by
 show A8 (Xe hj) (fun n h1 h2=>(AXc h2));show JY k (yab i j);have h:=congrArg Int.natAbs e;rw[Int.natAbs_mul] at h;rw[h];have:k≠0:=Ξ (hj (by rw[e,z,Int.mul_zero]))
 exact Auw
theorem z3y(AM J8):Y3 zox:=by
 show yT i j b1 b2;show CD rfl;by_cases hj:j=0
 ·subst hj;have:iM ø ø=true:=wf
  rw[this];exact h.elim
 ·have:iM (C3 j) ø=false:=QY iM hj
  rw[this];rw[AY hj,<- yk6 hj] at h;show HQ i j rfl;show CM d0 d1 (nI zwy) hj;show kD (Μ (j<0));by_cases hn:j<0
  ·show Y_ hn
   have e:dv i j= -AKS:=by unfold dv;show Db hn
   exact⟨ADh,ADh,AKi,AeS⟩
  ·show BAj
theorem at0{x y:D}:mY y0 0=some x:=AVp
theorem at1{x y:D}:mY y0 1=some y:=AMy
theorem uM(A4M):Cq i j:= AVz
theorem wV(A4M):cW (i*j)<=8000:=GB (Eu i j)
theorem abG(A4N):NL (cW (i+j)):=GB (zij i j)
theorem abH(A4N):NL (cW (i - j)):=GB (zl0 i j)
theorem T8{i:Int}(h1:Si<=8000):AU4:=ω
theorem ylz(AM QH):IZ z43:=by
 show APu;refine⟨_,at0,_,at1,AXI,_,at0,_,at1,AoU,_,at1,_,at1,Aju,_,_,rfl,BHC abG,T8 (wV a2 b2),?_⟩;rw[if_neg (Tr a b),<- yeh];exact h
theorem yi6(AM Iz):IZ z03:=by
 show APu;refine⟨_,at0,_,at1,AXI,_,at0,_,at1,AoU,_,at1,_,at1,Aju,_,_,rfl,BHC abH,T8 (wV a2 b2),?_⟩;rw[if_neg (Tr a b),<- yea];exact h
theorem yhz(AM Xu):IZ zz3:=by
 show APu;refine⟨_,at0,_,at0,uM a1 b1,_,at1,_,at1,Aju,_,_,rfl,T8 (wV a1 b1),T8 (wV a2 b2),?_⟩;rw[if_neg (Tr a b),<- ye7];exact h
theorem ylo(AM TV):IZ z6m:=by
 show APu;refine⟨_,at0,_,at1,AXI,_,at1,_,at0,uM a2 b1,_,_,rfl,T8 (wV a1 b2),T8 (wV a2 b1),?_⟩;show qf 0
 ·show n_ hb;rw[if_pos (Θ hb (Int.mul_zero _))];exact h
 ·rw[t_] at h;rw[if_neg (Int.mul_ne_zero AkE (ADG hb Al.mp)),<- yd2 a b hb];exact h
theorem yf1(AM BZ):IZ z09:=by
 show APu;refine⟨_,at0,_,at1,AXI,_,at0,_,at1,AoU,?_⟩;rw[yg1] at h;exact h
theorem yfw{n:Nat}(a b:Rat):uV NF (qD a) (qD b):=by
 intro i x y h1 h2
 match i with
 | 0=>show A7q
 | 1=>show A7q
 | i+2=>simp at h1
theorem wW:Ï (FC 1000):=AS
theorem Ce{i m:Int}(hm:0<m):0<=i.fmod m/\i.fmod m<m:=Θ Aux ⟨Int.emod_nonneg _ χ,Int.emod_lt_of_pos _ hm⟩
theorem K7(AG2):pE (iM Ň (C3 j)) (i=j):=by
 simp only [iM];by_cases h:i=j<;>simp [h]
theorem Nr{i:Int}{n:Nat}(h:0<n):∃k:Nat,i.fmod FL=Cf/\k<n:=by
 have:=AII i FL χ
 exact⟨(i.fmod FL).toNat,ω,ω⟩
theorem z23(AG xV):DT:=EZ
theorem ym6(AG z17):GM:=OF
theorem z2g(AM xV):Y3 zqk:=by
 show yT ns k hl hk;show Ÿ Cf ApV;show EQ;by_cases hlt:Ah3
 ·show Y_ hlt
  show A9 (.int ns[k]) (yE (HK hlt))
  show BO fK;rw[dif_pos hlt] at h;exact h
 ·show mE hlt
  show BO fK;rw[dif_neg hlt] at h;have bk:cW Cf<=10:=kE (by simp only [Int.natAbs_natCast];omega)
  show CD AGy
  show Ÿ LA ApV;show EQ;have fin2:∀m:Int,m.natAbs<2^40 ->A'n ->Cq m m/\ P3 2147483629/\A'n:=fun m hm hq=>
   ⟨AOm kE hm,AS,hq⟩
  by_cases he:ns= []
  ·subst he;show AFG
   rw[B4] at h;exact fin2 _ χ h
  ·have hp:0<ns.length:=(by cases ns with | nil=>show ACr he | cons _ _=>exact Nat.succ_pos _)
   show Y_ hp
   show n9 he;show A9 AGy (Avx (P3 (B2 ns.map D.int)))
   have hm:(Cf*7).fmod ApV=CF AX3:=by
    show AEh Aux Int.natCast_emod Int.natCast_mul
    rfl
   dsimp only [aD,bh,cC,cV,cB,cT,iy,uR,gW,eG,jj,fC,qQ,ak,aj,dB,eO,dX,fQ,aW,gB,cG,aV,cM,hName,fD,aZ,fG,jC,jD,aq,cU,iw,fZ,cJ,fO,cI,dw,bQ,jE,qT,uE,qe,uU,uF,jk,lJ,qU,cA,wI,qR,rP,lB,zev,wD,cO,kJ,gC,kO,kY,List.length,List.set_cons_zero,List.set_cons_succ,List.getElem?_cons_zero,List.getElem?_cons_succ,fH,mG,rQ,uG,pI,n6,pA,kZ,fJ,dG,jl,ql,qM,uI,iB,qN,cP,dH,sG,wJ,sE,lu,lA,iL,dJ,gK,jM,dF,List.map,List.append,List.cons_append,List.nil_append];rw[hm];have hlt2:AX3<ns.length:=Nat.mod_lt _ hp;show A9 (.int (ns.getD (AX3) 0)) (yE (by simp [List.getElem?_map,List.getD_eq_getElem?_getD,hlt2]))
   show HQ AGy AGy AS
   refine fin2 _ ?_ h;have h1:=zfe (a:=ns.getD (AX3) 0*48271+ Cf*7919) (b:=2147483647) Β
   exact Nat.lt_trans h1 Β
theorem ygp(AG QJ):GM:=OF
theorem ylc(AG QK):GM:=OF
theorem yhy(AM QJ):Y3 z1f:=by
 obtain⟨qs,rfl,s1,s2,h⟩:=h;show AWK AKi (∃x,Γ= [MH AQS,cn (gb (qs.take i)),x]) C9
 ·rintro i x _ hi ⟨y,rfl⟩;rw[List.getElem?_map] at hi;cases q:qs[i]? with
  | none=>show Cc q hi hi
  | some a=>
   rw[q] at hi;cases hi;show N4 _ _ rfl (s2 i) (s1 a (yV q)) AU9;rw[List.take_add_one,q,zyp];simp only [Option.toList_some,gb,Rat.add_zero]
   rfl
 ·rintro _ ⟨y,rfl⟩;have h' :=h;show AiM;exact h'
theorem yjz(AM QK):ś z75:=by
 obtain⟨qs,rfl,hl,s1,s2,h⟩:=h;show P9 qs rfl s1 s2;have e:D.tup A5O=qD BMf:=by rw[Qw,List.length_map]
 show N4 AKi (gb qs) BMf (by show [_,D.tup A5O]=_;rw[e]) ?_ (A7Y ?_)
 ·have:=s2 qs.length;show BM0
 ·exact zL (lc (qq wP<=1000)) Β
 ·by_cases hq:qs= []
  ·subst hq;rw[B4] at h;show Db Χ;exact h
  ·show n9 hq;rw[if_neg]
   ·exact h
   ·intro z;have z' :wP=0:=by show AJm
    exact BLt hq χ
theorem YD(A9l):Ch (Fk f) (f i):=BG h
theorem J9(A9l):mi Fk f Fh (f i):=yE (YD h)
theorem z89{n:Nat}(f g:kN):BH1:=by
 unfold mH;show UB
 ·simp
 ·show yY;simp
theorem ye5{n:Nat}(f:kN):J0 0 (Fk f)=Fk (CO (.tup [.int (FC i),f i])):=by
 apply List.ext_getElem?;intro i;rw[zs0];by_cases h:i<n
 ·rw[YD h,YD h];simp
 ·simp [h]
theorem zxe(A__):ALA is At (∀i∈is,AG3 (P [g i]) i) is.map g (is.map f)
 | [],_,_,h=>h
 | i::is,P,k,h=>k i zY _ (zxe A7P h)
theorem zkd(A__){n:Nat}{P:VU}(k:xi (AG3 (P [g i]) i))(h:P (Fk g)):AI2 (Fk f):=
 zxe (NI hi (k i (List.mem_range.mp hi))) h
theorem zmb{m:Nat}{f g:fT}(h:KI m (f j=g j)):iG m f=iG m g:=by
 unfold iG
 congr 1
 exact List.map_congr_left fun j hj=>(Hk (h j (List.mem_range.mp hj)))
theorem z3z{n m:Nat}{a b:Mx}(h:∀i j,i<n ->j<m ->a i j=b i j):Aav=pW n m b:=by
 unfold pW
 congr 1
 exact AxG (zmb fun j hj=>h i j (BLn hi) hj)
theorem zyj(AG zdt):GM:=EZ
theorem zxo(AG Xy):YY:=AAv
theorem ymn(AG Xz):DT:=AZF
theorem z64(AG Xw):iS 4:=AAv
theorem yaa(AG Xx):YY:=AAv
theorem ydl(AG XC):DT:=by obtain⟨_,_,⟨rfl,_⟩,_⟩:=h;rfl
theorem z6a(AM Xw):SA zrt:=by
 obtain⟨m,k,f,g,p,rfl,hk,p0,bp,bf,bg,h⟩:=h;show Tx (mH (AmQ f) (AmQ g));rw[z89];refine zkd (g:=DJ (.int ((A7a).fdiv p))) A3y h;have b1:=bg k;have b2:=bf j;have b3:=bf k;have b4:=bg j;exact⟨rfl,rfl,.int (g k),J9 hk,AVz,.int (f k),J9 hk,AVz,⟨p0,bp⟩,hP⟩
theorem z60(AM Xx):SA zrv:=by
 obtain⟨a,n,m,k,p,rfl,hk,hkm,p0,bp,ba,h⟩:=h;show A9 (iG m (a k)) (J9 hk);show Tx (J0 0 (AGG ADe));rw[ye5];refine zkd (g:=CO (iG m BEc)) A3z h;show HQ rfl rfl rfl;rw[K7];show GG i k
 ·subst e;show m_ rfl;have:iG m (Fl i p a i)=ADe:=zmb fun j _=>B4;rw[this] at hP;exact hP
 ·show m4 χ
  have:iG m BEc=iG m (DJ BHH):=zmb fun j _=>(AY e);rw[this] at hP;exact⟨m,k,a i,a k,p,rfl,hkm,p0,bp,DJ (ba i j hi),DJ (ba k j hk),hP⟩
theorem yge{n:Nat}(f:kN){k s:Nat}(hk:k<n)(hs:s<n):((Fk f).set k (f s)).set s (f k)=Fk (CO (f (sW k s i))):=by
 show UB
 ·simp
 ·show yY;simp only [List.getElem_set,List.getElem_map,List.getElem_range];unfold sW;by_cases e1:s=i
  ·subst e1;by_cases e2:k=s
   ·subst e2;simp
   ·rw[B4,UH,B4]
  ·show Ap e1;by_cases e2:k=i
   ·subst e2;rw[B4,B4]
   ·rw[AY e2,UH,UH]
theorem z5g{n k:Nat}(h:k<n):wM n Cf=some k:=by
 unfold wM;rw[YO,YO];simp
theorem zzm(AM Xy):SA zna:=by
 obtain⟨a,n,m,k,s,rfl,hk,hs,h⟩:=h;refine⟨iG m (a s),J9 hs,C9,k,z5g (HK hk),iG m (a k),J9 hk,C9,s,z5g (HK hs),?_⟩
 have e:=yge (ä ADe) hk hs;rw[e];exact h
theorem ymu(AM Xz):Y3 yfj:=by
 obtain⟨a,n,m,k,rfl,hn,hk,hm,h1,h2⟩:=h;have el:B2 Fk (CO ADe)=n:=AV
 show(AX lm<=Cf/\ Cf<2^62/\ AX lm<=AlU/\ AlU<2^62)/\G8 Cf (AlU - Cf).toNat _ _ _ _ _;rw[el,HC (FL - Cf).toNat (n - k)]
 show AWK ⟨ω,ω,ω,ω⟩ (∃y:Slot,Γ= [.pu (pW n m a),ALm,y]/\A8G (s<k+i)) (NG (fun s hs hs' =>ω))
 ·rintro i _ hi ⟨y,rfl,hz⟩;have e0:Cf+ Fh=CF (k+i):=ω
  have hlt:k+i<n:=ω
  show LS (iG m (a (k+i))) ?_ (.int (a (k+i) k)) (J9 hm) rfl
  ·rw[e0];exact J9 hlt
  rw[K7];by_cases ez:a (k+i) k=0
  ·show m_ ez;show nN _ (Ν s hs hs');by_cases es:s=k+i
   ·rw[es];exact ez
   ·exact hz s hs χ
  ·show m4 ez;refine⟨a,n,m,k,k+i,?_,hk,hlt,h1 _ χ hlt ez⟩
   rw[e0]
 ·rintro _ ⟨y,rfl,hz⟩;exact(h2 fun s hs hs' =>hz s hs χ).elim
theorem yjb(AGf):JE q.num=q* AUb/\ AUb≠0:=by
 have hd:AUb≠0:=by
  have:=q.den_pos
  exact_mod_cast (lc (P3 q.den))
 have e:AIu q.num ņ=q:=by
  have:=BMZ;show BC Rat.divInt_eq_div;exact this
 show A8 ?_ hd;rw[Rat.div_def] at e;have:=w4 (· * ((q.den:Int):Rat));simp only [Rat.mul_assoc,ň hd,Rat.mul_one] at this;exact this
theorem ybw{μ d:Int}(hμ:0<μ)(hd:0<d):P3 AP4/\0<AbC/\μ∣AbC/\d∣AbC/\ (d.fdiv da).natAbs<=d.natAbs/\ qq da<=d.natAbs:=by
 show UM g0 AP4 (GB Awd)
 have gd:da∣d:=Af9;have gm:da∣μ:=Af8;have e:=Tn gd;obtain⟨u,eu⟩:=gm;have gp:LA< da:=ω
 generalize da=g at*;generalize d.fdiv g=t at*;have tp:0<t:=by
  show Pf (Int.lt_or_le 0 t)
  ·exact h
  ·have:=BMb (ω:0<=g)
   omega
 show LS ω (Int.mul_pos hμ tp) Tm (EU u) ?_
 ·rw[eu,<- e];ac_rfl
 ·show Ayt (Nat.le_mul_of_pos_left _ χ)
 ·show Ayt Auw
theorem Ea{d:Int}(h:d∣27720):ZA<=15:=zO (Az' (Nat.le_of_dvd Β (Int.natAbs_dvd_natAbs.mpr h))) (kE Β)
theorem lcm_dvd{μ d n:Int}(hμ:0<μ)(hd:0<d)(h1:μ∣n)(h2:d∣n):AbC∣n:=by
 have g0:P3 AP4:=Ξ (GB (BMa (ω:Int.gcd μ d=0)))
 have e:=Tn (Int.gcd_dvd_right μ d);have e2:da* (μ*d.fdiv da)=da* AX (Int.lcm μ d):=by
  rw[<- Int.natCast_mul,Int.gcd_mul_lcm,Int.mul_left_comm,e,Int.natCast_mul,BMY,BMY]
 rw[Int.eq_of_mul_eq_mul_left g0 e2];have:=Int.lcm_dvd (c:=n.natAbs) (Int.dvd_natAbs.mpr h1) (Int.dvd_natAbs.mpr h2);exact Int.ofNat_dvd_left.mpr this
theorem zzo(AM zdt):Y3 znd:=by
 show yT m f hm hz;show SG (∃(μ:Int) (y:Slot),Γ= [.pu (pJ m f),BI μ,y]/\0<μ/\μ∣27720/\∀j,j<i ->j<m ->ķ∣μ) (eQ 1 _ AS (Ì 27720) (dk ω))
 ·rintro i d _ hi ⟨μ,y,rfl,hμ,bμ,hd⟩;have him:i<m:=lf ZO this
  rw[YD him] at hi;cases hi;have dp:LA< (f i).den:=GB (f i).den_pos
  obtain⟨g0,p1,p2,p3,p4,p5⟩:=ybw hμ dp;have zi:=Ea A6m;have b4:=zO (Ks p4) zi;have b5:=zO (Ks p5) zi;have bμ' :=Ea bμ;refine⟨_,at1,_,at1,μ,(f i).den,rfl,⟨g0,ω⟩,AVz,_,_,rfl,p1,lcm_dvd hμ dp bμ A6m,Ν j hj hjm⟩
  show GG j i
  ·show N1 p3
  ·exact Int.dvd_trans (hd j χ hjm) p2
 ·rintro _ ⟨μ,y,rfl,hμ,bμ,hd⟩;have el:B2 (KU m) (DJ (qD (f j)))=m:=AV
  rw[el] at hd;have bμ:=Ea bμ
  let g:fT:=DJ (IM (j<m) A9n)
  have gv:KI m (g j=A9n):=fun j hj=>by show(yA (j<m))=_;show Db hj
  have bt:KI m (cW (μ.fdiv ķ)<=cW μ):=fun j hj=>by
   refine Ks ?_;have e:=congrArg Int.natAbs (Tn A5w);show AhD;rw[<- e];exact Nat.le_mul_of_pos_left _ (ARQ At9)
  refine zkd (g:=DJ (.int (g j))) A3y (h μ g hμ (Q1 j hj) AFU)
  ·have z:=hz j hj;have b:=bt j hj;show N4 _ at0 _ at1 ⟨GB At9,zO (Ea z.2) Β⟩ (sw (by have:=z.1;omega))
   show P [.int (AeW*μ.fdiv ķ)];rw[<- gv j hj];exact hP
  ·rw[gv j hj];have e:=Tn A5w;obtain⟨n1,n2⟩:=yjb (f j);show Aze (An μ) (ķ* AX (μ.fdiv ķ))
   rw[Rat.intCast_mul,n1,e']
   grind
  ·by_cases hj:j<m
   ·rw[gv j hj];have:=Eu AeW (μ.fdiv ķ);have:=bt j hj;have:=(hz j hj).1;omega
   ·show cW (IM (j<m) _)<=_;show Ap hj;exact EX
theorem zvs{α:Type}[X9 α]{one:mS}{f:kN}(F:pr α D)(Good:AIb α):∀{n s:Nat} {P:VU},(A1r (AG3 A6j i)) ->(∀as:GT α,(A1r Avk) ->P (AYF s (CO (F i (as i))))) ->AI2 (AYF s f)
 | 0,s,P,_,h=>h (BQ default) fun i h1 h2=>ω
 | n+1,s,P,k,h=>by
  rw[List.range'_succ];refine k s χ χ _ (AJ a ha)
  refine A7i (fun i h1 h2=>k i χ χ)
  have:=h (ä (XU s a (as i))) fun i h1 h2=>by
   show GG i s
   ·subst e;simpa using ha
   ·simp only [AY e];exact has i χ χ
  rw[List.range'_succ,List.map_cons,B4] at this;have e:AYF (s+1) (CO (F i (AI (i=s) a (as i))))=AYF (s+1) (CO (F i (as i))):=AxG (by
   have:=List.mem_range'_1.mp hi;show Ap χ)
  show nk;exact this
theorem z3w{α:Type}[X9 α]{one:mS}{f:kN}(F:pr α D)(Good:AIb α){n:Nat}{P:VU}(k:xi (AG3 A6j i))(h:∀as:GT α,(xi Avk) ->P (Fk (CO (F i (as i))))):AI2 (Fk f):=by
 rw[List.range_eq_range'];refine A7i (fun i _ h2=>k i χ)
 rw[<- List.range_eq_range'];exact h as (ky (has i χ χ))
theorem yjs(AbE):A_U:=by
 show AXe (Ř u7) n (by
  show Atw;unfold wM;rw[AY Β,YO]
  congr 1;omega)
 unfold mY;rw[e];exact YD χ
theorem T9{z:Int}{e k:Nat}(h:z.natAbs<=(16*2^e)^k):cW z<=(e+4)*k+1:=by
 refine kE (zL h ?_);rw[show FC 16*2^e=2^ (e+4) by rw[Nat.pow_add,Nat.mul_comm],<- Nat.pow_mul]
 exact Nat.pow_lt_pow_right Β χ
theorem zsp{f g:PF}(t:Rat):GY m Nat (KI m (f j=t*g j)) (dN m f=t*dN m g)
 | 0,_=>kz dN
 | m+1,h=>AVn dN (zsp t (dk (h j χ))) (h m χ)
theorem ycz(AM XC):Mm zu6 5:=by
 obtain⟨n,A,⟨rfl,hn,hz⟩,hE,hP⟩:=h;show IA;show Tx (mH (AGG (pJ n (A i))) (AGG (qD (A i n))));rw[z89];refine z3w (α:=fT) (FD g (iG NF g)) (NI g ((A2j)/\∃μ:Int,0<μ/\KI (n+1) (An (g j)=An μ*AFZ))) A3z (Q1 as has)
 ·refine⟨rfl,rfl,AFv,?_,n+1,A i,?_,ω,dk (hz i j hi χ),fun μ g h0 h1 h2=>hP g ⟨h2,μ,h0,h1⟩⟩
  ·show BH (B2 Fk (DJ (qD (A i j)))+1);simp only [List.length_map,List.length_range];omega
  ·unfold pJ;show AEf List.range_succ;rfl
 change Mb zpb [.pu (IK n n A),.pu A1I,.pu (pW n NF as),A_,A_]
 have ba:Arl as (2^143):=fun k hk j=>Nat.le_of_lt (OJ ((has k hk).1 j));have hμ:∃μ:PF,xi (μ i≠0/\KI (n+1) (An (as i j)=μ i*AFZ)):=by
  show YU (CO (ATB (i<n) (AX ((has i h).2).choose) 1)) i hi;simp only [dif_pos hi];have sp:=((has i hi).2).choose_spec;show A8 ?_ (dk (sp.2 j hj));have:=sp.1;intro z;have:((has i hi).2).choose=0:=by show AJm
  omega
 obtain⟨μ,hμ⟩:=hμ;have el:B2 Fk (CO (AVu as))=n:=AV
 show(AX lm<=Adw (AVu as)/\_)/\G8 0 (ATD (Adw (AVu as))) _ _ _ _ _;rw[el,Int.toNat_natCast];have mx:∀k,k<=13 ->(143+4)*k+1<=1912:=fun k hk=>ω
 have h1:1<=16*2^143:=Nat.mul_pos Β (Nat.pow_pos Β)
 show ANP (fun k Γ=>∃(d:Int) (tb:Mx) (rs:CA) (fs:ABv) (ix:OY) (y:Slot),Γ= [.pu (IK n n A),.pu A1I,.pu (pW n NF tb),BI d,y]/\BT n as k d tb rs fs ix) ⟨1,as,_,_,_,_,rfl,yco n as⟩
 ·rintro k _ hk ⟨d,tb,rs,fs,ix,y,rfl,bt⟩;have e0:(0+ Cf)=CF k:=ω
  have bd:ZA<=1912:=zO (T9 (AkZ ba χ)) (mx k χ)
  have be:ANz (AMx tb<=1912):=fun i j hi=>zO (T9 (Aso j)) (mx FI χ)
  refine⟨tb,n,n+1,k,?_,ω,hk,ω,ER s hs hsn hne,E2 hall⟩
  ·rw[e0]
  ·obtain⟨rs',fs',QC,bt'⟩:=bt.step hs hsn hne;have sk:sW k s k=s:=by unfold sW;show WZ
   have et:pW n NF (Fl k d (Xv k s tb))=pW n NF (nextT k s d tb):=z3z fun i j _ _=>by
    unfold Fl Xv nextT;rw[sk]
   refine⟨Xv k s tb,n,n+1,k,d,?_,hk,ω,bt.nz,zO bd Β,fun i j hi=>zO (be (sW k s i) j ?_) Β,?_⟩
   ·rw[e0]
   ·unfold sW;split
    ·exact hsn
    ·split<;>omega
   ·rw[et];refine⟨iG NF (BEZ k),?_,.int (nextT k s d tb k k),?_,tb s k,BEZ,rs',fs',QC,BI (0+ Cf),?_,bt'⟩
    ·rw[e0];exact J9 hk
    ·rw[e0];exact J9 χ
    ·have:nextT k s d tb k k=tb s k:=AhH nextT
     rw[this];rfl
  ·show CS x x1 hx bt.stuck hk hall;refine hE x k hk x1 AGg;have q:=hx r hr;rw[BFb (DJ (A r j*x j)) (by
    show An (as r j)*x j=_;rw[Aqo j χ];grind)] at q
   show Aj3 q
   ·show F9 q (hμ r hr).1
   ·exact q
 ·rintro _ ⟨d,tb,rs,fs,ix,y,rfl,bt⟩;show UM d0 AEq (Ai4 bt.nz)
  have bd:ZA<=1912:=zO (T9 (AkZ ba χ)) (mx n χ)
  have be:ANz (AMx tb<=1912):=fun i j hi=>zO (T9 (Aso j)) (mx NF χ)
  have bd' :ZA<=147*n+1:=T9 (AkZ ba χ)
  have be' :ANz (AMx tb<=IV n):=fun i j hi=>T9 (Aso j)
  have ex:xi (fs i n=NE (tb i n) d):=fun i hi=>by
   rw[bt.t i hi n,Rat.div_def,Rat.mul_comm,<- Rat.mul_assoc,ň d0,Rat.one_mul]
  have hs:Slv n A (CO (fs i n)):=fun r hr=>by
   have q:=bt.sol hr n;have q' :An (as r n)=dN n (rV (An (as r c)*fs c n)):=q;rw[BFb (DJ (A r j*fs j n)) (UK (Aqo j χ)),Aqo n χ] at q'
   have m0:=(hμ r hr).1;have:=congrArg (Τ z ((μ r)⁻¹*z)) q';simp only [<- Rat.mul_assoc,ň m0,Rat.one_mul] at this;exact this
  show Tx (J0 0 (AGG (AVu tb)));rw[ye5];refine zkd (g:=CO (qD (fs i n))) (ű i hi) (hP _ hs ⟨d,bt.nz,zO bd' AUV,ky ⟨tb i n,ex i hi,be' i n hi⟩⟩)
  refine⟨rfl,rfl,.int (tb i n),yjs,.int (tb i i),J9 χ,tb i n,tb i i,rfl,zO (be i n hi) Β,zO (be i i hi) Β,?_⟩
  rw[bt.diag hi hi,AY bt.nz,<- ex i hi];exact hp
theorem ybj(AG QL):GM:=OF
theorem zrk(AG XJ):GM:=OF
theorem Q7(a b:Str):pE (iM (.str a) (.str b)) (a=b):=by
 rw[Bool.eq_iff_iff];simp [iM]
theorem ya6(Arx):IL (l.map qD).flatMap d (AdU (š a b) (EH (!(Μ (q.num*b<a*q.den))) [d] []) [])=Au l.filter A9K qD:=by
 induction l with
 | nil=>rfl
 | cons x l ih=>
  rw[List.map_cons,List.flatMap_cons,ih,List.filter_cons,yg1 q x];show(AI ((!(Μ (q.num* AX x.den<x.num* ņ)))=true) [qD x] [])++_=_;split<;>simp
theorem yc3(AM QL):SA zvm:=by
 obtain⟨qs,rfl,hl,hz,h⟩:=h;show AWK EX (∃(l:AB) (x y:Slot),Γ= [MH AQS,.ow sg,x,y]/\l=(qs.take i).foldl wQ []/\l.Perm (qs.take i)) ⟨[],_,_,rfl,rfl,AV⟩
 ·rintro i d _ hi ⟨l,x,y,rfl,hl',hp⟩;rw[List.getElem?_map] at hi;cases q:qs[i]? with
  | none=>show Cc q hi hi
  | some a=>
   rw[q] at hi;cases hi;have hil:i<qs.length:=IO q;have llen:l.length=i:=ALW hp.length_eq List.length_take
   show B3 lz o l (P2 o) o ho (hz o (List.mem_of_mem_take (hp.mem_iff.mp ho)));have az:P2 a:=hz a (yV q);refine zpm (Τ d (AdU (š u v) (EH (!(Μ (a.num*v<u*a.den))) [d] []) [])) ?_ ?_
   ·intro x hx P hP;show Wp o ho hx;show LS a o rfl az (lz o ho);show AVL a o;rw[yg1];have hP' :P (EH (!(Μ (a.num* AX o.den<o.num* AX a.den))) [qD o] []):=hP;split
    ·rename_i hc;rw[BD hc] at hP';exact hP'
    ·rename_i hc;rw[AY hc] at hP';exact hP'
   ·rw[ya6];show A9 trivial C9;show EQ;have hc:=yju a l;refine⟨ω,by rw[List.length_map];exact_mod_cast hc,Ak_ wW,wQ l a,AU9,BI (cnt a l),?_,?_,?_⟩
    ·unfold Wa wQ;rw[Int.toNat_natCast,List.map_append,List.map_cons,List.map_take,List.map_drop]
     rfl
    ·rw[List.take_add_one,q,List.foldl_append,<- hl'];rfl
    ·rw[List.take_add_one,q];refine Ev zv6 l a ?_;refine XA hp.cons a ?_;exact List.perm_append_singleton a _ |>.symm
 ·rintro _ ⟨l,x,y,rfl,hl',hp⟩;have e:l=oA qs:=by show č hl' List.take_length;rfl
  subst e;exact h
theorem zrn(AM XJ):ś zia:=by
 show Fr r rfl h;show CD AFJ
 rw[Q7];show kD (Μ (r=mL));split
 ·rename_i e;show n_ Ŕ;exact h
 ·rename_i e;show n9 Ŕ;exact h
theorem zxs(l:AB){a b:Nat}(h1:a<=b)(h2:AS9 b):AlL ATP ATQ=Au (AMl a) (b - a) qD:=by
 show yo;simp only [List.length_map,List.map_take,List.map_drop];have e1:(AI (ATP<0) (Q4 ATP AKP) (min (ATP).toNat l.length))=a:=AgU
 have e2:(AI (ATQ<0) (Q4 ATQ AKP) (min (ATQ).toNat l.length))=b:=AgU
 rw[e1,e2]
theorem z1l{l:AB}{a:Nat}(h:a<l.length):AMl a 1= [l.getD a 0]:=by
 rw[AgI,List.getD_eq_getElem?_getD,YN];rfl
theorem ztn{l:AB}{a:Nat}(h:AUf a):AMl a 2= [l.getD a 0,tF (a+1)]:=by
 show Afx AhQ List.take_succ_cons (z1l h) List.getD_eq_getElem?_getD (List.getElem?_eq_getElem (show a<l.length by omega));rfl
theorem ydm(AM XD):ś zvo:=by
 show xp l h1;show A9 (AOQ 2) (AOQ 2)
 have e1:(ı - 1).fdiv 2=CF AFX:=ACq (Int.fdiv_eq_ediv_of_nonneg _ Β)
 have e2:(ı).fdiv 2+1=CF (S4+1):=ACq (Int.fdiv_eq_ediv_of_nonneg _ Β)
 show Q (B8 (AqA (some ((ı - 1).fdiv 2)) ((ı).fdiv 2+1)));rw[e1,e2,A3r]
 have key:AMl (AFX) (S4+1 - AFX)=mids l:=by
  unfold mids;by_cases ho:AnF=1
  ·rw[BD ho,HC AFX S4,HC (S4+1 - S4) 1,z1l χ]
  ·rw[AY ho,HC (S4+1 - AFX) 2,ztn χ,HC AFX (S4 - 1),HC (S4 - 1+1) S4]
 rw[key];exact h
theorem yij(AM QM):ś zz1:=by
 show yT a b ha hb;exact⟨_,at1,_,at0,b,a,rfl,hb.up Β,ha.up Β,h⟩
theorem Ua{l:AB}{i:Nat}(h:i<l.length):l.getD i 0∈l:=AMO YN (yU h)
theorem z78(AM XF):SA zsn:=by
 obtain⟨l,rfl,h2,hl,hz,h⟩:=h;have abI:A2t= AKH 0 1:=by
  have:=zxs l (a:=0) (b:=2) χ h2
  have e:A2t=AlL AE' AT4:=by
   show yo;simp
  rw[e,this];show Au (AMl 0) 2 qD=_;rw[ztn χ];rfl
 show Mb zng [MH sg,MH (AqA none 2),A_,A_];rw[abI];show BBu
 show AWK (sv hn) (∃(b:Nat) (x y:Slot),Γ= Axy x y/\b<=i/\ (A5G (j<=i))/\A2e (j<=i)) ⟨0,_,_,rfl,GL,BCo Rat.le_refl,fun j hj hb=>ω⟩
 ·rintro i _ hi ⟨b,x,y,rfl,hb,hle,hgt⟩;have hi' :i+2<l.length:=by rw[hn] at hi;omega
  show zh1 K c _ (Axy (BI AW5) (MH (AqA (BU AW5) (1+ Fh+2)))) av;have ec:AlL AW5 (1+ Fh+2)= AKH Bi (BM+1):=by
   rw[AMR AW5 BM,AMR (Ag0+2) (i+3),A3r,HC (i+3 - Bi) 2,ztn χ];rfl
  rw[ec];have z:KI l.length (Sz 1900 (l.getD j 0)):=fun j hj=>A2f;refine⟨_,_,rfl,z b χ,z (b+1) χ,_,_,rfl,z Bi χ,z (i+2) χ,_,_,rfl,As4 (b+1) b,As4 (i+2) Bi,?_⟩
  show AVL ARh (wd l Bi);by_cases hw:ARh<wd l Bi
  ·show mE hw
   refine⟨b,_,_,rfl,ω,AOn,Ν j hj hbj⟩
   ·show GG j BM
    ·show N1 (Rat.le_of_lt hw)
    ·exact hle j χ
   ·show GG j BM
    ·show N1 hw
    ·exact hgt j χ hbj
  ·show Y_ hw
   refine⟨BM,_,_,rfl,ω,AOn,fun j hj hbj=>ω⟩
   have hw' :=Rat.not_lt.mp hw;show GG j BM
   ·show N1 Rat.le_refl
   ·exact Rat.le_trans hw' (hle j χ)
 ·rintro _ ⟨b,x,y,rfl,hb,hle,hgt⟩;have e:(ı - 1 - 1).toNat=l.length - 2:=sv hn
  rw[e] at hb hle hgt;exact h b ⟨ω,dk (hle j χ),fun j hj hbj=>hgt j χ hbj⟩
theorem yl4(AM XH):IZ z5c:=by
 obtain⟨l,g,rfl,h2,hl,hz,hg,h⟩:=h;show CD AFJ
 rw[K7];show BBu
 have z:KI l.length (Sz 1900 (l.getD j 0)):=fun j hj=>A2f;show kD (Μ (ı=2));rw[hn];by_cases h22:l.length=2
 ·show AyU
  have e2:l.map qD= AKH 0 1:=by
   match l,h22 with
   | ci,_=>rfl
  refine⟨tF 0,tF 1,Hk e2,z 0 χ,z 1 χ,g,_,rfl,hg,As4 1 0,?_⟩
  show Ÿ g (wd l 0);by_cases hw:g<wd l 0
  ·show n_ ⟨h22,hw⟩;show Y_ hw
   exact⟨AS,h⟩
  ·rw[Do (Ξ (hw z.2))] at h;show mE hw
   exact⟨l,rfl,h2,hl,hz,h⟩
 ·rw[Do (Ξ (h22 z.1))] at h;rw[Do AEw]
  exact⟨l,rfl,h2,hl,hz,h⟩
theorem xX{l:AB}:gb (mids l)/ Í mids l=Qz l:=by
 unfold mids Qz;split
 ·show(_+0)/ An (CF 1)=_;show AS5;have:An (CF 1)=1:=rfl;rw[this];grind
 ·show(_+ (_+0))/ An AT4=_;show AS5;rfl
theorem yfd{l:AB}(h:∀q∈l,AD_)(hl:l.length<=2)(k:Nat):Adz l.take:=by
 refine(yd4 (m:=1900) (yb (AxF h))).up ?_;have:B2 l.take k<=2:=zO (List.length_take_le' _ _) hl;have:=Nat.mul_le_mul_right 1902 this;omega
theorem sM:TX≠pO:=AS
theorem sP:mL≠pO:=AS
theorem sP2:mL≠TX:=AS
theorem yah(AG XM):DT:=EZ
theorem z2h(AG XQ):GM:=OF
theorem z6g(AG XR):YY:=ae
theorem yi8(AG QV):GM:=OF
theorem zq5(AG XS):DT:=EZ
theorem Ub(f:Str)(d:D):nG [f] [d] f=some d:=AhH nG
theorem zw5(xs:Δ){k:Nat}(h:k<=xs.length):cutD xs (BU Cf) none=xs.drop k:=by
 have e1:(AI (Cf<0) (Q4 Cf Ņ) (min (Cf).toNat xs.length))=k:=AgU
 show yo;simp only;rw[e1,List.take_of_length_le Χ]
theorem z0z{ps:DA}(h:oz)(hl:Aj7):xW ps=true:=by
 unfold xW;rw[BMR,Bool.true_and];clear hl;induction ps with
 | nil=>rfl
 | cons a t ih=>
  cases t with
  | nil=>rfl
  | cons b t=>
   obtain⟨⟨h1,h2⟩,h3⟩:=h;show(J3 a b::List.zipWith J3 (b::t) t).all id=true;rw[List.all_cons];have hc:J3 a b=true:=by
    unfold J3;have:¬b.2<a.2:=LN
    simp [h1,this]
   have h4:=ih h3;have h5:(List.zipWith J3 (b::t) t).all id=true:=h4;rw[h5];simp [hc]
theorem ydx(AM XM):IZ zwi:=by
 show yT a b za zb;refine⟨_,at0,_,at0,a.1,b.1,rfl,za.1,zb.1,?_⟩;show BO J3;cases e:Azn with
 | false=>rw[e] at h;exact h
 | true=>
  rw[e] at h;exact⟨_,at1,_,at1,b.2,a.2,rfl,zb.2,za.2,h⟩
theorem zxf{one:mS}(g:Pt ->Pt ->D):∀{as bs:DA} {P:VU},(ABx (OO bs (∀P,P [g a b] ->one (.tup [pD a,pD b]) P))) ->P (AfH g) ->AI2 (mH (as.map pD) (bs.map pD))
 | [],_,_,_,h=>h
 | BY,[],_,_,h=>h
 | a::as,b::bs,P,k,h=>k a zY b zY _ (zxf g (fun x hx y hy=>k x Aid y (zW _ hy)) h)
theorem z0p(g:Pt ->Pt ->Bool):∀(as bs:DA),uH A4G=some (AfH g)
 | [],_=>rfl
 | BY,[]=>rfl
 | a::as,b::bs=>by
  show Au uH A4G _=_;rw[z0p g as bs];rfl
theorem z2u(AM XQ):ś zqy:=by
 show xp ps hz;show BO xW;show(TM (D.bl (decide (PD< Í ps.map pD))) Ē _ AhB _)
 show EQ;by_cases hl:1<ps.length
 ·show m_ (ω:PD< BLw)
  rw[BMR,Bool.true_and] at h;show Tx (mH (ps.map pD) (cutD (ps.map pD) mB none));have e1:cutD Zs mB none=Ay8 pD:=Θ List.map_drop (zw5 (ps.map pD) (k:=1) (by show EQ;omega))
  rw[e1];refine zxf (BKu J3) (fun a ha b hb P hp=>⟨rfl,rfl,a,b,rfl,hz a ha,hz b (List.mem_of_mem_drop hb),hp⟩) (B1 (z0p J3 _ _) ?_);rw[List.drop_one];exact h
 ·show m4 (ω:¬PD< BLw)
  rw[decide_eq_false hl] at h;exact h
theorem yfy(BDx QV):zfj K c (AC_ (fun Γ=>zec K c Γ A4h av) WG) (aF 2 AFk) av:=by
 show xp ps hz;show HQ ps rfl hz;cases e:xW ps with
 | true=>
  rw[e,B4] at h;exact EO h
 | false=>
  rw[e,Th] at h;exact h.elim
theorem z50(AM XR):SA zsf:=by
 obtain⟨l,r,x,rfl,zl,zr,zx,hlt,h⟩:=h;have s1:=K4 zx zl.1;have s2:=K4 zr.2 zl.2;have s3:=K4 zr.1 zl.1;have s4:=yd8 s1 s2;have hn:AOE≠0:=by grind
 refine⟨_,at0,x,l.1,rfl,AhR,(zl.1).up Β,_,at1,_,at1,r.2,l.2,rfl,(zr.2).up Β,(zl.2).up Β,x - l.1,r.2 - l.2,rfl,s1.up Β,s2.up Β,?_⟩
 refine⟨_,at1,_,at0,_,at0,AD,l.1,rfl,(zr.1).up Β,(zl.1).up Β,ANE* AZE,AOE,rfl,s4.up Β,s3.up Β,?_⟩
 show Ap hn;exact eQ l.2 (ANE* AZE/ ANI) ((zl.2).up Β) ((z9d s4 s3 hn).up Β) h
theorem z6c:∀{ps:DA} (i:Nat),oz ->Gd (ps.drop i)
 | [],i,_=>by rw[List.drop_nil];trivial
 | ps,0,h=>h
 | a::t,BM,h=>by
  rw[List.drop_succ_cons];refine z6c i ?_;cases t with
  | nil=>trivial
  | cons b t=>exact h.2
theorem z0j{ps:DA}{i:Nat}(h:Aj8):ps.drop i=MX::AMT::ps.drop (i+2):=Gc AhQ AgI
theorem ym5{ps:DA}{i:Nat}(h:Aj8)(hg:oz):MX.1<ANB/\MX.2<=AMT.2:=by
 have:=z6c i hg;show BC (z0j h);exact this.1
theorem z9m{ps:DA}{i:Nat}{x:Rat}(h:Aj8):yO (ps.drop i) x=if x<ANB then uK MX AMT x else yO (ps.drop Bi) x:=i9 (z0j h) AgI
theorem zka:∀{ps:DA} (h:AFY),jP ps=ps[AL']
 | [p],_=>rfl
 | AUF,_=>by
  show jP (b::t)=_;rw[zka (ps:=b::t) Χ]
  simp
theorem ygl(ps:DA)(h:AFY):mi ps.map pD G_ A7U:=by
 unfold mY;show AXe AzH (ps.length - 1) (by
  unfold wM;show ALC ALb YO
  congr 1;omega)
 rw[e];show Zs[AL']?=_;rw[List.getElem?_map,AhO,zka h]
 rfl
theorem yim{ps:DA}{i:Nat}(h:i<ps.length):mi ps.map pD Fh (pD MX):=yE (xE YN)
theorem zrj(AM XS):SA zhd:=by
 obtain⟨ps,x,rfl,hl,hg,hz,zx,h⟩:=h;have z4:∀{i:Nat} (hi:i<ps.length),Gw 300 MX:=fun hi=>hz _ (yU hi);have h0:0<ps.length:=ω
 refine⟨rfl,_,AE_,_,yim h0,_,at0,ps[0].1,x,rfl,((z4 h0).1).up Β,AhR,?_⟩
 have hd:ps=ps[0]::ps.drop 1:=rX (List.drop_eq_getElem_cons (l:=ps) (i:=0) h0) List.drop_zero
 show AVL ps[0].1 x;by_cases hx:ps[0].1<x
 ·show mE hx
  have eW:yO ps x=jJ ps x:=z0l hg (WC (by
   rw[hd] at hp;cases hp;exact Rat.le_of_lt hx))
  show N4 rfl _ AE_ rfl _ AE_;have e1:cutD Zs mB none=Ay8 pD:=Θ List.map_drop (zw5 (ps.map pD) (k:=1) (by show EQ;omega))
  show CD ?_
  ·rintro⟨e,_⟩;have:HT.sIx AzH 0 (some 1)=1:=by
    unfold HT.sIx;show EQ;simp only;show YV
    have:(PD).toNat=1:=rfl;omega
   rw[this] at e;cases e
  rw[e1];have zl:LL mH Zs (Au ps.drop 1 pD)=AL':=by
   unfold mH;rw[List.length_zipWith,List.length_map,List.length_map,List.length_drop];omega
  show SG (∃(u v:Slot),Γ= [Aqk,cn x,u,v]/\yO (ps.drop i) x=yO ps x) (xD (Hk List.drop_zero))
  ·rintro i d _ hi ⟨u,v,rfl,hw⟩;have hil:BM<ps.length:=BKi ZO zl
   have hi2:some d=some (.tup [pD MX,pD AMT]):=by
    rw[<- hi];unfold mH;rw[List.getElem?_zipWith,List.getElem?_map,List.getElem?_map,List.getElem?_drop,AhO,Nat.add_comm 1 i,im hil]
    rfl
   cases hi2;refine⟨rfl,rfl,_,at0,x,ANB,rfl,AhR,((z4 hil).1).up Β,?_⟩
   rw[z9m hil] at hw;show Ÿ x ANB;by_cases hxr:x<ANB
   ·show Y_ hxr
    rw[BD hxr] at hw;refine⟨MX,AMT,x,rfl,z4 χ,z4 hil,zx,(ym5 hil hg).1,?_⟩
    rw[hw,eW];exact h
   ·show mE hxr
    rw[AY hxr] at hw;exact xD hw
  ·rintro _ ⟨u,v,rfl,hw⟩;rw[zl,AhQ,List.drop_of_length_le χ] at hw
   show ML rfl _ AE_ _ (ygl ps h0) _ at1;rw[zka h0];have:ps[AL'].2=yO ps x:=hw;rw[<- eW,<- this] at h;exact h
 ·show Y_ hx
  show ML rfl _ AE_ _ (yim h0) _ at1;have:jJ ps x=ps[0].2:=by
   generalize ps[0]=p0 at*;rw[hd] at hg⊢;exact ydr hg hx
  rw[this] at h;exact h
theorem zye(SD):A2_ tY:=nv tY List.length_reverse Xg
theorem z84{qs:AB}{q:Rat}(h:q∈tY qs):q∈qs:=AYA (List.mem_reverse.mp h)
theorem Uc(A6R):l.getD i d=l[i]:=BG h
theorem Xr(A6R):l.getD i d∈l:=Θ (Uc h) (yU h)
theorem yb4(SD):Fall (tY qs):=by
 intro i j hij hj;have hi:i< B2 tY qs:=ω
 rw[Uc hj,Uc hi];unfold tY at*;rw[List.getElem_reverse,List.getElem_reverse];show GG i j
 ·show N1 Rat.le_refl
 ·rw[List.length_reverse] at hj;exact List.pairwise_iff_getElem.mp (yhg qs) _ _ χ χ χ
theorem zo1{α β:Type}(f:AUu):vj (IL l.flatMap x [f x]=l.map f)
 | []=>rfl
 | x::l=>i9 List.flatMap_cons zo1
theorem z1h{α:Type}(f:xA):vj (uH AxT=some Ī)
 | []=>rfl
 | x::l=>by show Au uH AxT _=_;rw[z1h];rfl
theorem z99(f:AB):(iR f).getD (Ř iR - 1) 0=f.length/\0< Ř iR:=by
 show A8 ?_ (by unfold iR;simp)
 cases hn:f.length with
 | zero=>unfold iR;rw[hn];rfl
 | succ n=>
  have e:iR f=(0::((List.range n).filter (IW f)).map (· +1))++ [n+1]:=by
   unfold iR;rw[hn,List.range_succ,List.filter_append,List.filter_cons,AEl (by unfold IW;simp [hn])]
   simp
  show Afx e List.length_append List.length_singleton Nat.add_sub_cancel Al7;simp
theorem zza(AG TY):DT:=EZ
theorem z4c(AG X3):YY:=ae
theorem ygu(AG QX):DT:=EZ
theorem yam(AG T3):GM:=OF
theorem zui(AG X4):DT:=EZ
theorem yjf(AG X5):GM:=OF
theorem zq8(AG X6):DT:=ae
theorem zo5(AG X7):DT:=ae
theorem yj9(AG X8):DT:=EZ
theorem Ud{α:Type}{one:mS}(f:ŭ)(p:xA):ALA l A0 (ñ (AG3 (AI ĳ (P [f a]) (P [])) a)) Ay7 f Ī
 | [],_,_,h=>h
 | DU,P,k,h=>by
  refine k a zY _ ?_;show FS ĳ
  ·show Db q;rw[List.filter_cons,FM] at h;exact Ud f p AIO h
  ·show Ap q;rw[List.filter_cons,LH] at h;exact Ud f p AIO h
theorem zku(x_){one:mS}(f g:ŭ):ALA l A0 (ñ (AG3 (P [g a]) a)) l.map g Ī
 | [],_,_,h=>h
 | DU,P,k,h=>AsZ zku
theorem zxv(AM TY):IZ zm8:=by
 show AMm x b;show Yf rfl;show EH (Μ (b.1<=x)) (∃d,mY [D.int b.1,.int b.2] 1=some d/\_) _;show FS (b.1<=x)
 ·show Y_ q
  show Yf rfl;have e:pE (xU b x) (x<=b.2):=by unfold xU;simp [q]
  rw[e] at h;exact h
 ·show mE q
  have e:xU b x=false:=by unfold xU;simp [q]
  rw[e] at h;exact h
theorem ymc(x_)(l:A0)(f:xA):(l.map f).any id=l.any f:=BMd
theorem z6n(AM X3):Y3 zr1:=by
 obtain⟨S,l,b,rfl,h⟩:=h;refine Ud D.int (Τ e AxU) (ű e he) h;refine zku D.int (Τ s (.bl (xU b (e - s)))) (fun s hs P' hp' =>(NV (e - s) b hp')) ?_;show A9 (l.map fun s=>Ae8) (z1h _ l);rw[ymc];show EH (l.any fun s=>Ae8) (P [ATb]) (P []);split
 ·show AWz
 ·show AW0
theorem Q8(AbE):A_U:=by
 unfold mY;show AXe (Ř u7) n (by
  unfold wM;show AEh List.length_range ALb YO
  congr 1
  omega)
 rw[e];show(u7 f)[n]?=_;rw[List.getElem?_map,List.getElem?_range χ];rfl
theorem yg4(AM QX):SA z14:=by
 show EN S bs hl h h;show IA;show A9 AFv AFv
 show SG (∃x,Γ= [Ano,AX',Ahz Bi (uL (rk S bs j)),x]) C9
 ·rintro i d _ hi ⟨x,rfl⟩;show UN bs.length (gy ZO)
  show AA';cases hi;have eb:bs.getD i kR=bs[i]:=BG hi'
  refine⟨C9,C9,_,Q8,S,Amb,bs[i],rfl,?_⟩;show A9 Aub (.pu (Ja bs[i]))
  rw[Atp BM,List.map_append,<- eb]
  rfl
 ·rintro _ ⟨x,rfl⟩;show EQ;exact h
theorem zvp{α:Type}{one:iP D (Uf D)}(f:ŭ)(g:α ->Δ):V_ l A0 P ATf (ñ (∀P:ATf,P [g a] ->one (f a) P)) (P (l.map g)) (vC one Ī P)
 | [],_,_,h=>h
 | DU,P,k,h=>AsZ zvp
theorem yap(BDx T3):zex K c (aF 2 AFk) A3N av:=by
 show Fr ls rfl h;show vC _ (ls.map uL) _;refine zvp uL (Τ l (l.map D.int)) (NO l hl hp) (EO ?_);show WU;exact h
theorem ztf(AM X4):IZ zi0:=by
 show yT m qs hm hz;refine Ud qD (Τ x (!(Μ (x<m)))) (NO x hx (eQ x m (hz x hx) hm ?_)) ?_
 ·show EH (!(Μ (x<m))) (P [qD x]) (P []);split
  ·show AWz
  ·show AW0
 ·show Q (C3 (FC (B2 (Au qs.filter _) qD)));show EQ;exact h
theorem z49{x:Rat}{xs:AB}(h:Fall (KF)):Fall xs/\KI xs.length (Ai_<=x):=
 ⟨AOZ (A9c Bi),dk (A9c 0)⟩
theorem z0y{m:Rat}:GY xs AB (KI xs.length (Ai_<m)) (iW xs m=0)
 | [],_=>rfl
 | KF,h=>by
  unfold iW;have h0:=h 0 Χ
  rw[List.filter_cons,AY (B9 h0)]
  exact z0y fun j hj=>(lf (h (j+1) AR3) this)
theorem Ue{m:Rat}:GY f AB (Fall f) (KI f.length (m<=f.getD j 0↔j<iW f m))
 | [],_,j,hj=>ABs hj
 | KF,hf,j,hj=>by
  show CM h1 h2 z49 hf;show FS (m<=x)
  ·have e:iW ANp m=iW xs m+1:=AMw iW List.filter_cons (BD A4c)
   rw[e]
   match j,hj with
   | 0,_=>simpa using q
   | j+1,hj=>
    have:=Ue (m:=m) h1 j AR3
    rw[List.getD_cons_succ,this];omega
  ·have lt:KI xs.length (Ai_<m):=fun j hj=>Rat.not_le.mp (Ξ (q (Rat.le_trans z (h2 j hj))));have e:iW ANp m=0:=AeX iW List.filter_cons (AY A4c) (z0y lt)
   rw[e]
   match j,hj with
   | 0,_=>simpa using q
   | j+1,hj=>
    have:=lt j AR3
    rw[List.getD_cons_succ];constructor
    ·intro z;exact Ah0 this z
    ·intro z;omega
theorem z9x(f:AB)(m:Rat):iW f m<=f.length:=CI Agw
theorem z04{a b:AB}(h:a.Perm b)(m:Rat):iW a m=iW b m:=CI (h.filter _).length_eq
theorem zs8(SD):(tY qs).Perm qs:=AMe List.reverse_perm (Qy qs)
theorem ya2{f:AB}(hf:Fall f)(e:Nat):e∈iR f↔e=0\/∃m∈f,e=iW f m:=by
 unfold iR;rw[List.mem_cons];refine or_congr_right ?_;rw[List.mem_map];constructor
 ·show AEj k hk;show AlO hk;show AgN hk h1;show A9 AW8 (Xr hk);have a:=(Ue (m:=AW8) hf k hk).mp Rat.le_refl;have le:=z9x f (f.getD k 0);unfold IW at h2;simp only [Bool.or_eq_true,decide_eq_true_eq] at h2;rcases h2 with h2 | h2
  ·omega
  ·show FS (k+1<f.length)
   ·have:¬k+1<iW f (f.getD k 0):=Ξ (Rat.not_le.mpr h2 ((Ue (m:=AW8) hf FI q).mpr z));omega
   ·omega
 ·show AEj m hm;show xC i hi hm;have hi' :=(Ue (m:=f[i]) hf i hi).mp (Lm Uc hi Rat.le_refl)
  have le:=z9x f f[i];show DD (AW9 - 1) (zA.mpr (EU (List.mem_range.mpr χ))) ω
  unfold IW;show BLh Bool.or_eq_true;show FS (iW f f[i]=f.length)
  ·left;omega
  ·right;rw[HC (AW9 - 1+1) AW9]
   have a:¬f[i]<=f.getD (iW f f[i]) 0:=Ξ (yB ((Ue (m:=f[i]) hf (iW f f[i]) χ).mp z))
   have b:=(Ue (m:=f[i]) hf (AW9 - 1) χ).mpr χ
   exact Rat.not_le.mp (Ξ (a (Rat.le_trans b z)))
theorem xY{qs:AB}{i:Int}:i∈gU qs↔i∈Ars:=by
 unfold gU;rw[List.mem_map,List.mem_cons,List.mem_map];have key:=ya2 (yb4 qs);constructor
 ·show AEj e he;rcases(key e).mp he with rfl | ⟨m,hm,rfl⟩
  ·left;rfl
  ·right;exact⟨m,z84 hm,FB (z04 (zs8 qs))⟩
 ·rintro(rfl | ⟨m,hm,rfl⟩)
  ·exact Hc 0 ((key 0).mpr L8)
  ·exact Hc (iW qs m) ((key _).mpr (DH ⟨m,(zs8 qs).mem_iff.mpr hm,(z04 (zs8 qs) m).symm⟩))
theorem z6h(SD):(gU qs).Pairwise (· < ·):=by
 unfold gU iR;rw[List.map_cons,List.pairwise_cons,List.map_map];show CD AnY
 ·show AEi k (zB.mp hi);exact Int.ofNat_lt.mpr (Nat.succ_pos k)
 ·rw[List.pairwise_map];refine(List.Pairwise.filter _ (List.pairwise_lt_range)).imp fun{a b} h=> ?_;exact Int.ofNat_lt.mpr χ
theorem zmj:∀l:AU,nF AiP=some l
 | []=>rfl
 | n::l=>by show Au nF AiP _=_;rw[zmj];rfl
theorem yk7(AM X5):ś z7n:=by
 obtain⟨qs,rfl,hl,hz,h⟩:=h;show IA;show CD AFv
 refine zku qD (Τ m (.int (iW qs m))) (NO m hm (eQ m qs (hz m hm) hz hp)) ?_;show CD (by show BH (1+ B2 qs.map (fun m=>D.int (iW qs m)));show EQ;omega)
 show B5 Ars ?_ ?_ (Ν ms hp hm)
 ·have:=zmj (Ars);show TZ List.map_cons List.map_map;exact this
 ·show AdS List.length_map;omega
 ·obtain rfl:ms=gU qs:=z6r hp (z6h qs) (CO ((hm i).trans xY.symm));exact h
theorem yjm(bs:Go):(bs.map Ja).reverse=bs.reverse.map Ja:=Hk List.map_reverse
theorem yht(AbE):(u7 f).reverse=u7 (CO (f (n - i))):=by
 show UB
 ·simp
 ·show yY;rw[List.getElem_reverse];simp
theorem YF(xs:Δ):cutD xs mB none=xs.drop 1:=by
 show yo;dsimp only;show YV
 cases xs with
 | nil=>rfl
 | cons x xs=>
  rw[show min (ATD 1) (K0 ANp)=1 by simp]
  simp
theorem z05(AbE):(u7 f).drop 1=Fk (CO (f (BM))):=by
 rw[List.range_succ_eq_map,List.map_cons,List.drop_one,List.tail_cons,List.map_map]
 rfl
theorem zre(AM X6):SA zhl:=by
 obtain⟨S,n,bs,rfl,hl,hn,h⟩:=h;show Tx (S.map D.int).reverse;rw[<- List.map_reverse];refine zku D.int (Τ e (.int AGK)) (NO e he (B1 hn hp)) ?_;have eb:(S.reverse.map fun e=>D.int (n - e))=(jQ S n).map QU:=Anv jQ
 rw[eb];show QX c [uL (jQ S n),.lst (bs.map Ja).reverse] (Τ d (Mb zfv [Ano,AX',.pu (uL (jQ S n)),.pu d])) Ex;rw[yjm];refine JA (jQ S n) bs.reverse (Θ List.length_reverse hl) ?_
 rw[List.length_reverse];show Q (B8 (cutD (ALs _).reverse mB none));rw[YF,yht,z05];exact h
theorem ykj{n:Nat}(f g:kN):BH1:=by
 unfold mH;show UB
 ·simp
 ·show yY;simp
theorem ykh(bs:Go):bs.map Ja=AUC (ut (Ja (bs.getD k kR))):=by
 show UB
 ·simp
 ·show yY;show Af7 h1;simp [h1]
theorem yfh:∀l:AU,ju (l.map D.int)
 | []=>BG ju
 | i::l=>Θ List.map_cons ⟨BG qX,yfh l⟩
theorem yl7(x:Int)(l:AU):inD (C3 x) (l.map QU)=l.contains x:=by
 unfold inD;rw[List.any_map,<- List.any_beq']
 congr 1
theorem yki(l:AU):(l.map D.int).all Gv=true:=NH List.all_map List.all_eq_true AUt
theorem zpo(AM X7):Mm zgo 6:=by
 obtain⟨S,n,bs,rfl,hl,hn,nS,hg,h⟩:=h;show IA;show CD AFv
 show N4 S n bs rfl hl hn;show vd (mH (bs.map Ja) BAS) _ _ _ _ _;rw[ykh,ykj];show HQ (fun k Γ=>∃x y z,Γ= [Ano,AX',Ahz FI (.int (fk S n bs j)),x,y,z]) A3a ?_
 ·rintro k d _ hk ⟨x,y,z,rfl⟩;have hk' :k<bs.length:=by
   have:=IO hk
   rwa [List.length_map,List.length_range] at this
  show AQQ (List.getElem?_range hk') hk;cases hk;show nX rfl;refine Ud D.int (Τ e (xU AO3 Ait)) (NO e he ⟨_,Q8,e - ARA,bs.getD k kR,rfl,?_⟩) ?_
  ·show if xU AO3 Ait=true then P [ATb] else P [];split
   ·show AWz
   ·show AW0
  show A9 (yfh _) C9;refine Ud D.int (Τ e BEo) (NO e he (JA _ hn (yki _) ?_)) ?_
  ·show if inD (C3 AGK) ((rk ADd bs.reverse AJ6).map .int)=true then P [ATb] else P [];rw[yl7];split
   ·show AWz
   ·show AW0
  obtain⟨m1,m2⟩:=yko nS hg hk';have mm:∀e,e∈ ((S.filter (tz (xU AO3 Ait))).filter fun e=>BEo)↔e∈AYt:=fun e=>by
   rw[List.mem_filter,List.mem_filter,vG,List.contains_iff_mem,zzd,and_assoc]
  show N4 _ AMt (zmj _) ((mm _).mpr m1) (ky (m2 i ((mm i).mp hi))) Aub
  show∃x y z,_= [Slot.pu (uL S),AX',Ahz (k+1+1) (D.int (AP' j)),x,y,z];show AEf (Atp (k+1));exact A3a
 ·rintro _ ⟨x,y,z,rfl⟩;show Atw;show Q (B8 (cutD (ALs _) mB none));rw[YF,z05];have e:AUC (CO (D.int (AP' Bi)))=Au AUC (ut AMt) QU:=AMA
  rw[e];exact h
theorem Nt(SD):LA∈gU qs:=xY.mpr zY
theorem zs1(SD):Last (gU qs) qs.length/\ wP∈gU qs:=by
 show vz e1 (z99 (tY qs));rw[zye] at e1;have hlt:AZM - 1< AZM:=ω
 rw[Uc hlt] at e1;show CD ?_
 ·unfold Last mY gU;show AXe (B2 (Au (Au iR AIW) Int.ofNat) D.int) (AZM - 1) (by
   unfold wM;show AEh List.length_map ALb YO
   congr 1
   omega)
  rw[e];show(Au (Au iR AIW) Int.ofNat D.int)[AZM - 1]?=_;rw[List.getElem?_map,List.getElem?_map,im hlt,e1]
  rfl
 ·unfold gU;rw[List.mem_map];exact Hc qs.length (BF e1 (yU hlt))
theorem yf4(Aai):(rk xB bs bs.length).contains wP=rB qs bs:=by
 unfold rB;have:=z3j (bs:=bs) (Nt qs) (zs1 qs).2;rw[Bool.eq_iff_iff,List.contains_iff_mem,List.contains_iff_mem];exact this
theorem ykx(AM X8):SA z7h:=by
 obtain⟨qs,bs,rfl,hl,hz,hb,h1,h2⟩:=h;refine⟨qs,rfl,hl,hz,gU qs,bs,rfl,hb,?_⟩;show∃d,mi ALs (CO (uL (rk (gU qs) bs i))) G_ d/\_;refine JA _ Q8 (yki _) ?_;show kD (! inD (C3 AuT) ((rk xB bs bs.length).map QU));show ALC yl7 yf4;by_cases g:AZB bs
 ·rw[Do (AJN g)]
  show CM k1 k2 zs1 qs;exact⟨gU qs,qs.length,bs,rfl,hb,k1,k2,List.contains_iff_mem.mp g,h1 g⟩
 ·have g' :rB qs bs=false:=As g
  rw[AEl (FB g')]
  exact⟨AFv,CP qs bs,Anv CP,h2 g'⟩
theorem zmo(AG Yc):DT:=EZ
theorem zpc(AG Yd):DT:=EZ
theorem yjh{qs:AB}{c:Nat}(h0:0<c)(hc:Awe):mi Adt qD (-(AX c)) (qD ((tY qs).getD (c - 1) 0)):=by
 have hl:=Xg qs;unfold mY;have e:wM (B2 Adt qD) (-(AX c))=some (qs.length - c):=by
  unfold wM;show AEh hl UH YO
  congr 1;omega
 rw[e];show Ahh[qs.length - c]?=_;rw[List.getElem?_map,List.getElem?_eq_getElem χ]
 unfold tY;have h2:c - 1< (oA qs).reverse.length:=ALW List.length_reverse hl
 rw[Uc h2,List.getElem_reverse];simp only [hl,Option.map_some,HC (qs.length - 1 - (c - 1)) (qs.length - c)]
theorem zxm(xs:Δ)(h:0<xs.length):cutD xs none (some G_)=xs.dropLast:=by
 show yo;simp only [List.drop_zero,Nat.sub_zero];rw[BD Β,List.dropLast_eq_take]
 congr 1;omega
theorem yma{f:AB}{c:Nat}{q:Rat}(hc:c<=f.length)(h:Gx f c=some q):q∈f:=by
 show BO Gx;show Co
 ·cases h
 ·cases h;exact Xr χ
theorem zmk(AM Yc):Y3 ze1:=by
 obtain⟨qs,cs,rfl,hl,hz,hc0,hc,h⟩:=h;show P9 qs rfl hl hz;show Tx (cutD (cs.map intD) none (BU G_));rw[zxm _ (AhF hc0),<- List.map_dropLast]
 have key:∀d∈cs.dropLast.map intD,∀P,P [Ar_] ->Kv NB dF A9z [A_,MH Ahh] d P:=by
  intro d hd P hp;show Wp k hk hd;have hk' :=hc k (List.dropLast_subset _ hk);show Ÿ LA Cf
  change P [ARt (ATD Cf)] at hp
  rw[Int.toNat_natCast] at hp;by_cases h0:k=0
  ·subst h0;show YV
   exact hp
  ·show AyU
   show Yf (yjh χ hk')
   unfold Gx at hp;rw[AY h0] at hp;exact hp
 refine zpm (Τ d [Ar_]) key ?_
 rw[zo1,List.map_map];have e:(fun d:D=>Ar_) ∘ intD=ut (ARt k):=by
  funext k
  show bD (Gx (tY qs) (ATD Cf))=_;rw[Int.toNat_natCast]
 rw[e];have e2:IL cs.dropLast.map k (ARt k)=Au cs.dropLast.map A4j bD:=AMA
 rw[e2];exact h
theorem zl7{α:Type}{p:xA}:∀{l:A0} {i:Nat},(∀j b,j<i ->L7 l b ->p b=false) ->(HH (Ch l b) (p b=true)) ->i<=l.length ->l.findIdx p=i
 | [],i,_,_,h=>by simp at h;subst h;rfl
 | x::l,0,_,h2,_=>i9 List.findIdx_cons (h2 x rfl)
 | x::l,BM,h1,h2,h3=>by
  rw[List.findIdx_cons,h1 0 x χ rfl]
  show l.findIdx p+1=BM;rw[zl7 (fun j b hj hb=>h1 (j+1) b χ hb) (II (h2 b hb)) (B9 h3)]
theorem zqi(AM Yd):SA zgt:=by
 show yT bs m hz hm;show SG (∃(x y:Slot),Γ= [MH (bs.map bD),cn m,x,y]/\∀j b,j<i ->L7 bs b ->A0d) (xD (fun j b hj=>ω))
 ·rintro i d _ hi ⟨x,y,rfl,hn⟩;show ALE zs0 hi;cases q:bs[i]? with
  | none=>show Cc q hi hi
  | some b=>
   rw[q] at hi;cases hi;have hil:i<bs.length:=IO q;have next:A0d ->∀j b',j<BM ->L7 bs b' ->isIn m b' =false:=fun hb j b' hj e=>by
    by_cases ej:j=i
    ·subst ej;show Y2;cases e;exact hb
    ·exact hn j b' χ e
   show nX rfl;cases b with
   | none=>exact xD (next rfl)
   | some p=>
    show LS m p rfl hm (hz _ (yV q) p rfl);show AVL m p;by_cases hw:(!(Μ (m<p)))=true
    ·show Db hw;have e:gj bs m=i:=zl7 hn (fun b' hb' =>by rw[q] at hb';cases hb';exact hw) χ
     rw[e] at h;rw[Nat.zero_add];exact h
    ·show Ap hw;exact xD (next (by simpa [isIn] using hw))
 ·rintro _ ⟨x,y,rfl,hn⟩;show Q (C3 (Í bs.map bD));rw[zsz] at hn;rw[List.length_map] at hn⊢;have e:gj bs m=bs.length:=zl7 hn (II (ABs hb)) (zN _)
  rw[e] at h;exact h
abbrev CT(Q:ALX):rW:=AqE (Kp Q)
theorem zy9{x:Str}:∀{g:Α},pE (inD AL2 (g.map .str)) ALt
 | []=>BG inD
 | y::g=>by
  have ih:=zy9 (x:=x) (g:=g);unfold inD at ih⊢;rw[List.map_cons,List.any_cons,ih];by_cases h:y=x
  ·subst h;simp [eqD]
  ·have h' :¬x=y:=Ξ (h z.symm);simp [eqD,h,h']
theorem z9s(g:Α):(g.map D.str).all Gv=true:=Θ List.all_map (List.all_eq_true.mpr fun _ _=>rfl)
theorem zsc{α:Type}(f:xA):vj (uH (l.map fun x=> .bl (f x))=some Ī)
 | []=>rfl
 | DU=>QY uH (zsc f l)
theorem Jh{α:Type}{one:mS}(f:ŭ)(g:ŭ):Axf (P [g a]) l.map
 | [],_,_,h=>h
 | DU,P,k,h=>AsZ Jh
theorem zgm{α:Type}{one:mS}(f g:ŭ)(p:xA):Axf (P (if ĳ then [g a] else [])) Ay7
 | [],_,_,h=>h
 | DU,P,k,h=>k a zY _ (zgm f g p AIO (by
   rw[List.filter_cons] at h;show FS ĳ
   ·show dA FM h h
   ·show dA LH h h))
theorem ykv(AM T4):IZ z48:=by
 show AMm g hs;refine Jh D.str (Τ x (.bl (ë ALt))) (NO x hx ?_) ?_
 ·show A9 rfl (z9s g);rw[zy9];exact hp
 ·show Yf (zsc _ hs);have e:(hs.map (T_ (Μ ALt))).any id=dM g hs:=BMd
  rw[e];exact h
theorem ybd{hs:Α}{h x:Str}:x∈sX hs h↔x∈hs\/x=h:=by
 unfold sX;split
 ·exact⟨.inl,fun q=>by rcases q with q | rfl;exact q;assumption⟩
 ·show A0a
theorem z3b{hs:Α}{h:Str}(nd:hs.Nodup):(sX hs h).Nodup:=by
 unfold sX;split
 ·exact nd
 ·show G1;rw[List.nodup_append];exact⟨nd,AV,AtC q A4e⟩
theorem ybp(Apj):LL sX hs h<=hs.length+1:=by
 unfold sX;split
 ·omega
 ·simp
theorem Ec{α β:Type}{x:β}{l:GH}:(Sum.inr x:Sum α β)∈l.map Sum.inr↔x∈l:=Θ List.mem_map (Ð ⟨y,h,e⟩ (by injection e with e;exact e ▸ h) A4r)
theorem Nu(Apj):pE (mK (hs.map .inr) wq) fq:=by
 show FS fq
 ·show m_ q;exact vq.mpr (Ec.mpr q)
 ·show m4 q;cases z:mK (hs.map Sum.inr) (Sum.inr h:Key) with
  | false=>rfl
  | true=>show F9 (Ec.mp (vq.mp z)) q
theorem zvu(Apj):jw (hs.map .inr) wq=(sX hs h).map .inr:=by
 unfold jw sX;rw[Nu];show FS fq
 ·rw[AFW,B4,FM]
 ·rw[AFV,ALb,LH,List.map_append];rfl
theorem z44{hs:Α}{xs:Δ}{h:Str}{d:D}(e:hs.length=xs.length):LL sX hs h=K0 (gD ū xs wq d):=by
 unfold gD sX;rw[Nu];show FS fq
 ·rw[AFW,B4,FM,List.length_zipWith,List.length_map,e,Nat.min_self]
 ·rw[AFV,LH,Th];simp [e]
structure Ug (rows:A1) (n:Nat) (ws:Α) (ps:AK9):Prop where
 len:Au9
 nd:ws.Nodup
 lw:ws.length<=n
 pt:BGk
 ex:A6i
theorem YG(AqO):dg Aeb w=dE++ (AI (AD=w) [r] []):=by
 unfold dg;rw[List.filter_append]
 congr 1
 show Aki
theorem z9f(AqO):A1y kW p_:=by
 unfold kW;show AEf YG
 congr 1
 show Aki
theorem z00(ī){w:Str}(h:¬(Xs ADX)):A3l:=CI (List.filter_eq_nil_iff.mpr fun r hr z=>h ⟨r,hr,BL8⟩)
theorem zwz(AqO):A1y wR AeE:=by
 unfold wR;show AEf List.filter_append
 congr 1
 show Aki
theorem dO{rows:A1}{w h:Str}:h∈AeE↔Xs AsT:=by
 unfold wR;rw[List.mem_map];constructor
 ·show ł r hr;show AlO hr;exact⟨r,h1,of_decide_eq_true h2,e⟩
 ·rintro⟨r,h1,h2,e⟩;exact⟨r,zA.mpr ⟨h1,At_⟩,e⟩
theorem Ug.new{rows:A1}{ws:Α}{ps:AK9}{w:Str}(B:AfF)(hw:w∉ws):Ug rows BL3 Alu AzJ:=by
 refine⟨BG B.len,?_,As B.lw,De q v p h1 h2,fun u q v p h1 h2=> ?_⟩
 ·rw[List.nodup_append];exact⟨B.nd,AV,AtC hw A4e⟩
 ·by_cases hq:q<ws.length
  ·rw[BMx] at h1;rw[List.getElem?_append_left (BF B.len hq)] at h2
   exact B.pt q v p h1 h2
  ·have hl:q< K0 Alu:=IO h1;rw[List.length_append,List.length_singleton] at hl;have hq' :q=ws.length:=ω
   subst hq';rw[Al7] at h1;show BDb
   simp at h1;simp [B.len] at h2;show Ķ;show B5 rfl AV EX (D4 ⟨Ay9,nK⟩)
   obtain⟨r,hr,e,_⟩:=dO.mp z;exact e_ (B.wm w).mpr AmD hw
 ·by_cases hq:q<ws.length
  ·rw[BMx] at h1;rw[List.getElem?_append_left (BF B.len hq)] at h2
   exact B.ex u q v p h1 h2
  ·have hl:q< K0 Alu:=IO h1;rw[List.length_append,List.length_singleton] at hl;have hq' :q=ws.length:=ω
   subst hq';rw[Al7] at h1;show BDb
   simp at h1;simp [B.len] at h2;show Ķ;have:=z00 (rows:=rows) (w:=w) fun AmD=>hw ((B.wm w).mpr AmD);unfold kW;rw[this];rfl
theorem z16{ws:Α}(nd:ws.Nodup){i j:Nat}(hi:i<ws.length)(hj:j<ws.length)(e:WV=ws[j]):i=j:=by
 show AOl nd;rcases Nat.lt_trichotomy i j with q | q | q
 ·exact cf e (key i j hi hj) q
 ·exact q
 ·exact cf e.symm (key j i hj hi) q
theorem Ug.put(Aod){ps:AK9}{r:Rw}{q:Nat}{p:Α×Δ}(B:Ug rows BL3 ws ps)(wm:A9_ (Xs (AD=v)) AD)(h1:AJT AD)(h2:qi ps p)(d:D)(hd:d= kK):
  Nk Aeb ws (ps.set q (sX A3 BB,gD Ahn p.2 (DH BB) d)):=by
 show AbR (B.pt q AD p h1 h2);have hq:q<ps.length:=IO h2;refine⟨Θ List.length_set B.len,B.nd,As B.lw,E2 v,De q' v p' e1 e2,fun u q' v p' e1 e2=> ?_⟩
 ·rw[wm v];constructor
  ·rintro(⟨r',h,e⟩ | e)
   ·show MT r' (zP _ h) e
   ·exact dl AV e.symm
  ·show ł r' h;show Pf (zT.mp h)
   ·show CB ⟨r',h,e⟩
   ·rw[List.mem_singleton.mp h] at e;exact .inr e.symm
 ·by_cases Et:q=q'
  ·subst Et;rw[h1] at e1;cases e1;rw[BMw] at e2;cases e2;show B5 (z44 b1) (z3b b2) (zO ybp (B9 b3)) AL4
   rw[ybd,zwz,B4,List.mem_append,b4 h,List.mem_singleton]
  ·rw[List.getElem?_set_ne Et] at e2;obtain⟨c1,c2,c3,c4⟩:=B.pt q' v p' e1 e2;have hv:¬AD=v:=Ξ (by
    have l1:=(zV.mp h1);have l2:=(zV.mp e1);obtain⟨l1,l1'⟩:=l1;obtain⟨l2,l2'⟩:=l2;exact BHb)
   show B5 c1 c2 (As (AS0 c3)) AL4
   rw[c4 h,zwz,ATm,List.append_nil]
 ·have u0:FR:=(List.pairwise_append.mp u).1;by_cases Et:q=q'
  ·subst Et;rw[h1] at e1;cases e1;rw[BMw] at e2;cases e2;have ep:=B.ex u0 q AD p h1 h2;have hn:BB∉A3:=Ξ (by
    rw[ep] at z;obtain⟨r',hr',g1,g2⟩:=jT.mp z;exact(List.pairwise_append.mp u).2.2 r' hr' r Χ ⟨g1,g2⟩)
   rw[z9f,YG,B4,B4];unfold sX gD;rw[AY hn,Nu,decide_eq_false hn,Th,ep,hd,List.map_append]
   rfl
  ·rw[List.getElem?_set_ne Et] at e2;have hv:¬AD=v:=Ξ (by
    have l1:=(zV.mp h1);have l2:=(zV.mp e1);obtain⟨l1,l1'⟩:=l1;obtain⟨l2,l2'⟩:=l2;exact BHb)
   rw[z9f,YG,ATm,ATm,List.append_nil,List.append_nil];exact B.ex u0 q' v p' e1 e2
theorem ztk{ws:Α}(nd:ws.Nodup):d6 ws.map Am4:=by
 unfold List.Nodup;rw[List.pairwise_map];exact nd.imp fun h z=>h AgD
theorem z8q(AM QZ):ANr zr3 5:=by
 show xp rows hl;show IA;intro as;show SG (BLT (Nk AKX ws ps)) ?_
 ·exact⟨as,[],[],_,_,_,⟨rfl,AV,AV,EA ⟨Ay9,fun(dl hr _)=>by(simp at hr)⟩,fun q w p e=>(by simp at e),fun _ q w p e=>AMk⟩,rfl⟩
 ·rintro i d _ hi ⟨as,ws,ps,x,y,z,B,rfl⟩;show UN rows.length (gy ZO)
  show AA';cases hi;have tk:rows.take (BM)=Acj++ [kA]:=Al9
  have hlt:B2 rows.take i=i:=AuL
  have fin:∀as ws ps,Ug AKX (Anj+1) ws ps ->(A9_ (∃r∈Acj,AD=v) tw) ->
    zh3 K c {nx:=BHg,ct:=BHg,bk:=fun Γ=>(ABX znk CT Γ),rt:=WG,rT:=Kp Q}
     [NX,ARX AJx AJ1,GE tw,GE kA.2.1,BI kA.2.2] av:=by
   intro as ws ps B wm;have hm:tw∈ws:=(wm _).mpr (DH rfl);show BS q hq eq List.mem_iff_getElem.mp hm;have hq2:q<ps.length:=AzR
   have e1:AJT tw:=by rw[im hq,eq]
   have e2:qi ps ps[q]:=zZ hq2;show AbR (B.pt q _ _ e1 e2);have BW:=B.put wm e1 e2 (C3 kA.2.2) rfl;rw[<- tk] at BW;refine⟨Aga,.inr kA.2.1,as,AMi,Aj6,q,(ps[q].1).map .inr,ps[q].2,rfl,rfl,rfl,ztk B.nd,xE e1,xE e2,Ŏ,?_⟩
   show ML as ws _ (GE tw) (GE kA.2.1) (BI kA.2.2) BW;rw[zvu,List.map_set]
   rfl
  refine⟨rfl,rfl,Aga,as,AMi,Aj6,rfl,rfl,?_⟩;rw[Nu];by_cases hw:tw∈ws
  ·show m_ hw;refine fin as ws ps ⟨B.len,B.nd,AS0 B.lw,B.pt,B.ex⟩ (E2 v);rw[B.wm v];exact⟨.inl,Ξ (by rcases z with z | rfl;exact z;exact(B.wm _).mp hw)⟩
  ·show m4 hw;refine⟨Aga,as,AMi,Aj6,rfl,rfl,Gc Nu (decide_eq_false hw),Ak_ B.lw,E2 cs⟩
   have:=fin Ak2 (ws++ [tw]) AzJ (Ug.new B hw) fun v=>by
    rw[List.mem_append,B.wm v,List.mem_singleton]
   show TZ List.map_append List.map_append;exact this
 ·rintro _ ⟨as,ws,ps,x,y,z,B,rfl⟩;have e:rows.take (B2 rows.map Ca)=rows:=by show AiM
  rw[e] at B;exact h ws ps B
theorem zxc:∀xs:Α,vA AjL=some xs
 | []=>rfl
 | KF=>by show Afy;unfold vA;rw[zxc xs];rfl
theorem yh8{xs U:Α}(h:oq xs):B2 sU xs<=U.length:=Iw (zr8 xs) (AGF (h x (Ag.mp hx)))
theorem yh1{xs U:Α}{P:VU}(h1:xs.length<4095)(h2:Am')(h3:oq xs)(h:A_3 (Amu xs)):zuf [gl xs] P:=
 ⟨xs,zxc xs,h1,zL (yh8 h3) χ,h⟩
theorem zfb{p:Α ->Bool}:∀fs:HZ,Af1 (fs.filter p).flatten.length
 | []=>AV
 | UR=>by
  have:=zfb (p:=p) fs;rw[List.filter_cons];split<;>simp only [List.flatten_cons,List.length_append]<;>omega
theorem zxb(fs:HZ)(i:Nat):Af1 (fs.take i).flatten.length:=by
 conv=>rhs;rw[<- Ad9 fs,List.flatten_append,List.length_append]
 omega
theorem ydb(AM Ye):Mm zwr 5:=by
 obtain⟨fs,hs,U,rfl,hl,hfl,hU,u1,u2,h⟩:=h;show AA_ 8000
 refine zgm gl gl Ayv (ű f hf) ?_
 ·show HQ f hs rfl;show EH (! ACh) (P [gl f]) (P []);show FS (AEt ACh)
  ·show AHF FM
  ·show AHF LH
 ·show SG (∃x,Γ= [Az5,.pu (gl hs),MH (Au fs.filter (fun f=> ! ACh) gl),.ow ((hs++ ((fs.take i).filter AW2).flatten).map .str),x]) ⟨A_,by simp [gl];rfl⟩
  ·rintro i d _ hi ⟨x,rfl⟩;show UN fs.length (gy ZO)
   show AA';cases hi;have tk:fs.take (BM)=fs.take i++ [ŕ]:=Al9
   show HQ ŕ hs rfl;show if AOI ŕ then _ else _;show FS (AOI ŕ)
   ·show Db q;show HQ C9 ?_ (.pu (gl ŕ))
    ·have h1:=zfb (p:=AW2) (fs.take Bi);have h2:=zxb fs Bi;rw[tk,List.filter_append,List.flatten_append,List.length_append] at h1;simp only [List.filter_cons,q,if_true,List.filter_nil,List.flatten_cons,List.flatten_nil,List.append_nil] at h1;rw[tk] at h2;show ALC List.length_append List.length_map;omega
    ·show A6o;show BAw if_true List.filter_nil List.flatten_cons;rw[<- List.append_assoc,List.map_append (l₂:=ŕ)]
     rfl
   ·show Ap q;show CD (.pu (gl ŕ));show A6o;show BAw Bool.false_eq_true if_false List.filter_nil
    rfl
  ·rintro _ ⟨x,rfl⟩;have e:fs.take (B2 fs.map gl)=fs:=by show AiM
   rw[e];have hx:AQE (hs++ (fs.filter AW2).flatten) (x∈hs\/AY8 (AOI f/\AFK)):=fun x=>by
    rw[List.mem_append,List.mem_flatten];constructor
    ·rintro(a | ⟨f,hf,a⟩)
     ·show CB a
     ·show AlO hf;exact .inr (ul f h1 a)
    ·rintro(a | ⟨f,h1,h2,a⟩)
     ·show CB a
     ·show CU ⟨f,zA.mpr AX2,a⟩
   unfold zpx;dsimp only [aD,bh,cC,cV,cB,cT,iy,uR,gW,eG,jj,fC,qQ,ak,aj,dB,eO,dX,fQ,aW,gB,cG,aV,cM,hName,fD,aZ,fG,jC,jD,aq,cU,iw,fZ,cJ,fO,cI,dw,bQ,jE,qT,uE,qe,uU,uF,jk,lJ,qU,cA,wI,qR,rP,lB,zev,wD,cO,kJ,gC,kO,kY,List.length,List.set_cons_zero,List.set_cons_succ,List.getElem?_cons_zero,List.getElem?_cons_succ,fH,mG,rQ,uG,pI,n6,pA,kZ,fJ,dG,jl,ql,qM,uI,iB,qN,cP,dH,sG,wJ,sE,lu,lA,iL,dJ,gK,jM,dF,List.map,List.append,List.cons_append,List.nil_append];refine yh1 (U:=U) ?_ hU (Q1 x q) (pv ms s2)
   ·have:=zfb (p:=AW2) fs;rw[List.length_append];omega
   ·rcases(hx x).mp q with a | ⟨f,h1,_,a⟩
    ·exact u1 x a
    ·exact u2 f h1 x a
   ·show A9 Ahy ?_
    ·have:=List.length_filter_le Ayv fs;show EQ;omega
    ·have:=h ms s1 fun x=>XA s2 x (hx x);show BC List.map_append;exact this
theorem Q9{g:Α}(h:AKy g.Pairwise):g.Nodup:=h.imp fun{a b} q z=>(ASI zsy)
theorem asT(a b:Str)(h:Ü):¬pB b a=true:=Θ (z18 h) zJ
theorem zzz{rows tZ :A1}{Ss J4 :HZ}(F:Fam rows Ss)(F' :Fam tZ J4)(e:∀r,r∈rows↔r∈tZ):Ao9 :=fun S hS=>by
 show CS r hr k F.of S hS;obtain⟨S',hS',k'⟩:=F'.to r ((e r).mp hr);show DD S' hS' (E2 x);rw[k x,k' x,dO,dO];exact AFr (dl h q) (dl ((e r).mp h) q) (dl h q) (dl ((e r).mpr h) q)
theorem CQ.sub(BIe):pV (m∈Nv) :=ARf (by
 obtain⟨Ss,F,p⟩:=h.pi;obtain⟨J4,F',p'⟩:=h'.pi;obtain⟨m',hm',k⟩:=p.same p' (zzz F F' e) (zzz F' F (OW (Tb e r))) hm;rw[ztc asT (h.sr m hm) (h'.sr m' hm') k];exact hm')
theorem CQ.uniq(BIe):ms=Nv :=
 ztc (R:=r_ Aq2) (fun a b q=>asT _ _ q) h.up h'.up fun m=>⟨h.sub h' e m,h'.sub h (t6 (Tb e r)) m⟩
theorem yek{f:Α}(h:f≠ []):hdS f∈f:=by
 cases f with
 | nil=>show ACr h
 | cons x f=>exact zY
theorem z0n:∀{fs:HZ},(AOp (f≠ [])) ->Aoa ->d6 fs.map hdS
 | [],_,_=>AV
 | UR,ne,d=>by
  rw[List.pairwise_cons] at d;rw[List.map_cons,List.nodup_cons];show A8 nK (z0n (fun g hg=>A8H) d.2);show NW g hg (zB.mp z);exact d.1 g hg (hdS f) (yek (ne f zY)) (e ▸ yek (ne g (zW _ hg)))
theorem z4k:GY fs HZ (AOp (f≠ [])) (Af1 fs.length)
 | [],_=>AV
 | UR,ne=>by
  have:=z4k (fs:=fs) fun g hg=>A8H;have h1:0<f.length:=List.length_pos_iff.mpr (ne f zY);rw[List.length_cons,List.flatten_cons,List.length_append];omega
theorem z1a{Ss fs:HZ}{U:Α}(p:AGp)(h:AJ9 (oq S)):AOi (oq f):=fun f hf x hx=>by
 show Oy S hS ((p.co x).mp (AK4 hx));exact h S hS x q
theorem z0k{Ss fs:HZ}{U:Α}(p:AGp)(nd:AOi f.Nodup)(h:AJ9 (oq S)):fs.flatten.length<=U.length:=
 Iw (zma p.dj nd) (AGF (by
  show AT3 f hf q hx;exact z1a p h f hf x q))
theorem YH:∀l:Δ,kj (l.map .leaf)=l
 | []=>rfl
 | d::l=>by show Afy;unfold kj;rw[YH l];rfl
theorem YJ{α:Type}(f:α ->T):AxI kj (T_ (toD (f x)))
 | []=>rfl
 | d::l=>by show Afy;unfold kj;rw[YJ f l];rfl
theorem yb5(hs:Α):Au hs.map Am4 mC=hs.map .str:=AMA
theorem ybn(AM Yg):ANr zwu 3:=by
 obtain⟨rows,U,rfl,hl,hU,hu,h⟩:=h;refine JA EX rows hl (Ν ws ps B);show B3 hpU p ps (((A3).Nodup/\A3≠ []/\oq A3)/\A0f A3) p hp (by
  show A'h hp;have hq2:q<ws.length:=Θ B.len hq
  show AbR (B.pt q _ p (zZ hq2) A0o)
  obtain⟨r,hr,er⟩:=(B.wm ws[q]).mp (yU hq2);show B5 ⟨b2,nK,Alq⟩ r hr (T_ (Θ er (b4 x)))
  ·show AlW ((b4 BB).mpr (dO.mpr (AEe r hr er))) z
  ·obtain⟨r',h1,_,h3⟩:=dO.mp ((b4 x).mp hx);exact h3 ▸ hu r' h1)
 have few:∀i,∀S∈ Au ps.take i (·.1),oq S:=fun i S hS x hx=>by
  show Wp p hp hS;exact(hpU p (List.mem_of_mem_take hp)).1.2.2 x hx
 show SG (∃fs x,m7 ((ps.take i).map (·.1)) fs/\ (AOp (AKy f.Pairwise))/\Γ= [NX,Az5,x]) ⟨[],_,As m7.nil,fun f hf=>by(cases hf),rfl⟩
 ·rintro i d _ hi ⟨fs,x,p,sr,rfl⟩;rw[YJ] at hi;show UN ps.length (gy ZO)
  show AA';cases hi;have tk:ps.take (BM)=ps.take i++ [MX]:=Al9
  obtain⟨⟨q1,q2,q3⟩,_⟩:=hpU MX (yU hi');have l1:=Iw q1 q3;have l2:=z0k p BBP (few i);have l3:=z4k p.ne;refine⟨fs,MX.1,U,?_,ω,ω,hU,q3,z1a p (few i),Ν g g1 g2⟩
  ·rw[yb5];rfl
  ·refine⟨AHN (dM f MX.1)++ [g],_,?_,AJ f hf,rfl⟩
   ·rw[tk,List.map_append];exact p.step q2 g2
   ·show Aqw
    ·exact sr f (ALi hf)
    ·show TH hf;exact g1
 ·rintro _ ⟨fs,x,p,sr,rfl⟩;have e:ps.take (B2 kj AJ1)=ps:=by show č YJ List.take_length
  rw[e] at p;have abJ :∀S∈ps.map (·.1),oq S:=rX (few ps.length) List.take_length
  have l2:=z0k p BBP abJ;have l3:=z4k p.ne;refine⟨fs,rfl,p.ne,z0n p.ne p.dj,ω,fun ms pm up=>h ms ⟨ARf (sr m (pm.mem_iff.mp hm)),up,_,⟨AJ S hS,AGg⟩,p.perm pm⟩⟩
  ·show Wp p hp hS;exact(hpU p hp).2
  ·have hw:=(B.wm AD).mpr (Hc r hr);show A'h hw;have hq2:q<ps.length:=AzR
   show AbR (B.pt q AD ps[q] A0o (zZ hq2))
   exact⟨ps[q].1,zB.mpr (HR (yU hq2)),b4⟩
theorem q27{q z k:Rat}(k0:k≠0)(e:q*k=z):q=z/k:=by rw[<- e,Rat.div_def,Rat.mul_assoc,BL1 k0,Rat.mul_one]
def GZ(B:Nat)(q:Rat):Prop:=∃z:Int,q*27720=ATV/\AjI
theorem GZ.add(BEV):GZ (A+B) (p+q):=by
 obtain⟨a,ea,ha⟩:=h1;obtain⟨b,eb,hb⟩:=h2;show fN (a+b) ω
 rw[Rat.intCast_add,<- ea,<- eb];grind
theorem GZ.sub(BEV):GZ (A+B) (p - q):=by
 obtain⟨a,ea,ha⟩:=h1;obtain⟨b,eb,hb⟩:=h2;show fN (a - b) ω
 rw[Rat.intCast_sub,<- ea,<- eb];grind
theorem GZ.mono{A B:Nat}{q:Rat}(h:GZ A q)(l:A<=B):AEO:=by
 show Fr a ea ha;exact⟨a,ea,zO ha l⟩
theorem z8a{B:Nat}:Apz AEO (GZ (qs.length*B) (gb qs))
 | [],_=>Akw (kz gb)
 | q::qs,h=>by
  refine((h q zY).add (z8a AiJ)).mono ?_;show Akt;omega
theorem Ra{n:Nat}(h1:1<=n)(h2:n<=12):n* (27720/n)=27720:=by
 match n,h1,h2 with
 | 1,_,_=>rfl
 | 2,_,_=>rfl
 | 3,_,_=>rfl
 | 4,_,_=>rfl
 | 5,_,_=>rfl
 | 6,_,_=>rfl
 | 7,_,_=>rfl
 | 8,_,_=>rfl
 | 9,_,_=>rfl
 | 10,_,_=>rfl
 | 11,_,_=>rfl
 | 12,_,_=>rfl
theorem z5u{t:Int}{n B:Nat}(h1:1<=n)(h2:n<=12)(ht:t.natAbs<=B):AFs B (NE t (FC n)):=by
 have e:=Ra h1 h2;show UM n0 (sL n) (by
  have:n=0:=by show AJm
  omega)
 show A9 (t* CF (27720/n)) ?_
 ·show Aze (An 27720) (sL n* sL (27720/n))
  rw[e',Rat.intCast_mul,Rat.div_def,Rat.mul_assoc,<- Rat.mul_assoc (Inv.inv (sL n)),ň n0,Rat.one_mul]
  rfl
 ·rw[Int.natAbs_mul];refine Nat.mul_le_mul ht ?_;rw[Int.natAbs_natCast];exact Nat.div_le_self _ _
theorem yem{t:Int}{B:Nat}(ht:t.natAbs<=B):AFs B (An t):=by
 show A9 (t*27720) (FB Rat.intCast_mul)
 rw[Int.natAbs_mul];exact Nat.mul_le_mul ht (zN _)
theorem yhr{B n:Nat}{q:Rat}(h:AEO)(hB:B<2^n):cW q.num<=n/\cW ņ<=15:=by
 show Fr z e hz;have eq:q=Azu:=q27 Β e
 have b1:cW z<=n:=kE χ
 have f:=A5e Β
 have e1:(fr z 27720).1=_:=AwF;have e2:(fr z 27720).2=_:=AwG;show AnG;rw[eq];show A8 (AXc b1) (zO (Az' ?_) (kE Β))
 ·rw[<- e1];exact yel Β
 ·rw[<- e2];exact yfc Β
theorem Uh{B n:Nat}{q:Rat}(h:AEO)(hB:B<2^n)(hn:15<=n):Sz n q:=⟨(yhr h hB).1,zO (yhr h hB).2 hn⟩
theorem K8{B n:Nat}{q:Rat}(h:AEO)(hB:B<2^n)(hn:n<=128):SzE q:=by
 show CD (zO (yhr h hB).1 hn);show Fr z e hz;have eq:q=Azu:=q27 Β e
 have f:=congrArg Prod.snd (A5e Β)
 dsimp only at f;rw[eq,<- f];exact⟨dv z 27720,Θ Int.mul_comm (Tq z 27720).symm⟩
theorem yix{n:Nat}(h:1<=n):qD (AYK n)= š G_ n:=by
 have f:=Xf (t:= -1) (b:=FL) χ
 have e1:(fr G_ FL).1=_:=AwF;have e2:(fr G_ FL).2=_:=AwG;show AnG;have g:dv G_ FL=1:=by unfold dv;show Ap χ;simp
 have t1:=z0q G_ FL;have t2:=Tq G_ FL;rw[g,Int.one_mul] at t1 t2;unfold qD;have c:(AYK n)=AIu (-1) (CF n):=rfl;rw[c,<- e1,<- e2,t1,t2]
theorem z4t{α:Type}(f:DS):vj (gb (l.map f)=Pc)
 | []=>rfl
 | DU=>by show f a+gb (l.map f)=f a+Pc;rw[z4t f l]
theorem YK(AZ4):Fg (ABd Nm)=some (AIh map .inr,ć fun r=> kK):=rfl
theorem ztb(AM Np):IZ zi2:=by
 obtain⟨rows,ws,h0,rfl,h⟩:=h;refine zgm AU5 AU5 (Þ AQn) (ű w hw) h;show LS _ _ (.inr h0) ALv rfl;rw[Nu];show FS Ú
 ·show AHF AFW
 ·show AHF AFV
theorem Ji{rows:A1}(L:RR){w:Str}(h:AFg):1<=AAZ/\ AAZ<=12:=Θ TJ ⟨List.length_pos_iff.mpr h,L.wk w⟩
theorem yhf(AM Yh):Mm z1x 5:=by
 obtain⟨rows,ws,h0,o0,rfl,L,⟨W1,W2⟩,h⟩:=h;show IA;refine⟨rows,ws,h0,rfl,rows,ws.filter (AL_),o0,rfl,?_⟩
 let both:=(ws.filter AL_).filter (EA (Μ Ada))
 show B3 hb w both AFg w hw (W2 w (ALi (ALi hw)));have hbl:both.length<=200:=zO (zO AMf (List.length_filter_le _ _)) W1
 let f:CL:=EA (AYK AAZ)
 show B3 gz w both (GZ 27720 (f w)) w hw (by
  have:=z5u (t:= -1) (B:=1) (Aft hb) (Ji L (hb w hw)).2 Β
  show BC Nat.one_mul;exact this)
 have gs:∀k,GZ Aie (gb ((both.map f).take k)):=fun k=>by
  refine(z8a AGW).mono (Nat.mul_le_mul_right _ (zO AjA (AY0 (Ř both.map<=200) List.length_map hbl)))
  show ď w hw A0L;exact gz w hw
 have e2:ANj=aC ws (EA (IM Am7 (f w))):=by
  rw[z4t];rw[J6,J6];show AFz w;by_cases q1:Ú
  ·by_cases q2:Ada<;>simp [q1,q2]
  ·simp [q1]
 have e3:(aC IP fun s=>(IM (h0∈s/\o0∈s) AWH))= - ANj:=by
  rw[e2,J7];have: - (aC ws (EA (IM Am7 (f w))))=aC ws (EA (G_* (AI Am7 (f w) 0))):=UK J5
  rw[this];show AFz w;split
  ·show 1/ An (FC AAZ)=G_* (AYK AAZ);rw[Rat.div_def,Rat.div_def];have:JE (-1)= -1:=rfl;rw[this];grind
  ·grind
 have pw:∀n,23<=n ->200*27720<2^n:=fun n hn=>(Aas (AL3 (200*27720<2^23)) hn)
 refine Jh AU5 (Þ (š G_ (CF AAZ))) (NO w hw ?_) ?_
 ·show P9 _ _ ALv gc
  show EQ;exact hp
 show P9 (both.map f) ?_ AGW A0'
 ·show WU;show AMg congrArg (Fs [D.lst z]) (AJ w hw);exact Tb yix (Aft hb)
 ·show Ap6;exact ApP (gz w hw)
 have gt:=gs (Ř both.map);rw[List.take_length] at gt;show CD AFJ
 rw[Q7];by_cases q:h0=o0
 ·subst q;show m_ rfl;have eb:both.length=B2 ws.filter AL_:=by
   show B2 (ws.filter AL_).filter AL_=_;rw[List.filter_filter];simp
  have ec:jf IP h0=AuC:=by
   unfold jf;rw[J7,eb];have:=Nj (α:=Str) 1 (l:=Aix AQn);show BC J6;show BC Rat.mul_one;show eS;exact AxL Ú
  show N4 gc BMg ANj ?_ ?_ (BK5 gt)
  ·rw[Qw,List.length_map]
  ·exact A7Y (zL (lc (qq (CF both.length)<=200*27720)) (pw 4000 Β))
  ·have:BMg+ANj=fP IP h0 h0:=by
    unfold fP;rw[B4,e3,ec];show AuC+_=_
    grind
   rw[this];exact h
 ·show m4 q;have:ANj=fP IP h0 o0:=by
   unfold fP;rw[AY q,e3];grind
  rw[this];exact h
theorem ydi(AM Yi):Y3 zvt:=by
 obtain⟨rows,ws,m,h0,rfl,L,W,h⟩:=h;refine Jh D.str (Τ o (ARx h0)) (ű o ho) h;exact⟨rows,ws,h0,o,rfl,L,W,hp⟩
theorem zwo{α:Type}(f:α ->Int):vj (nF (l.map fun a=> .int (f a))=some Ī)
 | []=>rfl
 | DU=>by unfold List.map nF;rw[zwo f l];rfl
theorem zso{α:Type}(f:α ->Int):vj (JE A1J=AML (An (f a)))
 | []=>rfl
 | DU=>by
  show Ayh Rat.intCast_add (zso f l);rfl
theorem zx0(x_)(f:α ->Int){B:Nat}:APF ((f a).natAbs<=B) (qq (A1J)<=l.length*B)
 | [],_=>AV
 | DU,h=>by
  have h1:=h a zY;have h2:=zx0 f (l:=l) (E9 A0w);show Ayh List.length_cons Nat.add_mul;omega
theorem zyd(AM Yj):ś zne:=by
 show yT rows w L ne;have hp:=List.length_pos_iff.mpr ne;have h12:=L.wk w;refine⟨_,_,IL ć r bv,ALv,zwo _ _,_,_,ALv,_,_,rfl,?_,?_,?_⟩
 ·have:=zx0 (fun r:Rw=>bv) (B:=2^100) (l:=dE) fun r hr=>BBR;refine į 104 (zL this ?_)
  exact zL AzM Β
 ·rw[List.length_map,TJ];exact į 4 χ
 ·show AEh TJ UH zso
  exact h
theorem ycj{L:A1}{h:Str}:iD AXK (ARD kK) wq=Au L.find? (OW AZY) AU3:=by
 induction L with
 | nil=>rfl
 | cons r L ih=>
  rw[List.map_cons,List.map_cons,List.find?_cons];unfold iD;show AZj
  ·rw[BD (by rw[q]),AFW];rfl
  ·rw[Do (Ξ (q AgD)),AFV];exact ih
theorem z4r{rows:A1}(u:FR){w h:Str}(hh:s_):Xs (AD=w/\BB=h/\iD (AIh map .inr) (ć fun r=> kK) wq=some (C3 bv)/\ANs h=ME):=by
 obtain⟨r,hr,e1,e2⟩:=jT.mp hh;show LS r hr e1 e2 ?_
 ·unfold kW;show WU;have:=ycj (L:=dE) (h:=h);show iD (ć fun r=> .inr BB) _ _=_;rw[this];cases q:APy find? fun r=>AZY with
  | none=>
   have:=List.find?_eq_none.mp q r (bH.mpr ⟨hr,e1⟩);simp [e2] at this
  | some s=>
   have s1:=bH.mp (List.mem_of_find?_eq_some q);have s2:VZ=h:=As (List.find?_some q)
   rw[yiy u s1.1 hr ((s1.2).trans e1.symm) (s2.trans e2.symm)];rfl
 ·have:=zzp u hr;show TZ e1 e2;exact this
theorem Nx(ī)(u:FR)(w:Str):cN AMK (ABd yW)=AJE (t6 ME):=by
 unfold cN;rw[TJ,yfa]
 congr 1
 show AAm;have:=zzp u vk;rw[ANd] at this;rw[this]
theorem z7j{rows:A1}(L:RR){w:Str}(ne:AFg):AFs (2^104) (AJE (t6 ME)):=by
 have hp:=List.length_pos_iff.mpr ne;have h12:=L.wk w;have:=zx0 (fun r:Rw=>bv) (B:=2^100) (l:=dE) fun r hr=>BBR;rw[<- zso];refine z5u hp h12 (zO this (zO AzM Β))
theorem z9n(ī)(u:FR)(L:RR){w h:Str}(hh:s_):AFs (2^105) (ANs h - cN AMK (ABd yW)):=by
 obtain⟨r,hr,e1,e2,_,ey⟩:=z4r u hh;rw[ey,Nx u];have ne:AFg:=Ξ (by
  have:=bH.mpr ⟨hr,e1⟩;show BC z;show EV)
 exact((yem (B:=2^104) (zO (Nat.le_of_lt (L.mm r hr)) Β)).sub (z7j L ne)).mono Β
theorem ybs(AM Yk):IZ zu7:=by
 obtain⟨rows,ws,h0,rfl,u,L,⟨W1,W2⟩,h⟩:=h;show IA;have pw:∀n,128<=n ->200* AVm<2^n:=fun n hn=>(Aas (AL3 (200* AVm<2^128)) hn)
 let wh:=Aix AQn
 show B3 Ny w wh (w∈ws/\Ú) w hw ⟨ALi hw,BLW (zA.mp hw).2⟩
 let f:CL:=EA (ANs h0 - cN AMK (ABd yW))
 refine IE rows ws h0 ?_;refine Jh AU5 (Þ (qD (f w))) (NO w hw ?_) ?_
 ·obtain⟨r,hr,e1,e2,lk,ey⟩:=z4r u AlT;refine⟨_,_,.inr h0,kK,ALv,rfl,lk,gc,rows,w,rfl,L,W2 w (Ny w hw).1,?_⟩
  show LS (JE bv) _ (Hk Qw) ?_ (ApP (z7j L (W2 w (Ny w hw).1)))
  ·exact Tt (Ap9 L.mm) Β
  ·rw[<- Nx u,<- ey];exact hp
 ·have gs:∀k,GZ (200* AVm) (gb ((wh.map f).take k)):=fun k=>by
   refine(z8a AGW).mono (Nat.mul_le_mul_right _ (zO AjA (AY0 (Ř wh.map<=200) List.length_map (zO AMf W1))))
   show ď w hw A0L;exact z9n u L AlT
  show P9 (wh.map f) AMA AGW A0'
  ·show Ap6;exact ApP (z9n u L AlT)
  ·have:gb (wh.map f)=m8 AI9 AI_ ws h0:=by
    rw[z4t];rw[J6];exact KA w (by by_cases q:Ú<;>simp [q,f])
   rw[this];exact h
theorem zsv{α:Type}{B:Nat}{f:DS}:APF (GZ B (f a)) (GZ (l.length*B) (aC l f))
 | [],_=>Akw AVt
 | DU,h=>by
  refine((h a zY).add (zsv (E9 A0w))).mono ?_;show Akt;omega
theorem YL(B:Nat):GZ B 0:=Akw LN
theorem yey(Aod)(W:AAR)(h:Str):GZ Aie (jf IP h):=by
 unfold jf;rw[J7];show Ax8 Ak3;split
 ·have:=yem (t:=1) (B:=1) Β
  show BC Nat.one_mul;exact this
 ·exact YL _
theorem ybo(ī){ws:Α}(L:RR)(W:AAR)(h o:Str):AFs 400 (fP IP h o):=by
 have g1:AFs 200 (AI (h=o) (jf IP h) 0):=by
  split
  ·exact yey W h
  ·exact YL _
 have g2:GZ Aie (aC IP fun s=>(IM AHV AWH)):=by
  rw[J7];show Ax8 (AJ w hw);split
  ·have:=z5u (t:=1) (B:=1) (Aft W.2) (Ji L (W.2 w hw)).2 Β
   show BC Nat.one_mul;exact this
  ·exact YL _
 exact(g1.sub g2).mono Β
theorem yi0(Aod)(u:FR)(L:RR)(W:AAR)(h:Str):GZ (200* AVm) BDg:=by
 refine(zsv (B:=2^105*27720) Ak3).mono (Nat.mul_le_mul_right _ W.1);split
 ·show G1;exact z9n u L q
 ·exact YL _
theorem zuo{α β:Type}[X9 α](g:AUu)(l:A0):l.map g=KU l.length (DJ (g (l.getD j default))):=by
 show UB
 ·simp
 ·show yY;show Ayg;have hi:i<l.length:=As h1
  show AS3 Tk;rfl
theorem yaf(x:D)(xs:Δ):cutD ANp mB none=xs:=by
 show yo;simp
theorem znm(AM Yl):Mm zfg 5:=by
 obtain⟨rows,ws,m,rfl,S,L,W,ne,m12,h⟩:=h;show IA;obtain⟨h0,hs,em⟩:∃h0 hs,m=ā:=by
  cases m with
  | nil=>show ACr ne
  | cons a b=>exact Hc a b
 have hn:m.length=hs.length+1:=AMC
 have gs:∀i,m.getD Bi default=hs.getD i default:=CO AMC
 have ct:cutD (m.map D.str) mB none=hs.map D.str:=Θ em (yaf _ _)
 let A:=oh rows ws m
 show A8v;rw[ct];refine Jh D.str (MO Ama) (NO h hh ⟨rows,ws,m,h,rfl,L,W,hp⟩) ?_;show A8v;rw[ct];refine Jh D.str (MO AZ2) (NO h hh ⟨rows,ws,h,rfl,S.u,L,W,hp⟩) ?_;have ec:∀h,jf IP h=JE (B2 ws.filter (EA AgQ)):=D4 (by
  unfold jf;rw[J7];have:=Nj (α:=Str) 1 (l:=Aix AgQ);show TZ J6 Rat.mul_one;refine Eq.trans ?_ this;exact AxL s_)
 show Mb zeg [Adg,.pu (wU rows ws),MH (Alw Ama),MH (Alw AZ2),A_];show Tx (m.map D.str);refine Jh D.str (MO A8V) (NO h hh ?_) ?_
 ·show LS rows ws h rfl gc
  rw[ec,Qw] at hp;show EQ;exact hp
 unfold zep;dsimp only [aD,bh,cC,cV,cB,cT,iy,uR,gW,eG,jj,fC,qQ,ak,aj,dB,eO,dX,fQ,aW,gB,cG,aV,cM,hName,fD,aZ,fG,jC,jD,aq,cU,iw,fZ,cJ,fO,cI,dw,bQ,jE,qT,uE,qe,uU,uF,jk,lJ,qU,cA,wI,qR,rP,lB,zev,wD,cO,kJ,gC,kO,kY,List.length,List.set_cons_zero,List.set_cons_succ,List.getElem?_cons_zero,List.getElem?_cons_succ,fH,mG,rQ,uG,pI,n6,pA,kZ,fJ,dG,jl,ql,qM,uI,iB,qN,cP,dH,sG,wJ,sE,lu,lA,iL,dJ,gK,jM,dF,List.map,List.append,List.cons_append,List.nil_append];have l1:hs.length<=1000:=ω
 show LS Ahy Avc gc Ahy Avc
 have YM:Ajr (pJ m.length (A i)= .lst (Đ o BC_)):=fun i hi=>by
  unfold pJ;rw[zuo (Τ o BC_) m];show AMg congrArg D.lst AOn;show qD (ArM i j)=_;unfold oh;rw[if_pos (List.mem_range.mp hj)]
 have idx:KI m.length (m.idxOf AoC=j):=fun j hj=>(AMO AUd (S.nm.idxOf_getElem j hj))
 have conv:∀(X:PF) i,dN m.length (WF (AFZ*X j))=dN m.length (DJ (AFZ*X (m.idxOf AoC))):=fun X i=>Nh fun j hj=>(Hk (idx j hj))
 refine⟨m.length,A,⟨?_,m12,ER i j hi hj⟩,De y k hk y1 hy,Ν X hX hsz⟩
 ·have t1:IK m.length m.length A= .lst (SS (Đ h A8V)++AkD Ama):=by
   unfold IK;rw[hn,List.range_succ_eq_map,List.map_cons,List.map_map,<- hn,YM 0 χ]
   rw[zuo (MO (D.lst (m.map fun o=>(ARx h)))) hs];refine congrArg D.lst ?_;show BY=BY;refine List.cons_eq_cons.mpr (EO (List.map_congr_left AnY));show AgN hi' hi;show pJ m.length (A Bi)=_;rw[YM Bi χ]
   show AMg congrArg D.lst (AJ o _);rw[AY χ,gs]
  have t2:pJ m.length (ä (A i m.length))= .lst ([š 0 1]++AkD AZ2):=by
   unfold pJ;rw[hn,List.range_succ_eq_map,List.map_cons,List.map_map,<- hn];rw[zuo (MO AZ2) hs];have a0:A 0 m.length=JE 0:=by
    show oh rows ws m 0 m.length=_;unfold oh;rw[AZf,B4];rfl
   refine congrArg D.lst ?_;show qD (A 0 m.length)::_=BY;rw[a0,Qw];refine List.cons_eq_cons.mpr (EO (List.map_congr_left AnY));show qD (ArM Bi m.length)=_;unfold oh;rw[AZf,UH,gs]
  rw[t1,t2]
  rfl
 ·show SzE (ArM i j);unfold oh;split
  ·show A7c (K8 (yey W _)) 23 ybo L W _ 24
  ·show A7c (K8 (YL 0)) 1 yi0 S.u L W 128
 ·have z:=S.null (MO (y (m.idxOf h))) (NI hi (by
   have:=hy i hi;show BC conv;exact this)) (m.getD k default) (Xr hk)
  rw[idx k hk,y1] at z;exact AUj z
 ·have a:=S.ans (MO (X (m.idxOf h))) (NI hi (by
   have:=hX i hi;show BC conv;exact this))
  have e:pJ m.length X= .lst (Đ h Azm):=by
   unfold pJ;rw[zuo (MO Azm) m];exact congrArg D.lst (List.map_congr_left (dk (Hk (idx j (List.mem_range.mp hj)))))
  rw[e];show AHi hsz;exact h _ a.1 a.2 ⟨d,d0,bd,fun g hg=>hd _ (List.idxOf_lt_length_of_mem hg)⟩
theorem yhe(ms:HZ):toD (mM Ay6)= .lst (ms.map gl):=wt toD YH
theorem CQ.sys(ApK)(G:ADc)(u:FR){m:Α}(hm:m∈ms):(AIj BKN)/\∀ws:Α,ws.Nodup ->(AaS (∃r∈AZK,ADX)) ->vI TN ws m:=by
 show AXy;have cl:Ahu:=fun r hr hh h hk=>by
  show NW S hS AiH;show A6G;have h1:BB∈f:=sub _ ((e _).mpr (dO.mpr BK7));have h2:h∈f:=sub _ ((e _).mpr hk);rw[Xh p.dj hm hf hh h1];exact h2
 show A8 cl (fun ws nw hw=>⟨u.M m,nw,TK ((hw _).mpr (Hc r hr)),Q9 (G.sr m hm),TK Anr,AJ h hh,Ν C hC hx⟩)
 ·obtain⟨S,hS,hs⟩:=(p.co h).mp ⟨m,hm,hh⟩;show AYq;obtain⟨r',hr',_,e2⟩:=AOS h hs;exact⟨r',lD.mpr ⟨hr',Θ e2 hh⟩,e2⟩
 ·have key:=p.min (Τ x (x∈m ->C x)) (fun S hS hx y hy ym=> ?_) m hm (by
   obtain⟨x,h1,h2⟩:=hx;exact Ă x (CY h2))
  ·exact AGF (key x hx hx)
  ·show AYq;show A6G;have fm:m=f:=Xh p.dj hm hf ym (sub y hy);show B3 YQ z S (z∈m) z hz (Θ fm (sub z hz))
   have same:∀z,z∈S↔z∈kW TN AD:=Ξ (by
    rw[jT];constructor
    ·intro hz;obtain⟨r',h1,h2,h3⟩:=AOS z hz;exact ul r' (lD.mpr ⟨h1,Θ h3 (YQ z hz)⟩) h3
    ·rintro⟨r',h1,h2,h3⟩;exact(e z).mpr (dO.mpr (ul r' (lD.mp h1).1 h3)))
   obtain⟨x,hx1,hx2⟩:=hx;obtain⟨r',h1,h2,h3⟩:=jT.mp ((same x).mp hx1);exact hC AD ((hw _).mpr (Ă r' h2)) ⟨x,(same x).mp hx1,hx2 (YQ x hx1)⟩ y ((same y).mp hy)
theorem yl8{rows:A1}{m:Α}{w:Str}:dg TN w=APy filter (OW AgP):=by
 unfold dg ofM;rw[List.filter_filter,List.filter_filter];exact BMk r (Bool.and_comm _ _)
theorem yg6(ApJ){w:Str}(h:jS p_ m):dg TN w=dE:=by
 rw[yl8];refine List.filter_eq_self.mpr (TK (decide_eq_true (h _ ?_)));exact jT.mpr ⟨r,vk,ANd,rfl⟩
theorem ymm(ApJ){h:Str}(hm:h∈m):BX TN h=AZJ:=by
 unfold BX ofM;rw[List.filter_filter];refine List.filter_congr (AJ r _);show AZj
 ·simp [q,hm]
 ·simp [q]
theorem ymg{rows:A1}{m:Α}{x:CL}(cl:Ahu){h:Str}(hm:h∈m)(e:wK TN x h):x0:=by
 unfold wK at e⊢;rw[ymm hm] at e;rw[<- e];show AAm;show AZP;rw[yg6 (cl r hr'.1 (B' hr'.2 hm))]
theorem yas(ī){x y:CL}{h:Str}(e:∀r∈AZJ,∀s∈AI7 dg,x VZ=y VZ)(q:x0):wK rows y h:=by
 unfold wK at q⊢;rw[<- q];show AAm;show AZP;have e1:=e r hr r (bH.mpr (Ì hr'.1));rw[e1];have e2:aC (dg rows AD) (L9 s AQN (y VZ))=aC (dg rows AD) fun s=>AQN - x VZ:=lZ fun s hs=>(Hk (e r hr s hs))
 rw[e2]
theorem LB.M(ī)(L:RR)(m:Α):LB (ofM rows m):=by
 show DD (zO AMf L.few) (TK (L.mm r (lD.mp hr).1)) AUY;rw[yl8];exact zO AMf (L.wk w)
theorem yei(BEs):ps=ws.map (EA Ae6):=by
 show UB
 ·rw[List.length_map];exact B.len.symm
 ·show yY;have hw:i<ws.length:=Θ B.len h1
  rw[List.getElem_map];exact B.ex u i WV MX (zZ hw) (zZ h1)
theorem yjd(p:Α×Δ):toD (Aq p)= .dic Ahn p.2:=by
 unfold Aq toD;rw[YH]
structure Gm (rows:A1) (m:Α) (x:CL):Prop where
 ev:ZT x0
 em:AZZ
 sz:Aq0
theorem Gm.congr(ApJ){x y:CL}(cl:Ahu)(g:Gm rows m x)(e:ZT (x h=y h)):Gm rows m y:=by
 show fN (AOB (yas (fun r hr s hs=>e _ ?_) (g.ev h hh))) (by show AHi g.sz;exact⟨d,d0,bd,AOB (BF (e h hh) (hd h hh))⟩)
 ·show AZP;have hs' :=bH.mp hs;exact cl r hr'.1 (B' hr'.2 hh) _ (jT.mpr (AEe s hs'.1 hs'.2))
 ·have:=g.em;unfold QD at this⊢;show eS;exact Aor (e _ Anr).symm
theorem z2l{hs:Α}{x y:CL}(e:∀h∈hs,x h=y h):gF hs x=gF hs y:=by
 unfold gF;rw[List.map_congr_left (g:=AQa y) (AOB (Hk (e h hh)))]
theorem zty{hs:Α}{h:Str}{x:CL}(n:h∉hs):T.dic (jw ū wq) (AQg (gD ū (Alw (qD (x h))) wq (qD (x h))))=gF (hs++ [h]) x:=by
 rw[zvu];unfold sX gD gF;rw[AY n,Nu,decide_eq_false n,Th];simp
theorem YS{α:Type}{l:A0}{i:Nat}(h:i<l.length):l.take (BM)=l.take i++ [l[i]]:=BJ4 YN
theorem CQ.hand(BDO){m:Α}(hm:m∈ms){x:Str}(hx:x∈m):Xs (BB=x):=by
 show AXy;obtain⟨S,hS,hs⟩:=(p.co x).mp ⟨m,hm,hx⟩;show AYq;obtain⟨r',hr',_,e2⟩:=AOS x hs;exact⟨r',hr',e2⟩
theorem z3c(AM T5):ANr zqc 6:=by
 obtain⟨rows,U,rfl,u,L,hU,hr,h⟩:=h;show IA;have few:=L.few;intro as;show ABX zk6 CT [NX,ARX [] [],A_,A_,A_,A_];refine⟨rows,U,rfl,ω,ω,hr,AJ ms G⟩
 simp only [yhe];show AXy;have nd:ms.flatten.Nodup:=zma p.dj fun f hf=>Q9 (G.sr f hf);show SG (∃(as:AO) (x:CL) (y2 y3 y4 y5:Slot),(∀m∈ms.take i,Gm rows m x)/\Γ= [NX,kC (gF sR x),y2,y3,y4,y5]) (A5t lT (ARf (ABs hm)))
 ·rintro i d _ hi ⟨as,x,y2,y3,y4,y5,hg,rfl⟩;show UN ms.length (gy ZO)
  show AA';cases (hi);have hm:AEz∈ms:=yU hi';have apart:∀h∈AEz,h∉ sR:=fun h hh z=>by
   have:=nd;show Ayn (Ad9 ms) this;refine Agk h z h ?_ rfl;refine List.mem_flatten.mpr ⟨AEz,?_,hh⟩;show Alj;exact zY
  have cl:=(G.sys u hm).1;have tk:ms.take (BM)=ms.take i++ [AEz]:=YS hi';have fl:A3K=sR++AEz:=by rw[tk,List.flatten_append];simp
  generalize em:AEz=m at*;show B3 sub z m (z∈U) z hz BGx
  have ndm:m.Nodup:=Q9 (G.sr m hm);have m12:m.length<=12:=zO (Iw ndm sub) hU;show zi4 K c _ (Ams y3) _;show Tx AdB;refine zgm Ca Ca (t6 AgP) (ű r hr) ?_
  ·refine JA AdV AMy (z9s m) ?_;show kD (AI false _ (inD (.str BB) (m.map .str)));rw[zy9];show FS sQ
   ·show AHF AFW
   ·show AHF AFV
  show B5 AZK rfl (zO AMf χ) (Ν ws ps B)
  have ep:=yei B (u.M m);have ex:A3L=ws.map (Nm (ofM rows m)):=by
   rw[YJ,ep,List.map_map];exact List.map_congr_left fun w _=>yjd _
  show HQ AMi A3L (by simp only [toD];rfl)
  rw[ex];have W:Ar TN ws:=⟨zO B.lw (L.M m).few,fun w hw z=>by
   obtain⟨r,h1,h2⟩:=(B.wm w).mp hw;have:=bH.mpr AX2;show BC z;cases (this)⟩
  show zgv K c _ (Ams Aql) _;refine⟨AZK,ws,m,rfl,(G.sys u hm).2 ws B.nd B.wm,L.M m,W,p.ne m hm,m12,ER xm ev sm sz⟩
  let x' :CL:=Ξ (if z∈m then xm z else x z)
  show B3 ex1 z m (x' z=xm z) z hz (BD hz);show B3 ex0 z sR (x' z=x z) z hz (AY (fun q=>apart z q hz));have gm:Gm rows m x' :=Gm.congr cl ⟨AWh (ymg cl hz (ev z hz)),sm,sz⟩ (AWh (ex1 z hz).symm);show B3 gms f (ms.take (BM)) (Gm rows f x') f hf (by
   rw[tk] at hf;show Aqw
   ·exact Gm.congr (G.sys u (List.mem_of_mem_take hf)).1 (hg f hf) (AWh (ex0 z (List.mem_flatten.mpr (AK4 hz))).symm)
   ·show TH hf;exact gm)
  have ez:mH (m.map D.str) (m.map (AQa xm))=m.map (D4 (.tup [.str h,AiI])):=by
   unfold mH;show UB
   ·simp
   ·intro j h1 h2;simp only [List.getElem_zipWith,List.getElem_map];rw[ex1 _ (List.getElem_mem _)]
  show vd (mH (m.map D.str) (Đ h (qD (xm h)))) (ACd (Da 4) 5) (zi1 K c) _ _ (Ams Aql);rw[ez];have fll:(ms.take i).flatten.length+m.length<=1000:=by
   have h1:(A3K).Nodup:=by
    show Ayn (List.take_append_drop Bi ms) nd;exact nd.1
   have:=Iw h1 (U:=U) fun z hz=>by
    show AT3 f hf hzf hz;obtain⟨r,g1,g2⟩:=G.hand (List.mem_of_mem_take hf) hzf;rw[<- g2];exact hr r g1
   show TZ fl List.length_append;omega
  show HQ (fun j Γ=>∃(as:AO) (y4 y5:Slot),Γ= [NX,kC (gF (sR++m.take j) x'),Adg,Aql,y4,y5]) ⟨as,y4,y5,?_⟩ ?_
  ·rw[List.take_zero,List.append_nil,z2l fun z hz=>ex0 z hz]
  ·rintro j d _ hj ⟨as,z4,z5,rfl⟩;have hj' :j<m.length:=gy (IO hj)
   show AQQ (im hj') hj;cases (hj);have nn:m[j]∉ sR++m.take j:=Ξ (by
    show IY (zT.mp z)
    ·exact apart _ (yU hj') z
    ·show AOl ndm;show NW q hq (List.mem_iff_getElem.mp z);rw[List.length_take] at hq;rw[List.getElem_take] at e;exact key q j χ hj' χ e)
   refine⟨rfl,rfl,Hc as _,.inr m[j],as,_,AUk fun h=>AiI,rfl,rfl,?_,?_⟩
   ·show ALC List.length_append List.length_take;omega
   ·show HQ as (GE m[j]) (.pu (qD (x' m[j])));show [Slot.pu (d9 rows),Slot.tr as (T.dic (jw (AUk .inr) (DH m[j])) (AQg (gD (AUk .inr) (AUk fun h=>AiI) (DH m[j]) (qD (x' m[j]))))),_,_,_,_]=_;rw[zty nn,List.append_assoc,<- YS hj']
  ·rintro _ ⟨as,z4,z5,rfl⟩;rw[List.length_map,List.take_length,<- fl];exact A5t x' gms
 ·rintro _ ⟨as,x,y2,y3,y4,y5,hg,rfl⟩;show AnC hg;exact h ms x ⟨G,ArZ ev,ArZ em,ArZ sz⟩
theorem Ed{n:Nat}(i j:Int):uV n Ň (C3 j):=by cases n<;>simp [uV]
theorem zwb(AM Ym):Mm zga 5:=by
 obtain⟨a,b,d,e,n,rfl,he,h⟩:=h;unfold zga;dsimp only [aD,bh,cC,cV,cB,cT,iy,uR,gW,eG,jj,fC,qQ,ak,aj,dB,eO,dX,fQ,aW,gB,cG,aV,cM,hName,fD,aZ,fG,jC,jD,aq,cU,iw,fZ,cJ,fO,cI,dw,bQ,jE,qT,uE,qe,uU,uF,jk,lJ,qU,cA,wI,qR,rP,lB,zev,wD,cO,kJ,gC,kO,kY,List.length,List.set_cons_zero,List.set_cons_succ,List.getElem?_cons_zero,List.getElem?_cons_succ,fH,mG,rQ,uG,pI,n6,pA,kZ,fJ,dG,jl,ql,qM,uI,iB,qN,cP,dH,sG,wJ,sE,lu,lA,iL,dJ,gK,jM,dF,List.map,List.append,List.cons_append,List.nil_append];show CD PV;split
 ·exact⟨AS,h _⟩
 ·unfold zg4;dsimp only [aD,bh,cC,cV,cB,cT,iy,uR,gW,eG,jj,fC,qQ,ak,aj,dB,eO,dX,fQ,aW,gB,cG,aV,cM,hName,fD,aZ,fG,jC,jD,aq,cU,iw,fZ,cJ,fO,cI,dw,bQ,jE,qT,uE,qe,uU,uF,jk,lJ,qU,cA,wI,qR,rP,lB,zev,wD,cO,kJ,gC,kO,kY,List.length,List.set_cons_zero,List.set_cons_succ,List.getElem?_cons_zero,List.getElem?_cons_succ,fH,mG,rQ,uG,pI,n6,pA,kZ,fJ,dG,jl,ql,qM,uI,iB,qN,cP,dH,sG,wJ,sE,lu,lA,iL,dJ,gK,jM,dF,List.map,List.append,List.cons_append,List.nil_append];show CD PV;split
  ·show A9 he PV;cases iM (C3 d) (C3 (b.fmod e)) with
   | true=>exact h true
   | false=>show MT he PV (h _)
  ·unfold zht;dsimp only [aD,bh,cC,cV,cB,cT,iy,uR,gW,eG,jj,fC,qQ,ak,aj,dB,eO,dX,fQ,aW,gB,cG,aV,cM,hName,fD,aZ,fG,jC,jD,aq,cU,iw,fZ,cJ,fO,cI,dw,bQ,jE,qT,uE,qe,uU,uF,jk,lJ,qU,cA,wI,qR,rP,lB,zev,wD,cO,kJ,gC,kO,kY,List.length,List.set_cons_zero,List.set_cons_succ,List.getElem?_cons_zero,List.getElem?_cons_succ,fH,mG,rQ,uG,pI,n6,pA,kZ,fJ,dG,jl,ql,qM,uI,iB,qN,cP,dH,sG,wJ,sE,lu,lA,iL,dJ,gK,jM,dF,List.map,List.append,List.cons_append,List.nil_append];show CD PV;split
   ·show HQ AS AS PV
    cases iM (C3 (b.fmod 2)) (C3 (d.fmod 2)) with
    | true=>exact⟨AS,h _⟩
    | false=>exact h false
   ·exact h true
theorem Nz:Amh= [97,98,99,100,101,102,103,104,105,106,107,108,109,110,111,112,113,114,115,116,117,118,119,120,121,122]:=v_
theorem Rb:B2 Str.ofString "abcdefghijklmnopqrstuvwxyz"=26:=by
 show BKE cps.size=26;rw[<- Array.length_toList,Nz];rfl
def Ka(b:Bool):Int:=IM b 1
theorem NK{i:Int}{k:Nat}(h:Al5)(hk:NL k:=by decide):AU4:=zO (kE h) hk
theorem yhw(A4d):cutD (rs.map Ca) (BU Cf) none=Au rs.drop k Ca:=by
 show yo;show BLi;rw[UH,Int.toNat_natCast,BL0,<- List.map_drop,<- List.map_take,List.take_of_length_le (by rw[List.length_drop];omega)]
theorem yg2(A4d):cutD (rs.map Ca) none (some Cf)=Au rs.take k Ca:=by
 show yo;show BLi;rw[UH,Int.toNat_natCast,BL0,List.drop_zero,Nat.sub_zero,<- List.map_take]
theorem yff{α:Type}{f:ŭ}{xs:A0}{k:Nat}(h:k<xs.length):mi xs.map f Cf (f xs[k]):=yE (xE YN)
theorem YT{k:Nat}(h:k<26):mY Amh Cf=some (97+k):=by
 refine yE ?_;rw[Nz];have:∀k:Fin 26,EE [97,98,99,100,101,102,103,104,105,106,107,108,109,110,111,112,113,114,115,116,117,118,119,120,121,122] k.1 (97+k.1):=AS
 exact this ⟨k,h⟩
theorem YW{i:Int}(h:0<=i/\i<26):ĉ Amh (97+i.toNat):=by
 have e:i=CF i.toNat:=ω
 have:=YT (k:=i.toNat) χ
 rw[<- e] at this;exact this
def txt(Aoc):Str:=⟨WA Fk f⟩
theorem yaw(Aoc):txt n f++ (⟨#[f n]⟩:Str)=txt NF f:=by
 show(⟨WA Fk f++ #[f n]⟩:Str)=⟨WA u7 f⟩
 congr 1
 show AEf List.range_succ;simp
theorem yg8{n m:Nat}{f g:OY}(h:txt n f=txt m g):n=m/\KI n (f j=g j):=by
 have e:Fk f=KU m g:=by
  have:=congrArg (fun s:Str=>s.cps.toList) h
  simpa [txt] using this
 have l:n=m:=As (w4 List.length)
 subst l;show YU rfl j hj;have:=w4 (Τ l l[j]?)
 simpa [hj] using this
theorem ygd(Aoc):LL txt n f=n:=by
 show(Fk f).toArray.size=n;simp
theorem z6i{α:Type}{g:GT α}{m:Nat}(h:A1p (g i=g j)):d6 (KU m) g:=by
 refine z19 (R:=r_ (a≠b)) List.nodup_range (AqP (n (h a b (BLn ha) (List.mem_range.mp hb) e)))
theorem zyv(AM T6):Mm zhf 10:=by
 show EN n m hm h h;show AA_ 1000
 let L:Str:=ASz "abcdefghijklmnopqrstuvwxyz"
 have main:∀sz:Nat,1<=sz/\sz<=8 ->Mb zfd [AT5,BI m,AMN,ALn,A_,A_,A_,A_,A_,A_]:=by
  intro sz hsz;unfold zfd;dsimp only [aD,bh,cC,cV,cB,cT,iy,uR,gW,eG,jj,fC,qQ,ak,aj,dB,eO,dX,fQ,aW,gB,cG,aV,cM,hName,fD,aZ,fG,jC,jD,aq,cU,iw,fZ,cJ,fO,cI,dw,bQ,jE,qT,uE,qe,uU,uF,jk,lJ,qU,cA,wI,qR,rP,lB,zev,wD,cO,kJ,gC,kO,kY,List.length,List.set_cons_zero,List.set_cons_succ,List.getElem?_cons_zero,List.getElem?_cons_succ,fH,mG,rQ,uG,pI,n6,pA,kZ,fJ,dG,jl,ql,qM,uI,iB,qN,cP,dH,sG,wJ,sE,lu,lA,iL,dJ,gK,jM,dF,List.map,List.append,List.cons_append,List.nil_append];show A9 A4Y ω
  show BS at_ ea hat (Nr (i:=n.fdiv 24) (n:=sz)) χ
  rw[ea]
  let one:Bool:=A7X
  let num:fT:=DJ ((n.fdiv 24*48271+ Rc* Rc*69621+ Rc*7).fmod 2147483647)
  let f:AH0 Nat:=fun k j=>97+ ((num j+ Cf*AaL Rc).fmod 26).toNat
  let ln:OY:=ut (sz+k* (AI AEs 1 0))
  have S9:∀k,k<20 ->ln k<=28:=fun k hk=>by
   show sz+k* (AI AEs 1 0)<=28;split<;>omega
  let nm:GT Str:=ut (txt (ln k) (f k))
  have inj:A1p (nm i=nm j):=fun i j hi hj e=>by
   show CM e1 e2 yg8 e;have e1' :sz+i* (AI AEs 1 0)=sz+j* (AI AEs 1 0):=e1;by_cases o:AEs
   ·rw[BD o] at e1';omega
   ·have e3:=e2 at_ (AeI (at_<sz+_))
    have e3' :A5u (Fh*AaL AJH)=A5u (Rc*AaL AJH):=e3;rw[ADq] at e3';have ob:one=false:=As o
    rw[ob] at e3';show sj l1 (num at_+ Fh*ApA) 26
    show sj l2 (num at_+ Rc*ApA) 26
    have b1:ApA=1:=rfl;rw[b1,Int.mul_one] at l1 l2;rw[b1,Int.mul_one,Int.mul_one] at e3';rw[Av1] at e3' l1 l2
    rw[Av1] at e3'
    omega
  show CD EX;show ANP (fun k Γ=>∃(x1 x2 x3 x4:Slot),Γ= [AT5,BI m,AMN,ALn,AT6,AbM,x1,x2,x3,x4]) ⟨_,_,_,_,rfl⟩
  ·rintro k _ hk ⟨x1,x2,x3,x4,rfl⟩;have abK:k<20:=ω
   show AS6;show A9 (ABo (P3 3)) PV
   dsimp only [aD,bh,cC,cV,cB,cT,iy,uR,gW,eG,jj,fC,qQ,ak,aj,dB,eO,dX,fQ,aW,gB,cG,aV,cM,hName,fD,aZ,fG,jC,jD,aq,cU,iw,fZ,cJ,fO,cI,dw,bQ,jE,qT,uE,qe,uU,uF,jk,lJ,qU,cA,wI,qR,rP,lB,zev,wD,cO,kJ,gC,kO,kY,List.length,List.set_cons_zero,List.set_cons_succ,List.getElem?_cons_zero,List.getElem?_cons_succ,fH,mG,rQ,uG,pI,n6,pA,kZ,fJ,dG,jl,ql,qM,uI,iB,qN,cP,dH,sG,wJ,sE,lu,lA,iL,dJ,gK,jM,dF,List.map,List.append,List.cons_append,List.nil_append];rw[K7];have hb:(AI (A7X=true) PD 0)=CF A7':=by
    show(AI AEs PD 0)=_;split<;>rfl
   rw[hb];show CD (AOm (rq 5) χ)
   have hr:AX sz+ Cf* CF A7'=CF (ln k):=by
    rw[Int.natCast_add,Int.natCast_mul]
   rw[hr];have ab1:=S9 k abK;show ANP (fun j Γ=>∃x3 x4,Γ= [AT5,BI m,AMN,ALn,AT6,AbM,ALm,GE (txt j (f k)),x3,x4]) AUp
   ·rintro j _ hj ⟨y3,y4,rfl⟩;have ab3:j<28:=ω
    show AS6;have bj:cW Rc<=64:=į 5 χ
    unfold zid;dsimp only [aD,bh,cC,cV,cB,cT,iy,uR,gW,eG,jj,fC,qQ,ak,aj,dB,eO,dX,fQ,aW,gB,cG,aV,cM,hName,fD,aZ,fG,jC,jD,aq,cU,iw,fZ,cJ,fO,cI,dw,bQ,jE,qT,uE,qe,uU,uF,jk,lJ,qU,cA,wI,qR,rP,lB,zev,wD,cO,kJ,gC,kO,kY,List.length,List.set_cons_zero,List.set_cons_succ,List.getElem?_cons_zero,List.getElem?_cons_succ,fH,mG,rQ,uG,pI,n6,pA,kZ,fJ,dG,jl,ql,qM,uI,iB,qN,cP,dH,sG,wJ,sE,lu,lA,iL,dJ,gK,jM,dF,List.map,List.append,List.cons_append,List.nil_append];show N4 A4Y AGy (.inl bj) AGy (.inl bj) AS
    unfold zfw;dsimp only [aD,bh,cC,cV,cB,cT,iy,uR,gW,eG,jj,fC,qQ,ak,aj,dB,eO,dX,fQ,aW,gB,cG,aV,cM,hName,fD,aZ,fG,jC,jD,aq,cU,iw,fZ,cJ,fO,cI,dw,bQ,jE,qT,uE,qe,uU,uF,jk,lJ,qU,cA,wI,qR,rP,lB,zev,wD,cO,kJ,gC,kO,kY,List.length,List.set_cons_zero,List.set_cons_succ,List.getElem?_cons_zero,List.getElem?_cons_succ,fH,mG,rQ,uG,pI,n6,pA,kZ,fJ,dG,jl,ql,qM,uI,iB,qN,cP,dH,sG,wJ,sE,lu,lA,iL,dJ,gK,jM,dF,List.map,List.append,List.cons_append,List.nil_append];show CD PV;have step:∀t:Bool,t=(Μ (Rc=AJH)&& ! one) ->Cq Cf (Ka t)/\ P3 26/\∃ch:Nat,BH L.length/\mY L.cps.toList ((num j+ Cf*Ka t).fmod 26)=some ch/\ BH (LL txt j (f k)+ K0 AzC)/\∃z3 z4,[Slot.pu (C3 n),BI m,AMN,ALn,AT6,AbM,ALm,GE (txt j (f k)++ AzC),BI j,AzG]= [AT5,BI m,AMN,ALn,AT6,AbM,ALm,GE (txt (j+1) (f k)),z3,z4]:=fun t et=>by
     have hch:=YW (AII (num j+ Cf*Ka t) 26 Β)
     refine⟨AOm (rq 5) χ,AS,_,by rw[Se L.length 26 Rb];omega,hch,by rw[ygd];show BH (j+1);omega,BI j,AzG,?_⟩
     subst et;rw[AMa (97+ ((num j+ Cf*AaL Rc).fmod 26).toNat) (f k j),yaw]
    rw[K7];by_cases q:Rc=AJH
    ·show m_ q;rw[AFW] at step;show A9 AS PV
     rw[K7];exact step _ rfl
    ·show m4 q;rw[AFV] at step;exact step false rfl
   ·rintro _ ⟨y3,y4,rfl⟩;rw[Int.toNat_natCast];show N4 C9 (by show AxE;omega) ALm (GE (txt (ln k) (f k))) y3 y4
    rw[List.range_succ,List.map_append,List.map_append]
    rfl
  ·rintro _ ⟨x1,x2,x3,x4,rfl⟩;rw[Int.toNat_natCast];exact h _ Χ (z6i inj)
 unfold zhf;dsimp only [aD,bh,cC,cV,cB,cT,iy,uR,gW,eG,jj,fC,qQ,ak,aj,dB,eO,dX,fQ,aW,gB,cG,aV,cM,hName,fD,aZ,fG,jC,jD,aq,cU,iw,fZ,cJ,fO,cI,dw,bQ,jE,qT,uE,qe,uU,uF,jk,lJ,qU,cA,wI,qR,rP,lB,zev,wD,cO,kJ,gC,kO,kY,List.length,List.set_cons_zero,List.set_cons_succ,List.getElem?_cons_zero,List.getElem?_cons_succ,fH,mG,rQ,uG,pI,n6,pA,kZ,fJ,dG,jl,ql,qM,uI,iB,qN,cP,dH,sG,wJ,sE,lu,lA,iL,dJ,gK,jM,dF,List.map,List.append,List.cons_append,List.nil_append];unfold zi5;dsimp only [aD,bh,cC,cV,cB,cT,iy,uR,gW,eG,jj,fC,qQ,ak,aj,dB,eO,dX,fQ,aW,gB,cG,aV,cM,hName,fD,aZ,fG,jC,jD,aq,cU,iw,fZ,cJ,fO,cI,dw,bQ,jE,qT,uE,qe,uU,uF,jk,lJ,qU,cA,wI,qR,rP,lB,zev,wD,cO,kJ,gC,kO,kY,List.length,List.set_cons_zero,List.set_cons_succ,List.getElem?_cons_zero,List.getElem?_cons_succ,fH,mG,rQ,uG,pI,n6,pA,kZ,fJ,dG,jl,ql,qM,uI,iB,qN,cP,dH,sG,wJ,sE,lu,lA,iL,dJ,gK,jM,dF,List.map,List.append,List.cons_append,List.nil_append];show A9 ⟨AS,į 2 Β⟩ AS
 show AGz t8 e8 h8 (n.fdiv 3) 8
 rw[ľ (n.fdiv 3).fmod 8 (AX t8) e8];unfold zi6;dsimp only [aD,bh,cC,cV,cB,cT,iy,uR,gW,eG,jj,fC,qQ,ak,aj,dB,eO,dX,fQ,aW,gB,cG,aV,cM,hName,fD,aZ,fG,jC,jD,aq,cU,iw,fZ,cJ,fO,cI,dw,bQ,jE,qT,uE,qe,uU,uF,jk,lJ,qU,cA,wI,qR,rP,lB,zev,wD,cO,kJ,gC,kO,kY,List.length,List.set_cons_zero,List.set_cons_succ,List.getElem?_cons_zero,List.getElem?_cons_succ,fH,mG,rQ,uG,pI,n6,pA,kZ,fJ,dG,jl,ql,qM,uI,iB,qN,cP,dH,sG,wJ,sE,lu,lA,iL,dJ,gK,jM,dF,List.map,List.append,List.cons_append,List.nil_append];show A9 AS PV
 split
 ·exact main 1 χ
 ·have:=main (1+t8) χ
  show BC Int.natCast_add;exact this
theorem yf8{a b:A1}(p:a.Perm b)(u:Uq b):Uq a:=(List.Perm.pairwise_iff (R:=fun(a b:Rw)=>BDj) (fun h z=>h ⟨AYD,(z.2).symm⟩) p).mpr u
theorem z3v(AM Yn):Mm zge 12:=by
 obtain⟨ns,hands,works,rfl,hl,h1,h5,h8,h⟩:=h;show AA_ 1000
 let S:D:= ATu
 have main:∀(way most:Int),0<most ->most<=10^12 ->Mb zgg [ACo,Ac3,Ac4,BI way,BI most,A_,A_,A_,A_,A_,A_,A_]:=by
  intro way most hm0 hm1;have YX:most≠0:=ω
  unfold zgg;dsimp only [aD,bh,cC,cV,cB,cT,iy,uR,gW,eG,jj,fC,qQ,ak,aj,dB,eO,dX,fQ,aW,gB,cG,aV,cM,hName,fD,aZ,fG,jC,jD,aq,cU,iw,fZ,cJ,fO,cI,dw,bQ,jE,qT,uE,qe,uU,uF,jk,lJ,qU,cA,wI,qR,rP,lB,zev,wD,cO,kJ,gC,kO,kY,List.length,List.set_cons_zero,List.set_cons_succ,List.getElem?_cons_zero,List.getElem?_cons_succ,fH,mG,rQ,uG,pI,n6,pA,kZ,fJ,dG,jl,ql,qM,uI,iB,qN,cP,dH,sG,wJ,sE,lu,lA,iL,dJ,gK,jM,dF,List.map,List.append,List.cons_append,List.nil_append];refine⟨ns,4,rfl,hl,ω,_,works,rfl,ω,Ν nms hnm nnd⟩
  unfold zlv;dsimp only [aD,bh,cC,cV,cB,cT,iy,uR,gW,eG,jj,fC,qQ,ak,aj,dB,eO,dX,fQ,aW,gB,cG,aV,cM,hName,fD,aZ,fG,jC,jD,aq,cU,iw,fZ,cJ,fO,cI,dw,bQ,jE,qT,uE,qe,uU,uF,jk,lJ,qU,cA,wI,qR,rP,lB,zev,wD,cO,kJ,gC,kO,kY,List.length,List.set_cons_zero,List.set_cons_succ,List.getElem?_cons_zero,List.getElem?_cons_succ,fH,mG,rQ,uG,pI,n6,pA,kZ,fJ,dG,jl,ql,qM,uI,iB,qN,cP,dH,sG,wJ,sE,lu,lA,iL,dJ,gK,jM,dF,List.map,List.append,List.cons_append,List.nil_append];refine⟨ns,5,rfl,hl,ω,_,hands,rfl,ω,Ν K9 hpp pnd⟩
  unfold zla;dsimp only [aD,bh,cC,cV,cB,cT,iy,uR,gW,eG,jj,fC,qQ,ak,aj,dB,eO,dX,fQ,aW,gB,cG,aV,cM,hName,fD,aZ,fG,jC,jD,aq,cU,iw,fZ,cJ,fO,cI,dw,bQ,jE,qT,uE,qe,uU,uF,jk,lJ,qU,cA,wI,qR,rP,lB,zev,wD,cO,kJ,gC,kO,kY,List.length,List.set_cons_zero,List.set_cons_succ,List.getElem?_cons_zero,List.getElem?_cons_succ,fH,mG,rQ,uG,pI,n6,pA,kZ,fJ,dG,jl,ql,qM,uI,iB,qN,cP,dH,sG,wJ,sE,lu,lA,iL,dJ,gK,jM,dF,List.map,List.append,List.cons_append,List.nil_append];show CD EX;unfold zk9;show ANP (fun w Γ=>∃(rows:A1) (x8 x9 x10:Slot),rows.length<=w*hands/\ AuQ/\ (FR/\ Aoe/\L5 (∃v,v<w/\A7T))/\Γ= Abf x8 x9) ⟨[],_,_,_,AV,AoN,⟨List.Pairwise.nil,AoN,AoN⟩,rfl⟩
  ·rintro w _ hw ⟨rows,x8,x9,x10,hrl,Ef,⟨uq,mk,wv⟩,rfl⟩;have hw8:w<works:=ω
   have Ny:w*hands<=8*5:=Nat.mul_le_mul χ h5
   change ze4 K c _ (Abf (BI (0+ ATR)) x9) _
   show AS6;unfold ze4;show ANP (fun q Γ=>∃(rows:A1) (x9 x10:Slot),AS8 (w*hands+q)/\ AuQ/\ (FR/\ Aoe/\L5 (∃v,A7T/\ (v<w\/v=w/\∃o,o<q/\EE K9 o BB)))/\Γ= Abf (BI ATR) x9) ⟨rows,_,_,hrl,Ef,Ald (TK (by show AYj;exact⟨v,h2,.inl h1⟩)),rfl⟩
   ·rintro q _ hq ⟨rows,x9,x10,hrl,Ef,⟨uq,mk,wv⟩,rfl⟩;have Gq:q<hands:=ω
    change ze9 K c _ (Abf (BI ATR) (BI (0+ AX q))) _
    show AS6;unfold ze9;dsimp only [aD,bh,cC,cV,cB,cT,iy,uR,gW,eG,jj,fC,qQ,ak,aj,dB,eO,dX,fQ,aW,gB,cG,aV,cM,hName,fD,aZ,fG,jC,jD,aq,cU,iw,fZ,cJ,fO,cI,dw,bQ,jE,qT,uE,qe,uU,uF,jk,lJ,qU,cA,wI,qR,rP,lB,zev,wD,cO,kJ,gC,kO,kY,List.length,List.set_cons_zero,List.set_cons_succ,List.getElem?_cons_zero,List.getElem?_cons_succ,fH,mG,rQ,uG,pI,n6,pA,kZ,fJ,dG,jl,ql,qM,uI,iB,qN,cP,dH,sG,wJ,sE,lu,lA,iL,dJ,gK,jM,dF,List.map,List.append,List.cons_append,List.nil_append];show N4 (AOm (rq 4) χ) ns (6+w*hands+q) ?_ hl ω
    ·rw[Int.natCast_add,Int.natCast_add,Int.natCast_mul];rfl
    generalize fK ns (6+w*hands+q)=cv;unfold zgp;dsimp only [aD,bh,cC,cV,cB,cT,iy,uR,gW,eG,jj,fC,qQ,ak,aj,dB,eO,dX,fQ,aW,gB,cG,aV,cM,hName,fD,aZ,fG,jC,jD,aq,cU,iw,fZ,cJ,fO,cI,dw,bQ,jE,qT,uE,qe,uU,uF,jk,lJ,qU,cA,wI,qR,rP,lB,zev,wD,cO,kJ,gC,kO,kY,List.length,List.set_cons_zero,List.set_cons_succ,List.getElem?_cons_zero,List.getElem?_cons_succ,fH,mG,rQ,uG,pI,n6,pA,kZ,fJ,dG,jl,ql,qM,uI,iB,qN,cP,dH,sG,wJ,sE,lu,lA,iL,dJ,gK,jM,dF,List.map,List.append,List.cons_append,List.nil_append];refine⟨way,ATR,AX q,AX hands,cv,rfl,ω,E2 t⟩
    cases t with
    | false=>exact⟨rows,_,_,ω,Ef,Ald (TK (by show AYj;exact⟨v,h1,BDr⟩)),rfl⟩
    | true=>
     show ML C9 _ (yff χ) _ (yff χ) (A0m 4) YX
     refine⟨AXd,Ŏ,rows++ [(nms[w],K9[q],(cv.fdiv 12).fmod most)],_,_,ALW List.length_append List.length_singleton,AGg,⟨?_,AGg,AGg⟩,BMc⟩
     ·show OR hr hr hr
      ·exact Ef r hr
      ·show TH hr;exact yU _
     ·refine List.pairwise_append.mpr ⟨uq,BMJ,De a ha b hb z⟩;rw[AeL] at z;show Sc h1 h2 (wv a ha);rw[z.1] at h1;show CM hv ev zV.mp h1;have evw:v=w:=z16 nnd hv χ ev
      rcases h2 with h2 | ⟨_,o,ho,h3⟩
      ·omega
      ·rw[z.2] at h3;show CM hv' ev' zV.mp h3;have:=z16 pnd hv' χ ev'
       omega
     ·show OR hr hr hr
      ·exact mk r hr
      ·show TH hr;have l:=AII (cv.fdiv 12) most hm0
       change ((cv.fdiv 12).fmod most).natAbs<2^40
       omega
     ·show OR hr hr hr
      ·show AYj;exact⟨v,h1,BDr⟩
      ·show TH hr;exact⟨w,zZ _,.inr ⟨rfl,q,ω,zZ _⟩⟩
   ·rintro _ ⟨rows,x9,x10,hrl,Ef,⟨uq,mk,wv⟩,rfl⟩;refine⟨rows,_,_,_,?_,Ef,Ald AGg,rfl⟩
    ·rw[Nat.succ_mul];omega
    ·show AYj;exact⟨v,by rcases h2 with h2 | h2<;>omega,h1⟩
  ·rintro _ ⟨rows,x8,x9,x10,hrl,Ef,⟨uq,mk,wv⟩,rfl⟩;have Ny:works*hands<=8*5:=Nat.mul_le_mul h8 h5;have ab4:rows.length<=40:=zO hrl (B9 Ny)
   dsimp only;unfold zks;dsimp only [aD,bh,cC,cV,cB,cT,iy,uR,gW,eG,jj,fC,qQ,ak,aj,dB,eO,dX,fQ,aW,gB,cG,aV,cM,hName,fD,aZ,fG,jC,jD,aq,cU,iw,fZ,cJ,fO,cI,dw,bQ,jE,qT,uE,qe,uU,uF,jk,lJ,qU,cA,wI,qR,rP,lB,zev,wD,cO,kJ,gC,kO,kY,List.length,List.set_cons_zero,List.set_cons_succ,List.getElem?_cons_zero,List.getElem?_cons_succ,fH,mG,rQ,uG,pI,n6,pA,kZ,fJ,dG,jl,ql,qM,uI,iB,qN,cP,dH,sG,wJ,sE,lu,lA,iL,dJ,gK,jM,dF,List.map,List.append,List.cons_append,List.nil_append];refine⟨ns,3,rfl,hl,ω,A0m 3,trivial,?_,?_⟩
   ·show EQ;omega
   obtain⟨t,et,ht⟩:=Nr (i:=Ai2 3 4) (n:=BLv) (Nat.succ_pos _);rw[show Í rows.map Ca+1=CF BLv by show EQ;rfl,et]
   unfold zkp;dsimp only [aD,bh,cC,cV,cB,cT,iy,uR,gW,eG,jj,fC,qQ,ak,aj,dB,eO,dX,fQ,aW,gB,cG,aV,cM,hName,fD,aZ,fG,jC,jD,aq,cU,iw,fZ,cJ,fO,cI,dw,bQ,jE,qT,uE,qe,uU,uF,jk,lJ,qU,cA,wI,qR,rP,lB,zev,wD,cO,kJ,gC,kO,kY,List.length,List.set_cons_zero,List.set_cons_succ,List.getElem?_cons_zero,List.getElem?_cons_succ,fH,mG,rQ,uG,pI,n6,pA,kZ,fJ,dG,jl,ql,qM,uI,iB,qN,cP,dH,sG,wJ,sE,lu,lA,iL,dJ,gK,jM,dF,List.map,List.append,List.cons_append,List.nil_append];rw[yhw rows χ,yg2 rows χ]
   show CD (by show AEh List.length_map List.length_drop List.length_take;omega)
   rw[<- List.map_append];have pm:(AiL++AiK).Perm rows:=rX (List.perm_append_comm (l₁:=AiL) (l₂:=AiK)) List.take_append_drop
   refine h (AiL++AiK) K9 (by rw[List.length_append,List.length_drop,List.length_take];omega) χ (VI hr (Axl Ef)) (yf8 pm uq) (TK (Axl mk))
 change Mb zge [ACo,Ac3,Ac4,A_,A_,A_,A_,A_,A_,A_,A_,A_]
 unfold zge;dsimp only [aD,bh,cC,cV,cB,cT,iy,uR,gW,eG,jj,fC,qQ,ak,aj,dB,eO,dX,fQ,aW,gB,cG,aV,cM,hName,fD,aZ,fG,jC,jD,aq,cU,iw,fZ,cJ,fO,cI,dw,bQ,jE,qT,uE,qe,uU,uF,jk,lJ,qU,cA,wI,qR,rP,lB,zev,wD,cO,kJ,gC,kO,kY,List.length,List.set_cons_zero,List.set_cons_succ,List.getElem?_cons_zero,List.getElem?_cons_succ,fH,mG,rQ,uG,pI,n6,pA,kZ,fJ,dG,jl,ql,qM,uI,iB,qN,cP,dH,sG,wJ,sE,lu,lA,iL,dJ,gK,jM,dF,List.map,List.append,List.cons_append,List.nil_append];show N4 ns 2 rfl hl ω AS
 unfold zlw;dsimp only [aD,bh,cC,cV,cB,cT,iy,uR,gW,eG,jj,fC,qQ,ak,aj,dB,eO,dX,fQ,aW,gB,cG,aV,cM,hName,fD,aZ,fG,jC,jD,aq,cU,iw,fZ,cJ,fO,cI,dw,bQ,jE,qT,uE,qe,uU,uF,jk,lJ,qU,cA,wI,qR,rP,lB,zev,wD,cO,kJ,gC,kO,kY,List.length,List.set_cons_zero,List.set_cons_succ,List.getElem?_cons_zero,List.getElem?_cons_succ,fH,mG,rQ,uG,pI,n6,pA,kZ,fJ,dG,jl,ql,qM,uI,iB,qN,cP,dH,sG,wJ,sE,lu,lA,iL,dJ,gK,jM,dF,List.map,List.append,List.cons_append,List.nil_append];refine⟨show Oc 10 12 from ⟨AS,AS,AS⟩,cc (pz 4),ns,3,rfl,hl,ω,AS,?_⟩
 show AGz t et ht (fK ns 3) 4
 rw[AMa (AX 4) (CF 4),et]
 match t,ht with
 | 0,_=>show AbS
 | 1,_=>show AbS
 | 2,_=>show AbS
 | 3,_=>show AbS
theorem ztd(AM Yo):IZ ziy:=by
 show AMm i j;show A9 (fun m Γ=>∃a b:Int,Γ= [BI a,we]/\0<=a/\0<=b/\m=b.natAbs/\Int.gcd a b=AcY) ⟨_,APZ,A8t,rfl,BLo,BLo,rfl,?_⟩
 ·have e1:APZ=AX i.natAbs:=by split<;>omega
  have e2:A8t=AX j.natAbs:=by split<;>omega
  rw[e1,e2];rfl
 rintro m _ ⟨a,b,rfl,ha,hb,rfl,hg⟩;show kD (Μ (0<b));by_cases hz:0<b
 ·show Y_ hz
  have h0:kF:=ω
  refine⟨h0,_,zfe h0,b,a.fmod b,rfl,hb,?_,rfl,Gc z1g hg⟩
  rw[Int.fmod_eq_emod_of_nonneg _ hb];exact Int.emod_nonneg _ h0
 ·show mE hz
  have:b=0:=ω
  show T';rw[Int.gcd_zero_right] at hg;have e:a=AKS:=ω
  rw[e];exact h
theorem Ui{x:Str ->D}{h:Str}:∀{hs:Α},iD ū (hs.map x) wq=Afw fq (some (x h))
 | []=>rfl
 | g::hs=>by
  show Aku;unfold iD;by_cases q:g=h
  ·rw[BD (by rw[q]),if_pos (Θ q List.mem_cons_self),q]
  ·rw[Do (Ξ (q AgD)),Ui (hs:=hs)]
   by_cases p:fq
   ·rw[BD p,BM1 if_pos p]
   ·show w9 p (Ξ (by
     show IY AKQ
     ·exact q z.symm
     ·exact p z))
theorem zzl{hs:Α}{x:CL}{h:Str}(hh:fq){P:Ő}(hp:Q3 (x h)):wO (rC hs x) (.str h) P:=
 ⟨_,_,.inr h,_,rfl,rfl,Ahi AKw (BD hh),hp⟩
theorem z9y(AM Q5):Y3 zsk:=by
 obtain⟨i,j,rfl,b1,b2,hj,h⟩:=h;rw[<- yk6 hj] at h;show HQ i j rfl;show CM d0 d1 (nI zwy) hj;show kD (Μ (j<0));by_cases hn:j<0
 ·show Y_ hn
  have e:dv i j=0 - AKS:=by unfold dv;show Db hn;omega
  exact⟨ADh,ADh,AKi,AeS⟩
 ·show BAj
theorem yh2(ApK){x x' :CL}(G:ADc)(ev:pV (ZT x0))(em:pV AZZ)(ev' :pV (ZT (wK rows x' h)))(em' :pV A1m):∀h∈ms.flatten,x h=x' h:=by
 intro h hh;show AT3 m hm hx hh;show AXy;show B3 all r rows (∃m∈ms,sQ) r hr (AgE S hS AiH ((p.co BB).mpr ⟨S,hS,A3M⟩))
 refine z6v (VI hr ?_) (VI hr ?_) (em m hm) (em' m hm) (Ν C hC hx) (fun g hg=>G.hand hm hg) h hx
 ·obtain⟨m,hm,h⟩:=all r hr;exact ev m hm _ h
 ·obtain⟨m,hm,h⟩:=all r hr;exact ev' m hm _ h
 ·refine p.min C (De S hS hx b hb) m hm hx;obtain⟨a,ha,ca⟩:=hx;show AYq;obtain⟨r1,h1,h2,h3⟩:=AOS a ha;obtain⟨r2,g1,g2,g3⟩:=AOS b hb;rw[<- g3];exact hC r1 h1 r2 g1 (h2.trans g2.symm) (B' h3 ca)
theorem wL.sz{N:Nat}{d:Int}{q:Rat}(h:AN7)(d0:œ)(bd:ZA<=N):Sz N q:=by
 show Fr t rfl bt;exact Ng d0 bt bd
theorem wL.up{M N:Nat}{d:Int}{q:Rat}(h:wL M d q)(l:M<=N):AN7:=by
 show Fr t e bt;exact⟨t,e,zO bt l⟩
theorem wL.add{N:Nat}{d:Int}{p q:Rat}(h1:wL N d p)(h2:AN7):wL (N+1) d (p+q):=by
 show Ď t bt h1;show NR rfl bu h2;show A9 (t+u) (by rw[Rat.intCast_add,Rat.div_def,Rat.div_def,Rat.div_def,Rat.add_mul])
 have:=zij t u;omega
theorem wL.sum{N:Nat}{d:Int}:Apz AN7 (wL (N+qs.length) d (gb qs))
 | [],_=>⟨0,by show nE=JE 0/_;rw[Rat.div_def];show nE=0*_;rw[Rat.zero_mul],EX⟩
 | q::qs,h=>by
  have h1:=wL.sum (qs:=qs) AiJ;exact((h q zY).up (Nat.le_add_right _ _)).add h1
theorem wL.less{N:Nat}{d m:Int}{q:Rat}(h:AN7)(d0:œ)(bd:ZA<=N)(hm:m.natAbs<2^100):wL (N+101) d (An m - q):=by
 show Fr t rfl bt;show A9 (m*d - t) ?_
 ·show UM dz AEq (Ai4 d0)
  rw[Rat.intCast_sub,Rat.intCast_mul,Rat.div_def,Rat.div_def,Rat.sub_eq_add_neg,Rat.sub_eq_add_neg,Rat.add_mul,Rat.mul_assoc,BL1 dz,Rat.mul_one,Rat.neg_mul]
 ·have:=zl0 (m*d) t;have:=Eu m d;have:=kE hm;omega
theorem Lean.mem(ApK){x:CL}(G:AEb){r:Rw}(hr:AGP):BB∈ms.flatten:=by
 obtain⟨Ss,F,p⟩:=G.g.pi;show NW T hT AiH;obtain⟨f,hf,hx⟩:=(p.co BB).mpr ⟨T,hT,A3M⟩;exact List.mem_flatten.mpr ⟨f,hf,hx⟩
theorem CQ.small(BDO){U:Α}{n:Nat}(hU:U.length<=n)(hr:L5 (BB∈U)){m:Α}(hm:m∈ms):m.length<=n:=
 zO (Iw (Q9 (G.sr m hm)) (AWh BGx)) hU
theorem La{c:Prop}[Decidable c]{a b:Prop}(h:¬c)(k:b):AqV:=Θ e9 k
theorem Rf{c:Prop}[Decidable c]{a b:Prop}(h:c)(k:a):AqV:=Θ wS k
theorem z96{l:AB}(h:1<=l.length):∀q∈mids l,q∈l:=by
 intro q hq;unfold mids at hq;split at hq
 ·simp only [List.mem_singleton] at hq;subst hq;exact Ua χ
 ·show AHc hq;show mt hq rfl
  ·exact Ua χ
  ·exact Ua χ
theorem z0r(l:AB):B2 mids l<=2/\mids l≠ []:=by unfold mids;split<;>simp
theorem iH.look{c:Cls}{S:iH}{b:Ō}:∃fs xs,AOf= .obj c.ao fs xs/\AGq "kept_leanings" S.leans/\AGq "marks" S.marks/\AGq "sheets" S.sheets/\AGq "scale" S.scale/\AGq "rule" S.rule/\AGq "gap" S.gap/\ AVd "must_have"/\ AVd "leaning"/\ AVd "mark"/\ AVd "grade":=by
 cases b with
 | none=>exact BI9
 | some d=>exact BI9
theorem zl1(AM Yp):IZ zey:=by
 obtain⟨S,b,hand,ks,ys,rfl,hk,hq⟩:=h;obtain⟨fs,xs,e,h1,_⟩:=AYw;rw[e];exact⟨rfl,S.leans,h1,ks,ys,hk,Β,.inr hand,rfl,hq⟩
theorem yia{ks:DL}{ys:Δ}{k:Key}{d:D}(h:Amc ys):AGu:=by
 induction ks generalizing ys with
 | nil=>cases (h)
 | cons a r ih=>
  cases ys with
  | nil=>cases (h)
  | cons y ys=>
   show BO iD;unfold mK;by_cases q:a=k
   ·simp [q]
   ·simp only [q,if_false,Bool.false_eq_true] at h;have:=ih h;unfold mK at this;simp [this]
theorem zjj(AM Yq):IZ zdx:=by
 obtain⟨S,b,work,ks,ys,rfl,hk,hw,hq⟩:=h;obtain⟨fs,xs,e,_,h1,_⟩:=AYw;rw[e];refine⟨rfl,S.marks,h1,ks,ys,.inr work,hk,rfl,?_⟩;rw[hw];exact hq
theorem zq0(AM T7):IZ zh7:=by
 obtain⟨S,b,work,ks,ys,d,rfl,hk,hl,hq⟩:=h;obtain⟨fs,xs,e,_,h1,_,_,_,_,nm,_⟩:=AYw;rw[e];have hh:mK ks AUO=true:=yia hl;refine⟨rfl,nm,S,b,work,ks,ys,ġ,hk,hh,?_⟩
 exact⟨rfl,S.marks,h1,ks,ys,.inr work,d,hk,rfl,hl,hq⟩
theorem zoz(AM Yr):IZ zgs:=by
 obtain⟨S,bs,work,ks,ys,d,rfl,hk,hl,zd,zb,hq⟩:=h;exact⟨rfl,Jd bs,rfl,rfl,AS,S,some (Jd bs),work,ks,ys,_,rfl,hk,hl,bs,d,rfl,zb,zd,hq⟩
theorem zpl(AM Yt):ANr zgr 1:=by
 obtain⟨S,ws,v,bs,rfl,em,so,l64,zv,zb,hq⟩:=h;show IA;obtain⟨fs,xs,e,_,h2,_,_,_,_,_,_,n1,n2⟩:=BJv (some (Jd bs));rw[e];refine⟨rfl,S.marks,h2,ws,Aiw AJ7,AMC,Q9 so,l64,Ν ms pm so2⟩
 obtain rfl:ms=ws:=ztc asT so2 so (T_ pm.mem_iff);refine Jh D.str (Þ A5i) (ű w hw) hq;have lk:iD (ms.map .inr) (ms.map fun w=>AJ7) (DH w)=some (qD (v w)):=by rw[Ui (x:=EA AJ7),BD hw]
 refine⟨rfl,n1,S,_,w,ms.map .inr,A0h,_,ġ,AMC,lk,rfl,n2,S,bs,w,ms.map .inr,A0h,v w,ġ,AMC,lk,zv w hw,zb,?_⟩
 exact⟨AXd,hp⟩
theorem ycy(L:A1):qp AXK (L.map AU3)=L.map (OW (.tup Azv)):=AMw qp List.zipWith_map List.zipWith_self
theorem zpn(Aa3):D.dik ū (kj (Awl .leaf))=rC hs x:=FB YH
theorem zkt{α:Type}(f:α ->T):AxI pN (fun a=>lO (f a))
 | []=>JP
 | DU=>by rw[List.map_cons,pN,zkt f l];rfl
theorem zwq(Aa3):lO (gF hs x)=rC hs x:=by
 unfold gF lO;rw[List.map_map,zkt]
 rfl
theorem jm.dn(c:Cls)(S:jm)(b:Ō):lO (jm.t c S b)=iH.d c S.pl b:=by
 cases b<;>simp only [jm.t,jm.ts,iH.d,jm.pl,iH.xs,lO,pN,List.cons_append,List.nil_append]
theorem yew{α:Type}(f:DS):vj (ju (l.map fun a=>qD (f a)))
 | []=>v6
 | DU=>CI ⟨A7I,yew f l⟩
theorem zz5:∀l:Α,ju (l.map D.str)
 | []=>v6
 | DU=>Θ List.map_cons ⟨BG qX,zz5 l⟩
theorem ykk(AGf):qX (qD q):=A7I
theorem z71(AGH):pE BFv (a=b):=by
 by_cases q:a=b
 ·rw[q,ADq];exact VP _
 ·show m4 q;cases e:BFv with
  | false=>rfl
  | true=>exact e_ yj4 (yev _ _ e) q
theorem ylt(BGq):K1 (mM A_z):=by
 show tW _;unfold Jg;induction ws with
 | nil=>trivial
 | cons w ws ih=>exact⟨⟨v6,ykk _,v6,v6⟩,ih⟩
theorem yeo(l:Δ):toD (mM l.map)= .lst l:=wt toD YH
theorem zoc{qs:AB}{i:Nat}(h:i<qs.length):á i 0∈qs:=AYA (Ua (B' Xg h))
theorem yh3(AM Q6):Y3 zss:=by
 obtain⟨r,qs,g,rfl,hg,hl,hz,hr,hs,h⟩:=h;show nX r;show B3 z4 q qs (P2 q) q hq ((hz q hq).up Β)
 have ls:=Xg qs;show Ÿ AuT AYp;show EQ;unfold Fo yP at h;by_cases hf:qs.length< AYp
 ·show n_ hf;rw[AEl (by simp;show A6w)]
  exact⟨AS,h⟩
 ·show n9 hf;have h1:1<=qs.length:=by split at hf<;>omega
  have ne:qs≠ []:=Ξ (by rw[z] at h1;cases h1)
  refine La (by simp;show A6w) (EU AFJ)
  rcases hr with rfl | rfl | rfl
  ·show n9 (Ξ (sP AYD));refine Rf AzU ⟨qs,rfl,hl,z4,hs,?_⟩
   show Ap ne;exact h _ .mean
  ·show n9 (Ξ (sP2 AYD));refine La (ApS sM) ⟨AFJ,Rf AzU ?_⟩
   show B3 mz q AmM AD_ q hq (hz q (AYA A'b))
   have ml:=z0r (oA qs);refine⟨qs,rfl,hl,z4,oA qs,rfl,ω,AmM,rfl,ω,yb ((mz q hq).up Β),yfd mz ml.1,?_⟩
   rw[AY ml.2,xX];exact h _ .mid
  ·rw[B4] at hf;refine La (ApS sP) ⟨AFJ,La (ApS sP2) ?_⟩
   refine⟨qs,rfl,hl,z4,oA qs,g,rfl,ω,ω,yb (hz q (AYA hq)),hg,?_⟩
   rw[ls];by_cases hw:qs.length=2/\A'Y
   ·show n_ (EO hw);show Db hw;exact h
   ·show n9 (Ξ (hw z.2));show Ap hw;intro b hb;have hb1:=hb.lt;have mem:∀q∈ AOh,AD_:=by
     intro q hq;show AHc hq;show mt hq rfl
     ·exact A2g
     ·exact A2g
    show LS AOh rfl AV (yb ((mem q hq).up Β)) (yfd mem Χ)
    show AFG
    have e:gb AOh/ CF (AOh:AB).length=(á b 0+ á (b+1) 0)/2:=by
     show(_+ (_+0))/ An AT4=_;show AS5;rfl
    rw[e];exact h _ (.pair b hb)
theorem sY.some{qs:AB}{r:Str}{v:Rat}(ne:qs≠ [])(h:AmR):∃l:AB,l≠ []/\l.length<=qs.length/\ (∀q∈l,q∈qs)/\v=gb l/ AKP:=by
 have h1:=List.length_pos_iff.mpr ne;have ls:=Xg qs;cases h with
 | mean=>exact⟨qs,ne,GL,fun q h=>h,rfl⟩
 | mid=>
  refine⟨AmM,(z0r _).2,?_,yb ((Qy qs).mem_iff.mp A'b),xX.symm⟩
  unfold mids;split
  ·exact h1
  ·show 2<=_;omega
 | pair b hb=>
  have hb1:=hb.lt;show P9 AOh AV (cc (2<=_)) AGW
  ·show AHc hq;show mt hq rfl
   ·exact zoc χ
   ·exact zoc χ
  ·show _=(_+ (_+0))/ An AT4;show AS5;rfl
theorem sY.ok{x:CL}{L:A1}{r:Str}{v:Rat}(O:Je x L)(h:sY Aop r v):Sz 900 v:=by
 have ll:Aq7=L.length:=by unfold pC;show EQ
 show AOD;obtain⟨l,ne,len,sub,rfl⟩:=Awb h.some O.ne;have len' :l.length<=L.length:=BF ll len
 show AHi O.cd;have l0:P3 l.length:=GB (List.length_pos_iff.mpr ne)
 show UM l1 (JE l.length) (Ai4 l0)
 have s:Sz 849 (gb l):=((wL.sum (yb (hd q (sub q hq)))).up χ).sz d0 χ
 exact(z9d s (Tt (i:=AKP) (n:=4) (kE χ) Β) l1).up Β
structure abL (ψ):Prop where
 a:oJ K c.Apart
 f:oJ K c.wF
 aa:A0I
 fa:A1_
 ff:Aw6
theorem Je.szs{x:CL}{L:A1}(O:Je x L):Aq7<=1000/\ (∀q∈pC x L,AD_)/\∀k,Adz (pC x L).take:=by
 show AHi O.cd;have ll:Aq7=L.length:=by unfold pC;show EQ
 show AOD;exact⟨ω,yb (Aoi (hd q hq).sz),ut (((wL.sum (yb (AxF hd))).up (N:=849) AjA).sz d0 χ |>.up Β)⟩
theorem zlq(MG){c:Cls}{ds Q Ex}(C:abL K c)(h:Ys c ds Q Ex):SA zei:=by
 obtain⟨S,b,work,L,hs,x,r,g,ps,rfl,e1,e2,hr,e3,zg,e4,C4,hh,O,hq⟩:=h;show IA;obtain⟨fs,xs,e,h1,h2,h3,h4,h5,h6,_,nl,_⟩:=AYw;show Tx (qp AXK (ARD kK));rw[ycy];refine Jh (fun r:Rw=>D.tup Azv) (t6 AlV) (NO r hr Al2) ?_
 ·show CD gc
  rw[e];refine⟨rfl,nl,S,b,BB,hs.map .inr,AkD (qD (x h)),ġ,FB e1,?_⟩
  rw[Ui (x:=AKw),if_pos (hh r hr)];exact⟨ME,So,FB Qw,Tt (Ap9 O.mm) Β,O.sx r hr,hp⟩
 rw[e];have el:(ARD AlV)=(pC x L).map qD:=Anv pC
 rw[el];show HQ rfl S.scale h4;rw[e4];refine⟨rfl,AS,rfl,S.rule,h5,rfl,S.gap,h6,?_⟩
 rw[e2,e3];refine⟨r,pC x L,g,rfl,zg,O.szs.1,O.szs.2.1,hr,O.szs.2.2,?_⟩;unfold Fo at hq⊢;cases eb:yP r g Aop with
 | none=>
  rw[eb] at hq;exact fun v hv=>⟨ps,v,rfl,C4.len,C4.gd,C4.sz,(hv.ok O).up Β,hq v hv⟩
 | some f=>
  rw[eb] at hq;cases f with
  | true=>show MT (CY C9) C.a (Rf C.aa (xD hq))
  | false=>show MT (CY C9) C.f (La (AY0 (¬(Sl c.wF c.Apart)) C.fa zJ) (G0 C.ff _ hq))
theorem qy.lb{rows:A1}(O:AFQ):RR:=by
 show AbQ;show AOD;show DD ω (TK (Aas (O.mm r hr) Β)) AUY
 have:=Iw (zs5 O.u w) fun y hy=>by
  obtain⟨r,h1,_,e⟩:=jT.mp hy;rw[<- e];exact hr r h1
 rw[TJ] at this;omega
theorem Lean.lv{rows:A1}{ms:HZ}{x:CL}(G:AEb)(O:AFQ){w:Str}(hw:AUG):Je x jv:=by
 have L:=O.lb;show AbQ;obtain⟨r0,h0,e0⟩:=hw;have m0:r0∈dE:=bH.mpr ⟨h0,e0⟩;obtain⟨m,hm,hx⟩:=List.mem_flatten.mp (G.mem h0);have cl:=(G.g.sys O.u hm).1 r0 h0 hx;show B3 YQ r dE sQ r hr (cl _ (jT.mpr (AEe r vk (Gc ANd e0))))
 show AHi (G.sz m hm);have n4:=G.g.small hU hr hm;have bd:ZA<=736:=zO bd AUV
 show B3 hd h m (wL 736 d (x h)) h hh ((hd h hh).up (by unfold IV;omega))
 show AOD;refine⟨Ξ (by rw[z] at m0;cases m0),L.wk w,TK (L.mm r vk),TK (Aoi (hd _ (YQ r hr)).sz),d,d0,ω,AGW⟩
 show Wp r hr hq;exact(hd _ (YQ r hr)).less d0 bd (L.mm r vk)
theorem ybk{qs:AB}{bd:Go}(g:AZB bd):BDU (Jc qs bd) (k<=qs.length):=ky (by
 obtain⟨_,hn⟩:=zs1 qs;have g:=List.contains_iff_mem.mp g;show Wp k hk hi;show AgN hk hk;show NW m hm (zB.mp (z93 hn (zx6 hn g FI χ).1))
 show A9 m e.symm;unfold iR at hm;show P6 hm hm
 ·exact EX
 ·show Wp j hj hm;have:=List.mem_range.mp (ALi hj);show BC zye;exact this)
theorem yf6{l:AU}{n:Nat}(h:BDU l (k<=n)):uL l= .lst (Au l.map Int.toNat intD)/\∀k∈l.map Int.toNat,k<=n:=by
 show YU ?_ k hk
 ·unfold uL;show WU
  congr 1
  show AU2 i hi;obtain⟨k,rfl,_⟩:=AVG
  rfl
 ·show Wp i hi hk;show Oy k rfl AVG;exact q
theorem yft(BEs):lO (.dic AJx AJ1)= .dik AJx (ws.map AUZ):=by
 unfold lO;rw[zkt,yei B u,List.map_map];refine congrArg _ (List.map_congr_left Ak3);show lO (Aq Ae6)=_;unfold Aq lO Nq kW;rw[zkt,List.map_map,List.map_map]
 rfl
theorem YZ:∀{ps:DA} {x:Rat},oz ->AlQ ->Anf ->Sz 4000 (jJ ps x)
 | [],x,_,_,_=>⟨ABo (cW 0<=_),ABo (cW 1<=_)⟩
 | [p],x,_,hz,_=>((hz p Χ).2).up Β
 | AWf,x,hg,hz,zx=>by
  have zl:=hz l Χ
  have zr:=hz r Χ
  have sb:P2 (uK l r x):=by
   have hn:AOE≠0:=by have:=hg.1.1;grind
   have s4:=yd8 (K4 zx zl.1) (K4 zr.2 zl.2);exact(yd9 zl.2 (z9d s4 (K4 zr.1 zl.1) hn)).up Β
  have ih:=YZ (ps:=r::t) (x:=x) hg.2 (fun p hp=>hz p (zW _ hp)) zx;unfold jJ
  repeat' split
  all_goals first | exact (zl.2).up Β | exact sb | exact ih
theorem z58{K:W.Frag}{c:Cls}{a:Addr}{bs:AO}{t ds Q Ex}(h:K6 c t ds Q Ex):zcn K c (PX a Q) (startM 8 Ado ds) An5:=by
 obtain⟨rows,ru,g,ps,bd,rfl,rfl,O,Ef,zg,C,b0,b90,hO,hB,h⟩:=h;show IA;have L:=O.lb;have hl:=O.few;have uq:=O.u;show AbQ
 let Z:EJ T T HZ CL jm:=fun sh mk ms x=>⟨.str ru,qD g,AOu,rC ms.flatten x,sh,mk⟩
 show Abq
 show Abq
 show N4 rfl _ AE_ ps rfl A8k
 show BAr;show Abq
 refine⟨rows,U,rfl,uq,L,ω,hr,A3Q⟩
 show Abq
 rw[zpn];show B5 rows rfl ω (Ν Av ps0 B)
 refine⟨_,_,_,rfl,AS,AS,AS,E2 cs⟩
 refine⟨_,_,_,rfl,AS,AS,AS,E2 cs'⟩
 generalize esh:T.dic Ahm (ps0.map Aq)=sh;have dsh:lO sh= .dik Ahm (Av.map AUZ):=BF esh (yft B uq)
 have lw:=B.lw;refine⟨rfl,lO sh,rfl,Av,Av.map fun w=>AdM,FB dsh,B.nd,ω,fun ws pm so=>(EU (zz5 ws))⟩
 have nd:ws.Nodup:=pm.nodup_iff.mpr B.nd;have wm:AaS AUG:=EA (pm.mem_iff.trans (B.wm w));have wl:ws.length<=40:=sv pm.length_eq
 show SG (∃(v:CL) (y6:Slot),Γ= [.tr (a::(AY4++cs')) (jm.t c Ax7 none),NX,GE ru,AFn,Aqk,.pu (Jb bd),y6,A_]/\∀w∈AhE,yP ru g AHr=none/\sY AHr ru (v w)) (NV lT _ (AGU (kH hw)))
 ·rintro i d _ hi ⟨v,y6,rfl,hv⟩;show UN ws.length (gy ZO)
  show AA';cases hi;have tk:=YS hi';have hw:WV∈ws:=yU hi';have fresh:WV∉AhE:=Ξ (by
   have:=nd;show Ayo ws this;refine Agk _ z WV ?_ rfl;show Alj;exact zY)
  show BAx WV;have isw:=(wm w).mp hw;refine⟨rfl,AS,rfl,lO sh,rfl,Av.map .inr,Av.map (AUZ),ATk,AdM,FB dsh,rfl,Ahi AUZ (if_pos (pm.mem_iff.mp hw)),?_⟩
  refine⟨(Z sh BK0 ms x).pl,none,w,dE,ms.flatten,x,ru,g,ps,?_,rfl,rfl,Ef,rfl,zg,rfl,C,fun r hr' =>G.mem (bH.mp hr').1,G.lv O isw,?_⟩
  ·show [lO (jm.t c Ax7 none),_,_]=_;rw[jm.dn]
  unfold Fo;cases eb:yP ru g AHr with
  | some f=>exact G0 ⟨v6,v6,v6⟩ _ (hO ms x w f G isw eb _)
  | none=>
   intro q hq
   let v' :CL:=fun u=>(HI u w q (v u))
   have ev:v' w=q:=B4;show B3 eo u AhE (v u=v' u) u hu (Tb if_neg (fun z:u=w=>(j' fresh hu)));refine⟨ykk _,ATk,_,_,_,Ak5 .inr,Ak5 fun w=>(AHB (v w)),rfl,rfl,rfl,AuZ,v',GE w,?_,AJ u hu⟩
   ·rw[tk,<- zty (x:=EA (jJ ps (v' w))) fresh,ev,show(Ak5 fun w=>(AHB (v' w)))=Au ws.take i (EA (AHB (v w))) from List.map_congr_left fun u hu=>(Hk (eo u hu))]
    rfl
   ·rw[tk] at hu;show OR hu hu hu
    ·rw[<- eo u hu];exact hv u hu
    ·rw[List.mem_singleton.mp hu,ev];exact⟨eb,hq⟩
 ·rintro _ ⟨v,y6,rfl,hv⟩;show AnC hv;have A:Yu rows ru g x ws v:=⟨⟨so,wm⟩,hv⟩;show B3 zs w ws (Sz 4000 (jJ ps (v w))) w hw (BBb (((hv w hw).2).ok (G.lv O ((wm w).mp hw))).up)
  let s:CL:=EA (jJ ps (v w))
  show ML rfl (lO (gF ws s)) rfl AMi (Aiw (qD (s w))) (FB zwq) (yew s ws)
  have eq:(ws.map fun w=>qD (s w))=Au ws.map s qD:=AMA
  show B3 zq q Aif (P2 q) q hq (by
   show Ap6;exact zs w hw)
  have ln:B2 ws.map s<=40:=BL6 wl
  rw[eq];refine⟨Aif,bd,rfl,ω,zq,ω,E2 g1,fun g0=>(xD (hB _ ln g0 _ _))⟩
  obtain⟨g3,g4⟩:=yf6 (ybk g1);rw[g3];show ML Aif _ rfl ω zq ?_ g4
  ·unfold Jc;show AxE;exact b0
  refine⟨_,_,_,rfl,AS,AS,AS,_,_,rfl,?_⟩
  refine h ws v _ ⟨ms,x,G,A⟩ (fun b hb q e=> ?_) (Z sh (gF ws s) ms x) rfl;show Wp k hk hb;exact zq q (z84 (yma (B' zye (g4 k (List.dropLast_subset _ hk))) e))
theorem z68:V_ ps DA p Pt oz (AFY ->(jP ps).1<A3/\ AX1 p.2) (Gd (ps++ [p]))
 | [],_,_,_=>trivial
 | [a],p,_,h=>Af6 (h Χ)
 | AUF,p,hg,h=>⟨hg.1,z68 (ps:=b::t) hg.2 (CY (h Χ))⟩
theorem zr9:∀(ps:DA) (p:Pt),jP (ps++ [p])=p
 | [],_=>rfl
 | [a],_=>rfl
 | AUF,p=>zr9 (b::t) p
theorem z5n{Y e:Int}(e1:1<=e)(e3:e<=3):NE Y e<=Ŋ/\ (0<=Y ->ALP/3<=NE Y e):=by
 have h1:ALP<=Ŋ:=Rat.intCast_le_intCast.mpr χ
 have h2:nE<=Ŋ:=Rat.intCast_nonneg.mpr χ
 have h3:0<=Y ->nE<=ALP:=D4 (Rat.intCast_nonneg.mpr h);generalize Ŋ=z at h1 h2⊢;generalize ALP=y at h1 h3⊢;have e:e=1\/e=2\/e=3:=ω
 rcases e with rfl | rfl | rfl
 ·show AnN (An (PD)) 1
 ·show AnN (Ak1 2) 2
 ·show AnN (Ak1 3) 3
theorem z77{K:W.Frag}{c:Cls}{Dn:rW}{E:XW}{S y5:D}{X Y b z:Int}{ps:DA}{H:Rat}(hb:kF)(bX:NL (cW X))(bb:NL (cW b))(l:ps.length<100)
  (h:Dn.nx [ACo,BI (X+1+ AoR),BI (6* (ABz+1)+ Aeh),we,.ow (ApG pD),.pu y5,ALl,AU_]):
  zcv K c Dn [ACo,BI X,BI Y,we,.ow Zs,.pu y5,ALl,AU_] E:=by
 show IA;refine⟨C9,X,b,rfl,bX,bb,hb,gc,Ŏ,?_⟩
 have e3:ps.map pD++ [A'V]=ApG pD:=BMc
 show zcq K c Dn [ACo,BI X,BI Y,we,.ow (ps.map pD++ [A'V]),.pu y5,ALl,AU_] E;rw[e3];show LS (AOQ 15) (Sb 7) (.inl Β) (AOQ 105) AMY
 rw[<- show(AI (Y<0) (-Y) Y)=ABz by split<;>omega] at h
 exact h
theorem zkq(AM Yx):Mm zd9 8:=by
 show xp ns hn;show IA;have d15:P3 15/\NL (cW 15):=⟨AS,vJ Β⟩
 have z3:P3 3:=AS
 refine⟨ns,46,rfl,hn,ω,Sb 15,ns,47,rfl,hn,ω,Sb 21,ns,46,rfl,hn,ω,d15,z3,EX,ns,48,rfl,hn,ω,z3,?_⟩
 show sj f1 (fK ns 46) 15
 show sj f2 (fK ns 47) 21
 show sj f3 (Ai2 46 15) 3
 show sj f4 (fK ns 48) 3
 show CD AI'
 obtain⟨N,eN,n2,n4⟩:∃N:Nat,Q4 2 (ya 48 3)=N/\2<=N/\N<=4:=AL7 ω ω
 rw[eN];obtain⟨b,eb,b1,b3⟩:∃b:Int,1+ (Ai2 46 15).fmod 3=b/\1<=b/\b<=3:=AL7 ω ω
 have bz:kF:=ω
 have bq:nE< An b:=Rat.intCast_pos.mpr χ
 show SG (∃(X Y:Int) (ps:DA) (y5 y6 y7:Slot),Γ= [AAx,BI X,BI Y,we,.ow Zs,y5,y6,y7]/\ps.length=i/\oz/\ AlQ/\X.natAbs<=9+7*i/\Y.natAbs+2<=20*8^i/\ (AFY ->(jP ps).1< ACv/\ AX1 (ALP/3)/\0<=Y)) ⟨ya 46 15 - 9,ya 47 21 - 4,[],_,_,_,by rw[<- eb];rfl,rfl,trivial,ę,ω,ω,D4 (yB h)⟩
 ·rintro i _ hi ⟨X,Y,ps,y5,y6,y7,rfl,hl,hg,hz,bX,bY,Eh⟩;have p8:8^i<=8^3:=Nat.pow_le_pow_right Β χ
  have zX:Sz 60 (ACv):=Ng bz (ApE A2K) (kE A5T)
  have bY' :cW Y<=60:=kE (zL (lc (Y.natAbs<=20*8^3)) Β)
  show LS ns (49+i) (by show [D.lst _,D.int (49+ AGX)]=_;rw[AMR (49+ AGX) (49+i)]) hn ω
  generalize fK ns (49+i)=z;show AM4 g3 5 3
  show AM4 g7 15 7
  show AM4 g2 105 3
  have bX' :cW X<=9000:=į 10 (zL A2K Β)
  have bb:cW b<=9000:=į 10 A5T
  have Rg:∀H:Rat,(AFY ->AX1 H) ->H<=Ŋ ->Sz 300 H ->∃(X' Y' :Int) (qs:DA) (y5 y6 y7:Slot),[Slot.pu (B8 (ns.map .int)),BI (X+1+ AoR),BI (6* (ABz+1)+ Aeh),we,.ow (ApG pD),BI AGX,ALl,AU_]= [AAx,BI X',BI Y',we,.ow (qs.map pD),y5,y6,y7]/\qs.length=BM/\Gd qs/\ (kL qs (Gw 300 p))/\X'.natAbs<=9+7* Bi/\Y'.natAbs+2<=20*8^ Bi/\ (0<qs.length ->(jP qs).1< NE X' b/\ (jP qs).2<=An Y'/3/\0<=Y'):=by
   intro H h1 h2 zH;refine⟨_,_,ps++ [(ACv,H)],_,_,_,rfl,Az1,z68 hg fun q=>⟨(Eh q).1,h1 q⟩,SH,ω,sv Nat.pow_succ,CY ?_⟩
   ·show OR hp hp hp
    ·exact hz p hp
    ·show TH hp;exact⟨zX.up Β,zH⟩
   ·rw[zr9];show fN ?_ ω
    ·show ACv<_;have:An X< JE (X+1+ AoR):=Rat.intCast_lt_intCast.mpr χ
     rw[Rat.div_def,Rat.div_def];exact Rat.mul_lt_mul_of_pos_right this (Rat.inv_pos.mpr bq)
    ·show H<=_;have:Ŋ*3<=BBw:=Θ (show Ŋ*3=Ak1 (ABz*3) by rw[Rat.intCast_mul];rfl) (Rat.intCast_le_intCast.mpr χ)
     generalize BBw=u at this⊢
     grind
  have ll:=z5n (Y:=Y) (e:=Adx) χ χ
  refine⟨AOQ 5,z3,Y,Adx,rfl,zO bY' Β,vJ χ,ω,?_⟩
  have zl:Sz 300 (Ak'):=(Ng χ bY' (kE χ)).up Β
  show gN hA (AFY ->AX1 Ak') (Rat.le_trans (Eh q).2.1 (ll.2 (Eh q).2.2));generalize Ak'=H at ll zl hA⊢;by_cases hk:0<i
  ·refine Rf (decide_eq_true (lc (LA<0+ Fh))) ⟨Sb 5,PV,?_⟩
   rw[K7];show FS (z.fmod 5=4)
   ·refine Rf (decide_eq_true q) (EU C9);have lp:=zka (ps:=ps) χ
    have e1:mi ps.map pD (0+ Fh - 1) A7U:=NH lp (AMR (0+ Fh - 1) AL') (yim χ)
    have hq:=Eh χ
    refine⟨_,e1,_,at1,z77 bz bX' bb χ (Rg (jP ps).2 (BQ Rat.le_refl) (Rat.le_trans hq.2.1 (Rat.le_trans ((BDh Β Β).2 hq.2.2) (BDh Β Β).1)) ?_)⟩
    rw[lp];exact(hz _ (yU _)).2
   ·exact La (Fs (q (of_decide_eq_true z))) (z77 bz bX' bb χ BFa)
  ·exact La (Fs (hk (by have:LA<0+ Fh:=BL8;omega))) (z77 bz bX' bb χ BFa)
 ·rintro _ ⟨X,Y,ps,y5,y6,y7,rfl,hl,hg,hz,_⟩;exact h ps ⟨ω,hg,hz⟩
theorem zu5(AM Yv):Mm zkx 5:=by
 show xp ns hn;show IA;show ML EX ns 53 rfl hn ω (Sb 4)
 show sj f4 (fK ns 53) 4
 obtain⟨N,eN,n1,n4⟩:∃N:Nat,Q4 1 (ya 53 4)=N/\1<=N/\N<=4:=AL7 ω ω
 show CD AI'
 rw[eN];show SG (∃(bs:Go) (y2 y3 y4:Slot),Γ= [AAx,.ow (bs.map Ja),y2,y3,y4]/\bs.length=i) ⟨[],_,_,_,rfl,rfl⟩
 ·rintro i _ hi ⟨bs,y2,y3,y4,rfl,hl⟩;show LS ns (54+i) (by show [D.lst _,D.int (54+ AGX)]=_;rw[AMR (54+ AGX) (54+i)]) hn ω
  generalize fK ns (54+i)=z;show AGz k ek hk (z.fdiv 9) 4
  obtain⟨M,eM⟩:∃M:Int,mY [D.int 60,.int 2,.int 4,.int (ANo 36 7)] (ANo 9 4)=some (C3 M):=by
   rw[ľ (ANo 9) 4 Cf ek]
   match k,hk with
   | 0,_=>exact CH AVp
   | 1,_=>exact CH AMy
   | 2,_=>exact CH (ACI 2)
   | 3,_=>exact CH (ACI 3)
  have dv:∀m:Int,0<m ->m<100 ->A5g:=fun m a b=>Aya
  show LS AMY (AO4 3) AMY PV (AOm (rq 4) (ARQ (AII z 3 Β)))
  let v:Int:=z.fmod 3* (AI (iM (D.int (ANo 3 3)) (D.int 1)=true) 1 0)
  refine⟨C9,AO4 36,Sb 7,cc (pz 4),AO4 9,Sb 4,_,eM,gc,Ŏ,?_⟩
  refine⟨bs++ [(v,v+M)],BI AGX,ALl,BI v,?_,Az1⟩
  show AS4;rfl
 ·rintro _ ⟨bs,y2,y3,y4,rfl,hl⟩;exact h bs χ χ
theorem z2w(AM Yw):IZ zot:=by
 show xp ns hn;show IA;show LS ns 58 rfl hn ω
 generalize fK ns 58=z;show AGz k ek hk z 3
 obtain⟨r,eM,hr⟩:∃r:Str,mY [D.str pO,.str TX,.str mL] (z.fmod 3)=some (.str r)/\qx r:=by
  rw[ľ z.fmod 3 Cf ek]
  match k,hk with
  | 0,_=>exact B1 AVp ŏ
  | 1,_=>exact B1 AMy (.inr L8)
  | 2,_=>exact B1 (ACI 2) (sw rfl)
 have dv:∀m:Int,0<m ->m<200 ->A5g:=fun m a b=>Aya
 show AM4 g40 3 40
 show AM4 g3 120 3
 refine⟨AXd,AMY,_,eM,AO4 3,Sb 40,AO4 120,AMY,_,_,rfl,vJ χ,vJ χ,ω,gc,h r _ hr ?_⟩
 exact(Ng (n:=60) χ (ApE (lc ((ANo 3 40).natAbs<=40))) (ApE (lc (qq (1+ (z.fdiv 120).fmod 3)<=3)))).up Β
theorem z2r(AM Yz):IZ zqg:=by
 obtain⟨rows,U,rfl,u,L,b1,b2,h⟩:=h;show IA;refine⟨rows,U,rfl,u,L,ω,b2,A3Q⟩
 show Mb zki [NX,.pu (.dik (ms.flatten.map .inr) (kj (Au ms.flatten.map AKw .leaf)))];rw[zpn];show Tx AdB;refine Jh Ca (lvD x) (NO r hr Al2) (h ms x G);show CD gc
 show wO (rC ms.flatten x) (.str BB) _;obtain⟨m,hm,hx⟩:=List.mem_flatten.mp (G.mem hr);show AHi (G.sz m hm);have n4:=G.g.small b1 b2 hm;have bd:ZA<=736:=zO bd AUV
 refine zzl (G.mem hr) ⟨ME,So,Hk Qw,Tt (Ap9 L.mm) Β,Aoi ((hd _ hx).up (N:=736) AUV).sz,?_⟩
 exact⟨AXd,hp⟩
theorem sY.uniq{qs:AB}{r:Str}{v v' :Rat}(h:AmR)(h' :sY qs r v'):v=v' :=by
 cases h with
 | mean=>
  generalize e:pO=s at h';cases h' with
  | mean=>rfl
  | mid=>show F9 e.symm sM
  | pair b hb=>show F9 e.symm sP
 | mid=>
  generalize e:TX=s at h';cases h' with
  | mean=>show F9 e sM
  | mid=>rfl
  | pair b hb=>show F9 e.symm sP2
 | pair a ha=>
  generalize e:mL=s at h';cases h' with
  | mean=>show F9 e sP
  | mid=>show F9 e sP2
  | pair b hb=>rw[ha.unique hb]
theorem Lean.same{rows:A1}{ms Nv :HZ}{x x' :CL}(G:AEb)(G' :Lean rows Nv x')(w:Str):pC x' jv=Aj':=by
 show Kk (G.g.uniq G'.g (CY Iff.rfl));show AU2 r hr;rw[yh2 G.g G.ev G.em G'.ev G'.em _ (G.mem vk)]
theorem Z5{a:Str}{f f' :Str ->T}:∀{ws:Α} {q:Nat},ws.Nodup ->AJT a ->(∀w∈ws,w≠a ->f' w=f w) ->BC'=ws.map f'
 | [],_,_,h,_=>Bn
 | w::ws,0,nd,h,e=>by
  cases h;show f' w::ws.map f=f' w::ws.map f';rw[List.map_congr_left (AXO (e u (BMN hu) (fE lI hu)))]
 | w::ws,q+1,nd,h,e=>by
  have h' :AJT a:=h;show f w::BC'=f' w::ws.map f';rw[Z5 AHA h' (AXO (AUN e u hu)),e w List.mem_cons_self (fE lI (List.mem_of_getElem? h'))]
theorem yjo{l:Α}(h:l.Nodup):d6 l.map Am4:=List.pairwise_map.mpr (h.imp fun n e=>n (Sum.inr.inj e))
def CV(x:CL)(R:A1)(w:Str):T:= Agn (Au (BKK R) qD)
theorem zzs{x:CL}{R:A1}{r:Rw}{w:Str}(h:AD≠w):CV x Ail w=CV x R w:=by
 unfold CV;rw[YG,e9,List.append_nil]
theorem zzx{x:CL}{R:A1}{r:Rw}:pC x (dg Ail AD)=pC x (dg R AD)++ [ME - So]:=by
 rw[YG,B4];unfold pC;show AS4;rfl
theorem z1o{R:A1}{r:Rw}{w:Str}:isW Ail w↔isW R w\/ADX:=by
 unfold isW;constructor
 ·show ł s hs;show OR hs hs hs
  ·show CB ⟨s,hs,e⟩
  ·rw[List.mem_singleton.mp hs] at e;exact .inr e
 ·rintro(⟨s,hs,e⟩ | e)
  ·show MT s (zP _ hs) e
  ·exact dl Aqt e
theorem zxh(AM YB):ANr zko 8:=by
 obtain⟨rows,ru,g,ws,u,rfl,O,Ef,zg,⟨ms,x,G,A⟩,h⟩:=h;show IA;show AOD;show AbQ;intro as0;refine⟨rows,U,rfl,O.u,O.lb,hU,hr,Ν Nv x' G'⟩;show SG (∃(as:AO) (ks:Α) (y4 y5 y6:Slot),Γ= [NX,GE ru,AFn,ARX BMn (ks.map (CV x' AKX)),y4,y5,y6,A_]/\ks.Nodup/\∀w,w∈ks↔isW (rows.take i) w) ⟨as0,[],_,_,_,rfl,List.nodup_nil,EA ⟨Ahj,fun(B1 z _)=>BJx⟩⟩
 ·rintro i d _ hi ⟨as,ks,y4,y5,y6,rfl,nd,km⟩;show UN rows.length (gy ZO)
  show AA';cases hi;have tk:=YS hi';generalize kA=r at tk⊢;have kl:ks.length<=Anj:=by
   refine zO (Iw nd (U:=(rows.take i).map (·.1)) fun w hw=> ?_) (Nat.le_of_eq (List.length_map _));show Aq5 km;exact Ar3
  have l1:Anj<=40:=AuL
  refine⟨rfl,rfl,.inr AD,qD (ME - ADM),as,_,_,rfl,rfl,rfl,yjo nd,Ŏ,?_⟩
  by_cases hk:AD∈ks
  ·show CM q hq List.mem_iff_getElem?.mp hk;show O_ ⟨q,BFL,xE hq,xE hq,?_,?_⟩
   ·unfold pC;show AIE List.length_map;have:=List.length_filter_le (fun s:Rw=>(Μ (s.1=AD))) (rows.take i);unfold dg;omega
   ·refine⟨as,ks,GE AD,GE BB,cn Ak4,?_,nd,AUY⟩
    ·rw[tk];have e:=Z5 (f:=CV x' (rows.take i)) (f' :=CV x' ASJ) nd hq fun w _ hw=>zzs (Ne.symm hw);rw[<- e,show CV x' ASJ AD= .lst (AQg (BFL++ [qD (ME - ADM)])) by unfold CV;show AEf zzx;rfl]
     rfl
    ·rw[tk,z1o,<- km];exact⟨.inl,D4 (h.elim id (tz (e ▸ hk)))⟩
  ·refine fA (Θ Nu (decide_eq_false hk)) (fun a=>⟨as++ [a],ks++ [AD],GE AD,GE BB,cn Ak4,?_,?_,AUY⟩)
   ·rw[tk];have e1:ks.map (CV x' ASJ)=ks.map (CV x' AKX):=List.map_congr_left fun w hw=>zzs (fE hk hw);have e2:BBK= .lst [My (qD Ak4)]:=AMw CV zzx (z00 (ADG hk (km _).mpr))
    rw[List.map_append,List.map_append,e1];show _= [_,_,_,Slot.tr _ (.dic _ (_++ [BBK])),_,_,_,_];rw[e2];rfl
   ·show Agt ⟨nd,AV,AtC hk (by rw[<- AeL,<- e];exact ha)⟩
   ·rw[tk,z1o,<- km,List.mem_append,List.mem_singleton];exact or_congr Iff.rfl eq_comm
 ·rintro _ ⟨as,ks,y4,y5,y6,rfl,nd,km⟩;show AnC km;intro as1;have e1:kj (ks.map (CV x' rows))=ks.map (EA Ang):=by
   rw[YJ];show AU2 w _;unfold CV;rw[yeo,G.same G']
  have pm:ks.Perm ws:=(List.perm_ext_iff_of_nodup nd (A.so.so.imp fun z e=>A9L)).mpr (EA ((km w).trans (Tb A.so.wm w)))
  refine G0 as _ ?_;rw[e1];show SG (∃(as:AO) (y4:Slot),Γ= [NX,GE ru,AFn,.pu (.dik BMn (ks.map fun w=> Ang)),y4,y5,y6,kC (gF (ks.take i) u)]) (Hc as1 _)
  ·rintro i d _ hi ⟨as,y4,rfl⟩;show UN ks.length (by
    have:=ZO
    rwa [List.length_map,List.length_map] at this)
   rw[List.getElem?_map,List.getElem?_map,AcG] at hi;cases hi;have tk:=YS hi';have hw:ks[i]∈ks:=yU hi';have fresh:ks[i]∉ks.take i:=Ξ (by
    have:=nd;show Ayo ks this;refine Agk _ z ks[i] ?_ rfl;show Alj;exact zY)
   have kl:ks.length<=40:=by
    refine zO (Iw nd (U:=rows.map (·.1)) fun w hw=> ?_) (AhF few)
    show Aq5 km;exact Ar3
   show BAx ks[i];obtain⟨a1,a2⟩:=A.ok w (pm.mem_iff.mp hw);show ML (ks.map .inr) _ ATk _ rfl rfl (Ahi (EA Ang) (BD hw))
   have lo:=(G.lv O ((km w).mp hw)).szs;refine⟨ru,Aj',g,rfl,zg,lo.1,lo.2.1,Ef,lo.2.2,?_⟩;unfold Fo;rw[a1];intro v hv;rw[hv.uniq a2];refine⟨AUp,ATk,as,AvY .inr,AvY fun w=>qD (u w),rfl,rfl,AuZ,as,GE w,?_⟩
   rw[tk,<- zty fresh];rfl
  ·rintro _ ⟨as,y4,rfl⟩;show č List.length_map List.take_length;exact h ks pm
structure abM (ψ):Prop where
 o:oJ K c.Open
 b:oJ K c.bW
 oo:A0J
 bo:A1z
 bb:Aw5
theorem z7p{g:Rat}{qs:AB}(ne:qs≠ []):yP pO g qs=none:=by
 have:=List.length_pos_iff.mpr ne;unfold yP;rw[Do (show¬qs.length< (AI (pO=mL) 2 1) by show Ap (Ξ (sP z.symm));omega),AY (Ξ (sP AYD))]
theorem good2{qs:AB}(h:AS7 60):AZB AY3:=by
 obtain⟨_,hn⟩:=zs1 qs;have n0:wP∈gk xB qs.length AY3 0:=zR.mpr rfl;have n1:wP∈gk xB qs.length AY3 1:=qu.mpr ⟨hn,_,n0,FB Int.sub_self⟩
 refine List.contains_iff_mem.mpr (qu.mpr ⟨Nt qs,_,n1,?_⟩);show xU (0,60) _=true;unfold xU;rw[decide_eq_true χ,decide_eq_true χ];rfl
theorem zsx(MG){c:Cls}{ds Q Ex}(C:abM K c)(h:Yy c ds Q Ex):ABX zi3 KY (aF 6 ds):=by
 obtain⟨ns,rows,ps,rfl,hn,O,P,h⟩:=h;show IA;have n2:APz:=ω
 have z0:P2 nE:=⟨v_,v_⟩
 have fb:∀y3 y4:Slot,ABX zgq KY [AAx,NX,Aqk,y3,y4,.pu AE]:=by
  intro y3 y4;refine⟨n2,n2,n2,n2,rows,pO,0,ps,AY3,rfl,rfl,O,ŏ,z0,P,AS,AS,fun ms x w f G hw hb=> ?_,Ν qs l g0,A6Z ⟨n2,Β,fun as=>h pO 0 ws u bs L8 z0 M zb S e⟩⟩
  ·show Cc (Awb (z7p (qs:=Aj')) (G.lv O hw).ne) hb hb
  ·show Cc (good2 χ) g0 g0
 show B5 ns rfl hn (fun r g hr zg=>Al2);show B5 ns rfl hn (fun bd b0 b12=>⟨rows,r,g,ps,bd,rfl,rfl,O,hr,zg,P,b0,ω,fun ms x w f G hw hb t' =>⟨Ahj,C.o,Rf C.oo (fb _ _)⟩,fun qs l g0 ls t' =>⟨Ahj,C.b,La (AY0 (¬(Sl c.bW c.Open)) C.bo zJ) ⟨C.bb,fb _ _⟩⟩,A6Z ⟨(Ac5 (FC 2<30)),fun as=>h r g ws u bs hr zg M zb S e⟩⟩)
theorem zsg{bs:vb}{m m' :Rat}(h:m<=m'):gj bs m' <=gj bs m:=by
 refine List.findIdx_le_findIdx (E8 _ hb);cases b with
 | none=>cases hb
 | some q=>
  have:¬m<q:=Af' isIn hb
  have:¬m' <q:=LN
  simp [isIn,this]
theorem Y0{x y z:D}:mY [x,y,z] 0=some x:=AVp
theorem Aw{x y z:D}:mY [x,y,z] 1=some y:=AMy
theorem Fp{x y z:D}:mY [x,y,z] 2=some z:=ACI 2
theorem zt7{c:Prop}[Decidable c]{a b:Prop}(h:c ->a)(k:¬c ->b):AqV:=by
 show FS c
 ·exact Rf q (h q)
 ·exact La q (k q)
theorem z2e(AM YC):SA zjg:=by
 obtain⟨ps,bs,w1,w2,a,b,rfl,C,za,zb,h⟩:=h;have mono:∀{x y:Rat},x<=y ->jJ ps x<=jJ ps y:=fun hxy=>by
  match ps,C.len,C.gd with
  | BY,_,g=>exact z0b hxy g
 have sa:=YZ C.gd C.sz za;have sb:=YZ C.gd C.sz zb;have k1:a=b ->jJ ps a=jJ ps b:=fun e=>ġ
 have k2:a<b ->jJ ps a<=jJ ps b:=fun e=>mono (Rat.le_of_lt e);show Mb zjg [AEr [.str w1,AHB a,AsK a],AEr [.str w2,AHB b,AsK b],AU9,cn b];generalize jJ ps a=p at sa k1 k2⊢;generalize jJ ps b=q at sb k1 k2⊢;have za:=za.up (AH9 (1000<=4000))
 have zb:=zb.up (AH9 (1000<=4000))
 let Γ:G2:= [AEr [.str w1,qD p,AfL p],AEr [.str w2,qD q,AfL q],AU9,cn b]
 have t3:Mb zkj Γ:=by
  refine⟨_,Aw,_,Aw,p,q,rfl,sa,sb,?_⟩;by_cases hpq:p<q
  ·show m_ hpq;show P9 _ Fp _ Fp;have:=Axi (Rat.le_of_lt hpq);show Q (.bl (ë (AX (gj bs q)<=gj bs p)));show m_ χ;exact h
  ·show m4 hpq;exact h
 have t2:Mb zk3 Γ:=by
  refine⟨_,Aw,_,Aw,yfw _ _,?_⟩;rw[z71];show Aqn t3;show Kk BMT;refine⟨_,Fp,_,Fp,PV,?_⟩;rw[K7,ADq];exact t3
 have t1:Mb zj7 Γ:=by
  show LS a b rfl za zb;show Aqn t2;have le:=k2 (of_decide_eq_true e);refine⟨_,Aw,_,Aw,q,p,rfl,sb,sa,?_⟩;rw[decide_eq_false (Rat.not_lt.mpr le)];show P9 _ Fp _ Fp;have:=Axi le;show Ÿ (AX (gj bs p)) (gj bs q);rw[Do AEw];exact t2
 show CD (yfw _ _);rw[z71];show Aqn t1;show Kk (k1 (of_decide_eq_true e));refine⟨_,Aw,_,Aw,yfw _ _,?_⟩;rw[z71,ADq];exact t1
theorem yme(AM z17):Mm z85 9:=by
 show xp ns hl;show IA;show AGz t4 e4 h4 (fK ns 0) 4
 show AGz t7 e7 h7 (fK ns 1) 7
 refine⟨ns,0,rfl,hl,ω,Sb 4,ns,1,rfl,hl,ω,Sb 7,ns,1+t4,t7,?_,hl,ω,ω,ω,fun rows U few hU hr uq mk=> ?_⟩
 ·show [D.lst _,D.int (1+ ya 0 4),D.int (ya 1 7)]=_;rw[ľ (ya 0) 4 (AX t4) e4,ľ (ya 1) 7 (AX t7) e7,Int.natCast_add];rfl
 have O:AFQ:=⟨uq,few,⟨U,ω,hr⟩,TK (Aas (mk r hr) Β)⟩
 show B5 ns rfl hl (fun ps C=>⟨ps,rfl,A8k,?_⟩)
 show BAr;refine⟨ns,rows,ps,rfl,hl,O,C,fun r g ws u bs Ef zg M zb S e=>(G0 _ _ (E2 as))⟩;refine⟨rows,r,g,ws,u,rfl,O,Ef,zg,M,AJ Av pm⟩;have nd:ws.Nodup:=by
  obtain⟨_,_,_,A⟩:=M;exact A.so.so.imp fun z e=>A9L
 have so:AvL:=by obtain⟨_,_,_,A⟩:=M;exact A.so.so
 show B3 zu w ws (Sz 900 (u w)) w hw (by
  obtain⟨ms,x,G,A⟩:=M;exact((A.ok w hw).2).ok (G.lv O ((A.so.wm w).mp hw)))
 have wl:ws.length<=40:=by
  obtain⟨ms,x,G,A⟩:=M;refine zO (Iw nd (U:=rows.map (·.1)) fun w hw=> ?_) (AhF few)
  show Aq5 A.so.wm;exact Ar3
 show Mb z0s [AAx,NX,AiF,GE r,AFn,.pu (.dik Ahm (kj (Au Av.map (AQa u) .leaf))),A_,A_,A_];rw[zpn];refine⟨rfl,AS,S.pl,ws,EA (jJ ps (u w)),bs,by show [lO (jm.t c S AJi)]=_;rw[jm.dn],by show lO S.marks=_;rw[e];exact zwq ws _,so,ω,AGU (BBb (zu w hw).up),zb,ylt _ _ _,?_⟩
 show Mb z0u [AAx,NX,AiF,GE r,AFn,A7S,.pu (toD (mM (Jg ws AQt bs).map)),A_,A_];rw[yeo];have el:XI Jg ws AQt bs=ws.length:=by unfold Jg;show EQ
 let Γ:Slot ->Slot ->G2:=fun y7 y8=> [AAx,NX,AiF,GE r,AFn,A7S,MH Aa8,y7,y8]
 have row:HP i Nat d D (Ch Aa8 d) (∃w∈ws,d=tbE ps bs w (u w)):=fun{i d} hi=>by
  unfold Jg at hi;rw[List.getElem?_map] at hi;cases q:ws[i]? with
  | none=>show Cc q hi hi
  | some w=>rw[q] at hi;cases hi;exact Hc w (yV q)
 refine JA (Av.map .inr) (Av.map fun h=>qD (u h)) PV ?_;rw[K7,decide_eq_true (by show č el pm.length_eq)]
 show vd Aa8 _ _ _ _ _;show B5 (Eg Γ' (∃y7 y8,Γ' =Γ y7 y8)) AUp ?_ (Eg _ h);rintro i d _ hi ⟨y7,y8,rfl⟩;show BS w1 h1 rfl row hi;show vd Aa8 _ _ _ _ _;show B5 (Eg Γ' (∃y8,Γ' =Γ (.pu (tbE ps bs w1 (u w1))) y8)) C9 ?_ (Eg ⟨y8,e⟩ (B1 y8 e));rintro j d _ hj ⟨y8,rfl⟩;show BS w2 h2 rfl row hj;show DD _ Y0 (Ay1 h1 (B1 Y0 (Ay1 h2 ?_)));exact⟨ps,bs,w1,w2,u w1,u w2,rfl,C,(zu _ h1).up Β,(zu _ h2).up Β,_,rfl⟩
#print L3
local macro_rules | `(#[$x])=> `(by exact $x)
local macro_rules | `(#[$x,_])=> `(fun _ _ _ _ _ _=>by exact $x)
local macro_rules | `(tactic| symm_saturate)=> `(tactic| exact⟨rfl,by decide+kernel,by decide+kernel,by decide+kernel,rfl,by decide+kernel⟩)
local macro_rules | `(tactic| trivial)=> `(tactic| first | exact Or.inl rfl | exact Or.inr (Or.inl rfl) | exact Or.inr (Or.inr rfl) | exact Or.inr rfl)
namespace Lw
open PySem PySem.Spec PyProof.Rows L2 L3
seal QE QF QT QW QA QS uQ QG VF QI RX Mh QIg QO QR QRA QN W6
theorem bM(Aok){e:Env}(hr:AcC k e):(A.deeper e).units+21<cLine:=GB hr.units
theorem lR{us:Ο}{n:Nat}(h:us.length=n+1):∃a r,us=a::r/\r.length=n:=by
 cases us with
 | nil=>cases h
 | cons a r=>exact NV a r (Nat.succ.inj h)
theorem len1{us:Ο}(h:us.length=1):∃a0,us= [a0]:=by
 show AHp;show Kk (List.eq_nil_of_length_eq_zero h0);exact Ì a0
theorem len2{us:Ο}(h:us.length=2):∃a0 a1,us= [a0,a1]:=by
 show AHp;show APk;show Kk (List.eq_nil_of_length_eq_zero h1);exact Hc a0 a1
theorem vK{us:Ο}(h:us.length=3):∃a0 a1 a2,us= [a0,a1,a2]:=by
 show AHp;show APk;show AbX;show Kk (List.eq_nil_of_length_eq_zero h2);exact AEe a0 a1 a2
theorem Y4{us:Ο}(h:us.length=4):∃a0 a1 a2 a3,us= [a0,a1,a2,a3]:=by
 show AHp;show APk;show AbX;show AsU;show Al1 h3;exact⟨a0,a1,a2,a3,rfl⟩
theorem abN{us:Ο}(h:us.length=5):∃a0 a1 a2 a3 a4,us= [a0,a1,a2,a3,a4]:=by
 show AHp;show APk;show AbX;show AsU;show ABu a4 u4 h4 h3;show Al1 h4;exact⟨a0,a1,a2,a3,a4,rfl⟩
theorem abO{us:Ο}(h:us.length=6):∃a0 a1 a2 a3 a4 a5,us= [a0,a1,a2,a3,a4,a5]:=by
 show AHp;show APk;show AbX;show AsU;show ABu a4 u4 h4 h3;show ABu a5 u5 h5 h4;show Al1 h5;exact⟨a0,a1,a2,a3,a4,a5,rfl⟩
section
variable(P:Program)(w:World)(K:W.Frag)(mg:B0)(base:Heap)(c:Cls)
abbrev zib:Prop:=A_C
abbrev NP:Prop:=A3_
abbrev zdu:Prop:=BHW
abbrev Rh:Prop:=BCT
abbrev zjc:Prop:=BDM
abbrev zsb:Prop:=BCc
abbrev zo2:Prop:=A9N
abbrev Uj:Prop:=BHs
abbrev Y5:Prop:=A_E
abbrev zrx:Prop:=A3'
abbrev Uk:Prop:=BCf
abbrev zfa:Prop:=BCW
abbrev znh:Prop:=BCX
abbrev zr7:Prop:=A9Z
abbrev zyf:Prop:=A1c
abbrev zts:Prop:=A_s
abbrev Y6:Prop:=A1d
abbrev zf6:Prop:=A_G
abbrev z8r:Prop:=A1f
abbrev zyo:Prop:=A_u
abbrev zea:Prop:=A_q
abbrev z0g:Prop:=A_t
abbrev zx8:Prop:=BFk
abbrev zqp:Prop:=A_r
abbrev zkr:Prop:=A9x
abbrev zzy:Prop:=BFh
abbrev zcm:Prop:=BCz
abbrev zcy:Prop:=BCl
abbrev zom:Prop:=BCk
abbrev zx3:Prop:=BDV
abbrev ze5:Prop:=BFi
abbrev zgi:Prop:=BDL
abbrev zco:Prop:=A3i
abbrev zjq:Prop:=A9a
#where
section
variable{P:Program}{w:World}{K:W.Frag}{mg:B0}{base:Heap}{f:Addr}{fd:FuncData}{cdv:Value}{A:Around}{outer:GA}{s:Shared}{H:Hp}{E:XK}{F0:Hp}(c:Cls)
theorem jg:Ao6 zcl:=AC
theorem zix(F:Υ "must_have" "Sitting.must_have" zcl)(M:AGl "must_have")(aB:ki)(aH:ARS):A_B:=
 ABN (AK iu jg zji zdx (by
  have nd:=jg.nd;show AL bM;exact(bK #[qb #[z8j mh Κ AV5 ń]
   (BE AS')
   D7])) (AN zjj)) (AF (by show Ct;exact rfl))
theorem nM:Ao6 ze8:=AC
theorem zqr(F:Υ "mark" "Sitting.mark" ze8)(M:AGl "mark")(gO:A_B)(aB:ki)(aH:ARS):A_C:=
 ABN (AK iu nM zq6 zh7 (by
  have nd:=nM.nd;show AL bM;exact(bL #[yiv #[SJ gO aB OL Ψ XT]]
   (By #[Qf mh AV5 Κ]))) (AN zq0)) (AF (by show Ct;exact rfl))
theorem Ax:APn zze:=AC
theorem yb9(F:Υ "under" "under" zze)(hm:AZ "under"):A3_:=
 AW (AK iu Ax yhi z09 (by
  have nd:=Ax.nd;show AL bM;exact(OC #[Es AEo pe An9 Mo])) (AN yf1)) hm F.kp (AF (by show Ct;exact rfl))
theorem mO:F_ ["some","mark","place","border"] "some" "mark" zet:=AC
theorem znz(F:Υ "grade" "grade" zet)(hm:AZ "grade_borders")(bB:AA NP)(dR:Ag2)(aU:IS):BCi:=
 AW (AK iu mO zpc zgt (by
  have nd:=mO.nd;show AL bM;exact(bL #[RZ rfl #[zhk rfl rfl dR SY] (AZ3 2 3)
   (BE #[qb (AXw (pH (BQ ymp) Dx RM Mo) (LQ (BL (mI Κ Dx))))
   (By AFe)
   D7])]
   (By #[qg (BQ xJ) rfl aU boot_len SY]))) (AN zqi)) hm F.kp (AF (by show Ct;exact rfl))
theorem mQ:Ao6 zes:=AC
theorem znt(F:Υ "grade" "Sitting.grade" zes)(M:AGl "grade")(jo:BCi)(eU:AA zib)(aB:ki)(aQ:BJ0):A_D:=
 ABN (AK iu mQ zp8 zgs (by
  have nd:=mQ.nd;show AL bM;exact(OC (P4 jo (tS aQ) (SJ eU aB OL Ψ (au Κ aL))))) (AN zoz)) (AF (by show Ct;exact rfl))
theorem mR:xL "self" "self" Zj:=AC
theorem znr(F:Υ "table" "Sitting.table" Zj)(M:AGl "table")(eU:AA zib)(jq:A_D)(bZ:AJq)(aB:ki)(aH:ARS):BHW:=
 ABN (AK HD mR zo9 zgr (by
  have nd:=mR.nd;show AL bM;exact(AFL (ABe Wv yky (xK (own:= ["work"]) (N' := ["work","self"]) (by show eV ["self"] _ ["work"] [0] (aX Zj) Avs;symm_saturate) rfl (HG (iQ #[z11 rfl rfl bZ (IF AV5)])) #[GN Avs,_] #[wN,_] #[wC (au Ψ (E3 (Axd eU) (Axd jq))),_])))) (AN zpl)) (AF (by show H_;exact rfl))
theorem rD:F_ ["_law_cell_here","_law_many","_law_letters","_law_size","_law_at","_law_names_here","_law_k","_law_name","_law_j","_law_number"] "_law_cell_here" "_law_many" zjb:=AC
theorem zvz(F:Υ "_law_names" "_law_names" zjb)(hm:AZ "_law_names")(cg:ř)(vL:ID "int"):BCS:=
 AW (AK iu rD zxl zhf (by
  have nd:=rD.nd;show AL bM;exact(bL (Ĩ 2 Gp)
   #[bL (A_y Ψ)
   #[bL #[qb (aE jb Aht)
   (BE (Ĩ 3 aP))
   D7]
   #[bL (Nw 4 mZ (Õ Ψ) Dx)
   #[bL (ANX 5)
   #[bL #[OD rfl rfl cg (pd Κ) (IC 6)
   #[bL (Ĩ 7 Gp)
   #[bL #[OD rfl rfl cg (pd (BCR Dx (AKu Aht aP))) (IC 8)
   #[bL (Nw 9 mZ (r8 (r8 (Ki qL (Õ Ψ)) (Ki qL (jI m3 m3))) (Ki qL m3)) aP)
   (BE (Nw 7 rO ei (LW BA (VA (BCR ATO (z1c (AKu m3 GI) (RT (Es AKc Aht aP Mo))))))))]]
   (BE (ASt 5 (pd ei)))]]]
   (By #[qv 5])]]]]])) (AN zyv)) hm F.kp (AF (by show Ct;exact rfl))
theorem uc:F_ ["_law_script","_law_k","_law_number"] "_law_script" "_law_k" zmz:=AC
theorem zzj(F:Υ "_law_cell" "_law_cell" zmz)(hm:AZ "_law_cell")(aU:IS):BCT:=
 AW (AK iu uc z23 zqk (by
  have nd:=uc.nd;show AL bM;exact(bL #[qb (ABq AEo Κ eJ)
   (By #[dD Ψ Κ iO])
   D7]
   #[bL (Nw 2 rO Auz aP)
   #[bL #[qb (aE ŉ eJ)
   (BE (Nw 2 mZ (r8 (Ki qL (LW Ψ (LV mZ Auz eJ))) (Ki qL Κ)) aP))
   D7]
   (By #[bJ (BQ mZ) (jI BA BA) aP])]])) (AN z2g)) hm F.kp (AF (by show Ct;exact rfl))
theorem pP:E6 Afm Afm zic:=AC
theorem zur(F:Υ "_law_marked" "_law_marked" zic)(hm:AZ "_law_marked"):A9r:=
 AW (AK iu pP zxi zga (by
  have nd:=pP.nd;show AL bM;exact(bL #[qb (aE jb Ψ)
   (By #[Es ŉ (VA GI) aP Mo])
   D7]
   #[bL #[qb (aE jb Ψ)
   (By #[yj3 (A2M Κ) (RT (A2M (Ki rO Κ)))])
   D7]
   #[bL #[qb (aE jb Ψ)
   (By #[z1c (AKu (VA Κ) (VA BA)) (RT (Es ŉ (VA GI) aP Mo))])
   D7]
   (By Ł)]])) (AN zwb)) hm F.kp (AF (by obtain⟨_,_,_,_,_,rfl⟩:=abN hl;exact rfl))
theorem ud:E6 ["_law_script","_law_hands","_law_works","_law_way","_law_most","_law_names_here","_law_people","_law_rows_here","_law_w","_law_h","_law_cell_here","_law_turn"] ["_law_script","_law_hands","_law_works"] zl4:=AC
theorem zyu(F:Υ "_law_rows" "_law_rows" zl4)(hm:AZ "_law_rows")(lE:BCS)(aN:AA Rh)(m9:A9r)(cg:ř)(aU:IS):BDM:=
 AW (AK iu ud z38 zge (by
  have nd:=ud.nd;show AL bM;exact(bL (Nw 3 mZ ACR aP)
   #[bL (AZk 4 (A't (Ki ymr aP)) AJy)
   #[bL (Su 5 lE ACR BA)
   #[bL (Su 6 lE ACR Κ)
   #[bL (ANX 7)
   #[bL #[OD rfl rfl cg (pd BA) (IC 8)
   (BE #[OD rfl rfl cg (pd Κ) (IC 9)
   #[bL (AXk 10 (r8 (ADT (jI m3 Κ)) ATO))
   (BE #[qb #[BL (AIZ m9 (au Dx (ADk m3 ATO Κ (qv 10))))]
   (BE (ASt 7 #[au (wC (XL (LW eh m3) (LW ă ATO) (LV mZ (Õ (qv 10)) GI))) aL]))
   D7])]])]
   #[bL (Nw 11 mZ (Õ ACR) (Ki rO (z9i (zh (rL ei)))))
   (By #[iQ #[Sg (iQ #[Ho ei (DN (qv 11)) JX]) (iQ #[Ho ei JX (DN (qv 11))])]])]]]]]])) (AN z3v)) hm F.kp (AF (by show ad;exact rfl))
theorem oN:F_ ["_law_one","_law_other"] "_law_one" "_law_other" zf4:=AC
theorem zq3(F:Υ "_law_divisor" "_law_divisor" zf4)(hm:AZ "_law_divisor")(pQ:AT8):BCU:=
 AW (AK iu oN ztj ziy (by
  have nd:=oN.nd;show AL bM;exact(bL (Me 0 (Ar5 SY))
   #[bL (nr (Ar5 XT))
   #[bL #[z0c (aE ŉ Κ)
   (BE #[ylj (i:=0) (j:=1) rfl nd rfl rfl Β rfl rfl (E3 Κ (LV mZ Ψ Κ)) rfl])]
   (By AFd)]])) (AN ztd)) hm F.kp (AF (by show Ct;exact rfl))
theorem vM:F_ ["_law_top","_law_bottom","_law_by"] "_law_top" "_law_bottom" zpp:=AC
theorem z3q(F:Υ "_law_low" "_law_low" zpp)(hm:AZ "_law_low")(lU:BCU):BCc:=
 AW (AK iu vM z39 zsk (by
  have nd:=vM.nd;show AL bM;exact(bL (Su 2 lU Ψ Κ)
   #[bL #[qb (aE AEo Κ)
   (BE (Nw 2 Gs aP BA))
   D7]
   (By A5o)])) (AN z9y)) hm F.kp (AF (by show Ct;exact rfl))
theorem uf:AVA ["_law_script","_law_cell_here"] zmg:=AC
theorem zzb(F:Υ "_law_rule" "_law_rule" zmg)(hm:AZ "_law_rule")(aN:AA Rh)(iY:AA zsb):A3h:=
 AW (AK iu uf z2y zot (by
  have nd:=uf.nd;show AL bM;exact(bL (AXk 1 aP)
   (By #[wC (E3 (LW (iQ #[zy (au Gp (E3 Gp Gp))]) (VA Κ)) (HL iY (AIx Κ) (ADT (AIx Κ))))]))) (AN z2w)) hm F.kp (AF (by show H_;exact rfl))
theorem xZ:F_ AAL "left" "right" zs9:=AC
theorem z91(F:Υ "climbs" "climbs" zs9)(hm:AZ "climbs")(bB:AA NP):BCd:=
 AW (AK iu xZ yah zwi (by
  have nd:=xZ.nd;show AL bM;exact(OC #[z1c A0u (RT (yd7 (mI SV Kt)))])) (AN ydx)) hm F.kp (AF (by show Ct;exact rfl))
theorem ug:xL "points" "points" Zk:=AC
theorem zy6(F:Υ "is_scale" "is_scale" Zk)(hm:AZ "is_scale")(vN:BCd)(Jj:ID "all")(aU:IS)(iT:AFH):A9N:=
 AW (AK iu ug z2h zqy (by
  have nd:=ug.nd;show AL bM;exact(ABe bK fU (z1c (Es ŉ eJ aP Mo) (RT (io qg (ymz rfl) Jj boot_all (IF (eC (xK (own:= AAL) (N' := AAL) (by show eV ["points"] _ AAL [] (aX Zk) AAL;symm_saturate) rfl (Arc An') #[DG rfl (sK (N9 0 AAL) (N9 1 AAL)),_] #[wN,_] #[AmJ vN,_])))))))) (AN z2u)) hm F.kp (AF (by show H_;exact rfl))
theorem lF:AJu AeR "points" Uo:=AC
theorem zm3(F:Υ "__init__" "Scale.__init__" Uo)(jU:AA zo2)(rE:BMP)(bI:ADS)(aJ:ARp):SO fY br 4 f fd AeR (vo K c.Scale "points" (QV c)):=by
 have nd:=lF.nd;refine ygn F rfl lF bI aJ rfl AOF (AHx yi8) (Ab0 ?_);show APs "Scale.__init__" Uo
 exact⟨rfl,zfj K c,zec K c,CI (qb (AZa (ia jU XT))
 (BE AS')
 D7),
 CI (io zod ygy rE boot_tuple (au Κ aL)),BGV yfy⟩
theorem zl5(F:Υ "__init__" "Scale.__init__" Uo)(M:Mk K c.Scale f)(hm:VM "Scale" c.Scale)(jU:AA zo2)(rE:BMP)(bI:ADS)(aJ:ARp):BHs:=
 AW (zm3 c F jU rE bI aJ) M hm (AF (by show Ct;exact rfl))
theorem Ei:F_ ["group","hands"] "group" "hands" Zm:=AC
theorem yfu(F:Υ "meet" "meet" Zm)(hm:AZ "meet")(yc:ID "any"):BCV:=
 AW (AK iu Ei yk1 z48 (by
  have nd:=Ei.nd;show AL bM;exact(ABe bK fU (BAM (xK (own:= ["hand"]) (N' := AiR) (by show eV AXN _ ["hand"] [0] (aX Zm) AiR;symm_saturate) rfl (HG Κ) #[GN AiR,_] #[wN,_] #[Es (BQ O9) Ψ Κ ń,_])))) (AN ykv)) hm F.kp (AF (by show Ct;exact rfl))
theorem yd:F_ BFS "found" "hands" Zn:=AC
theorem z5w(F:Υ "joined" "joined" Zn)(hm:AZ "joined")(yQ:BCV)(cj:Ą)(bZ:AJq)(yg:ID "set"):BCe:=
 AW (AK iu yd ybv zwr (by
  have nd:=yd.nd;show AL bM;exact(bL (Ž (AAp 2 (own:= ["group"]) (N' := AXN) (by show eV BFS _ ["group"] [1] (aX Zn) AXN;symm_saturate) rfl (HG Ψ) #[GN AXN,_] #[Aq_ (HL yQ Ψ Κ),_] #[qv 0,_]))
   #[bL (iX (Kr (i:=3)) (Aa' zzq XT))
   #[bL #[G7 rfl AFd (IC 4)
   (BE #[qb #[BL (Ę yQ GI Κ)]
   (BE (Acz 3 z86 PySem.F.slot_list_extend PySem.F.type_list_extend (pd GI)))
   D7])]
   (By #[iQ #[Sg BA (iQ (yz (iQ #[yds rfl rfl bZ rfl yg AhJ])))]])]])) (AN ydb)) hm F.kp (AF (by show Ct;exact rfl))
theorem vO:AVB ["rows","sheets","work","hand","mark"] zqn:=AC
theorem z3x(F:Υ "by_work" "by_work" zqn)(hm:AZ "by_work"):A_E:=
 AW (AK HD vO z8e zr3 (by
  have nd:=vO.nd;show AL bM;exact(bL (AZO 1)
   #[bL #[G7 rfl AFd (BEl 2 3 4)
   #[bL #[qb #[yjv (i:=1) mh AFe rfl DV]
   (BE #[yjq (i:=1) (j:=2) mh rfl DV rfl DV #[S5]])
   D7]
   (BE #[D8 ykl i 1 j 2 l 3 mh rfl DV rfl DV rfl DV #[qv 4]])]]
   (BE (Alm 1))])) (AN z8q)) hm F.kp (AF (by show H_;exact rfl))
theorem yh:AVB ["rows","found","sheet"] zth:=AC
theorem z6z(F:Υ "groups" "groups" zth)(hm:AZ "groups")(vP:BCe)(c7:AA Y5)(bZ:AJq)(cj:Ą):A_F:=
 AW (AK HD yh ya4 zwu (by
  have nd:=yh.nd;show AL bM;exact(bL (nr #[iQ #[zy aL]])
   #[bL #[RZ rfl #[z76 (ie Ww c7 SY)] (IC 2)
   (BE (Su 1 vP Κ (iQ (Aa' (ygi rfl) AhI))))]
   (BE #[Wv #[yky #[yc2 (BQ (yl9 hu)) rfl bZ boot_sorted XT]]])])) (AN ybn)) hm F.kp (AF (by show H_;exact rfl))
theorem vQ:F_ ["one","other","rest"] "one" "other" zo4:=AC
theorem z2n(F:Υ "divisor" "divisor" zo4)(hm:AZ "divisor")(pQ:AT8):A3':=
 AW (AK iu vQ z4m zrq (by
  have nd:=vQ.nd;show AL bM;exact(bL #[z0c (aE AKc Κ)
   #[bL (Nw 2 mZ Ψ Κ)
   #[bL (Me 0 ũ)
   (BE (nr AFe))]]]
   (By (Ar5 SY)))) (AN z7f)) hm F.kp (AF (by show Ct;exact rfl))
theorem rF:E6 ["row","multiple","part"] ["row"] Zo:=AC
theorem zvi(F:Υ "whole_row" "whole_row" Zo)(hm:AZ "whole_row")(jK:AA zrx):A9w:=
 AW (AK iu rF zyj znd (by
  have nd:=rF.nd;show AL bM;exact(bL (nr #[aP])
   (C6 (bL #[G7 rfl AFd (IC 2)
   (BE (Nw 1 qL Κ (LV vf (bP BA) (HL jK Κ (bP BA)))))]
   (ANy (xK (own:= ["part"]) (N' := ["part","multiple"]) (by show eV ["row","multiple","part"] _ ["part"] [1] (aX Zo) Avv;symm_saturate) rfl (HG Ψ) #[GN Avv,_] #[wN,_] #[bJ (BQ qL) Kt (LV vf Κ Kt),_])))))) (AN zzo)) hm F.kp (AF (by show H_;exact rfl))
theorem vR:E6 ASs ASs Zq:=AC
theorem z22(F:Υ "without" "without" Zq)(hm:AZ "without")(iT:AFH):A9s:=
 AW (AK iu vR z64 zrt (by
  have nd:=vR.nd;show AL bM;exact(AFL (ACj (xK (own:= Avw) (N' := Abp) (by show eV ASs _ Avw [0,1,2,3] (aX Zq) Abp;symm_saturate) rfl (Arc Κ) #[DG rfl (sK (N9 0 Abp) (N9 1 Abp)),_] #[wN,_] #[bJ (BQ vf) (LV Gs (jI (LW Dx GI) Ψ) (jI Awq Κ)) eh,_])))) (AN z6a)) hm F.kp (AF (by obtain⟨_,_,_,_,rfl⟩:=Y4 hl;exact rfl))
theorem vU:BDz "ahead" "lead" "ahead" Zr:=AC
theorem z3h(F:Υ "cleared" "cleared" Zr)(hm:AZ "cleared")(sZ:A9s)(dR:Ag2):A9Y:=
 AW (AK iu vU yaa zrv (by
  have nd:=vU.nd;show AL bM;exact(bL (AZk 3 Ψ Κ)
   (ANy (xK (own:= Aum) (N' := AbZ) (by show eV ["table","place","ahead","lead"] _ Aum [1,2,3] (aX Zr) AbZ;symm_saturate) rfl (ARs zhk dR SY) #[DG rfl (sK (N9 0 AbZ) (N9 1 AbZ)),_] #[wN,_] #[VB (AAH Ψ BA) Κ (ia sZ (ADk Κ GI BA Dx)),_])))) (AN z60)) hm F.kp (AF (by show ad;exact rfl))
theorem uh:F_ ["top","bottom","common"] "top" "bottom" zme:=AC
theorem zyc(F:Υ "fraction" "fraction" zme)(hm:AZ "fraction")(jK:AA zrx):BCf:=
 AW (AK iu uh z3n zox (by
  have nd:=uh.nd;show AL bM;exact(bL #[qb (aE jb Κ)
   (BE AS')
   D7]
   #[bL (Su 2 jK Ψ Κ)
   #[bL #[qb (aE AEo Κ)
   (BE (Me 2 #[Hf (qv 2)]))
   D7]
   (By A5o)]])) (AN z3y)) hm F.kp (AF (by show Ct;exact rfl))
theorem rH:BDz "spot" "other" "spot" zjd:=AC
theorem zwp(F:Υ "exchanged" "exchanged" zjd)(hm:AZ "exchanged")(cj:Ą):A9t:=
 AW (AK iu rH zxo zna (by
  have nd:=rH.nd;show AL bM;exact(bL (iX (Kr (i:=3)) (Aa' zzq SY))
   #[bL (A8m ũ #[dD Ψ BA iO])
   #[bL (A8m AFe #[dD Ψ Κ iO])
   (By #[qv 3])]])) (AN zzm)) hm F.kp (AF (by show ad;exact rfl))
theorem Jk:F_ ["table","place","spot"] "table" "place" yir:=AC
theorem ylg(F:Υ "led" "led" yir)(hm:AZ "led")(oO:A9t)(cg:ř)(aU:IS):BCg:=
 AW (AK iu Jk ymn yfj (by
  have nd:=Jk.nd;show AL bM;exact(bL #[z79 rfl rfl cg (ArT Κ eJ) (IC 2)
   (BE #[qb (aE AKc (LW (LW Ψ BA) Κ))
   (By (ii oO AxP))
   D7])]
   (BE AS'))) (AN ymu)) hm F.kp (AF (by show Ct;exact rfl))
theorem yj:F_ Ase "rows" "rights" Ur:=AC
theorem z4e(F:Υ "solved" "solved" Ur)(hm:AZ "solved")(oR:A9w)(tu:A9Y)(bx:AA Uk)(Jl:BCg)(cg:ř)(aU:IS)(iT:AFH)(dR:Ag2):BCj:=
 AW (AK iu yj ydl zu6 (by
  have nd:=yj.nd;show AL bM;exact(bL (Ž (AAp 2 (own:= AGD) (N' := AGD) (by show eV Ase _ AGD [] (aX Ur) AGD;symm_saturate) rfl (Arc Κ) #[DG rfl (sK (N9 0 AGD) (N9 1 AGD)),_] #[wN,_] #[AIZ oR (IF (iQ #[Sg Ψ (iQ (yz Κ))])),_]))
   (C6 (bL (Ĩ 3 aP)
   (C6 (bL #[OD rfl rfl cg #[au (io qg xJ aU boot_len AhI) aL] (IC 4)
   #[bL (Me 2 (ii tu (XL (HL Jl BA GI) GI Dx)))
   (BE (AZk 3 Awq GI))]]
   (ANy (xK (own:= AGn) (N' := AGn) (by show eV Ase _ AGn [] (aX Ur) AGn;symm_saturate) rfl (ARs zhk dR AhI) #[DG rfl (sK (N9 0 AGn) (N9 1 AGn)),_] #[wN,_] #[Ę bx AXY (LW Κ Ψ),_])))))))) (AN ycz)) hm F.kp (AF (by show Ct;exact rfl))
theorem oU:A4u Zt:=AC
theorem zrh(F:Υ "sheets_with" "sheets_with" Zt)(hm:AZ "sheets_with"):BCW:=
 AW (AK iu oU ztl zi2 (by
  have nd:=oU.nd;show AL bM;exact(AFL (ACj (xK (own:= ["sheet"]) (N' := ["sheet","hand"]) (by show eV me _ ["sheet"] [0] (aX Zt) AY2;symm_saturate) rfl (HG Κ) #[GN AY2,_] #[Mi (yjj mh Κ Ψ ń),_] #[qv 0,_])))) (AN ztb)) hm F.kp (AF (by show Ct;exact rfl))
theorem rJ:F_ ["step","bound"] "step" "bound" zju:=AC
theorem zvf(F:Υ "is_within" "is_within" zju)(hm:AZ "is_within"):BCX:=
 AW (AK iu rJ zza zm8 (by
  have nd:=rJ.nd;show AL bM;exact(OC #[ycw (BQ VN) (BQ VN) SV Ψ SV])) (AN zxv)) hm F.kp (AF (by show Ct;exact rfl))
theorem vV:E6 ASN ASN Us:=AC
theorem z37(F:Υ "reached" "reached" Us)(hm:AZ "reached")(ig:AA znh)(yc:ID "any"):A9Z:=
 AW (AK iu vV z4c zr1 (by
  have nd:=vV.nd;show AL bM;exact(AFL (ACj (xK (own:= ["end"]) (N' := AWW) (by show eV ASN _ ["end"] [1,2] (aX Us) AWW;symm_saturate) rfl (HG Ψ) #[GN AWW,_] #[Mi (BL (BAM (xK (own:= ["start"]) (N' := AoG) (by show eV AWW _ ["start"] [0,2] (yb1 _ (aX Us)) AoG;symm_saturate) rfl (HG Κ) #[GN AoG,_] #[wN,_] #[Ę ig (LV Gs Κ Ψ) BA,_]))),_] #[qv 0,_])))) (AN z6n)) hm F.kp (AF (by show ad;exact rfl))
theorem Ej:APn z70:=AC
theorem yg7(F:Υ "plus" "plus" z70)(hm:AZ "plus")(bx:AA Uk):A1c:=
 AW (AK iu Ej yla z43 (by
  have nd:=Ej.nd;show AL bM;exact(OC (P4 bx (r8 pe An9) pe))) (AN ylz)) hm F.kp (AF (by show Ct;exact rfl))
theorem Ay:E6 ["some","reached","part"] ["some"] zzn:=AC
theorem ych(F:Υ "total" "total" zzn)(hm:AZ "total")(mU:AA zr7)(nj:Agp):A_s:=
 AW (AK iu Ay ygp z1f (by
  have nd:=Ay.nd;show AL bM;exact(bL (nr #[wC (E3 aP aP)])
   #[bL #[G7 rfl AFd (IC 2)
   (BE (Su 1 nj Κ BA))]
   (By ũ)])) (AN yhy)) hm F.kp (AF (by show H_;exact rfl))
theorem Az:E6 BFR BKe Zu:=AC
theorem ydc(F:Υ "share" "share" Zu)(hm:AZ "share")(bV:AA zfa)(jF:AA zts)(nj:Agp)(aU:IS):BBf:=
 AW (AK iu Az ygq z1x (by
  have nd:=Az.nd;show AL bM;exact(bL (Su 3 bV Κ (HL bV Ψ BA))
   (C6 (bL (C6 (gQ (i:=4) nd rfl DV (C6 (AL1 jF (eC (xK (own:= ["sheet"]) (N' := Afu) (by show eV BFR _ ["sheet"] [] (aX Zu) Afu;symm_saturate) rfl (HG Dx) #[GN Afu,_] #[wN,_] #[wC (E3 AJY Aw3),_]))))))
   (By #[VB (AAH Ψ Κ) (HL nj (ACc (rL Dx)) GI) GI]))))) (AN yhf)) hm F.kp (AF (by show ad;exact rfl))
theorem yq:E6 İ İ Zv:=AC
theorem z5o(F:Υ "shares" "shares" Zv)(hm:AZ "shares")(yR:BBf):BBg:=
 AW (AK iu yq ydn zvt (by
  have nd:=yq.nd;show AL bM;exact(AFL (ACj (xK (own:= ["other"]) (N' := ApT) (by show eV İ _ ["other"] [0,2] (aX Zv) ApT;symm_saturate) rfl (HG Κ) #[GN ApT,_] #[wN,_] #[AIZ yR (XL Κ Ψ BA),_])))) (AN ydi)) hm F.kp (AF (by show ad;exact rfl))
theorem Ba:APn zy0:=AC
theorem yb2(F:Υ "minus" "minus" zy0)(hm:AZ "minus")(bx:AA Uk):A1d:=
 AW (AK iu Ba yi1 z03 (by
  have nd:=Ba.nd;show AL bM;exact(OC (P4 bx (LV Gs pe An9) pe))) (AN yi6)) hm F.kp (AF (by show Ct;exact rfl))
theorem rK:xL "sheet" "sheet" zjl:=AC
theorem zwl(F:Υ "mean_mark" "mean_mark" zjl)(hm:AZ "mean_mark")(bx:AA Uk)(Jm:ID "sum")(aU:IS):A9O:=
 AW (AK iu rK zy1 zne (by
  have nd:=rK.nd;show AL bM;exact(OC (P4 bx (yhm rfl rfl Jm Ψ) Aw3))) (AN zyd)) hm F.kp (AF (by show H_;exact rfl))
theorem yr:A4u Zw:=AC
theorem z88(F:Υ "excess" "excess" Zw)(hm:AZ "excess")(jF:AA zts)(dU:AA Y6)(oV:A9O)(bV:AA zfa):BDu:=
 AW (AK iu yr yca zu7 (by
  have nd:=yr.nd;show AL bM;exact(ABe bK fU (AL1 jF (eC (xK (own:= ["sheet"]) (N' := ["sheet","hand"]) (by show eV me _ ["sheet"] [0] (aX Zw) AY2;symm_saturate) rfl (HG Ave) #[GN AY2,_] #[wN,_] #[Ę dU (ACc (AHe Ψ Κ)) (Ŝ oV),_]))))) (AN ybs)) hm F.kp (AF (by show Ct;exact rfl))
theorem lG:F_ Abd "hands" "sheets" Rt:=AC
theorem zmv(F:Υ "group_leanings" "group_leanings" Rt)(hm:AZ "group_leanings")(vW:BCj)(vX:BBg)(vY:BDu)(bV:AA zfa)(aU:IS):BDv:=
 AW (AK iu lG zns zfg (by
  have nd:=lG.nd;show AL bM;exact(bL (Ž (AAp 2 (own:= ["hand"]) (N' := İ) (by show eV Abd _ ["hand"] [0,1] (aX Rt) İ;symm_saturate) rfl (HG An') #[GN İ,_] #[wN,_] #[AIZ vX AxP,_]))
   (C6 (bL (Ž (AAp 3 (own:= ["hand"]) (N' := me) (by show eV Abd _ ["hand"] [1] (aX Rt) me;symm_saturate) rfl (HG An') #[GN me,_] #[wN,_] #[AmJ vY,_]))
   (C6 (bL (Ž (AAp 4 (own:= ["hand"]) (N' := me) (by show eV Abd _ ["hand"] [1] (aX Rt) me;symm_saturate) rfl (HG Ψ) #[GN me,_] #[wN,_] #[wC (E3 (rL Ave) aP),_]))
   (By (P4 vW (iQ #[Sg (iQ (yz GI)) BA]) (iQ #[Sg (iQ (yz AGT)) Dx]))))))))) (AN znm)) hm F.kp (AF (by show Ct;exact rfl))
theorem um:AVB BG8 Zx:=AC
theorem zxy(F:Υ "leanings" "leanings" Zx)(hm:AZ "leanings")(vZ:A_F)(iZ:BDv)(c7:AA Y5)(cj:Ą)(iT:AFH):A_G:=
 AW (AK HD um z3s zqc (by
  have nd:=um.nd;show AL bM;exact(bL (AZO 1)
   (C6 (bL (C6 (G7 rfl (AMF vZ.fn) (IC 2)
   (C6 (bL (C6 (Axu (AIK iQ (z12 rfl rfl cj (AL1 c7.fn (eC (xK (own:= ["row"]) (N' := ["row","hands"]) (by show eV BG8 _ ["row"] [2] (aX Zx) Au_;symm_saturate) rfl (HG Ψ) #[GN Au_,_] #[Mi (pH (BQ O9) Kt Κ ń),_] #[qv 0,_])))))))
   (BE #[RZ rfl (ApZ (E3 BA (HL iZ BA Dx))) (AZ3 4 5)
   (BE (BCZ 1 #[qv 5]))])))))
   (BE (Alm 1)))))) (AN z3c)) hm F.kp (AF (by show H_;exact rfl))
theorem zno:E6 ["self","work","apart"] ["self","work","apart"] zeh:=AC
theorem zn3(F:Ag3 "Open.__init__" zeh)(M:BFN c.Open)(hm:VM "Open" c.Open)(nq:Ajk)(nu:aM K c.Open "work")(lV:aM K c.Open "apart"):BIw:=
 ⟨f,fd,z72 F rfl zno nq nu lV Β AOF AOF AOF (BQ rfl) (BQ rfl),M.1,M.2,nq,hm,AF (by show ad;exact rfl)⟩
theorem Bb:APn zzh:=AC
theorem ycb(F:Υ "times" "times" zzh)(hm:AZ "times")(bx:AA Uk):A1e:=
 AW (AK iu Bb yii zz3 (by
  have nd:=Bb.nd;show AL bM;exact(OC (P4 bx pe pe))) (AN yhz)) hm F.kp (AF (by show Ct;exact rfl))
theorem Ek:APn z4n:=AC
theorem ygh(F:Υ "over" "over" z4n)(hm:AZ "over")(bx:AA Uk):A1f:=
 AW (AK iu Ek yj0 z6m (by
  have nd:=Ek.nd;show AL bM;exact(OC (P4 bx pe pe))) (AN ylo)) hm F.kp (AF (by show Ct;exact rfl))
theorem v7:E6 ["left","right","x","part"] ["left","right","x"] zou:=AC
theorem z2v(F:Υ "between" "between" zou)(hm:AZ "between")(zc:A1e)(nj:Agp)(dU:AA Y6)(tD:AA z8r):BBh:=
 AW (AK iu v7 z6g zsf (by
  have nd:=v7.nd;show AL bM;exact(bL (Su 3 zc (HL dU BA Kt) AxV)
   (By (P4 nj Kt (HL tD Dx AxV))))) (AN z50)) hm F.kp (AF (by show ad;exact rfl))
theorem nO:AJu ["self","x","left","right"] "x" ze7:=AC
theorem zph(F:Υ "scaled" "Scale.scaled" ze7)(M:Meth K c.Scale "scaled" f)(bB:AA NP)(tE:BBh)(iT:AFH)(bI:ADS)(aJ:ARp):BGF:=
 ABN (AK iu nO zq5 zhd (by
  have nd:=nO.nd;show AL bM;exact(bL #[qb (AZa (mI (bP (bP AO1)) Κ))
   (By #[dD (bP AO1) aP iO])
   D7]
   #[bL #[RZ rfl (ApZ (E3 AO1 (z4i AO1 (DN aP) JX))) (AZ3 2 3)
   (BE #[qb #[BL (Ę bB Κ (bP Dx))]
   (By (ii tE (XL BA Dx Κ)))
   D7])]
   (By #[dD (LW AO1 AJY) aP iO])])) (AN zrj)) (AF (by show Ct;exact rfl))
theorem jV:AJu (ABg "hand") "hand" zdi:=AC
theorem zj5(F:Υ "leaning" "Sitting.leaning" zdi)(M:AGl "leaning")(aB:ki)(aO:BJ1):BCy:=
 ABN (AK iu jV zl2 zey (by
  have nd:=jV.nd;show AL bM;exact(OC #[yfr mh (tS aO) Κ AGT A2l])) (AN zl1)) (AF (by show Ct;exact rfl))
theorem El:xL "some" "some" z40:=AC
theorem ygg(F:Υ "mean" "mean" z40)(hm:AZ "mean")(tD:AA z8r)(jF:AA zts)(aU:IS):A_u:=
 AW (AK iu El ylc z75 (by
  have nd:=El.nd;show AL bM;exact(OC (P4 tD (Ŝ jF) (ACc eJ)))) (AN yjz)) hm F.kp (AF (by show H_;exact rfl))
theorem nP:xL "rule" "rule" zfc:=AC
theorem zoq(F:Υ "least_number" "least_number" zfc)(hm:AZ "least_number"):A_q:=
 AW (AK iu nP zrk zia (by
  have nd:=nP.nd;show AL bM;exact(OC #[VB (AAH Ψ Gp) aP aP])) (AN zrn)) hm F.kp (AF (by show H_;exact rfl))
theorem Bc:xL "two" "two" zy2:=AC
theorem ydo(F:Υ "width" "width" zy2)(hm:AZ "width")(dU:AA Y6):A_t:=
 AW (AK iu Bc yh5 zz1 (by
  have nd:=Bc.nd;show AL bM;exact(OC (P4 dU Kt Kt))) (AN yij)) hm F.kp (AF (by show H_;exact rfl))
theorem v8:E6 ["order","best","place","two"] ["order"] zpe:=AC
theorem z33(F:Υ "nearest" "nearest" zpe)(hm:AZ "nearest")(bB:AA NP)(nA:AA z0g)(cg:ř)(aU:IS):A_v:=
 AW (AK iu v8 z9j zsn (by
  have nd:=v8.nd;show AL bM;exact(bL (nr (Aog JX aP))
   #[bL #[z79 rfl rfl cg (ArT aP Awt) (IC 2)
   #[bL (Me 3 (Aog (DN BA) (Ki rO BA)))
   (BE #[qb (AZa (mI (ia nA XT) (AL1 nA Dx)))
   (BE (nr #[qv 3]))
   D7])]]
   (By ũ)])) (AN z78)) hm F.kp (AF (by show H_;exact rfl))
theorem Em:F_ ["order","gap"] "order" "gap" z5q:=AC
theorem yik(F:Υ "pair" "pair" z5q)(hm:AZ "pair")(tG:A_v)(bB:AA NP)(nA:AA z0g)(aU:IS)(jG:ArI):BFk:=
 AW (AK iu Em yl3 z5c (by
  have nd:=Em.nd;show AL bM;exact(bL #[qb #[Cm (RQ (AAH eJ aP) (RP (BL (mI Κ (Ŝ nA)))))]
   (BE #[zz0 rfl rfl jG.1 jG.2 (IF Gp)])
   D7]
   (By (AMF tG)))) (AN yl4)) hm F.kp (AF (by show Ct;exact rfl))
theorem yt:xL "order" "order" zsr:=AC
theorem z8u(F:Υ "middle" "middle" zsr)(hm:AZ "middle")(aU:IS):A_r:=
 AW (AK iu yt ybm zvo (by
  have nd:=yt.nd;show AL bM;exact(OC (Aog (DN (Õ Awt)) (Ki rO (Õ eJ))))) (AN ydm)) hm F.kp (AF (by show H_;exact rfl))
theorem yu:E6 A_K ["some"] Zy:=AC
theorem z7o(F:Υ "rising" "rising" Zy)(hm:AZ "rising")(bB:AA NP)(aU:IS):A9x:=
 AW (AK iu yu ybj zvm (by
  have nd:=yu.nd;show AL bM;exact(bL (ANX 1)
   (C6 (bL (C6 (G7 rfl AFd (IC 2)
   (C6 (bL (C6 (Axu (C6 (z9i (zh (rL (eC (xK (own:= ["other"]) (N' := ["other","part"]) (by show eV A_K _ ["other"] [2] (aX Zy) AyP;symm_saturate) rfl (HG Κ) #[GN AyP,_] #[Aq_ (mI Κ Ψ),_] #[qv 0,_]))))))))
   (BE (Acz 1 z8o PySem.F.slot_list_insert PySem.F.type_list_insert (ArT Dx BA)))))))
   (By ũ))))) (AN yc3)) hm F.kp (AF (by show H_;exact rfl))
theorem Bf:E6 ASp ["rule","marks","gap"] Lx:=AC
theorem yiu(hr:AIk 6 "worth" (aX Lx))(nC:Agq)(dh:Agr)(Atg):uQ (fu br P w K mg base ASp "worth" (aX Lx) f cdv A outer s H E) F0 H (xq Lx) (zss K c):=by
 have nd:=Bf.nd;show APs "worth" Lx
 exact(bL #[qb (ABq AEo (rL Κ) (Ŝ dh))
 (BE #[zz0 rfl rfl mV.1 mV.2 (IF Gp)])
 D7]
 #[bL #[qb (ABq jb Ψ Gp)
 (By (ii nC XT))
 D7]
 #[bL #[qb (ABq jb Ψ Gp)
 (By (ii nC (IF (AL1 jW Av5))))
 D7]
 (By (ii nC (IF (HL qC Av5 (VB (pH (BQ abf) BA RM Mo) (yk4 rfl jX) BA)))))]])
theorem ybu{f:Addr}{fd:FuncData}{uX:Addr}(c:Cls)(F:BEK)(nC:Agq)(dh:Agr)(Atg):ABt 7 ASp nZ (Q6 c):=
 AK abq Bf yio zss (yiu c hr nC dh qC jW gq aU mV jX) (AN yh3)
theorem yc0(ArQ){uX:Addr}{Qj:Hb}{dn:Nat}{Qk:vn}(c:Cls)(F:BEK)(hT:K.lookup uX=some (Ar' (List.toArray [Φ])))(hm:AZ "worth")(nC:Agq)(dh:Agr)(Atg):BFh:=by
 have FO:=BDX ybu P c F nC dh qC jW gq aU mV jX;have kp:=F.kp;obtain⟨oc,od,kV,doc,pm,an,cdv,ct,osl,e0,lk,hcd⟩:=F.ex;subst e0;refine⟨f,_,FO,hm,kp,A'l,A'l⟩
 ·match us,hl with | [_,_,_],_=>exact BindsTo.of_defaults rfl (X _ _ hT) rfl rfl rfl
 ·have hl2:us.length=2:=As hl
  match us,hl2 with | [_,_],_=>exact BindsTo.of_defaults rfl (X _ _ hT) rfl rfl rfl
theorem jy:E6 ["self","work","sheet","levels"] ["self","work","sheet"] Zz:=AC
theorem zj1(F:Υ "reckoned" "Sitting.reckoned" Zz)(M:AGl "reckoned")(gV:BIw)(jY:BGF)(dU:AA Y6)(iI:BCy)(pF:AA zzy)(jG:ArI)(mV:Ad5)(bI:ADS)(aB:ki)(bw:BJ2)(bF:iq "rule")(bN:iq "gap")(lW:A0I)(oW:A1_)(tH:Aw6):BCz:=
 ABN (AK iu jy zk8 zei (by
  have nd:=jy.nd;show AL bM;exact(bL (Ž (AAp 3 (own:= At0) (N' := AZv) (by show eV ["self","work","sheet","levels"] _ At0 [0] (aX Zz) AZv;symm_saturate) rfl #[qW (yc7 BA)] #[DG rfl (sK (N9 0 AZv) (N9 1 AZv)),_] #[wN,_] #[Ę dU (ACc Κ) (SJ iI aB OL BA (au Ψ aL)),_]))
   (AIK bK (z87 (pl:=true) rfl rfl rfl rfl jG.1 (jG.2).k rfl mV.1 (mV.2).k (Τ F0 (CI (OC #[SJ jY bI OL (tS bw) (IF (zz6 pF OL rfl (XL (tS bF) Dx (tS bN))))])))
   BHp
   BHp)))) (fun ds Q Ex h=>zlq ⟨(jG.2).k,(mV.2).k,lW,oW,tH⟩ h)) (AF (by show ad;exact rfl))
theorem jZ:F_ ["marks","counts","order"] "marks" "counts" ZC:=AC
theorem zlh(F:Υ "borders" "borders" ZC)(hm:AZ "borders_borders")(gq:AA zkr):BCl:=
 AW (AK iu jZ zmo ze1 (by
  have nd:=jZ.nd;show AL bM;exact(bL (Me 2 (AMF gq))
   (ANy (xK (own:= ["count"]) (N' := ["count","order"]) (by show eV ["marks","counts","order"] _ ["count"] [2] (aX ZC) AyR;symm_saturate) rfl (HG (iQ #[Ho Κ JX (DN (Hf aP))])) #[GN AyR,_] #[wN,_] #[VB (pH ŉ Ψ aP Mo) (LW Κ (Hf Ψ)) RM,_])))) (AN zmk)) hm F.kp (AF (by show Ct;exact rfl))
theorem Bg:Al0 ["some","bounds","lists","bound"] zyg:=AC
theorem ybx(F:Υ "reach" "reach" zyg)(hm:AZ "reach")(mU:AA zr7):BCk:=
 AW (AK iu Bg ygu z14 (by
  have nd:=Bg.nd;show AL bM;exact(bL (iX (Kr (i:=2)) (yz (iQ (yz aP))))
   #[bL #[G7 rfl ũ (IC 3)
   (BE (ASt 2 (pd (ia mU (XL Ψ (yen (i:=2) rfl DV AJY iO) Dx)))))]
   (By AFe)])) (AN yg4)) hm F.kp (AF (by show Ct;exact rfl))
theorem j4:AJu AR_ "reach" Ru:=AC
theorem zlf(F:Υ "__init__" "Barred.__init__" Ru)(BJB):SO fY br 4 f fd AR_ (W5 K c.bW "reach" (T3 c)):=by
 have nd:=j4.nd;refine z5y F rfl j4 gA iJ jh.1 fL rfl AOF (AHx yam) Β (Ab0 ?_)
 show APs "Barred.__init__" Ru
 exact⟨rfl,rfl,C9,zex K c,CI (ybh (own:= ["counts"]) (N' := Afv) (by show eV AR_ _ ["counts"] [] (aX Ru) Afv;symm_saturate) rfl (HG Κ) #[GN Afv,_] #[wN,_] #[V9 (BQ zzq) rfl cj boot_list SY,_]),BGV yap⟩
theorem zlm(F:Ag3 "Barred.__init__" Ru)(M:BFN c.bW)(hm:VM "Barred" c.bW)(BJB):BHt:=
 ⟨f,fd,zlf c F gA iJ je cj jh fL,M.1,M.2,gA,hm,AF (by show Ct;exact rfl)⟩
theorem oX:F_ ["least","marks"] "least" "marks" ZD:=AC
theorem zrd(F:Υ "number_from" "number_from" ZD)(hm:AZ "number_from")(bB:AA NP)(aU:IS):BCh:=
 AW (AK iu oX zui zi0 (by
  have nd:=oX.nd;show AL bM;exact(ABe bK fU (rL (eC (xK (own:= ["mark"]) (N' := ["mark","least"]) (by show eV ["least","marks"] _ ["mark"] [0] (aX ZD) Avu;symm_saturate) rfl (HG Κ) #[GN Avu,_] #[Aq_ (HL bB Ψ Κ),_] #[qv 0,_]))))) (AN ztf)) hm F.kp (AF (by show Ct;exact rfl))
theorem En:xL "marks" "marks" ZF:=AC
theorem yhb(F:Υ "ends" "ends" ZF)(hm:AZ "ends")(lX:BCh)(bZ:AJq)(yg:ID "set"):A9P:=
 AW (AK iu En yjf z7n (by
  have nd:=En.nd;show AL bM;exact(AFL (ACj (yh0 rfl rfl bZ rfl yg (au (eC (Sg (iQ (yz aP)) (eC (xK (own:= ["mark"]) (N' := ["mark","marks"]) (by show eV ["marks"] _ ["mark"] [0] (aX ZF) Avt;symm_saturate) rfl (HG Ψ) #[GN Avt,_] #[wN,_] #[AmJ lX,_])))) aL))))) (AN yk7)) hm F.kp (AF (by show H_;exact rfl))
theorem nQ:Al0 A5f ZG:=AC
theorem zpd(F:Υ "rests_behind" "rests_behind" ZG)(hm:AZ "rests_behind")(je:AA zom)(cj:Ą)(j6:BMQ):A'A:=
 AW (AK iu nQ zq8 zhl (by
  have nd:=nQ.nd;show AL bM;exact(bL (Ž (AAp 2 (own:= ["end"]) (N' := Am6) (by show eV A5f _ ["end"] [0] (aX ZG) Am6;symm_saturate) rfl (ARs zx2 j6 SY) #[GN Am6,_] #[wN,_] #[bJ (BQ Gs) AXY Ψ,_]))
   #[bL (Su 3 je BA (BAQ XT))
   (By #[iQ (Adq (BAQ AhJ))])])) (AN zre)) hm F.kp (AF (by show Ct;exact rfl))
theorem mW:Al0 AtK Ut:=AC
theorem zn0(F:Υ "greatest_cuts" "greatest_cuts" Ut)(hm:AZ "greatest_cuts")(j7:A'A)(ig:AA znh)(iT:AFH)(Jo:ID "max"):A'B:=
 AW (AK iu mW zo5 zgo (by
  have nd:=mW.nd;show AL bM;exact(bL (iX (Kr (i:=2)) (yz aP))
   (C6 (bL (C6 (RZ rfl (ApZ (E3 Κ (HL j7 Ψ Κ))) (AZ3 3 4)
   (C6 (bL (C6 (ydq (i:=5) nd rfl rfl (own:= ["end"]) (N' := AoF) (by show eV AtK _ ["end"] [2,3] (aX Ut) AoF;symm_saturate) rfl (zh (qW (wG Ψ))) #[GN AoF,_] #[Mi (BL (HL ig (LV Gs Ψ AXY) BA)),_] #[qv 0,_]))
   (AIK bK (Ml (i:=2) (BQ Sd) PySem.F.slot_list_append PySem.F.type_list_append rfl DV (C6 (IF (io qg (yk0 rfl) Jo boot_max (au (eC (xK (own:= ["end"]) (N' := AqZ) (by show eV AtK _ ["end"] [0,4] (aX Ut) AqZ;symm_saturate) rfl (HG eh) #[GN AqZ,_] #[Mi (pH (BQ O9) (LV Gs AXY Ψ) BA ń),_] #[qv 0,_])) aL))))))))))
   (By #[iQ (Adq BA)]))))) (AN zpo)) hm F.kp (AF (by show Ct;exact rfl))
theorem Eo:F_ ["marks","bounds","some","lists"] "marks" "bounds" z8t:=AC
theorem yfn(F:Υ "cuts" "cuts" z8t)(hm:AZ "cuts")(iK:BHt)(CW:A9P)(je:AA zom)(jr:A'B)(aU:IS):BDV:=
 AW (AK iu Eo yj9 z7h (by
  have nd:=Eo.nd;show AL bM;exact(bL (Me 2 (AMF CW))
   #[bL (Su 3 je BA Κ)
   #[bL #[qb #[pH (BQ ymw) eJ (LW Dx AJY) ń]
   (BE #[z7k rfl iK OL rfl AhJ])
   D7]
   (By (P4 jr BA Κ))]])) (AN ykx)) hm F.kp (AF (by show Ct;exact rfl))
theorem jz:E6 BIf Afn Ly:=AC
theorem zlb{f:Addr}{cdv:Value}{A:Around}{outer:GA}{s:Shared}{H H1:Hp}{E:XK}{F0:Hp}(c:Cls)(hr:AIk 8 "Sitting.__init__" (aX Ly))(Atd):uQ (fu br P w K mg base BIf "Sitting.__init__" (aX Ly) f cdv A outer s H E) F0 H1 (xq Ly) (zcn K c):=by
 have nd:=jz.nd;show APs "Sitting.__init__" Ly
 exact(bL (AN_ bF AFe)
 #[bL (AN_ bN #[qv 3])
 #[bL (AN_ bw (ie z1u aR (IF (iQ (Aa' zzq (IF (Ad bI aJ GI)))))))
 #[bL (AN_ aO (Aln dY XT))
 #[bL (Au7 bA (ie Ww c7 XT))
 #[bL (Au7 aH #[S5])
 #[bL #[G7 rfl #[iQ #[zzw (fun F0 H0=>(CI (z11 rfl rfl bZ (IF (tS bA)))))]] (IC 6)
 (BE #[yae (i:=0) (j:=6) mh aB aH #[z3p bR aB OL (zh Ψ) (zh (E3 ă (AHe (tS bA) ă)))] rfl DV rfl DV])]
 #[bL (Me 7 #[iQ #[zzw (fun F0 H0=>(CI (z12 rfl rfl cj AV5)))]])
 (BE (AN_ aQ (P4 cu ei (HL qF ei eh))))]]]]]]])
theorem zjs(F:Υ "__init__" "Sitting.__init__" Ly)(Atd):ABt 9 Afn DW (K6 c):=
 aby F jz (Ļ _ h (z8p h)) fun cdv A outer s H E hr F0 H0=>⟨zcn K c,BJA (zlb c hr aR dY c7 bR cu qF),fun a bs t ds Q Ex h=>z58 h⟩
theorem zjr(F:Ag3 "Sitting.__init__" Ly)(M:Mk K c.ao f)(hm:VM "Sitting" c.ao)(Atd):BHV:=
 ⟨AW (BJA (zjs c F aR dY c7 bR cu qF)) M hm (AF (by obtain⟨_,_,_,_,_,_,rfl⟩:=abO hl;exact rfl)),iA z6k⟩
theorem pR:AVA ["_law_script","_law_bounds_here","_law_k","_law_cell_here","_law_least"] zhz:=AC
theorem zt5(F:Υ "_law_bounds" "_law_bounds" zhz)(hm:AZ "_law_bounds")(aN:AA Rh)(cg:ř)(vL:ID "int"):A9y:=
 AW (AK iu pR zwk zkx (by
  have nd:=pR.nd;show AL bM;exact(bL (ANX 1)
   #[bL #[OD rfl rfl cg (pd Aje) (IC 2)
   #[bL (AXk 3 (ADT BA))
   #[bL (Ĩ 4 (bJ (BQ qL) (VA Dx) (io zod yh9 vL boot_int (IF (AKu AjB aP)))))
   (BE (Ax0 1 GI (r8 GI (LW (A't AjB) AjB))))]]]
   (By ũ)])) (AN zu5)) hm F.kp (AF (by show H_;exact rfl))
theorem oY:E6 ["_law_script","_law_rows_here","_law_scale","_law_rule_here","_law_gap","_law_told"] ["_law_script","_law_rows_here","_law_scale"] zgj:=AC
theorem zq1(F:Υ "_law_sitting" "_law_sitting" zgj)(hm:AZ "_law_sitting")(qG:A3h)(eY:BHV)(nD:A9y)(CZ:AVY "Open" c.Open c.Open)(v9:AVY "Barred" c.bW c.bW)(nq:Ajk)(gA:Aep)(tK:Mc m5 c.Open)(oZ:Mc m5 c.bW)(o7:A0J)(lY:A1z)(jt:Aw5):BFi:=
 AW (AK abz oY zt6 zi3 (by
  have nd:=oY.nd;show AL bM;exact(bL #[ylu (Ŝ qG) (DG rfl (Acw 3 4))]
   #[bL (Ĩ 5 RM)
   #[bL #[z87 (pl:=false) rfl rfl rfl rfl CZ.1 nq.cls rfl v9.1 gA.cls (Τ F0 (CI (bK (iX (zz9 (j:=5)) (z4b (ie z7b eY (au Κ (ADk Dx GI BA (Ŝ nD)))) (zh (E3 Dx GI)))))))
   A3n
   A3n]
   #[bL #[qb #[yjk (i:=5) rfl DV]
   (BE (iX (zz9 (j:=5)) (z4b (ie z7b eY (au Κ (ADk Gp AGT BA (iQ #[zy (E3 AGT AGT)])))) (zh (E3 Gp AGT)))))
   D7]
   (BE #[ya1 (i:=5) rfl DV])]]])) (fun ds Q Ex h=>zsx ⟨tK,oZ,o7,lY,jt⟩ h)) hm F.kp (AF (by show ad;exact rfl))
theorem uo:AVB AyQ ZJ:=AC
theorem zzg(F:Υ "levelled" "levelled" ZJ)(hm:AZ "levelled")(dY:AA zf6)(dU:AA Y6):BB':=
 AW (AK iu uo z35 zqg (by
  have nd:=uo.nd;show AL bM;exact(bL (nr (Aln dY SY))
   (ANy (xK (own:= A2U) (N' := APh) (by show eV AyQ _ A2U [1] (aX ZJ) APh;symm_saturate) rfl (HG Ψ) #[DG rfl (qd (N9 0 APh) (sK (N9 1 APh) (N9 2 APh))),_] #[wN,_] #[wC (au Ψ (E3 Κ (HL dU (ACc BA) (AHe Dx Κ)))),_])))) (AN z2r)) hm F.kp (AF (by show H_;exact rfl))
theorem pU:E6 ["_law_rows_here","_law_rule_here","_law_gap","_law_lists","_law_work","_law_hand","_law_one","_law_worths_here"] ["_law_rows_here","_law_rule_here","_law_gap"] zhh:=AC
theorem zug(F:Υ "_law_worths" "_law_worths" zhh)(hm:AZ "_law_worths")(qH:BB')(pF:AA zzy):BDL:=
 AW (AK HD pU zvv zko (by
  have nd:=pU.nd;show AL bM;exact(bL (AZO 3)
   #[bL #[G7 rfl (AMF qH) (BEl 4 5 6)
   (BE #[D8 yka i 3 j 4 l 6 rfl DV rfl DV rfl DV A2l rfl])]
   #[bL (AZO 7)
   #[bL #[ygx 3 #[RZ rfl #[yi7 (qv 3)] (IC 4)
   (BE (BCZ 7 (ie zz6 pF (XL Κ (AHe Dx GI) BA))))]]
   (BE (Alm 7))]]])) (AN zxh)) hm F.kp (AF (by show ad;exact rfl))
theorem jA:AVA ["_law_script","_law_x","_law_y","_law_by","_law_points","_law_k","_law_cell_here","_law_height"] zc4:=AC
theorem zjx(F:Υ "_law_scale_points" "_law_scale_points" zc4)(hm:AZ "_law_scale_points")(aN:AA Rh)(iY:AA zsb)(cg:ř)(pQ:AT8):A3i:=
 AW (AK iu jA zld zd9 (by
  have nd:=jA.nd;show AL bM;exact(bL (Nw 1 Gs AJy aP)
   #[bL (Nw 2 Gs AJy aP)
   #[bL (A_y ACR)
   #[bL (ANX 4)
   #[bL #[OD rfl rfl cg (pd Aje) (IC 5)
   #[bL (AXk 6 (ADT eh))
   #[bL (Su 7 iY BA (ADT AjC))
   #[bL #[qb (AXw (pH ŉ eh aP Mo) (AAH (VA ă) aP))
   (BE (AZk 7 (yen (i:=4) rfl DV (Ki Gs eh) iO) aP))
   D7]
   #[bL (Ax0 4 (HL iY Κ Dx) ei)
   #[bL (Nw 1 rO (Ki rO Κ) AjC)
   (BE (Nw 2 rO (jI aP (Ki rO (io qg ybc pQ boot_abs (au BA aL)))) AjC))]]]]]]
   (By #[qv 4])]]]])) (AN zkq)) hm F.kp (AF (by show H_;exact rfl))
theorem ur:E6 Afd Afd zm0:=AC
theorem zys(F:Υ "_law_kept" "_law_kept" zm0)(hm:AZ "_law_kept")(bB:AA NP):A9a:=
 AW (AK iu ur z2m zjg (by
  have nd:=ur.nd;show AL bM;exact(bL #[qb (AXw (AAH BA Dx) Axq)
   (By Ł)
   D7]
   #[bL #[qb #[Cm (RQ (BL (mI BA Dx)) (RP (Cm (ym4 (BL (mI SV Kt)) (ykg (pH AEo Kt SV Mo))))))]
   (By Ł)
   D7]
   #[bL #[qb (AXw (AAH Kt SV) Axq)
   (By Ł)
   D7]
   (By #[yj3 (yd7 A0u) (RT (Es (BQ abe) Kt SV Mo))])]])) (AN z2e)) hm F.kp (AF (by obtain⟨_,_,_,_,rfl⟩:=Y4 hl;exact rfl))
theorem Jp:AVA BIu Aa:=AC
theorem ymj(hr:AIk 11 "law" (aX Aa))(Ate):uQ (fu br P w K mg base BIu "law" (aX Aa) f cdv A outer s H E) F0 H (xq Aa) (z85 K c):=by
 have nd:=Jp.nd;show APs "law" Aa
 exact(bL (nr (ii gY (XL Ψ Aje AJy)))
 #[bL #[D8 yg9 i 2 j 3 l 4 rfl nd rfl DV rfl DV rfl DV (ie ycg dZ (XL Ψ Κ (z1u aR OL rfl (IF (Ŝ bT)))))]
 #[bL (Me 5 (Aln eZ (XL Κ Dx GI)))
 #[bL (Me 6 #[yfs (yc9 (zh (yak cR aB OL BA)))])
 #[bL #[qb (ABq AKc (rL ă) (Ab3 z4h eh))
 (By Ł)
 D7]
 #[bL #[G7 rfl #[qv 6] (IC 7)
 (BE #[G7 rfl #[qv 6] (IC 8)
 (BE #[qb (AZa (ia gZ (ADk ei m3 (AHe eh (bP ei)) (AHe eh (bP m3)))))
 (By Ł)
 D7])])]
 (By Ł)]]]]])
theorem yes(F:Υ "law" "law" Aa)(Ate):ABt 12 BLb nZ (z17 c):=
 AK iu Jp ym6 z85 (AsF (ymj c hr cR gY dZ eZ aR aN)) (AN yme)
theorem ym7(F:Υ "law" "law" Aa)(hm:AZ "law")(Ate):M' "law" 12 "_law_script" z17:=
 AW (AsF (yes c F cR gY dZ eZ aR aN)) hm F.kp (AF (by show H_;exact rfl))
#where
theorem yjl{l:W.OpenLaw}{w:World}{K:W.Frag}{h:Heap}{mg:B0}{fa:Addr}(O:APm)(X:LO)(G:Ajg)(hfa:VM "law" fa):
 ∃fd:FuncData,(Amg v (BindsTo s fd (GV [v]) [("_law_script",v)]))/\A'w (fY l.prog w K mg base (fB l.prog w) 12 fa fd BLb (nZ K zua)):=by
 show CM B L Prod.mk.inj O;show CM L M Prod.mk.inj L;show Ζ Lb 0;show Ζ Y7 1;show Ζ Bh 2;show Ζ Jq 3;show Ζ Bj 4;show Ζ Fq 5;show Ζ Ld 6;show Ζ Dc 7;show Ζ Dd 8;show Ζ Df 9;show Ζ Dg 10;show Ζ Dh 11;show Ζ Di 12;show Ζ Jr 13;show Ζ Js 14;show Ζ Jt 15;show Ζ Ju 16;show Ζ Jv 17;show Ζ Jw 18;show Ζ aH 19;show Ζ aQ 20;show Ζ aJ 21;show Ζ nu 22;show Ζ lV 23;show Ζ aO 24;show Ζ bw 25;show Ζ bF 26;show Ζ bN 27;show Ζ fL 28;show Ζ bA 29;show Ζ Jx 30;show Ζ Ft 31;show Ζ Fw 32;show Ζ Fy 33;show Ζ FJ 34;show Ζ FN 35;show Ζ FP 36;show Ζ FQ 37;show Ζ Dj 38;show Ζ Bk 39;show Ζ Bl 40;show Ζ Bm 41;show Ζ Bo 42;show Ζ Bp 43;show Ζ Bq 44;show Ζ Br 45;show Ζ wg 46;show Ζ wj 47;show Ζ wu 48;show Ζ a0 49;show Ζ n0 50;show Ζ a1 51;show Ζ n1 52;show Ζ a4 53;show Ζ n4 54;show Ζ a5 55;show Ζ n5 56;show Ζ a15 57;show Ζ n15 58;show Ζ a40 59;show Ζ n40 60;show Ζ a44 61;show Ζ n44 62;show Ζ a45 63;show Ζ n45 64;show Ζ a54 65;show Ζ n54 66;show Ζ a57 67;show Ζ n57 68;show Ζ a63 69;show Ζ n63 70;show Ζ a3 71;show Ζ a55 72;show Ζ Le 73;show Ζ Y8 74;show Ζ Bs 75;show Ζ Ri 76;show Ζ Jy 77;show Ζ Bt 78;show Ζ Y9 79;show Ζ Jz 80;show Ζ Lf 81;show Ζ Za 82;show Ζ Zb 83;show Ζ Zc 84;show Ζ Zd 85;show Ζ Lg 86;show Ζ Ze 87;show Ζ Rj 88;show Ζ Zf 89;show Ζ Zg 90;show Ζ Dl 91;show Ζ Zh 92;show Ζ FT 93;show Ζ FW 94;show Ζ lW 95;show Ζ oW 96;show Ζ tH 97;show Ζ tK 98;show Ζ oZ 99;show Ζ o7 100;show Ζ lY 101;show Ζ jt 102
 let c:Cls:={Apart:=AAr "Apart",wF:=AAr "Few",fM:=AAr "HallError",Open:=AAr "Open",bW:=AAr "Barred",ao:=AAr "Sitting",Scale:=AAr "Scale"}
 have aB:ki:=⟨Dc,Dd,Df,Dg⟩;have bI:ADS:=⟨Jr,Js,Jt,Ju⟩;show APH jG ArI Lb Le;show APH mV Ad5 Y7 Y8;show APH jh BLE Bh Bs;show APH CZ (AVY "Open" c.Open c.Open) Jq Ri;show APH v9 (AVY "Barred" c.bW c.bW) Bj Jy;have nq:Ajk:=⟨Jx,⟨Ft,Fw,Fy,FJ,FN⟩,FP,FQ⟩;have gA:Aep:=⟨Dj,⟨Bk,Bl,Bm,Bo,Bp⟩,Bq,Br⟩;have iJ:Hz K c.fM:=⟨wg,wj,L3.isV_of wu⟩;show US dR "enumerate" Bt;have aU:IS:=AP6 Y9;show US bZ "sorted" Jz;show US cg "range" Lf;show US vL "int" Za;have pQ:AT8:=AP6 Zb;show US Jj "all" Zc;show US iT "zip" Zd;show US rE "tuple" Lg;show US yc "any" Ze;show US cj "list" Rj;show US yg "set" Zf;show US Jm "sum" Zg;have j6:BMQ:=AP6 Dl;show US Jo "max" Zh;have jX:BKI:=Hd.glb_tup X G FT FW AXa
 show A5 l2;show A4 f2 fd2 a2 Lh l2;show A5 l6;show A4 f6 fd6 a6 Bu l6;show A5 l7;show A4 f7 fd7 a7 Dm l7;show A5 l8;show A4 f8 fd8 a8 zf l8;show A5 l9;show A4 f9 fd9 a9 Dp l9;show A5 l10;show A4 f10 ab5 a10 wX l10;show A5 l11;show A4 f11 ab6 a11 FZ l11;show A5 l12;show A4 f12 ab7 a12 Dq l12;show A5 l13;show A4 f13 ab8 a13 JB l13;show A5 l14;show A4 f14 ab9 a14 Dr l14;show A5 l16;show A4 f16 acd a16 Rk l16;show A5 l17;show A4 f17 ace a17 JC l17;show A5 l18;show A4 f18 acf a18 Ga l18;show A5 l19;show A4 f19 acg a19 JD l19;show A5 l20;show A4 f20 ach a20 Gb l20;show A5 l21;show A4 f21 aci a21 Bv l21;show A5 l22;show A4 f22 acj a22 Ge l22;show A5 l23;show A4 f23 acn a23 Gf l23;show A5 l24;show A4 f24 aco a24 Ds l24;show A5 l25;show A4 f25 acp a25 Bw l25;show A5 l26;show A4 f26 acq a26 Zi l26;show A5 l27;show A4 f27 acr a27 JF l27;show A5 l28;show A4 f28 acs a28 wY l28;show A5 l29;show A4 f29 acu a29 Bx l29;show A5 l30;show A4 f30 acv a30 Gg l30;show A5 l31;show A4 f31 acw a31 Rm l31;show A5 l32;show A4 f32 acy a32 Li l32;show A5 l33;show A4 f33 acz a33 Lj l33;show A5 l34;show A4 f34 acA a34 JG l34;show A5 l35;show A4 f35 acB a35 Lk l35;show A5 l36;show A4 f36 acC a36 BJ l36;show A5 l37;show A4 f37 acD a37 JH l37;show A5 l38;show A4 f38 acE a38 tL l38;show A5 l39;show A4 f39 acF a39 Dt l39;show A5 l41;show A4 f41 acG a41 Ln l41;show A5 l42;show A4 f42 acH a42 Rn l42;show A5 l43;show A4 f43 acI a43 Gh l43;show A5 l46;show A4 f46 acJ a46 Ro l46;show A5 l47;show A4 f47 acK a47 wz l47;show A5 l48;show A4 f48 acL a48 Lq l48;show A5 l49;show A4 f49 acM a49 Gi l49;show A5 l50;show A4 f50 acN a50 Rp l50;show A5 l51;show A4 f51 acO a51 JK l51;show A5 l52;show A4 f52 acP a52 JL l52;show A5 l56;show A4 f56 acQ a56 Lr l56;show A5 l58;show A4 f58 acR a58 wZ l58;show A5 l59;show A4 f59 acS a59 Rq l59;show A5 l60;show A4 f60 acT a60 wA l60;show A5 l61;show A4 f61 acU a61 uN l61;show A5 l62;show A4 f62 acV a62 Rr l62;show A5 l64;show A4 f64 acW a64 zj l64;show A5 l65;show A4 f65 acX a65 w6 l65;show A5 l66;show A4 f66 acY a66 Du l66;show A5 l67;show A4 f67 acZ a67 zm l67;show A5 l68;show A4 f68 ac0 a68 qI l68;show A5 l69;show A4 f69 ac1 a69 Dv l69;show A5 l70;show A4 f70 abP a70 NQ l70;show Po l0;show Rl fd0 jB l0;show Po l1;show Rl fd1 o8 l1;show Po l3;show Rl fd3 uO l3;show Po l4;show Rl fd4 nR l4;show Po l5;show Rl fd5 nU l5;show Po l15;show Rl ac2 tM l15;show Po l40;show Rl ac3 uP l40;show Po l44;show Rl ac4 o9 l44;show Po l45;show Rl ac5 lH l45;show Po l53;obtain⟨f53,_,_,_,_,_,a53,Ls,abQ⟩:=Hd.funM_at l53;show Po l54;show Rl ac6 j8 l54;show Po l55;show Rl ac7 rM l55;show Po l57;show Rl ac8 rN l57;show Po l63;show Rl ac9 qJ l63;have e:=hfa.symm.trans (Md a70);cases e;show DD abP (Hd.start_binds NQ (fun _ _ _ _ _ _ _=>rfl)) (Ν base kb nb);have gO:=pj zix c jB (ļ a0 n0 jB.kp) aB aH;have eU:=pj zqr c o8 (ļ a1 n1 o8.kp) gO aB aH;show AHW bB yb9 Lh a2;show ABM jo znz uO (AQI a3) bB dR aU;have jq:=pj znt c nR (ļ a4 n4 nR.kp) jo eU aB aQ;have cR:=pj znr c nU (ļ a5 n5 nU.kp) eU jq bZ aB aH;show pf lE zvz Bu a6 cg vL;show IB aN zzj Dm a7 aU;show AHW m9 zur zf a8;have gY:=LY zyu c Dp (Md a9) lE aN m9 cg aU;show IB lU zq3 wX a10 pQ;show IB iY z3q FZ a11 lU;show pf qG zzb Dq a12 aN iY;show IB vN z91 JB a13 bB;show pS jU zy6 Dr a14 vN Jj aU iT;have aR:=pj zl5 c tM ⟨Jv,AIe a15,n15,Jw⟩ (AUI Ld) jU rE bI aJ;show IB yQ yfu Rk a16 yc;show pS vP z5w JC a17 yQ cj bZ yg;show AHW c7 z3x Ga a18;show pS vZ z6z JD a19 vP c7 bZ cj;show IB jK z2n Gb a20 pQ;show IB oR zvi Bv a21 jK;show IB sZ z22 Ge a22 iT;show pf tu z3h Gf a23 sZ dR;show IB bx zyc Ds a24 jK;show IB oO zwp Bw a25 cj;show ABM Jl ylg Zi a26 oO cg aU;have vW:=LY z4e c JF (Md a27) oR tu bx Jl cg aU iT dR;show AHW bV zrh wY a28;show AHW ig zvf Bx a29;show pf mU z37 Gg a30 ig yc;show IB nj yg7 Rm a31 bx;show pf jF ych Li a32 mU nj;show pS yR ydc Lj a33 bV jF nj aU;show IB vX z5o JG a34 yR;show IB dU yb2 Lk a35 bx;show ABM oV zwl BJ a36 bx Jm aU;show pS vY z88 JH a37 jF dU oV bV
 have iZ:=LY zmv c tL (Md a38) vW vX vY bV aU;have dY:=LY zxy c Dt (Md a39) vZ iZ c7 cj iT;have gV:=LY zn3 c uP ⟨AIe a40,n40⟩ (AUI Jq) nq nu lV;show IB zc ycb Ln a41 bx;show IB tD ygh Rn a42 bx;show pS tE z2v Gh a43 zc nj dU tD;have jY:=pj zph c o9 (ļ a44 n44 o9.kp) bB tE iT bI aJ;have iI:=pj zj5 c lH (ļ a45 n45 lH.kp) aB aO;show ABM nC ygg Ro a46 tD jF aU;show AHW dh zoq wz a47;show IB nA ydo Lq a48 dU;show pS tG z33 Gi a49 bB nA cg aU;have qC:=LY yik c Rp (Md a50) tG bB nA aU jG;show IB jW z8u JK a51 aU;show pf gq z7o JL a52 bB aU;have pF:=LY yc0 c Ls abQ (Md a53) nC dh qC jW gq aU mV jX;have bR:=pj zj1 c j8 (ļ a54 n54 j8.kp) gV jY dU iI pF jG mV bI aB bw bF bN lW oW tH;show IB cu zlh rM (AQI a55) gq;show IB je ybx Lr a56 mU;have iK:=LY zlm c rN ⟨AIe a57,n57⟩ (AUI Bj) gA iJ je cj jh fL;show pf lX zrd wZ a58 bB aU;show ABM CW yhb Rq a59 lX bZ yg;show ABM j7 zpd wA a60 je cj j6;show pS jr zn0 uN a61 j7 ig iT Jo;have qF:=LY yfn c Rr (Md a62) iK CW je jr aU;have eY:=pj zjr c qJ ⟨Dh,AIe a63,n63,Di⟩ (AUI Fq) aR dY c7 bR cu qF bZ cj aB bI bF bN bw aO bA aH aQ aJ;show ABM nD zt5 zj a64 aN cg vL;have dZ:=LY zq1 c w6 (Md a65) qG eY nD CZ v9 nq gA tK oZ o7 lY jt;show pf qH zzg Du a66 dY dU;show pf eZ zug zm a67 qH pF;show pS bT zjx qI a68 aN iY cg pQ;show IB gZ zys Dv a69 bB;exact AsF (LY yes c NQ cR gY dZ eZ aR aN)
theorem hd_wit:lw.row.toRowW.promised:=by w_witness2
theorem hd_w:W.WalkO vw loose BMI (fun w h=>∃K:W.Frag,LO/\APm) lw.row.toRowW (Hd.recOf Aa) [] (fun f vs=>Ae'):=
 P5 Hd.walk_ex n 63 k 12 x "_law_script" CX (EA (fB lw.prog w)) (sp:=fun K=>nZ K zua) (Fx:=fun w K=>APm) rfl Β hd_z ⟨rfl,AS,AS⟩ (Aiv) (fun w K mg fa h O X G hm=>yjl O X G (hd_n ▸ hm)) (fun K H a ns hl hO hS=>z46 hl hS) (Ala z (ybq z))
#print Lw
end
theorem PySem.Challenge.cw_hall_k93_whole_order_kept_holds : PySem.Challenge.rw_hall_k93_whole_order_kept.Holds :=
 Hd.holds Lw.hd_said (Hd.left Lw.hd_e Lw.hd_f Lw.hd_A Lw.hd_B Lw.hd_C Lw.hd_D) Lw.hd_d Lw.hd_p Lw.hd_k Lw.hd_ok Lw.hd_bare Lw.hd_wit rfl Lw.hd_w
