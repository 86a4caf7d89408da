import PyProof.Rows.All
import Wide.All
import OpenK.AllK
import Wide.FinOn
import Lean
import PyProof.EqAt
import PyProof.EqKinds
import PyProof.TupleCall
import PyProof.NeKinds
import PySem.Challenge.RW_hall_k92_whole_mean_is_even
set_option Elab.async false
set_option linter.all false
set_option maxRecDepth 100000
set_option maxHeartbeats 4000000
set_option compiler.extract_closed false
local macro_rules|`(tactic|omega)=>`(tactic|first|lia|omega (splitDisjunctions:=true))
open Lean in
local macro_rules|`(command|mutual $cs* end)=>do
 let cs:=cs.map fun c=>c.raw
 unless cs[0]!.isOfKind ``Parser.Command.where do Macro.throwUnsupported
 let ps:Array Name:=#[`ε,`ζ,`η,`θ,`ι,`ν]
 let ap:= ``Parser.Term.app
 let un:=fun(s:Syntax)=>if s.isOfKind `par then s[0] else s
 let more:=fun(f:Syntax)(as:Array Syntax)=>if as.isEmpty then f else if f.isOfKind ap then .node .none ap #[f[0],mkNullNode (f[1].getArgs++as)] else .node .none ap #[f,mkNullNode as]
 let put:=fun(b:Syntax)(as:Array Syntax)=>b.rewriteBottomUp fun s=>match s with
  |.ident _ _ n _=>match ps.idxOf? n with
   |some i=>.node .none `par #[as.getD i s]
   |none=>s
  |.node i k l=>
   if k==ap&&s[0].isOfKind `par then
    let f:=s[0][0]
    more (if f.isOfKind ``Parser.Term.paren then f[1] else f) (s[1].getArgs.map un)
   else .node i k (l.map un)
  |s=>s
 let ex:=fun(tb:Std.HashMap Name (Nat×Syntax))(c:Syntax)=>c.rewriteBottomUp fun s=>
  let spl:=fun(l:Array Syntax)(k:SyntaxNodeKind)=>if l.any (·.isOfKind `spl) then l.flatMap fun x=>if x.isOfKind `spl then if k==nullKind then x.getArgs else #[x[0]] else #[x] else l
  match s with
  |.ident _ _ n _=>match tb[n]? with
   |some (0,b)=>b
   |_=>s
  |.node i k l=>
   if k==ap then match s[0] with
    |.ident _ _ n _=>match tb[n]? with
     |some (m,b)=>let as:=s[1].getArgs;more (put b (as.extract 0 m)) (as.extract m as.size)
     |_=>s
    |f=>if f.isOfKind ap then more f s[1].getArgs else s
   else if k== ``Parser.Tactic.show&&s[1].isOfKind ``Parser.Term.byTactic then .node .none `spl s[1][1][0][0].getArgs
   else if k== ``Parser.Term.explicitBinder&&s[2].getNumArgs==0 then
    let as:=s[1].getArgs
    match s[1][0] with
    |.ident _ _ n _=>match tb[n]? with
     |some (_,b)=>.node .none `spl (put b (as.extract 1 as.size))[1].getArgs
     |_=>s
    |b=>if b.isOfKind ``Parser.Term.forall then .node .none `spl b[1].getArgs else s
   else if k== ``Parser.Term.paren&&s[1].isOfKind ``Parser.Term.typeAscription then s[1]
   else .node i k (spl l k)
  |s=>s
 let mut tb:Std.HashMap Name (Nat×Syntax):={}
 for a in cs[1]![1][3][0][0][0].getArgs do
  let b:=ex tb a[3]
  let b:=if b.isOfKind ``Parser.Term.paren&&b[1].isOfKind ``Parser.Term.byTactic then b[1] else b
  let mut n:=0
  for x in b.topDown do
   if ps.contains x.getId then n:=n+1
  tb:=tb.insert a[1][0][0].getId (n,b)
 let nc:=fun(c:Syntax)=>c.rewriteBottomUp fun d=>if d.isOfKind ``Parser.Command.declaration&&(d[1].isOfKind ``Parser.Command.definition||d[1].isOfKind ``Parser.Command.abbrev)&&d[1][1][0].getId != `lw then d.setArg 0 (d[0].setArg 4 (mkNullNode #[.node .none ``Parser.Command.noncomputable #[mkAtom "noncomputable"]])) else d
 let mut o:=#[]
 for c in cs.extract 2 cs.size do
  if c.isOfKind ``Parser.Command.print then o:=o.push (<-`(command|end $(⟨c[1]⟩):ident)).raw
  else if c.isOfKind ``Parser.Command.where then o:=o.push (<-`(command|end)).raw
  else o:=o.push (nc (ex tb c))
 return mkNullNode o
mutual
#where
def q
|ρ=>ε =some ζ|AA=>.ref ε|AG=>fun ε=>ζ|AF=>(ε:Int)|B5=>.int ε|ξ=>(by omega)|BG=>ε ->ζ ->Prop|Α=>(ε:Rat)|χ=>(by decide)|DA=>ρ ε[ζ]? η|ο=>List Str|MR=>ε P w K mg|ψ=>fun ε ζ η=> ?_|DM=>ε X F0 H0 ζ η|A2=>ε=true|GG=>ρ (ε b) ζ|ω=>decide (ε)|Β=>List D|At=>AG _ ε|BV=>.lst ε|τ=>by omega|KB=>Inv X pins σ ε ζ|π=>∀(K:W.Frag)(c:Cls),_|CS=>DA ε i ζ|Eg=>Option ε|Τ=>r.2.1|e_=>List (ε×ζ)|Χ=>.none|υ=>.no|VA=>ε ζ (aj η aq)|ZH=>cC (B5 ε)|AH=>(ε ζ).map|Db=>ε ->Prop|C4=>fun _=>ε|EO=>(by trivial)|AE=>by rw[ε];exact ζ|Θ=>(cV 0)|BN=>ρ (ε a) ζ|Υ=>ε<=sizeLine|Δ=>List V|De=>(ε:Nat)|AM=>fun ε ζ=> ?_|A4=>.pu (B5 ε)|fA=>KB H ε|Ν=>r.1|Ψ=>(qv 0)|AZ=>if_pos ε|Ω=>if_neg ε|Ξ=>fun z=>ε|BO=>some ε|Ο=>ε ->ζ ->η ->θ ->ι|ED=>.Name ε ζ|Μ=>(by simp)|B_=>ρ (ε x) ζ|Ε=>(cV 1)|Η=>fA s|AC=>if ε then ζ else η|IT=>ε z E cx|E8=>fun _ ε=>ζ|Ι=>(qv 1)|DB=>by refine⟨ε,ζ,η⟩|Cn=>by obtain⟨ε,ζ⟩:=η θ|AR=>.ref a|Ζ=>List Value|EQ=>(AA f)|B6=>by refine⟨ε,ζ⟩|DO=>cB ε ζ (ZH η)|MS=>ε K F0 H0 ζ|BH=>by simpa using ε|VC=>ε Γ (fun ζ Γ1=>η) E|Ũ=>{cls:= ε,data:= ζ}|Ev=>VA aj ε ζ|HC=>aD ε (aD ζ aQ)|ZI=>(hr.mono χ)|A_=>by unfold ε at h|Ρ=>.non|AI=>List α|CU=>z9 (m:=ε)|B'=>DM QE ε ζ|mS=>BG ε (Db ζ)|BY=>⟨_,ε,ζ⟩|AU=>by obtain⟨ε,ζ,η⟩:=θ ι|AK=>p.1|Do=>by exact ε|HE=>.str ε|AS=>MR ε base c|ER=>GG ε o|D5=>ε _ _ _ _|AB=>by decide|E1=>(model prog w)|AZs=>W.nsIn K mainGlobals ε|Co=>MR eE base ε ζ η (θ c)|KE=>AH List.range ε|SZ=>C4 Ex|ANi=>ε X.prog X.w|Hk=>ε=false|By=>ε ζ=true|PD=>fun ε H Q=>ζ|MT=>(match ε with | ζ=>η | _=>False)|AL=>List Nat|Φ=>List Int|ZN=>Same F ε|Κ=>by have ε:=Hd.ix B ζ rfl|GH=>Nat ->ε|Bz=>show ε from ζ|AN=>by simpa using ε|C5=>.inl ε|AGY=>Ũ (.type ε) (.ζ η)|ZO=>dg (At ε) ζ η|BA=>List Rw|BE=>(ε ζ).length|D6=>(e::es)|AV=>by rw[if_neg ε]|BF=>eval ε X.env|ZT=>ε σ H fun ζ H1=>η|PF=>by decide+kernel|C6=>⟨_,ε⟩|mT=>fun Γ P E=>ε|FS=>ε pins s σ H|A6=>mg ε =none|CL=>#[cX ε]|FU=>fun _ _ ε=>ζ|fE=>(E8 _ rfl)|AW=>List Rat|LP=>Eg Value|fF=>MS SR ε ζ σ η|HG=>ao K F ε ζ|B7=>hName ε|Ap=>by rw[ε] at this|GI=>ε K c (fin Q) ζ SZ|ZU=>ε rows w|ma=>.Call ε ζ [] η|AGZ=>fun _ _ _ ε=>ζ|AD=>List Expr|BQ=>i+1|LS=>ε b=none|md=>fun b ε e=>ζ|ZY=>(ANi model)|AJ=>gA K ε ζ η f fd|ZZ=>{ε with heap:=ζ}|ANj=>wpAny _ _ ε _|me=>Hd.adr (AZs ε)|EE=>by unfold Rep|A0=>by simp [ε]|E9=>r.2.2|EF=>by refine z9 (ε ζ)|Na=>fV ε ζ fE|mh=>ds.length=ε|KF=>.type ε|AO=>List Addr|BB=>by show DB ε ζ ?_|CA=>.inr ε|KG=>upd H ε ζ|AGa=>wpAny ε A ζ Q E s|Sb=>AGZ h (ε h)|Sc=>mT (VC ε ζ η)|E2=>aC ε ζ (bI η)|ES=>⟨F,Γ,_,R,h,ε⟩|DC=>by refine⟨ε,ζ,η,θ⟩|Be=>List Key|wy=>e_ ε V|fI=>PD σ ε|mi=>Nat ->ε ->ζ|A3=>zZ (α:=_)|mo=>#[ε (i:=ζ) nd rfl EO η]|KI=>.builtin ε|CB=>(AA a)|E_=>BN H ε|mr=>List (List ε)|DD=>fun ds P _=>ε|Hm=>⟨ε,ζ,η,rfl,θ⟩|An=>by simp|AQ=>by nofun|FA=>.tup ε|A7=>by rw[<- ε];exact ζ|LT=>GG ε u|Au=>(cV 2)|CY=>AF (De ε)|CD=>Str ->LP|AT=>∀{c:Cls}{ds P E}(h:ε c ds P E),_|B8=>.int i|B1=>Hk (ε==(ζ :Str))|PH=>ZZ s ε|GL=>if ε= ζ then η else θ|PM=>BG ε Hp|Cb=>P ε Γ1|AX=>∀{K:W.Frag}{c:Cls}{ds Q Ex}(h:ε c ds Q Ex),_|AY=>⟨ε K c,ζ,fun ds Q Ex h=>η h⟩|GM=>(.dK kvs)|fN=>fF ε ζ Γ
|Bi=>ε (X:=X.wsh z)|CF=>List Row|IU=>.pu (HE ε)|Zl=>CS ε x|As=>by have hu:=ε hr|E3=>(AA C)|Ct=>ε ζ X.env= η|DU=>by rw[if_pos ε]|HH=>ψ b ε ζ|B2=>(i+1)|Hn=>GI ε (aH ζ ds)|Zp=>by obtain⟨ε,rfl⟩:=ζ|E4=>fun _ ε=>ζ|D7=>⟨ε,[]⟩|A1=>∀(_:Cls),_|Zs=>ε X.K F0 H0 ζ|mt=>W.mg_of X G ε|ET=>fun i=>ε|Bn=>by obtain⟨ε,ζ,rfl,η,θ⟩:=ι|DE=>Α (AF ε)|HI=>Q (AA ε) ζ|PP=>Na ε aZ|Nc=>(gD P w)|FV=>mo jo ε ζ|BAO=>ε (P:=ζ) (w:=w) (base:=base)|B3=>by exact .inl ε|ũ=>BAO ε l.prog|B4=>AE ε ζ|FX=>by simp [ε]|ANk=>AA (me ε)|A9=>(qv 2)|A5=>ρ (mg ε) EQ|DF=>fun w=>ε|VI=>(by rcases zR.mp ε with ζ | η)|A8=>_::_|AZt=>⟨f,fd,ε,hm,F.kp,F.binds ζ⟩|EG=>⟨ε,ζ,rfl,η,θ⟩|KK=>ε=none|w4=>by obtain⟨F,Γ,ε,R,h,k⟩:=ζ;exact η|Nd=>#[iC ε]|CH=>i<n|AGb=>mi Nat ε|fR=>ε X.prog X.w ζ η|BS=>.pu (bh rows)|CM=>by obtain⟨ε,ζ,η⟩:=θ ι ν|GN=>.ref C|Nl=>Α F|C1=>(zL _)|BC=>by obtain⟨ε,ζ,η,θ⟩:=Hd.fun_at ι|DV=>aA ε (AG ζ η)=θ|BD=>by show Cn ε L Hd.seen_cons L|C3=>fun j=>ε|DZ=>fun h=>ε|Z3=>ρ (ε ζ) o|FB=>by show ANj ε _ _|B9=>.nil|BI=>by cases h|PQ=>ψ ε s1 ζ|Se=>fI (ZT ε ζ η)|H_=>aD ε aQ|BM=>AZt (jA F ε (Sb ζ) η) θ|Da=>if A2 ε then ζ else η|Sf=>ε a=none|IY=>∀b,ε ->ζ|FC=>starEach ε X.env|mv=>ZU kW|FD=>(false,ε)::ζ|w8=>{ε with heap:=ζ,toks:=η}|Ū=>BG Hp VK|IA=>e_ α (β×Int)|VM=>List.getElem?_eq_getElem ε|MU=>by unfold ε at h⊢|FE=>(ε ζ η).trans|ū=>.Attribute ε ζ η|CI=>by show B6 ε ?_|Z_=>fun b o ε ζ=> η|EH=>fun b hb=>ε|C7=>A2 X.calm|mw=>ε rows w|BU=>AZ rfl|CO=>C6 rfl|HK=>md o ε|DS=>∀r∈rows,ε|C8=>HG ds vs|DH=>fN F H|IB=>⟨ε,ζ,rfl,η⟩|FY=>⟨rfl,ε⟩|DI=>by exact .inr ε|Cc=>AF k|Fc=>(k+1)|AGc=>e_ Str ε|Ff=>AGa E1 ε|Z'=>fK ε ZI rfl ζ|aE=>Υ (De ε)|D8=>KE n|Dx=>ZN F'|AGd=>ma ε ζ pos|w9=>.frz o ε|GS=>ε (fun ζ=>η)|D1=>Str ->Rat|IZ=>by exact False.elim ε|MV=>∀b∈ε,ζ|CC=>α ->Rat|LU=>by show Zp t ε|KL=>ρ (H ε) ζ|Si=>ε ζ=false|DJ=>BG ε Shared|my=>DM ε ζ t|Sj=>(s1.heap.objs.size+1)|PR=>w8 s ε ζ|EU=>by rw[List.length_map]|Nn=>ε .leaf|Cf=>(IT ha)|LV=>MT ds ε ζ|KM=>Sz 4000 ε|ANl=>mS D D|D9=>∀{K:W.Frag},_|LW=>zX _ rfl|VO=>#[ε ζ ZI rfl η]|No=>⟨o,ε,ζ⟩|FF=>by rw[ε,ζ]|EV=>CL (Nd ε)|m3=>Sc ε d ζ|GT=>E2 ε [ζ,η] θ|D3=>Array Value|Fh=>by show DC ε ζ η ?_|aI=>fun ε σ H ζ=>η|EI=>fun σ H Q ε=>ζ|aS=>FS ε _ I h|Ch=>ũ ε c ζ (mt η) θ|Cl=>by obtain⟨_,_,rfl⟩:=len2 hl;exact rfl|BAQ=>show(ε:ο).Nodup by show PF|DT=>by cases this|Fk=>DA ε j ζ|KO=>DM QS ε ζ|MW=>(a::bs)|Sk=>MT d ε ζ|m4=>ū ε ζ apos|Sl=>gG Γ σ b|FG=>∀{ε :ζ},η ->θ|GU=>List Bd|D_=>if_neg (ε)|Sm=>H ε=none|GV=>by rw[ε];rfl|fS=>Rep K F ε ζ|Nw=>upd H1 ε ζ|aT=>(bO _)|C9=>mh 2|EW=>Uq rows|MX=>(by show EE;rfl)|m_=>fun D Γ E=>ε|fT=>eval ε X.env|C_=>D ->ANl|w_=>(ks.zip vs)|nB=>wpAny ZY X.A ε ζ X.xe s|IC=>if ε then ζ else 0|DL=>by split at h|VQ=>VA ig ε ζ|ID=>(zT.mp ε).1|LX=>PH h'|FH=>Z' ε (HC ζ η)|Sn=>ε (X:=X.wsh z) (ζ:=η)|E5=>AF n|Fm=>X.mg ε=none|aa=>A2 (ε==ζ)|MY=>(BV vs)|Ic=>Eg Int|LY=>(ZH 1)|MZ=>.lst (ε ζ)|VS=>W.findIn K ε ζ|xA=>B_ ε c|xB=>KG ε (BV ζ)|fb=>DO cM ε 1|Ŭ=>(ANk "Sitting")|D'=>by obtain⟨ε,ζ,η⟩:=h|FI=>.ref l|IE=>(n+1)|Id=>.lst xs|PU=>ZO ε ζ aZ|Iq=>dt rs ε|PV=>aN K c.ak ε|AGe=>my QA ε
|BAS=>gQ ε P w K mg base N qual|EJ=>⟨ε,?_⟩|N0=>by obtain rfl:=ε|EK=>List Pt|EA=>(cV 3)|PY=>MR gq|Fr=>by have:=ε;omega|So=>∀b∈ε,ζ|Fs=>by show A_ TR|Is=>BY ε rfl|Mb=>AGY ε fields ζ|IF=>by show EF ε ?_|HL=>(ED x npos)|D4=>a::l|PZ=>AGb Int|FK=>aB (ε c) (Ev ζ η)|KP=>ε (own:= ζ) (N' := η)|Mc=>ε σ H1 fun ζ H2=>η|BAV=>(backTo ε (starEach ζ X.env)).η|ŭ=>blk X sc N' ε|IG=>fun r=>ε|Ix=>⟨ε,rfl,ζ⟩|Iy=>fun ε ζ η θ=> ?_|GW=>by rename_i q|AGf=>(s.heap.push ε).ζ|EB=>by exact h.elim|LZ=>s1.heap.objs.size+1|EL=>(cV 4)|VT=>Zs SR ε ζ σ η|E6=>AZ q|Lc=>ε _ _ _|GY=>P (.bl ε)|Fu=>D5 k.nx|N1=>x Τ|VU=>zY _ e|HP=>mr Str|EC=>by intro pins s σ H Q I h|N2=>by show VI ε rfl ζ|xC=>Vals ε us|ANm=>(dD rows w).ε|IH=>fY ε _ ζ η (bI θ) ι|EM=>∀{K:W.Frag}{F:Hp},_|F6=>(-1)|ANn=>DecidableEq ε|Ll=>.free|ANo=>by obtain⟨_,rfl⟩:=ε|F7=>by grind|EX=>List Env|HQ=>fun ε ζ=> ?_|EN=>(qv 3)|nE=>(BV [])|KS=>CS Γ ε|Md=>BY rfl ε|Lm=>by exact absurd ε ζ|N3=>(by rcases zQ.mp ε with ζ | η)|F8=>LS H|FL=>Hm ε _ ζ η|Sr=>Zl X.N|KU=>by unfold Rep at r|nI=>Se ε x ζ|Su=>by show MU Rep|KW=>by refine z9 (ε ζ η ?_)|fc=>fun b ε hb ζ=>η|AZu=>k _ _ F H|II=>by show bR _ ε _|Kb=>.inr|EZ=>by by_cases q:ε|Gc=>List T|N4=>ρ ε u|Ee=>.pu S|IJ=>AF 0|I_=>cB cM ε ζ|HR=>P (B5 ε)|Ki=>by obtain⟨ε,ζ,η,θ⟩:=id ι|fe=>(X.wsh z)|AGg=>.bool false|AGh=>fun ds P=>ε|F9=>⟨ε,ζ,rfl⟩|N9=>fun i ε=>ζ|IL=>fun ε s' =>ζ|Kj=>ε (i:=ζ) (η:=θ)|N_=>s.2.1|Pc=>GG H ε|VW=>(.dK w_)|IM=>md u ε|nK=>.tr (a::ε) ζ|AGi=>ε (Do (ζ (Do η)))|Lo=>PM St|nL=>.ins C dx ε|Ů=>ε+1<cLine|Kk=>mS Β Β|OA=>(ε b hb).1|IN=>fS d v|ff=>Si (BAV ε ζ any) (·.1)|E7=>by obtain⟨_,_,rfl,_⟩:=h;rfl|nN=>⟨ε,g,d,ζ,os⟩|AGj=>BAS Nc (bI st) f cdv A|Kt=>by unfold Rep at ε|ů=>["self",ε]|IO=>List β|Lu=>(by show PF)|F_=>by unfold ε;exact ζ|Lv=>by rw[ε ζ];exact η|L4=>.type "list"|OB=>BN h.get? ε|IP=>by by_cases e:ε=ζ|xD=>B' e ε|Kx=>.bl _|Pe=>(C5 rfl)|Pf=>by rw[q] at e|nX=>ρ (mg ε) (AA ζ)|xE=>DO cM ε 0|ANp=>ε=pure false|FM=>x::xs|FR=>HH u e|S4=>m_ (VC ε ζ η)|Go=>(.refl _)|fg=>by show ANj ε _ s|Pi=>ε pins s1 σ H1|fh=>ε ζ pins s σ|VX=>AZu (Gr.refl sF) ε ζ|S_=>kv.1|AGk=>ε=vs.length|GA=>#[uO]|JA=>AG j ε|G0=>(qv 4)|TC=>absurd ε (ζ η)|GB=>zL _|G1=>Nat.zero_le _|HU=>β ->Rat|OC=>fun b ε q=>ζ|JE=>ZN H|GE=>∀(c:Cls),_|ft=>∀b o,ε ->ζ|Pl=>by show FB (ε>>=_)|fw=>by have:=ε;rwa [ζ] at this|K0=>w4 P ε (ES ζ)|ac=>AGY "tuple" seq ε|ANq=>ρ (W.findIn K ε ζ) (BO η)|Ű=>m3 te ε|G_=>∀{α:Type},_|L5=>aj ε aq|AZv=>by unfold ao ao Rep at ε|Me=>(ws.map (kW rows))|TD=>fM Γ σ H b|Po=>gJ (i:=0) (BAQ ε) rfl EO|fz=>by obtain⟨ε,ζ,rfl,η,θ,ι⟩:=ν|L6=>∀p∈ε,ζ|K2=>fun ε _=>ζ|OE=>.pu (BV ε)|K_=>AF i|Mm=>Db Β|JI=>Ω q|TH=>rows[i]|Mn=>fun Γ P _=>ε|JJ=>D5 k|VY=>ZO pG ε ζ|xF=>ma ε ζ cpos|G'=>zF e|ű=>Rep K F' ε ζ|VZ=>(PP Ψ)|nc=>sE X.K ε|Pp=>cJ ε (PQ ζ η)|OF=>∀{rows:BA},_|TK=>VO fK ε (HC ζ η)|HA=>∀(te:aX),_|ad=>fun D σ H=>ε|ae=>[a,b]|AGl=>ω (By Hd.isRef ε)|ng=>[(0,60)]|BAW=>#[.ref ε,Χ,Χ,Χ,AGg,Χ]|nk=>.cell|Ps=>(ε).length|V_=>(ε).natAbs|K'=>by obtain⟨ε,e⟩:=ζ|Mo=>show ε=ζ from η|nv=>⟨ε,rfl⟩|L7=>by obtain⟨ε,ζ,η,θ⟩:=h|xI=>.fields ε|My=>A2 (ε&&ζ)
|ANr=>ω (ε K ζ=true)|f7=>(BV xs)|V'=>CS Γ1 ε|L8=>C4 False|HV=>(IT hb)|HZ=>.str _|M3=>CU (ε _)|M_=>ER s.heap.get?|WA=>GH Nat|M'=>wy Key|L9=>(FA xs)|Hb=>mS Β D|ny=>ε (t' :=s.toks)|OG=>(mw dD)|TL=>(w9 GM)|WB=>ε I.hok e|Pw=>∀x∈ε,x∈ζ|LA=>lu fun ε _=>ζ|JO=>aA l f|Hc=>aI ε ζ (w4 D2 η (ES θ))|NA=>by refine CU ε (ζ ?_)|IQ=>by rw[ε] at ζ;cases η|xL=>xB l ε|n5=>by by_cases hb:b=ε|WC=>D.nx σ ε|af=>fun ε ζ P hp=> η|He=>AM b hb|Ų=>cY s x|xN=>.tr as (.ε ζ η)|TM=>Gl X x|xS=>envOfC ε ζ s.heap.objs.size f|OH=>by obtain⟨v,ε,ζ⟩:=η|WE=>ε<sizeLine|ų=>(ε ζ).objs.size|WF=>(ε ζ).toArray|L_=>.ref p|TN=>Α E9|IR=>.int _|f_=>by rw[ε,ζ];rfl|JP=>Eg Addr|Ŵ=>Apart σ ε ζ|LE=>(IT he)|LG=>by show A_ ao|LH=>mr α|f'=>h∈s|WG=>Zl xs|TU=>ET (ε i ζ)|NB=>KK A.handled|n9=>fR bN ε ζ|L'=>by refine z9 (ε ζ ?_)|LJ=>dI (lY e ε)|AZw=>ε=Value.ref a|OI=>(zY _ e)|gE=>AGh (LV [ε] ζ)|JS=>(by rcases ε with z | z)|JU=>RelV v u|ANs=>AG ε (hb (FX ζ))|WH=>∃r∈rows,ε|IS=>Sc t ds ε|JY=>RelV y u|BAY=>Ctx (X.wsh z) F0 H0 E|P1=>[AR]|Jn=>fun ε=> ?_|LL=>by unfold ε at e|n_=>Ne.symm ε|xc=>s1.trans ε|oB=>AG r ε|gI=>.int j|xh=>KB H' ε|gL=>by show ε;omega|oC=>.inl (C5 ε)|gN=>Γ.set i ε|ŵ=>.pu (qD ε)|P3=>ε fun ζ=> .int η|NC=>fun i hi=>ε|J_=>by refine z9 ?_|MA=>DD (∃(ε:ζ) (η:θ),ι)|oP=>.refl _|oQ=>(PP Ι)|ah=>.int ε 0|TZ=>MV fp ε|Ŷ=>nB ε (ζ X pins σ Q)|xi=>xA X.env.cells.lookup|J'=>e _ _ ?_|ai=>Z_ e n ε|xj=>h0∈mv|WI=>seqObj "list" ε ζ|OK=>fun x y H Q=>ε|ANt=>Sn ε i i|al=>k ε Γ1 F1 ζ|oS=>fc o e ε|P4=>ε Γ1 (fun ζ Γ2=>η) E|MB=>(fr t b).2|ND=>∀(X:Cx)(F0 H0:Hp),_|KA=>by subst hP hw hK|ANu=>∀z E,BAY ->ε|LM=>List Stmt|MC=>(AA s.heap.objs.size)|AGm=>BG Nat ε|OL=>Α (De ε)|gS=>AE ε q|LN=>ps[i]|OM=>by by_cases q:ε=ζ|gT=>fun i H=>ε|MD=>.tup xs|gc=>LS F|ŷ=>by obtain rfl:AZw ε:=ζ|AZx=>ε K EQ=true|Tb=>dU i|Ÿ=>D.nx (ε i ζ)|AGn=>Z3 s.heap.get? ε|Th=>HK VU|am=>Τ∈m|xk=>AGd (ED ε p) ζ|oa=>c::post|AGo=>B_ ε .local|gf=>VQ jO ε|og=>AGe D6|AZy=>gJ (i:=ε) nd rfl EO|ME=>xD te|P5=>wpAny E1 A ε ζ E η|Ź=>fun a b=>ε|ANv=>(m4 e "values")|Tk=>∀b u,LT ε ->ζ|AGp=>fk S n bs ε|NE=>(fr t b).1|AZz=>rO (At ε) rfl aY boot_len (aD ζ aQ)|LO=>#[gJ (i:=ε) nd rfl EO]|Tl=>⟨_,ε,ζ,η⟩|ON=>by obtain⟨ε,rfl,ζ⟩:=η|MG=>by rw[ε]|NF=>(by grind)|NG=>AG z ε|ź=>AF (ε ζ).den|MH=>K.In h|NH=>.ref b|MI=>(ε ζ η).length|ar=>DA ε q ζ|Tm=>ψ ε ζ e|om=>DM QF ε ζ|oo=>GG ε ob|AGq=>CS σ ε|oq=>CS ε v|ML=>A4 F|WJ=>Ξ ?_|av=>(BO v)|ox=>(BO CB)|P6=>DO cI ε ζ|P7=>ER h.get?|ANw=>fun i Γ=>ε|Ż=>List (Option ε)|aw=>ZU dD|P8=>wy κ|AZ0=>(ED x p)|OO=>LB rows|oy=>Co ε 1 [ζ,η] θ|MM=>Hn ε 2|oz=>ε K F' H' ζ|MO=>by obtain rfl:ε=ζ:=τ|OP=>EG ε vs ζ η|AGr=>AGY "list" seq ε|P9=>by show LU rx|AGs=>[.int ε,.int ζ]|gg=>∀b o,ε ->ζ ->η|ax=>uN X.env.scope x|xl=>ANq E3 ε ζ|o4=>(At (o7 hu))|ay=>(.dT kvs)|o5=>∀r∈rows,ε|AGt=>Γ1.set ε (.tr ζ η)|a_=>Gr F H F' H'|NI=>by show AU u rfl rx vals1 r|P_=>fun p hp=>ε|MQ=>.pu (jd c ps)|ż=>Binds K fd ps []|o6=>[.Call ε ζ [] η]|o_=>ε X F0 H0 ζ|pE=>TR K F H t|NJ=>fun x y P=>ε|QP=>(ANs y y)|xo=>nX ε ζ/\mj K η|xp=>ε (aB (ζ c) (Ev η θ))|gi=>ε outer s H E|xt=>⟨ε,H1,I1,ζ,q1⟩|Ž=>nY X pins ε b
|ž=>dG 1 ε (iL ζ) (B7 0)|AGu=>s.heap.push ε|ſ=>.function|QQ=>fun e=>ε|OQ=>by obtain⟨ε,e1⟩:=ζ|OR=>⟨o,ε⟩|bE=>by rw[ε] at ζ⊢;exact η|QU=>ε (AE ζ η)|QY=>by rw[ε,ζ];exact η|bP=>if_pos (ε ζ)|xw=>AG i ε|Qb=>AF 1|To=>.int k|OS=>cB dw ε ζ|gu=>Same F1 ε|OT=>P (BV ε)|OU=>Nat ->Rat|pM=>ER h'.get?|NL=>mh 1|AGv=>by show ε;decide|Ts=>by unfold ao at r|Qr=>b≠a|Q1=>(H_ Ψ)|gy=>IY ε (ζ b=η b)|AGw=>Ff (ε (AA ζ))|ANx=>aE 2|Q2=>∀{rows:IA},_|Q3=>.leaf d|OV=>xC xs|Tu=>ANn κ|ANy=>fD K F H ε vs ζ|OW=>PR h' tk|NM=>fun r hr=>ε|WN=>∀s∈S,ε|xx=>E4 _ False|ANz=>(.ob C fs ts)|Tx=>Pm n p|Ty=>Ű (Sk ε ζ)|NN=>by show AZv rs|g6=>(0,0)|NO=>by show Su;exact h|NR=>(by rcases ε with h | h)|bS=>wpAny_field ε ζ (x:=η)|NS=>∀(I:Η),_|NU=>#[tM ε ζ η aT]|Q4=>ű d v|AGx=>fun σ H R=>(ZT ε ζ η)|NV=>by have s1:=yM|T0=>AF (Int.gcd μ d)|OX=>B' a ta|AGy=>qD (v w)|AN0=>(AGj outer s H E).ε|NW=>by have ε:A6 ζ:=W.mg_none_of X G η|AAG=>by obtain⟨ε,ζ,rfl,η⟩:=lR θ|AZ1=>by obtain rfl:b=ε:=AN hb|NX=>fH rows x r|Q_=>FV ε #[dg (At ζ) η θ]|NY=>ω (ρ (W.nsIn K mainGlobals ε) none)|T1=>AGY "dict" dict #[]|BAZ=>(ŭ C s₀ H₀ fp)|AAH=>IsZip ε z TI TO ζ|xy=>Value ->ε|T_=>.int|WO=>.str|WP=>fun b=>ε|xz=>fun⟨ε,ζ,η⟩=>θ|pS=>o.data= ε|x0=>by rw[List.length_map,ε]|T'=>by obtain⟨o,ε,ζ⟩:=η|RA=>by refine .inr ε|AGz=>by rw[List.getElem?_map,ε] at ζ|RC=>by unfold ε Rep|OY=>by split at h1|AAL=>(ε ζ).isSome|pT=>AG b ε|RE=>AF j|OZ=>A2 (Lp lt p ε ζ)|pV=>KB (KG ε ζ) η|bX=>(ZH 0)|pb=>Bw _ _|g9=>(a::cs)|pd=>(model P w)|x5=>b≠0|pe=>GH D|AAP=>GH Row|RF=>.tup [ε,ζ]|RH=>fun b u ε ζ=>η|Of=>by obtain⟨F,Γ,P,R,h,k⟩:=ε|x6=>ε (t' :=s1.toks)|RI=>P (qD ε)|On=>by have hi' :i<ε:=ζ|g_=>Q v H'|RO=>by have hl:=rv.length|AZ2=>(.own Sj)|bb=>ε b o e n|WS=>ANm length|RR=>nI ta ε|Op=>RelV x v|WU=>ε b o e|AG0=>lW X (compareOp .ε) ζ|Os=>nW P w H h|pf=>-(2^62)|hG=>Ů X.A.units|hV=>fB X (KI ε) ζ|ph=>L2.Cls K c.ak|bc=>AGk ks.length|Oy=>fw ε List.length_map|AAQ=>(rD qs)|hW=>aU (dN ε)|AG1=>.BoolOp .ε ζ pos|O0=>show ε=ζ by omega|pj=>AZz yJ ε|AG2=>by unfold jw at n|bi=>ε fun o e=>ζ|x_=>fR ε X.K X.mg|RS=>IB _ LW rfl|O_=>by show Da ε _ _|AZ3=>ANp (ε ζ η pos.line X.env)|BAa=>k b (zU _ hb)|h_=>aW ε (aW (B7 ζ) d8)|BAb=>∀(w:World) (K:W.Frag),_|pk=>(.ListComp elt [⟨tg,iter,ifs,0⟩] sc pos)|AAR=>fun ε=>E Γ1 ζ|yA=>rows.length<=ε|yB=>⟨ε,τ⟩|pp=>⟨ε,AM ζ η⟩|RU=>by simp [ε,ζ]|RY=>by exact_mod_cast ε|Rc=>List Slot|UA=>fun v ε=>ζ|UB=>fun c ε=>ζ|Re=>AG h ε|Rl=>.pu sc|iA=>.ref s.heap.objs.size|Rs=>by rw[List.mem_singleton.mp ε]|pr=>DM QT ε ζ|AZ4=>by show EE;rfl|AAS=>bs.length - ε|AZ5=>e_ ε Value|iE=>.inr (CA ε)|UC=>Ω Bool.false_ne_true|R_=>(IT h)|pv=>σ.set i ε|WV=>ws[i]|UD=>.str x|iF=>CU (ε _ _)|AN1=>Do (ε (Do ζ))|pz=>PE X (.ε ζ η pos) θ|SA=>ZN F1|bo=>dU j|SB=>by show BB ε rfl|WZ=>wy Be|p_=>.tr as ε|yT=>zY _ q|qA=>E_ u|SC=>IU d7|We=>by show DU rfl|SD=>by intro pins s σ H D I h|Wp=>fun D Γ _=>ε|W_=>VM hi|AN2=>VM hi'|bq=>AGc NameKind|UE=>cJ ε fun ζ s1 η=>θ|iN=>(ws.map .inr)|AN3=>KM q|SE=>by have ε:ζ≠0:=Ξ η|SG=>d::ds|SH=>ID hi|br=>∀h∈m,ε|AAT=>∀a∈l,ε|iO=>∀a∈as,ε|W'=>lB rs
|SI=>by refine⟨ε,ζ,η,θ,ι,?_⟩|bv=>ao X.K F ε ζ|iP=>(j::cs)|AN4=>(ns.map .int)|SK=>FU _ False|UF=>nv t|SL=>by show n5 a|yY=>(wJ st)|iS=>fun b hb=>ε|SO=>PE X e te|iX=>ε _ _ _ _ ζ|SS=>ŵ g|ST=>.pu (rE ng)|XA=>(AGd AZ0 D6)|ya=>gk S n bs.reverse ε|SU=>by show Fh (ANw ε) ζ ?_|yb=>∀(he:Ct starEach D6 (FD (BF e) (FC es)):=by rfl) (hpl:ff pos es:=by rfl),_|XB=>(ε).up χ|SV=>by obtain⟨x,H1,I1,r1,q1⟩:=ε|AAV=>wpAny ZY X.A ε ζ η θ|ia=>ANu (ε fe ζ (Zs η t E))|ye=>ns.getD i 0|AAX=>(ms.take i).flatten|UH=>jf c.ak ε (ζ c) η|XE=>(match ε with | ζ=>η | θ=>ι | _=>False)|AG3=>Int ->Int ->ε|SW=>by show ANo (len1 hl);exact rfl|ib=>aa apos.endLine cpos.line|bz=>∀{σ:St}{H:Hp},_|AG4=>fK ε ZI rfl ζ|SY=>by show Cn ε M yX M|BAc=>∀(BAb) (mg:CD) (base:Heap),_|yi=>fun Γ' =>ε|b0=>by obtain⟨ε,ζ,e⟩:=η|XG=>by rw[ε,ζ] at this|AZ6=>by obtain⟨_,rfl,_,ε⟩:=ζ|UI=>by apply List.ext_getElem|AAZ=>by cases z|XI=>(AA x)|b9=>(AA it)|b_=>(cV 6)|UK=>Α 0|AAa=>.int E9|yk=>DM QN ε ζ|UM=>Eg V|UN=>VA jP ε ζ|AAb=>Hd.fnO K ε ζ|qB=>BN H1 ε|AAc=>Υ kvs.length|ic=>.inr x|UO=>Ω ξ|UP=>by show Cn ε ζ Hd.fun_of η|UQ=>by have ε:ζ<s.heap.objs.size:=η|UR=>.bl b|AAd=>(ANi pA)|AZ7=>Hk (ε==sysModules)|XL=>Array Nat|US=>wy Str|qE=>(KI id)|qS=>a::bs|yn=>je (Do ε)|AN5=>LT h'.get?|qV=>Z3 h'.get? ε|qa=>(Nn xs.map)|yo=>No e ε|AN6=>KO (.Assign ε ζ pos) η|BAd=>Nw s1.heap.objs.size ε|yv=>(fb Θ)|qc=>PU sI ε|BAe=>gJ (i:=ε) (BAQ ζ) rfl EO|cE=>(.ow ds)|yy=>ft (ER ε) ζ|cK=>(x h - Ų)|UT=>lA K H a xs|XN=>ad (ZT ε ζ η)|UU=>r::rs|AAe=>Ŵ Γ ε|qf=>(xc s2)|UV=>∀(qs:AW),_|ie=>fun i j=> .int ε|yz=>Ŷ ε EP|UX=>Δ ->Ū|AZ8=>ε t1 t2 s.heap l1|UY=>t::ts|y0=>∀ε,Sm ζ ->HI η θ|UZ=>by have ε:ζ:=fun b hb=>η|AAf=>.obj C' fs ds|Uf=>by refine ε (cJ ζ (PQ η θ))|qh=>cZ (Ev ε LY)|y8=>vg (HC ε aZ)|y_=>(ε b hb).2|U1=>nK as X|AAg=>MR yK base c.ak ε ζ η (θ c)|XT=>α×β×Int|U2=>f::fs|AG5=>pQ a b=true|XU=>∀(P:Program) (BAc),_|cS=>ε (aj ζ aq)|AAh=>Hm ε H I ζ|AN7=>(sW a Ex)|AG6=>fF F' H' Γ'|cc=>attributeBase e ε X.env (fT e)|U_=>by obtain⟨f0,f1,f2,f3,f4,f5⟩:=hf it Μ|U'=>(ANt wK hN hv hd hcd)|AZ9=>∀C s₀ H₀ fp F0 H0,ε BAZ F0 H0 ζ η|AG7=>Inhabited ε|zC=>⟨GN,ε,ζ,η⟩|ce=>st.1|XX=>fun x=>ε|AG8=>if b∈ε then ζ else η|XY=>by subst this|AG9=>by rw[List.length_map] at ε|XZ=>s.heap.objs.size<=ε|AAi=>Hd.adr_of ε|Xs=>List κ|AAj=>(List.range ε).ζ|AN8=>s.toks+1|X0=>AF q.den|ii=>H1 ε=none|X2=>(s.heap.objs.size+1)|AAk=>(BV ds)|X9=>A4 B|AG_=>some nk|ij=>(BO 1)|X_=>P []|zD=>(I.tok _)|YA=>.lst _|YE=>by show B6 ε (AM ζ η)|YI=>by show A_ fD|AG'=>(List.nodup_cons.mp ε).1|cf=>ZO wL ε ζ|ci=>.tup (AGs ε ζ)|AAl=>LS H'|qi=>I.hok ε _ ζ|qo=>by show EF ε (ζ ?_)|cn=>AGa M ε|qq=>AGa ZY ε|ik=>(pA P w)|zI=>h∈mv|cq=>GL i ε ζ η|zS=>by unfold ε;grind|YN=>Hn ε 4|cr=>AGb Bool|AAm=>by rw[ε];omega|qr=>by have:=ε;simpa using ζ|AN9=>(kW rows w).ε|AHA=>absurd ε Μ|q_=>ANm map|YO=>∀(t:bZ),_|AHB=>cB bT (xE ε) ζ|im=>RelV x u|AAn=>lW X (binaryOp .ε) ζ|YR=>bN P w H h|cy=>(c::ds)|io=>Rep X.K F ε ζ|AN_=>(nL fs)|YU=>(g i j)|YV=>AGl (AZs ε)|AN'=>(ε ζ (Obj.mapSeq η)).θ|ze=>dZ f hs|YY=>Int.gcd t b|rL=>af ε ζ ?_|cz=>V ->Δ ->Ū
|Ya=>∀(i:Nat),_|ip=>FU q q|iq=>gE Id ε|rS=>lA X.K H ε ζ|AZ_=>By X.fn x|rV=>f p/q p|AAo=>qD (x h)|AZ'=>AGo X.env.scope.names.lookup|AOA=>(Rat.divInt t b).ε|zh=>kZ c.ak ε Θ|rX=>wY au ε Ψ|zk=>(ks,xs)|BAf=>["hand",ε,"sheets"]|re=>∃t,u=ε|AAp=>decide (ε)|rg=>Option (List ε)|c0=>PI X tg ε ζ|Yf=>iQ s o a|Y1=>a==b|c8=>∀z,ε (X.wsh z) ζ η|c9=>dN (dM ε)|AHC=>∃m',m' <m/\ε|c_=>PE X a ta|AaA=>⟨F1,Γ1,_,R1,ε,ζ⟩|zn=>h0::hs|AHD=>aA S fun s=>(IC ε ζ)|Y2=>k _ _ Pe e|AOB=>(BAd AZ2)|ir=>jj xs ys|Y3=>Bz (n9 _ _ _ ε) ζ|BAg=>ny I.turned (oS ε) f0 f1 f3|Y_=>∀(X:Cx),_|Y'=>by show N0 b;exact⟨ε,ζ,η⟩|AHE=>by show ANo b;exact⟨ε,ζ,η⟩|dA=>Sat lt n ε ζ|AHF=>ao K F' ε vs|AaB=>(sV a Q)|ZA=>(lo+hi)/2|rh=>Ord lt n|i3=>(ofM rows m)|AOC=>∀x c,xi ->ε|ZE=>by show ε K c _ ζ _|AHG=>(upd H2 acc nE)|AaC=>Ũ GN (.fields (BAW ε))|AaD=>ε tb rs fs ix|AHI=>Hd.adr_of ε|dC=>.next|rq=>TH.1|i4=>fun q=>ε|dE=>fun k=>ε|AOD=>by with_unfolding_all rfl|dL=>by kernel_rfl|AOE=>List Keyword|i5=>by rw[ε,ζ]|AOF=>ρ (h'.get? ε) ζ|r6=>(AA I)|dP=>(AA acc)|i6=>s.heap.objs.size+1|i7=>(cV 8)|dQ=>(cV 7)|i8=>(qv 6)|dS=>absurd (ε ζ) η|AHJ=>ω xj|AOG=>ω (ρ (W.findIn K ε ζ) none)|da=>by have ε:ζ=false:=η|r8=>C4 0|zo=>Υ xs.length|dc=>(Nat.zero_le _)|r9=>.lst AN4|di=>MS DK ε|i9=>.bl true|AHK=>(E8 _ False)|dk=>GH Int|dl=>by show AV χ|AOH=>FS h|dq=>by show Ap e|zt=>CY (BE ε ζ)|dr=>by unfold ε;rw[ζ,η]|du=>by unfold TR at r|dy=>Hn ε 3|r_=>HG xs vs|d4=>FV ε (TK ζ η θ)|d5=>by show B3 rfl|d6=>by intro pins s σ H R I h|i_=>(by simp;omega)|sA=>Sf F'|d_=>Sf H0|zw=>AGc Addr|AaE=>ε/ Α s.length|eA=>c::cs|AHL=>B_ ε .cell|AAq=>mS D Β|z0=>(aS he)|eB=>dI hb|z_=>(fb Ε)|eC=>by show IF zZ|AAr=>AGf ε get?|sB=>bs.length<=1000|eD=>OB o|i'=>by show fg (ε>>=_)|À=>by have ε:ρ ((ζ η).get? θ) ι:=ν|Á=>by show Pl (ε (AA ζ))|AOI=>Addr×Value|sC=>(n,k)|AAs=>xI (BAW ε)|jI=>WC H|AOJ=>Sem Value|Â=>Ν=w|AAt=>AZx W.keepIn|eI=>aV ε (aB (ζ c) (Ev η θ))|sD=>fun j hj=>ε|Ã=>ρ (nF ε i) ζ|Ä=>xp aU ε ζ η|sK=>["hand","sheets"]|eJ=>by show Pf;cases e|AAu=>VA aB (ε c) ζ|AHM=>AC ε _ _|sL=>(∀q∈qs,AN3)|AHN=>some (.frz o VW)|AHO=>fun σ2 H2=>ε|Å=>v= AR/\ε/\ζ/\η|jS=>KL l f7|eK=>cW (fun ε ds=>ζ) cs|AHP=>KP vo [ε] ζ (by show η;symm_saturate) rfl #[qQ (uV θ)] #[Po ι,_] #[vm,_] #[ν,_]|AOK=>PY base Nc k f fd ps (ε K sp)|eL=>(I.ok.hd hc)|AOL=>ε ζ rfl rfl rfl|ja=>B' b tb|AHQ=>AZ7 a|eM=>Pi ε _ I1 q1|AOM=>⟨ε,fun i H x H' =>ζ,η⟩|AHR=>cC (HE (Str.ofString ε))|AAv=>ε fun r hr=>ζ|Æ=>VC t ds ε|eP=>mi AL Rat|sM=>tK K H ε (KF ζ)|sN=>MZ qs.map qD|AaF=>∃F Γ P,DH/\t Γ P E/\ε|sP=>aN X.K C f|jb=>[k1,k2]|eQ=>∀(K:W.Frag),_|sQ=>∀(C:Addr),_|eR=>by show AG2;exact n.elim|eS=>by obtain⟨_,_,_,rfl,_⟩:=h;rfl|ef=>by obtain⟨_,rfl,_⟩:=h;rfl|eg=>by show N2 hb hb|Ç=>AGi iC je ε|AON=>ANr W.isFn (AA ε)|AHS=>{D with nx:=ε,ct:=ζ,bk:=D.nx}|AHT=>sIx items.size 0 lo|AOO=>gH m (a i)|eh=>by show AGz AN2 hi|AaG=>upd ε Sj (.ins C s1.heap.objs.size ζ)|AAw=>Lean rows ms x|sR=>∀{P:Program}{w:World}{K:W.Frag},_|AAx=>Dr I hg hm ε|ei=>by obtain⟨hp,g,d,tk,os⟩:=ε|ek=>fun _ _ _ h=>ε h|È=>by show AZ6 k2 b;exact⟨ε,ζ,η⟩
|AHU=>fC ε (A.deeper (ζ cdv))|AHV=>E C dx H'|AaH=>pO knd kf ε o ks es ep t|e9=>∀x,foldedSetIterable ε X.env x=pure x|jn=>ε ->Bool|AHW=>⟨.type ε,ζ,η,θ⟩|sT=>⟨ε,ζ,h2,η⟩|sd=>by obtain⟨rfl,ε⟩:=ζ|AAy=>X.s₀.heap.objs.size<=ε|É=>⟨AB,ε⟩|jp=>by rw[<- this]|AAz=>P.below ε|se=>by rw[e]|Ê=>ρ (h.get? ε) ζ|js=>(ε ζ).Nodup|sf=>(cV 5)|jv=>(cV 9)|j_=>(qv 8)|j'=>(qv 7)|sg=>AF qs.length|si=>List.getElem?_eq_getElem h|AA_=>Α j|AOP=>Turn P w K ε|kA=>i<xs.length|Ë=>lt ε ζ=true|kB=>A4 n|kC=>A4 m|kD=>A4 E9|kF=>AZ ξ|kG=>Same ε H|kH=>.lst ts|kK=>by show DB ε rfl ζ|kL=>.str z|AA'=>.str c|Ì=>(a::rs)|Í=>m.map fun ε=>ζ|sj=>KE IE|so=>PD vs ε|kM=>fun ds P E=>ε|kN=>mh 3|sq=>(KF T)|kP=>by show BB _ ε|kQ=>Array GenState|Î=>mr Key|AHX=>FA (ε kV)|kR=>h∈hs|AHY=>PH (AGu ε)|AHZ=>Cb d|ABG=>aD ε (HC ζ η)|kT=>IU Τ|kU=>(ANk "Scale")|kX=>ε (t' :=tk)|ABH=>EH ⟨ε,ζ⟩|ka=>FY rfl|kg=>by show DI rfl|Ï=>(w9 u)|ki=>by show IZ hq'|kl=>by rw[ε];grind|ABJ=>dI (lY q ε)|km=>(aS ha)|AOQ=>Pv (BQ)|sv=>wpAny_call_entry ε ζ η ?_ (θ _)|ko=>Loc X.env.scope x|AOS=>ů "work"|kq=>lO rs f|ABK=>ρ (ε AK) p.2|AOT=>(x h - x h0)|kr=>pK K H a xs|ku=>by show AU ε ζ rfl zB.mp η|ky=>dv t b|kz=>V ->V ->Ū|k6=>ws.map Kb|sw=>x≠ "__name__"|ABL=>Q () s'|k7=>xh s'|s0=>ah 0|k8=>by rw[ε] at h;cases h|k9=>AGm G2|k_=>Ÿ Γ1.set ε|lI=>AGn S|AHa=>nN h t|Ð=>pE v as|BAh=>[ε,"ahead","bound"]|lL=>by have ε:=lB rs|AOV=>Mc ty y ε|Ñ=>D.nx (AGt i ε ζ)|Ò=>∀l:AI,ε|s_=>VX MX h|ABM=>[.Subscript ε ζ pos']|lP=>(bx.mp hr).1|lS=>by have e' :N4 ε:=e|Ó=>AG4 ε (HC ζ η)|Ô=>eval ε env|AaI=>CS ys y|AHb=>KV kvs vs|lT=>∀(i j:Int),_|AaJ=>ε f ts vs bs (fun b hb=>BAa) h|AaK=>W.instObj C ε|tF=>ρ (nF (ε ζ) η) θ|ABN=>(xF ANv [])|la=>by show ŷ u rx|lb=>AaA h1 ε|AHc=>(rC p s i)|tI=>ε Q I rx ry ζ|lc=>[x,y]|Õ=>∀{l:AI},ε|lf=>∀(K:W.Frag),_|lh=>by have ev:=Hf ε|li=>AM p hp|AHd=>(vs++ [v])|lj=>KeyKind prog w κ|Ö=>iT t ε it l i|AHe=>AaD (BT n A p d)|lm=>Hd.adr (AZs ε)|lr=>AZ_\/AZ'|AOW=>bs++cs|AaL=>Α s.2.2 - ε|lx=>Array (Int×Value)|ly=>(env::outer)|Ø=>(p Ν+q Τ)|AOX=>ε pins s2 σ H2|AOY=>(fs++ [f])|l_=>(VY VZ oQ)|l'=>by show ε K c AaB ζ AN7|Ù=>fun c=>jl A k c*ε|tJ=>EP X pins σ Q|mE=>⟨oP,ε,ζ,ai (by rw[e] at n;cases n)⟩|mI=>∀(hN:X.N.Nodup)(hi:Sr),_|BAi=>AZ3 swapsWith value (BO ε)|Ú=>#[ε (fun F0 H0=>by exact ζ)]|mM=>#[yI (aD ε aQ)]|tN=>[(-Nl,-Nl),(Nl,Nl)]|AaM=>[.type "ValueError",.type "Exception",.type "BaseException",.type "object"]|mP=>fh (ε C s₀ H₀ fp wW wX (D7 xx) mR) HS H ζ η θ|AOZ=>ε (mg:=mg) (P:=l.prog) (w:=w) (base:=base)|AHf=>fun(De ε)=>ζ|AHg=>by obtain⟨ε,_,_,_,e,_⟩:=ζ|ABO=>⟨ε,q⟩|Û=>(by rcases ε with rfl | ζ)|tP=>by unfold ε at h1|tS=>by show PF|tT=>by cases rx;exact ε|tj=>List Bool|AHh=>AF at_|tm=>(B5 0)|tq=>(B5 i)|ABP=>ψ ε s2 ζ|AaN=>A2 v.scannable|AHi=>GG H' ε|Ü=>(j+1)|AOa=>Heap.get?_update_self _ ε ζ|Ý=>(BV us)|tw=>Eg D|tz=>ε (i:=i)|t6=>Db D|Þ=>Db G2|ABQ=>by rw[ε];omega|t9=>A4 sz|t_=>some v|uA=>some u|ß=>Ω hb|uB=>.lst ds|uC=>by show DB ε ?_ ζ|ABR=>.str d7|à=>(BH h1)|AHj=>BG Hp (ε)|á=>ZO G3 ε ζ|AOb=>A6 "len"|uS=>.tup ds|ua=>A0 kO|ub=>(CA h)|ABS=>fI (AaF ε)|ABT=>(ED x pos)
|â=>LT H|ue=>PM Bool|ui=>IU L|uj=>IU Ν|uk=>by show DU (BH ε)|AOc=>HI s.heap.objs.size ε|ul=>by rw[ε];rfl|AHk=>(ANk "Barred")|AHl=>(ε rows ζ).length|ABU=>b≠X.env.locals|ut=>Z3 h.get? ε|ABV=>Sf H|uu=>by refine z9 (wpAny_mono ε ζ η)|AHm=>fun σ H R ε=>ζ|ABW=>EH (OA ε)|uv=>congrArg ε e|u7=>.dic _ _|u8=>.jX _ _|u_=>by show IZ h1|ABX=>∀x∈ε,C x|ABY=>(AF 20).toNat|AOd=>KL ε (.own ζ)|AOe=>(bx.mp ε).2|vE=>EV #[qv ε]|vF=>α ->Bool|ABZ=>(f k)|ABa=>AGf ε objs.size|ABb=>x= AR/\ε|AHn=>Around.under_plainId ε _|ABc=>cols p|ABd=>PR h' t'|vS=>by obtain⟨ε,ζ⟩:=η;exact⟨θ,ι⟩|vT=>k ε Μ _ ζ|va=>fB X (KF ε) ζ|AHo=>L2.Cls K c.Scale|vb=>(r::rs)|AHp=>FU _ AZ4|AHq=>by rw[ε (BH hi),ζ] at e|ABe=>ANr ε (me ζ)|vc=>dZ f S|ve=>by show AU ε ζ rfl List.mem_iff_getElem.mp η|ABf=>(pre++oa)|ABg=>R1.g.seq hq|vi=>∀h',ε ->ζ ->η|AHr=>(n_ hb)|AaO=>Value.ref (LZ)|AHs=>oC jW|vj=>P d Γ|vk=>(gf Θ)|AOf=>nN h (t+1)|AHt=>AGp k|vn=>Β ->Kk|vt=>AGq o|vv=>(ED y py)|vx=>uR K C=true|ã=>Η ->t σ H Q ->ε|AOg=>(ED "set" p2)|vy=>AGv (aE 1)|AHu=>fC k X.A|vz=>.dic ks ts|v4=>xy κ|v6=>Gd ps|ABh=>by by_cases hi:i<ε|ä=>fun o e=>ε|AHv=>(DW aZ)|v_=>(l++ [r])|ABi=>GL k' k ε ζ|wE=>AG0 ε (nc ζ)|å=>Pv i σ H|æ=>codeAny ε ζ (.call η θ) ι ν|AaP=>ms.Pairwise (Ź ε)|ABj=>AZ5 κ|ABk=>D8 fun i=>ε|ABl=>AAV ε ζ X.xe η|wP=>∀(K:W.Frag)(C:Addr),_|AOh=>o.cls= .type ε|AOi=>if Sl then ε else none|AaQ=>by have:=ε;show Ap ζ;exact η|ABm=>Vals xs its|AaR=>behindInMarks ε b=false|ç=>BAf "hands"|wS=>by intro i h1 h2|ABn=>AOC (c≠ε)|AaS=>x6 I1.kept ε|AOj=>∃a,x= AR/\ ε/\ζ|AaT=>ρ (ε xs) ns|AOk=>FE ε.2 b hb e|BAj=>p.2= Ll ->∃c,ρ (ε AK) c|wT=>VT F1 H1 Γ1|wb=>AaH led|wc=>∀(hc:C7),_|AHw=>ε (ζ j default)|è=>By p a|é=>jx S h|ABo=>[B8,.int j]|AOl=>AAL F b|BAk=>ε==NameKind.free&&ζ== ſ|we=>∀{t b:Int}(h:x5),_|wf=>by unfold Rep at r1 r2|ABp=>ρ (oE fs ts f) ε|ABq=>ns.length<=63|AHx=>{nx:=ε,rt:=ζ}|BAl=>by rw[ε] at z;cases z|ABr=>(h0::hs)|ê=>ω (key b=key a)|AOm=>s1.trans (s2.trans ε)|wn=>by obtain⟨_,_,_,_,_,rfl,_⟩:=h;rfl|wo=>FU x x|ë=>ε (fun a ha=>ζ) η|wp=>by obtain⟨_,_,_,rfl⟩:=xR hl;exact rfl|wq=>by show VI ε q q|ABs=>(jZ S n)|ì=>ź f j|AOn=>Co ε 3 ["one","other"] ζ|AHy=>AGr ([]:Ζ).toArray|ABt=>(FH bJ Ψ aZ)|AOo=>∃o',GG ε o'|AHz=>AC Sl none (ε b)|AH0=>lC X.N sc own caps X.env N'|wt=>aB (ε c) (aj ζ (Ev η θ))|AaU=>(hi _ _ _ q)|AaV=>Inv X pins σ' H' s'|ww=>fun _ _ _ ε ζ=>η|AH1=>by obtain⟨v,_,rfl,ε,rfl⟩:=ζ|AOp=>∀{rows:IA}{ws:AI},_|í=>Array (Option Value)|AOq=>fun vs H Q E=>ε|wx=>Ei ε au ZI ζ (aD η aQ)|BAm=>wpAny_callSpecial?_slot (name:=Str.ofString ε)|AOr=>∃f fd,ε/\ζ/\η/\ż|AOs=>sIx items.size items.size hi|î=>bR one (ε f) P|AaW=>fun b o e n ε hx=> ?_|ï=>FS ε _ us Q I|AH2=>.ob C fs (m8 fs ts f ε)|AOt=>.local|ð=>.NotIn|ñ=>⟨ε,ζ,η,rfl⟩|ò=>(match ε with | ζ=>η | none=>θ)|ó=>[s1.heap.objs.size]|AOu=>ε=ps.length|ô=>by obtain⟨ε,e2⟩:=ζ|õ=>by obtain⟨o,ε,_⟩:=ζ|ö=>by rename_i hb|AH3=>by rw[List.length_map,ε,ζ,η]|ø=>by rintro⟨ε,ζ,e⟩|ù=>congrArg ε ζ|ú=>Nat.ne_of_gt ε|AH4=>by exact ε|û=>(by show AOD)|ü=>by exact h1.elim|ý=>(AA z)|þ=>(cV 10)|ÿ=>Rat.inv_mul_cancel _ ε|Ā=>(qv 5)
|ā=>(qv 9)|Ă=>AF xs.length|AH5=>AF its.toArray.size|ă=>if_neg h|AOv=>Α t|Ą=>by rw[decide_eq_false ε]|ą=>by rw[decide_eq_true ε]|ABu=>ψ ε s3 ζ|AaX=>A2 one|AaY=>(bs.length+1)|AH6=>(BV ts)|Ć=>KB H1 ε|AH7=>CS ws ε|ć=>some b|Ĉ=>by show EU;omega|ĉ=>A4 k|Ċ=>A4 at_|ABv=>fA s'|AaZ=>fA LX|ċ=>.inl ⟨ε,ζ⟩|AOw=>.inr Τ|Č=>some []|č=>Ξ (ε (z ▸ ζ))|ABw=>Ξ (ε (ζ z))|Ď=>.lst ys|ABx=>ED "self" ε|ď=>B_ bootBuiltins ε|AOx=>B_ X.mg ε|AOy=>xs.getD i ε|ABy=>f Τ|Đ=>by show B6 ?_ ε|đ=>fs[i]|Ē=>(BH e)|ABz=>(HE x)|ē=>d≠0|Ĕ=>by show AV (BH ε)|AH8=>fun i _=>ε|ĕ=>by refine A3 ?_|Aaa=>mh ps.length|Aab=>(KF "StopIteration")|AB_=>(.bl false)|Ė=>E_ GM|ė=>E_ MY|Ę=>CY 0|ę=>.exc _|Ě=>.ptr _|ě=>(by unfold ao;rfl)|Ĝ=>Sf F|ĝ=>decide_eq_false q|Ğ=>decide_eq_true q|ğ=>by show CI pb|AH9=>AGc Value|AB'=>(j - 1)|Ġ=>(hs.map .inr)|ġ=>(.pu d)|AH_=>GT ε "self" ζ η|AH'=>d::post|Ģ=>GV List.map_map|ģ=>HH u q|Ĥ=>by have hl:=kv.length|ACG=>AGe [a]|AOz=>Is LW|ĥ=>Ix v ε|ACH=>xC vs|Aac=>plainId_quiet ε _|AIA=>E (AA ε)|AIB=>Υ ds.length/\ε|Ħ=>aw≠ []|ħ=>by show Kt r1|AIC=>I1.hok.fresh (ε _)|Ĩ=>(p::cs)|ĩ=>lO rs (C3 ε)|Ī=>ANp (swapsWith e ε ζ η)|ī=>AGl (VS Ŭ ε)|AO0=>(zZ ?_)|Ĭ=>gL ANx|ĭ=>(gN υ)|Į=>L2.Cls X.K C|į=>k::ks|AIE=>(.bool true)|İ=>∀i,i<ε ->ζ|AO1=>(ED "reversed" p2)|ı=>AGw pyNext ε|Ĳ=>.jX ks ts|ĳ=>by show AZ1 it|ACI=>by show AZ1 s1.heap.objs.size|Ĵ=>K.In s.heap|ĵ=>pV s.heap.objs.size ε ζ|AO2=>tb s p|Aad=>xN dic ks ε|Ķ=>(pj Ψ)|ACJ=>gb ds|ķ=>["left","right"]|AIF=>(AAS Fc)|Aae=>B_ mg EQ|ĸ=>AN1 Lg ε|Ĺ=>R (ε K a) H1|ACN=>S4 tv d ε|ĺ=>comb ks rs j|Ļ=>ANy ts as|Aaf=>(ps.map wu)|ļ=>AAb (Hd.adr (VS Ŭ ε)) ζ|ACO=>aA rows (oB ε)|ACP=>xQ rows ws|ACQ=>xP rows x h|ACR=>(I.hok.fresh (zL _))|Ľ=>AAe a|BAn=>knd.is k v=true|ACS=>AAh Kx ε|AIH=>AllBare s'.gens|ľ=>by show AG9 hl|AII=>X.pn++pins|AO3=>AG' nd|ACT=>(hn a ε).1|AIJ=>AN9 length|Ŀ=>.cons r t|ŀ=>k a zV _ e3|ACU=>AHF ds|Ł=>frs X.stack|AO4=>wpAny_holding (vs:= ε)|ł=>b1++ (ε++b2)|AO5=>(AG s (AaL (x N_)))|Ń=>AOG Ŭ ε|ń=>KE ε fun j=>ζ|ACV=>(ε a ha).2|Ņ=>TC ε yS _|ņ=>by show fz ε ζ η θ h h|Ň=>Cg o4 ε ζ aT|ň=>GF (top 71) ε|ŉ=>AON (Hd.adr (VS Ŭ ε))|AO6=>.builtin "type.__call__" ε|ACW=>PE X b tb|AIK=>ų (AZ8 ε) l2|ACX=>xl "__init__" EQ|Ŋ=>al _ H1 _ R1 s1 ε h1|Aag=>⟨.int ε,H,I.tok _,ζ,q⟩|AO7=>fun i h h' st k=>ε|ŋ=>U.length<=4|Ō=>fun _ _ ε ζ=>η|AIL=>by rw[List.length_zip,<- ε,Nat.min_self]|AIM=>ε mainGlobals mg|AO8=>(ns.map V.int)|ō=>ε=decide (ζ)|AO9=>ε (rs:=rs) (ζ:=η)|AIO=>e_ Be AOI|Ŏ=>by show Zp t' ry|ŏ=>Z_ q n ε|AIP=>zM (oV (k:=ε) ζ) χ|Ő=>∀ms:ε,ζ ->η ->P (ms.map θ)|AIQ=>(.int i t)|ő=>by refine lu (AM r hr)|Œ=>(jG MW H)|AIS=>{s with toks:=AN8}|ACY=>Ũ L4 (.seq its.toArray n)|Aah=>BAj env.cells.lookup|œ=>(ε b u ζ).stay|Ŕ=>AJ x qual st|AO_=>Ju e ds vs ε|AO'=>ε R2 (s1.trans s2) ζ|ŕ=>.ob C fs ts|Ŗ=>fun i h st b hb=>ε|AIT=>Le (i:=ε) nd rfl rfl|AIU=>BAm "__next__"|ŗ=>by show fz c vs ec hkl rs (JV e1 ε)|ACZ=>(match ε with | true=>ζ | false=>η)|AIV=>(Heap.get?_update_other _ _ ε).ζ|Ř=>by have hn:=pL|ř=>by simp only [List.lookup,hb,ε]|ACa=>by by_cases q:ε<;>simp [q]|Ś=>(Hd.recOf wO).ε
|ś=>#[aD ε aQ]|APA=>BE ks.zip vs|APB=>⟨F,Γ,_,S,q,ε⟩|Ŝ=>∀(hg:TM)(hm:Fm x),_|ACb=>GZ B q|ŝ=>ũ ε c ζ (mt η) θ ι|APD=>k ε Μ o e|BAo=>qt (AZy ε) (qt (AZy ζ) Ci)|AIW=>∀(ha:og) (hdb:B1 x "__debug__":=by decide) (yb),_|AIX=>∃x∈ε,C x|BAp=>{o with dict:=some ε}|Ş=>by obtain⟨hq,hx⟩:=hg|ş=>FG l AI (AAT ε) ζ|Š=>by refine wpAny_passesOwn hp (cJ ε ζ)|ACc=>(AaG AOB [])|š=>by have line:aE ε:=AB|ACd=>I1.fpOk C1 (I1.hok.fresh C1)|AIY=>(fh ha pos H _ I h)|Ţ=>∀(w:World)(os:OsState),_|ţ=>Value ->Value ->AOJ|APE=>Dh X.K F' ε H'|Ť=>Un fs ex H ε|ť=>.ow (AH (KE k) nm .str)|BAq=>fun v z=>(BAl d)|BAr=>∃F2 Γ2,VT F2 H Γ2/\gu F2/\ε|ACe=>(a::r).filter|BAs=>A2 (W.excIn K ε AaM "ValueError.__new__")|AIZ=>(ŭ s3.heap.objs.size s3 AHG fp)|ACf=>∀(hN:Sr)(hv:ax),_|APF=>ε AAd a ws ep|APG=>yL ε I fst ζ S n ep|APH=>∀(i:Nat) x y,WG ->AaI ->ε|Ŧ=>⟨ε,ζ,η,k.rt,k.rf,k.rT,k.rm⟩|APJ=>(Bt x (dD rows w))|ŧ=>⟨f,fd,jA F ε (Sb ζ) η,M,F.binds θ⟩|AIa=>∃i j,x= B8/\y= gI/\ε|APK=>∀[AG7 β],_|ACg=>.leaf|ACh=>by rw[List.length_map,ε,ζ]|ACi=>by rw[ε,List.map_append]|ACj=>by rw[List.map_cons]|Aai=>by simp [ε,List.find?_cons,ζ]|ACk=>by obtain⟨ε,_,rfl⟩:=ζ|ACl=>by rintro⟨ε,ζ,rfl⟩|ACm=>by rintro _ ⟨ε,rfl⟩|BAt=>(by kernel_rfl)|ACn=>(by size_fits)|Aaj=>by obtain⟨F,Γ,P,S,q,k⟩:=ε;exact ζ|ACo=>if_pos h|ACp=>.int a|ACq=>.int b|AIb=>(ε b hb).2.1|ACr=>ψ h' ε ζ|ACs=>A2 (! ε)|AIc=>(h.objs.size+1)|ACt=>(At Cm)|APM=>(At (#[]:D3))|ACu=>Eg Expr|Aak=>i<es.size|ACv=>Pn _ _|ACw=>by rw[ε,ζ];omega|APN=>by show x0 ε;omega|ACx=>A4 hands|ACy=>A4 works|ACz=>.inl i|AId=>zR.mp z|AC_=>s.heap.objs.size+ε|AC'=>by show B6 ε PassesOwn.leaving|ADG=>ms[i]|AIe=>(BH h2)|ADH=>Px (m:=ε)|ADJ=>B' ε te|ADK=>.bl false|ADL=>D5 Heap.get?_update_ne|AIf=>KE m|ADM=>ZO sI ε ζ|ADN=>by show AV hk|APO=>j<2^62|APP=>wpAny E1 A ε ζ E s|ADP=>Array DictEntry|ADQ=>x∈g|Aal=>(KI "object.__setattr__")|ADR=>cX (Do ε)|ADS=>(FA ys)|AIg=>LT F1|AIh=>PM It|AIi=>Cb (.bl ε)|ADT=>by rw[AZ ε] at h|APQ=>∀r∈rs,ε|ADU=>by show LU r;rfl|ADV=>by show DU hk|ADW=>DE (-1)|AIj=>HI ε H'|APR=>DF AHJ|APS=>by have:=ε;omega|ADX=>C3 ?_|ADY=>DZ AAo|ADZ=>x::l|ADa=>AGc ο|ADb=>.dik _ _|ADc=>by show IZ hq|ADd=>by rw[ε];decide|ADe=>A i j|Aam=>Int.gcd i j|AIk=>aA l fun a=>ε|ADf=>No ho ε|AIl=>FF (FQ (x:=ε)) ζ|AIm=>B_ ε .free|ADg=>EI ε (K0 ζ η)|ADh=>dI (lY (ε b u e) ζ)|APT=>Sm l|ADi=>(fT iter)|APU=>Q (B5 ε) H|APV=>by simp only [ε];exact ζ|ADj=>b∉X.fs|ADk=>(xs.map .str)|AIn=>absurd rfl ε|ADl=>α ->D|ADm=>α ->Int|ADn=>∀(te:TE),_|ADo=>ANn α|ADp=>Md ?_|ADq=>by show Lm rfl ε|AIo=>Z_ e ε ?_|APW=>o0∈mv|AIp=>(.ptr a::ds)|ADr=>IM (AE ε ζ)|AIq=>fun x vs H Q=>ε|AIr=>(.ow xs)|ADs=>Lv List.mem_singleton.mp ε ζ|ADt=>by show fg (AHM ε)|ADu=>IB _ _ ε|APX=>ac rest.toArray|ADv=>by show AZv r1|APY=>(n,NameKind.cell)|APZ=>∀x,x∈ε↔ζ|AIs=>V' (.tr as ANz)|BAu=>W.Looks.here (s:=ε)|AIt=>call (KI ε) ζ|ADw=>(ε _).mpr|AIu=>f_ List.getElem?_map ε|APa=>WH (Τ=ε)|AIv=>Cls K C|APb=>qw X.K C|APc=>hix i hi|Aan=>Co ε ζ ["some"] η|AIw=>AZx W.isFn|AIx=>xk ε [a]|ADx=>AGp Fc|ADy=>k' ::ks|AIy=>om ε (jP ζ t)|Aao=>oo s.heap.get?|AIz=>tn i s.heap
|ADz=>oq vs|AD_=>(List.length_filter_le _ _)|APd=>Ż FuncData|APe=>Ż Rat|APf=>dN (ε cQ (aB (ζ c) (Ev η θ)))|AD'=>(xw ye)|AEH=>∀i,CH ->ε|AI0=>DO mZ ε 0|AEI=>by refine lu (AM ε _)|AEJ=>AAH ε .ellipsis|APg=>(Ia aZ)|APh=>pT (GL b a ε ζ)|AEM=>(rows++ [r])|AI1=>fs s j|APi=>fs c p|AI2=>(So fp AAl)|AEO=>hV ε (tO X.K ζ)|Aap=>(XO a C none)|AEP=>v::vs|AEQ=>fun x hx=>ε|AI3=>yA 40|AEU=>["row","right"]|AEV=>(AaO::us)|AEW=>pr ε tA|AI4=>(pv av)|AEX=>by show KU;subst r;rfl|AEZ=>S4 te d ε|AI5=>ANy ts bs|AEa=>(Ib w)|AEb=>PS X (.Assign ε ζ pos) η|AEc=>(n - e)|AEd=>yn (AHP ε ζ η θ ι ν)|AEe=>yo BAq|AI6=>AN6 ε value ζ|APj=>∃a ε,x= AR/\ζ/\η|AEf=>y::ys|APk=>Ν∈ws|APl=>by rw[List.size_toArray,<- hl]|Aaq=>by rw[ε] at e;cases e|AEg=>Ο Η ε ζ η (yz θ)|AEh=>AAn ε (nc ζ)|AI7=>IH ε [ζ] [0] η [θ,ι]|AEi=>o_ QI tg|AEj=>AHD f' ε|AI8=>AaC h.objs.size|AI9=>fun o=>(BAp ε)|Aar=>Heap.ExtBut ε ζ h'|AEk=>ρ (bootBuiltins ε) (KF ζ)|AEl=>(0+ Cc)|APm=>jJ ms.flatten x|AEm=>by show KW wpAny_seqItems ε rfl|APn=>Pp ε us (xt vs r1)|Aas=>(WI #[] 0)|APo=>∀(P:Program) (w:World) (K:W.Frag) (mg:CD),_|AEn=>∀{K:W.Frag}{F H:Hp},_|AEo=>AOM ε (H' =H/\ζ) η|AEp=>Meth K c.ak ε f|AEq=>⟨#[c]⟩|AEr=>(hu1 hu)|APp=>(compareOp op)|AEs=>∀(q:Rat),_|AEt=>(x::xs)|AI_=>aI v Q ε|AEu=>by show Lm (Bz (A2 false) ε) zG|AI'=>(.str x t)|BAv=>env.kindOf n==AG_|AEv=>fun c hc=>ε|AEw=>["place","row"]|AEx=>p.getD ε 0|Aat=>(.ptr a)|AJA=>fun a ha=>ε|AEy=>AOZ ε c ζ ⟨AHI η,θ,ι⟩ ν|Aau=>ε fun kv=>(ω (S_=k))|AJB=>(ε p hp).1|AEz=>FU e e|APq=>HI l (xL ε)|AJC=>jd c ps|APr=>m3 ta (Sk ε ζ)|AE_=>ρ (m7 fs xs ε) ζ|AE'=>FK CK Θ (ZH ε)|AJD=>IsPair ε TO a b|AFG=>AaQ ε ζ this|APs=>AaR op|AFH=>AaS Th|AJE=>AaT lD|AFI=>mV ks k=true|AFJ=>(OC u yT)|BAw=>BAk ε env.scope.kind|AFK=>∃W:AGb ε,(∃m,ζ)/\η|Aav=>V_ E9<2^40|AJF=>by show N3 hx q q|AFL=>(wM own.length caps σ)|APt=>AaW hb|AFM=>(by rcases ε with q | q)|AFN=>by unfold cutD HT.sIx|AFO=>∀(i:Int),_|BAx=>DA vs ε Value.none|AFP=>.inr (C5 (oV χ))|AFQ=>hW (ε cQ ζ)|APu=>ρ (fs.lookup f) v|Aaw=>uc rows ws m|Aax=>DV ε r N1 0|BAy=>AN' s.heap.update a (C4 #[]) ε|AFR=>by obtain⟨u,hu,ru⟩:=ε|AJG=>(ε prog w).is|AFS=>pW S x h|AFT=>fJ.d c S b|AFU=>fun b hb u q=>(gS ε)|AFV=>AOP tg ε [it] it (N9 h ζ)|Aay=>lQ (kW rows) (yW rows) ws ε|APv=>ε/\ζ/\sp ds η Ex/\ (θ)/\zj K F H Ex E|AFW=>AHU k (xS qual (bI st)) ->ε|AFX=>f'/\o∈s|APw=>∀{ε:ζ} {vs:Δ},η|AFY=>by obtain⟨h1,h2⟩:=ε|APx=>AAc/\ AHQ/\ε|AFZ=>by exact(Bz False r).elim|AFa=>qQ (ε rfl rfl ζ η)|AJH=>∀{rs:CF},_|AFb=>ω (BAs (me ε))|AFc=>fW (cT ε)|AJI=>by refine Rat.not_lt.mp WJ|AJJ=>e_ ο Β|AFd=>b1++ (ε++b2)|AFe=>ε σ H1 Q|AFf=>hA _ _ h1|BAz=>(a::b::rest)|Aaz=>MR v7 base ε ζ ["rows"] (η c)|AFg=>FU h' h'.elim|AFh=>∀(hd:B1 x "__debug__":=by decide)(hcd:B1 x "__classdict__":=by decide),_|APy=>ρ (ε K ζ (KF η)) true|AFi=>by have ε :ζ:=fun r hr=>η|AFj=>E2 N ε st|BA_=>D7 (AN0 xe)|AFk=>Kj Ph ε m ζ|AFl=>Dn lt p ε|AFm=>∀(t b:Int),_|APz=>{ε with nx:=I (BQ),ct:=I (BQ),bk:=ζ}|AFn=>(.dic [] [])|AFo=>(assignEach ε X.env).map|AFp=>(dv t b).natAbs|BA'=>I.list (sF.seq hq)|AFq=>by show bE ε hp hp
|AJK=>AGx ta vs ε|AFr=>xz ε h1 h2 ζ|AFs=>P (d i j)|AJL=>(s1.heap.push W.emptyDict).push|AFt=>(L2.upd F' acc MY)|AFu=>(bs.getD k g6)|AP0=>(d9 2 (h_ (B7 0) 1))|AFv=>fun ds Q _=>ε|AJM=>wpAny ZY X.A ε Q E s|AFw=>GS fs.filter f (! ε)|AFx=>ne b _ q (E4 z AAZ)|AJN=>jk t1 s.heap l1 xs|AP1=>IJ∈ya bs.length|AFy=>sp ds ε (AAR C C)|AP2=>s3 _ _ (s2 _ _ e)|AJO=>by refine CU (Lc setField) (wpAny_setField h1 h3 Μ ?_)|BBG=>ω (es.size>1)|AJP=>KT H kvs xs|AFz=>∀{st:Stmt}{f:Addr},_|AF_=>FE hs.2 b (zH (zK (zF e) ε))|AF'=>ao X.K F1 ds vs|AGA=>AC (b=a) AHN (AG8 bs ε ζ)|AJQ=>["rule","marks","gap"]|AGB=>AOH ε I AaU|AGC=>by have ε:=ũ ζ c η (mt θ)|AGD=>G2 ->BG (BG ε G2) XW|Aa0=>(pick Str.empty ys is).map|Aa1=>es[i].key|AGF=>by have ε:xo ζ η θ:=⟨W.mg_of X G (AAi ι),ν⟩|AGG=>∃k as ks ε,ζ|AGH=>by rw[hl] at st hx|AJR=>ε knd kf led ζ|AGI=>TE ->TE ->TE|AP3=>bD (Fw AAQ ε)|AP4=>(mL (cC (B5 1)))|AP5=>∃σ' H',AaV /\ε|AGJ=>by show N3 hb hb hb|Aa2=>(seqObj "tuple" vs.toArray 0)|AJS=>(L2.upd H a u)|AGK=>∀P:Mm,ε ->one (f ζ) P|AJT=>jk t2 s.heap l2 ys|AGL=>∀{d:D}{v:V},_|AGM=>(.Tuple elts x1 pt)|AGN=>(.Tuple ae k2 Kz)|Aa3=>Iz (dD rows w)|AGO=>V ->Ic ->Ic ->Ū|AJU=>nK (AOW++cs') (iW.t c (Z sh ε ms x) none)|BBH=>∀{d:Int}{tb:PZ}{rs:CF}{fs:AAP},_|AP6=>∀{S:Φ}{n:Int}{bs:GU},_|AJV=>by show Ki oi h1 h2 h3 hit|AGP=>by obtain⟨ws,kv,hd⟩:=Ot I hq G9|AP7=>∀ε Γ' F' H' ζ,Ο AG6 Dx η (P θ Γ') ι|Aa4=>(lM sc s.heap.objs.size X.env).ε|AP8=>qD (fP Me ε o)|Aa5=>Mb "range" #[.int lo t,.int hi u,.int 1 v]|AGQ=>ε (by show ζ;symm_saturate) rfl #[η] #[Cj rfl (qt (BAe 0 θ) (qt (BAe 1 ι) Ci)),_] #[vm,_] #[ν,_]|BBJ=>hbody cdv A outer s|AGR=>nextT k s d tb|BBK=>∃N:Lo,(∀σ' H',N σ' H' ->AHC ε)/\ζ|AJW=>∀{pins:dJ}{σ:St}{H:Hp}{s:Shared},_|AGS=>fun h' eb=>(FY (BAg (eb b o hb e) f4 f5))|AGT=>by obtain⟨a0,u0,rfl,h0⟩:=lR h|AGU=>[.Tuple [.Name x px,.Name y py] kt pt]|AGV=>by refine Oi hit hg O rfl ?_|Aa6=>⟨F1,Γ1,ε,R1,s1,r1,h1⟩|BBL=>fJ.look (c:=c) (S:=S) (b:=ε)|AGW=>by show B6 ε (fun i H2 F2 s2 s3 _=>(pp ζ d hd))|AGX=>by refine cJ (AOL (NK (E:=fun C dx H' =>AHV)) I (hx.imp (Iy C dx H' z))) fun _ s'' z=>z|Aa7=>(match ε with | ζ=>η | _=>θ)|AJX=>Nat.ne_of_gt ε|AJY=>hacc.1|AJZ=>xs.length=ε|Aa8=>by rw[List.length_cons,ε]|AJa=>by rw[List.getD_eq_getElem?_getD,ε]|AJb=>by unfold pyNext|AJc=>by rw[List.map_map]|AJd=>by obtain⟨sl,ε⟩:=ζ|AJe=>nomatch e|AP9=>show ε from rfl|AP_=>⟨#[],ε⟩|AJf=>by rw[ε,List.getElem?_map] at ζ|AJg=>(by rcases ε with ζ | ⟨⟨xs,η⟩,θ⟩)|AJh=>List.replicate ε ζ|Aa9=>mem_of_lookup ε|AJi=>Int.toNat ε|AJj=>by simpa [ε] using ζ|AJk=>by simp at e|AJl=>by simp at h|AJm=>wpAny_mono ε ζ η|AJn=>by obtain⟨_,_,_,ε⟩:=ζ;exact η|AJo=>List P2|AJp=>(by cases z)|AJq=>(by simp only [List.size_toArray]<;>omega)|AJr=>by rw[ε,<- ζ];exact η|AP'=>ε (List.range ζ)|AJs=>(AA S)|AJt=>(qv 10)|AJu=>Α z|AJv=>W.hideAll_get _ ε ζ|AJw=>KB (xL ε) ζ|AJx=>by unfold ε;rfl|AJy=>Nat.lt_or_ge i ε|AJz=>CS kvs ε|AJ0=>Eg FuncData|AJ1=>Eg Rat|AJ2=>(ZH 10)|AJ3=>C4 rfl|AJ4=>AE ε Bool.false_ne_true|AJ5=>BN H2 ε|AJ6=>A4 way|AJ7=>A4 most|AJ8=>.inl rfl|AJ9=>.inl hb
|AJ_=>some nE|AJ'=>Ω e|AQA=>(BO e)|AKB=>(ε b hb).2.2|AKC=>(IT hi)|AKD=>.str a|AKE=>.str b|AQB=>.str h|AQC=>(BH hj)|AKF=>(.dK [])|AKG=>AF ε≠0|AKH=>KE AaY|Aa_=>BE ε V.str|AKI=>FS (ha z E cx ε)|AKJ=>CL #[ε EO ζ]|AQD=>show ε by simp|AKK=>.tup _|AKL=>ZU Vk|AKM=>A0 jj|Aa'=>Value.ref a|AKN=>(CA w)|AQE=>(KI "object.__class__")|AKO=>E_ AN_|AKP=>a::dx::bs|AQF=>fun z E cx=>Jz ε ζ|AKQ=>bh rows|AKR=>PM V|AKS=>PM Δ|AKT=>by unfold ε;rw[ζ]|AKU=>by intro pins s σ H Q I ε|AKV=>D7 us|AQG=>D7 P1|AbA=>ET AOO|AQH=>b≠s.heap.objs.size|AbB=>fN F' H|AQI=>by show ε;omega|AKW=>DZ ?_|AKX=>(H_ Ι)|AQJ=>IY TD ε|AbC=>xs.length<=i|AbD=>(mw ow)|AQK=>(mw kW)|AKY=>DS (Τ∈U)|AbE=>(fs.zip vs)|AKZ=>(r - 1)|BBM=>xs.length - 1|AKa=>by rw[ε];simp|AbF=>(wk.map .inr)|AQL=>(.pu AAk)|AKb=>ε+1<scanBound|AKc=>.leaf (HE d7)|AKd=>GV em|AKe=>Α l.length*ε|AKf=>xA env.cells.lookup|AQM=>b∉ex|AKg=>b∉ch|AKh=>∀h∈hs,ε|AKi=>∀h∈zn,ε|AKj=>#[qv 0]|AKk=>#[qv 1]|AKl=>At (ε rfl)|AKm=>KS s|AQN=>Υ xs.length/\ε|AKn=>e _ _ h1|AKo=>qs.length<=1000|AQO=>Pc GM|AKp=>Ů A.units|AQP=>ů "reach"|AKq=>ps[BQ]|AQQ=>lO rs g|AKr=>(xE Ε)|AKs=>AGk fs.length|AKt=>hS b hb|AKu=>wpAny E1 A ε ζ AHK η|AKv=>(At (DR hu))|AKw=>i<=xs.length|AKx=>Mn (P ε Γ)|AQR=>E Γ1 E3|AKy=>Mo ε ζ rfl|AKz=>(ε _).trans|AQS=>ų s1.heap.push ε|AK0=>.pu (rE bs)|AQT=>qw K C|AK1=>TZ (Ž H)|AK2=>AGm Heap|AQU=>ε t1 t2 h l1|AK3=>xs[j]?|AK4=>AGq ox|AQV=>AGr vs.toArray|AQW=>(o5 (Τ∈U))|AQX=>rawInt 0|AK5=>∃c,x= .bl c/\ε|AQY=>Η ->ε ->nB ζ η|AK6=>bP decide_eq_true ε|AK7=>fun o ho=>ε|AQZ=>fs s p|AK8=>dU (ε i j)|AQa=>[.Attribute ε ζ pos']|AK9=>w::vs|AQb=>[e,e2]|AK_=>iE ξ|AQc=>ns.getD j 0|AQd=>(iS BAa)|AK'=>∀(a b:Rat),_|ALA=>(ps.map pD)|ALB=>Same H H'|ALC=>aA rows (IG ε)|AQe=>sX rows ws|ALD=>by unfold ε;rw[ζ,η];rfl|AQf=>xS qual scope|ALE=>xt x r1|ALG=>∀(t:bZ)(E:XW),_|ALH=>[.ref q]|ALJ=>by refine ε ζ (List.map_congr_left η)|AbG=>by rw[List.length_map,<- hl]|AbH=>List.zipWith (fun ε ζ=>η) θ ι|ALK=>AAj ε all|ALN=>Se t vs ε|ALO=>by show L7 ε ζ rfl h|ALP=>by obtain⟨its,rv,p,hz⟩:=I.list hq|ALQ=>P5 ε Q AHa|ALR=>AOA den|ALS=>oz TR t'|ALU=>Cw led t|ALV=>ps[BQ].1|ALW=>fun ε s2 ⟨ζ,H2,I2,η,q2⟩=>θ|AQg=>fs.length<1000|AQh=>AOF s.heap.objs.size ε|ALX=>(AG d AHZ)|AQi=>[(f,v)]|AbI=>by unfold ε;rw[ζ];grind|ALY=>AaE (x o)|ALZ=>AHL sc.names.lookup|AbJ=>(.tr MW t)|AbK=>(AC AaX 1 0)|ALa=>AAu ε Θ|ALb=>AAv lu ε|ALc=>∀(ta tb:TE),_|ALd=>∀(ta tb:aX),_|AQj=>qx s.heap d es ep|ALe=>standAt apos.atName|AQk=>(R1.grow gr)|AbL=>ε (t' :=s.toks) (ζ:= η)|ALf=>.cons ε B9|ALg=>(Ν - l.1)|ALh=>AM q hq|ALi=>hN b (Ξ ε)|ALj=>FV ε #[aZ]|ALk=>lA K H p xs|ALl=>R.sl i _ e|ALm=>dN (ž ε ζ η Θ)|AQl=>BAh "some"|ALn=>BAi (.Subscript ε ζ pos')|AQm=>ms.Pairwise (· <= ·)|ALo=>H' =upd H ε ζ|AQn=>dx≠x|ALp=>by with_reducible refine wpAny_loadPart_at ε ?_|AbM=>ρ (s.heap.get? l) ε|ALq=>by exact False.elim h|AQo=>Q Ρ (xL ε)|ALr=>AM r hr|ALs=>.pu (gl m)|AQp=>(ts++ [t])|ALt=>(KG a o)|ALu=>AOc (AHY ε)|ALv=>AOe hr|ALw=>by rw[List.getElem?_set_self ε] at e2|AQq=>AaP AG5|ALx=>ia PE e ε|ALy=>zY _ (zY _ ε)|ALz=>gZ (both.map f)|AQr=>lA K H1 a xs
|AL0=>W i m σ H|AL1=>uQ N d q|BBN=>fnOf x qual (GJ st) yY (bI st) ε ζ η|AQs=>.dK kvs|AL2=>by have ε:ζ=η:=Heap.size_push ..|AQt=>PE X o td|AQu=>yW rows w ε|AL3=>HH o e|AQv=>Z_ hb e ε|AbN=>Pw s hs|AQw=>pK X.K H ε ys|AbO=>(Aad ts)|AQx=>(xN jX ks qa)|AL4=>y=kV k|AbP=>ρ (xK d) zk|AL5=>yk e tn|AL6=>∀i j,CH ->ε|AL7=>by show OH hv rv (vd rs ε)|AQy=>(I.freeC x c e)|AL8=>Aag ε CO|AQz=>ρ (vA ks xs ε) d|AL9=>fC Fc X.A|AL_=>∀u,qA ->BN H' u|AL'=>fun D0 Γ E=>ε|AMA=>(.Compare a [op] [b] pos)|AMC=>⟨F1,Γ1,P,R1,q,ε⟩|AMD=>#[Tf (i:=0) au ε ζ rfl EO]|AME=>[topFrame z]|BBP=>[.Name x pos']|AMF=>by rw[List.append_nil] at hbs|AMG=>by have hlen:=r'.length|AMH=>Ν - l.1|BBQ=>(rows.map Ah)|AMI=>∀(hh:NB),_|AbQ=>DA ε l (.pu (eN k2))|AMJ=>.tr MW (.ob c.ak ε ζ)|AMK=>.int i _|AML=>NP X hC|AQ0=>Fk X.N y|AMM=>MZ bs.map bD|AMN=>by show N2 ha ha|AbR=>∀j,tZ (r j)|AbS=>R (.ok (.ret ε)) ζ|AbT=>BAu AOf|AMO=>GZ (ε*27720) ζ|AbU=>TU vs.getD Value.none|AMP=>s3.seq (s2.seq hq)|BBR=>HT.sIx xs.length 0 lo|AMQ=>ws.map fun w=>AGy|AMR=>iX Fn.len hs|AMS=>.str x _|AMT=>I.write (x:=ε) (e:=ζ)|AMU=>by obtain⟨z,hd,vs,rel,dd⟩:=WB GP|AMV=>fun i j hij hj=>ε|AMW=>gC.mp ((e ε).mp ζ)|AbV=>nU n m a|AMX=>by show Bn v us r1 r2 r|AMY=>MS vW ε D2 D|AMZ=>BAx 2|AMa=>∀b u,ε ->LT h.get? ->AN5|AbW=>BAy push|AMb=>.pu (fJ.d c S b)|AQ1=>bN X.prog X.w H s.heap|BBS=>⟨yB τ,ε,ζ,?_,?_⟩|AMc=>(zH (zF e))|AMd=>ZipApart z TI TO i1 i2 l1 l2|AMe=>by rintro i d _ hi ⟨ε,rfl⟩|BBT=>(fk S n bs k)|AMf=>BBL b|AMg=>ε (H' :=upd H1 a ζ)|AQ2=>(Sum.inr:Str ->Key)|AQ3=>by simp only [ε,Bool.false_eq_true,if_false]|AQ4=>∀(s:Shared) (ε:ζ),η|AMh=>∀(hu:hG),_|AMi=>∀(w:World),_|AMj=>by have key:=List.pairwise_iff_getElem.mp ε|AQ5=>(AOs - AHT)|AMk=>(AAX++m.take j)|AMl=>VA bH ε (AHR ζ)|AQ6=>setField ε ζ (rawInt η)|AMm=>∀f∈fs,ε|AMn=>ofM rows m|AQ7=>J9 rows ms|AMo=>(E8 q q)|AMp=>ε σ H2 fun ζ H3=>η|AQ8=>(m.getD i default)|AMq=>.tup (k.map eN)|AMr=>GL g f ε ζ|AMs=>[(false,BF ε)]|AQ9=>IY Sl (gc/\ε)|AMt=>So bs (Uy ε b)|AMu=>IntsAre vs ns|AMv=>by show IP AK k|AQ_=>(fH rows x)|AbX=>(.dic iN Aaf)|AMw=>by intro _ h;cases h|AMx=>(w.params.setOrder S ep)|AMy=>(kZ c.Scale "points" Θ)|AMz=>(wY bL aK Ψ)|AQ'=>AGx te v ε|AM0=>I 0 Γ|ARA=>GL S_ k ε kv|AM1=>pC K F H H0 s o|AbY=>∀{rows:BA}{ms:HP},_|AM2=>fY X.N sc own caps X.env.scope N'|AM3=>len _ _ _ hs|ARB=>newExc Aab []|AM4=>DM vf body tb|AM5=>∀{ds:Β}{vs:Δ},_|ARD=>sp vs H Q E|AM6=>backTo pos (starEach ε X.env)|ARF=>attributeBase ε ζ X.env (fT η)|BBV=>AOa ε (Obj.isFreed_of_fields (Obj.data_mapFields ζ _))|AM7=>(! t.plain&&BBG)|AM8=>by refine CU (setState S) (wpAny_setState_of hg O.dat O.fit ?_)|AM9=>fun xs ds P=>ε|AM_=>by have hl:Ps ε=ps.length:=ζ|ARG=>by obtain⟨its,rv,pl,hz⟩:=BA'|AM'=>holding [ov] (getMethod ov ε ζ)|ANA=>(fun s o=>y s o - x o)|AbZ=>Inv fe pins σ ε ζ|BBW=>HT.sIx xs.length xs.length hi|ANB=>cx.px pins σ Γ1 F1|ANC=>AOr (AOK ε) Aae AAt|ANE=>by have I1:AaZ:=BAg (AOk sb) f4 f5|ARH=>BBK (W B2 m' σ' H') (∀x H',ε i H x H' ->ζ)|Aba=>pick Ρ ε is|ARI=>jx (ws.map (kW rows)) ε|Abb=>∀k v,ε ->ζ v=k|ANI=>C' =C/\m∉fs/\ε
|BBX=>.Raise (BO ε) none pos|ANJ=>fun v z=>by cases z|ANK=>lQ k ε S h|ANL=>[N1,v Ν]|ANM=>by show KU;obtain⟨a,_,rfl,_⟩:=r;rfl|ANP=>(AC (i<0) (-i) i)|Abd=>BAS CX scope f ε A|ANQ=>∀ds Q E,sp ds Q E ->Aaa|ARJ=>by cases (Bz (u=Value.ref b) ry)|ANR=>nI td (AOj (Ny H1 a) (AOV ε))|ANS=>∀d v F' H',a_ ->ε ->ζ ->g_|ARK=>IsPair ε TI (AA i1) (AA i2)|ARL=>["row","lead","place","ahead"]|ANU=>by simp only [List.mem_cons,List.not_mem_nil,or_false,not_or]|ANV=>by obtain⟨⟨old,q⟩,st⟩:=q|ANW=>callWith pos f first ε ζ|ANX=>Binds X.K fd ps []|ARN=>MR wQ base ε outer s H|ARO=>(Heap.SameBut.update s.heap I _).ε|Abe=>BBJ H E hr F0|ANZ=>obs K=good w|ANa=>by show AAG a1 u1 h1 h0|ANb=>by obtain⟨o,e,c,d⟩:=st|ANc=>GT ["one","other"] "one" "other" ε|BBZ=>k d Γ2 F2 H2 v R2 qf ε ζ|ANd=>by have cx:Ctx (AN0 wsh BA_) F0 H (At Ex):=ε|BBa=>∀c o,c≠z ->Ο (c≠TO) (c≠i1) (c≠i2) (AGn c) ε|ANe=>by refine Nt lk hcd S (fun vs H Q E hq1=> ?_) ε|ANf=>CL #[Rz rfl rfl ε.1 ζ.2 (H_ GQ)]|ANg=>hE x C dx F' H' z1 R'.gr (xr.back R.gr.h)|ANh=>by have hu:(A.deeper (xS ε (bI ζ) cdv)).units+21<cLine:=Fr hr.units|ARP=>Str.ofString ε|ARQ=>ε (· < ·)|ARR=>s1.heap.objs.size+ε|ARS=>ε=xs.length|ART=>by rw[List.map_cons,ε,ζ]|ARU=>ε<h.objs.size|ARV=>⟨ε,DZ ζ⟩|ARW=>by simp only [Array.length_toList] at ε|Abf=>by rw[List.getD_eq_getElem?_getD,ε,ζ,η]|ARX=>⟨WF ε ζ⟩|ARZ=>(by rcases ε with (ζ | ⟨o,η⟩) | θ)|BBb=>by simp only [Bool.and_eq_true,ε] at ζ|ARa=>if h:ε then ζ else η|Abg=>I.hok.fresh ε|ARb=>by ac_rfl|ARc=>by show Aai ε ζ|ARd=>List σ|ARe=>ρ A.frames ε|ARf=>(AA l)|ARg=>(AA l1)|ARh=>(cV 12)|ARi=>Rat.mul_inv_cancel _ ε|ARj=>(qv 12)|ARk=>AF w|ARl=>AF items.size|ARm=>.ref S|ARn=>.ref c|ARo=>Α l.length|ARp=>Α m.length|ARq=>st.2.1|ARr=>ω am|ARs=>ω ((ε a:Key)=ζ b)|ARt=>(At HN)|ARu=>by unfold ao;rfl|Abh=>(cC Ρ)|ARv=>Db T|ARw=>C4 none|ARx=>.type "set"|ARy=>Υ z.length|ARz=>.inr w|AR0=>some a|AR1=>Ω hv|AR2=>Ω χ|AR3=>Ω (BH ε)|AR4=>Ξ (ε (FX z))|AR5=>.cons _ _ ε|AR6=>(BO nE)|AR7=>st.2.2|AR8=>assign ε X.env|AR9=>AL ->Rat|AR_=>(IT hc)|AR'=>by show Cn ε ζ Prod.mk.inj η|ASA=>.str work|Abi=>.str Τ|ASB=>(BH h)|ASD=>(BH hu)|ASE=>(BH hk)|ASF=>aD ε (aD ζ (HC η θ))|ASG=>ER X.s₀.heap.get?|ASI=>D5 setNext|ASJ=>(zA.mp ε).1|ASK=>fun z E cx=>ε ζ|ASL=>KE bs.length|ASM=>GH Lo|ASN=>by rw[List.getElem?_map] at e|ASO=>by rw[Int.natAbs_mul] at e|ASP=>.Subscript ε ζ pos|Abj=>show ε by decide|ASQ=>Str ->Int|BBc=>Str ->Eg NameKind|ASR=>.tup ys|Abk=>ρ (W.specialIn K ε ζ) η|BBd=>wpAny_loadPart' hl|ASS=>K.lookup a|ASU=>by show EF wpAny_attempt ε|ASV=>(KF "type")|ASW=>(CA work)|ASX=>(.bl true)|ASY=>getD_get? e|ASa=>zY _ OI|ASb=>E_ o|ASc=>CY Aam|ASd=>ε ζ (List.mem_cons_of_mem _ η)|ASe=>Cb ds|ASf=>Bi Wr|ASg=>by cases (Bz ε r);rfl|ASh=>DE q.den|ASi=>DF AGy|ASj=>DF Aa3|ASk=>KK A.in1.handled|ASl=>exec ε X.env|ASm=>x::post|ASn=>IY F8 ε|ASo=>show ε by decide|ASp=>VM hj|ASq=>VM ξ|ASr=>by have:=ε;grind|ASs=>by have ε:ζ=η:=by exact_mod_cast θ|Abl=>(mw oh)|ASt=>ns.length<=n|ASu=>FY h|ASv=>AGc Stmt|ASw=>(c - 1)|ASx=>MV qS ε|ASy=>ps.length - 1|ASz=>DJ Unit|Abm=>Q Ρ H'
|AS0=>(Nn ds.map)|AS1=>EI hq1 ε|AS2=>(aS hi)|AS3=>(aS ho)|BBe=>wpAny_loadPart' hb|AS4=>Sm p|AS5=>Q (.bl ε) H|Abn=>fun ε ζ=>by simp at η|AS6=>(Aa0 .str)|AS7=>VO fK ε (ABG ζ η θ)|AS8=>absurd ε χ|AS9=>#[qv 2]|AS_=>α ->β|AS'=>IG AAa|ATA=>(l+r)/2|Abo=>AGf W.emptyDict ε|ATB=>ANn β|ATC=>KS (.tr as ANz)|Abp=>Md (zZ h)|ATD=>(d::ds)|ATE=>AM b q|Abq=>ů "points"|ATF=>s.heap.IsList l ε|BBf=>(ED "range" p)|ATG=>(lt i j)|ATI=>E4 _ rfl|Abr=>ac its.toArray|Abs=>ac us.toArray|ATJ=>(L5 Ε)|ATK=>(gM qs)|Abt=>(ms.map .int)|ATL=>IH ε ["hand"] ζ η θ|ATM=>.ow BBQ|ATN=>M3 Builtin.Tuple.tupleExact|ATO=>own.length=n|ATP=>storeSet a ε ζ|ATQ=>f_ List.take_add_one ε|ATR=>V.ref (LZ)|ATS=>xh s2|Abu=>oC (ε _ _ e2)|ATU=>by refine codeAny_mono ε (ψ ζ η θ)|ATV=>V ->Ū|ATW=>Sem Bool|ATY=>L.wk w|ATZ=>gS (ABJ hn)|Abv=>(AGd (m4 o m) D6)|ATa=>Β ->rg ε|ATb=>ys[j]?|ATc=>ns.length<64|Abw=>(ED y xH)|ATd=>W.hasDictIn K C=true|Abx=>(o5 Aav)|ATe=>.obj C fs ds|ATf=>Ž H'|ATg=>ž ε Θ|ATh=>dI hb2|ATi=>Q v H1|ATj=>DO nQ ε 0|ATk=>kO a b|ATl=>AGv ANx|ATm=>AGw pyIter ε|ATn=>Ty AAf ε|ATo=>List.getElem?_append_left (BH hi)|ATp=>zP.mpr rfl|ATq=>WP (if ε then ζ else η)|ATr=>(ε :Str)∉fs|ATs=>ρ (W.findIn K E3 ε) none|ATt=>(So fp (Ž H))|ATu=>VX MX h.2|BBg=>some (.frz o u)|ATv=>(XO a C (BO dx))|ATw=>AZ3 swapsWithSole ε ζ|ATx=>ε (by exact_mod_cast z)|ATy=>AZ5 Key|Aby=>B_ mg E3|ATz=>by show II (ε D.int)|AT0=>by show II (ε D.str)|AT1=>comb ms rs j|AT2=>AG3 D|AT3=>AG3 V|Abz=>pre++post|AT4=>by show N4 (AHz ε)|AT5=>BBM - i|AT6=>zU _ hb|AT7=>Q v H2|AT8=>aj ε (aj ζ (Ev η θ))|AT9=>(e - AHt)|Ab0=>qB AN_|AT_=>Same H1 H'|AT'=>EG ε _ AHs ζ|AUA=>by unfold ε;rw[ζ,η];grind|AUB=>yy X.base.get? ε|AUC=>mV ks k|AUD=>(y8 aZ)|AUF=>y_ hn|AUG=>Rd H a GM|Ab1=>(Heap.SameBut.update ..)|AUH=>s.heap.UpToSlots h'|AUI=>(cols p)|Ab2=>.done (.ret ε)|Ab3=>BN F (w9 VW)|AUJ=>zS aA|AUK=>(AAm List.size_toArray)|AUL=>AOA num|AUM=>(zh "marks")|AUN=>(rX aJ)|AUO=>o_ RJ tg|AUP=>AaC s2.heap.objs.size|AUQ=>h _ zD|AUR=>Q none LX|AUS=>Q () LX|AUT=>∃v,ε/\IN|AUU=>jJ hs x|AUV=>B' (.Subscript ε ζ pos) η|AUW=>by unfold ε;rw[ζ];rfl|AUY=>GS (BAV cpos ε ζ) η (! θ)|AUZ=>AaE 1|AUa=>(Nw a Aap)|AUb=>by show Á Builtin.SmallTypes.nextOf ε|AUc=>(AG1 And (b::rest))|AUd=>(AG1 And BAz)|AUe=>ε z E cx pins|AUf=>qx h d es ep|AUg=>((l+r)/2)|AUh=>Cu xs.toList|AUi=>a∈as|AUj=>AM q hq0|AUk=>by refine wpAny_call (ε ?_)|AUl=>aA m f|AUm=>(ε ζ).congr fun j=>η|AUn=>pK K H p xs|AUo=>PA X es t|AUp=>PA X D6 t|BBh=>ABK s.heap.get?|AUq=>R.sl i _ e0|AUr=>R1.sl i _ e2|AUs=>R1.sl i _ e0|AUt=>Pw S U|AUu=>dN (ž ε ζ cQ η)|AUv=>BAh "end"|AUw=>(AaK s1.heap.objs.size)|Ab4=>newList []|AUx=>fun z hz=>ε|AUy=>a.num*b.den|AUz=>(200*27720)|AU0=>(2^105*27720)|Ab5=>aN K C f|AU1=>aa (Value.ref d) Value.none|AU2=>aa (Value.ref l) Value.none|AU3=>zM (Di ?_) ε|AU4=>zM (Di ε) zi|AU5=>OE (nms.map .str)|AU6=>OE (IW.map .str)|AU7=>by show AHq ε List.getElem?_replicate|AU8=>k b u q|AU9=>by show Bn a vs hq rs r1|AU_=>AOh "tuple"|AU'=>(AOm s3)|AVA=>by show GW;rw[E6] at hp;exact hp|AVB=>by show GW;rw[JI] at hp;exact hp
|AVC=>call_meets ε (Is ζ) η θ|Ab6=>("self" ::ps)|AVD=>ε/\ζ/\η/\WE ks.length/\θ|AVE=>AM w hw|Ab7=>AOx E3|AVF=>iV f f[i]|AVG=>(AOy Str.empty)|AVH=>Fy x OG|Ab8=>s.heap.IsCell c v|AVI=>DF (.int (f w))|AVJ=>f.getD k 0|AVK=>by refine z9 (wpAny_newObj_type ?_ ε)|AVL=>ε i ξ ξ|AVM=>l.getD (l.length/2) 0|AVN=>Pp z0 v ε|AVO=>A2 (W.plainGet K C ε)|AVP=>(n,k)::r|AVQ=>r c*Iq ds|AVR=>X.xe e s'|AVS=>sY a1 b2|Ab9=>AO4 [_]|AVT=>PA X [a] ta|AVU=>ε fun a b=>AG5|AVV=>ε treeTable p w 11|AVW=>AO_ h4|AVX=>Il R1.g ec|AVY=>fR nW H' h'|Ab_=>BAr (I i Γ2)|AVZ=>y0 p p p (KG p ε)|AVa=>Gr F0 H0 F H|AVb=>q::qs|AVc=>l::r::t|AVd=>fun f=>ze|AVe=>fun w hw=>ε|AVf=>∀S∈Ss,ε|AVg=>by unfold ao ao at ε|AVh=>by simp only [List.lookup_cons,hx]|Ab'=>by rw[z,ε] at q;cases q|AVi=>zH (Nat.lt_succ_of_lt ε)|AVj=>(xs++ys)|AVk=>(as++cs)|AVl=>ht _ _ cx|AVm=>by refine wpAny_newObj_type ?_ ε|AVn=>(Na Ι AHv)|AVo=>by have e:ρ (uT ε F6) ζ:=η|AVp=>Tk h.get? AN5|AVq=>ź x h|AVr=>gg ε M_ pM|AVs=>gg ε ζ (AOo B.get?)|AVt=>sJ own caps ε|AVu=>BZ fun i j=>(ω ε)|AVv=>∃a kvs,v= AR/\ε/\ ζ|AVw=>(AHB Θ z_)|AVx=>Steps prog w A I|AVy=>(L.map fun r=> AOw)|AVz=>ABM HL k|AV0=>rB Ss fs|AV1=>Fu ε s1 h1|AV2=>(Aau kvs.any)|AV3=>w∈ws↔WH Â|AcA=>(I_ Ε (cU eZ LY))|AV4=>Ab (AA_*B) AOT|AV5=>(vU xs lo hi)|AcB=>(f j).num|AV6=>Bm d d' =true|AV7=>Aax rows|AcC=>(∃k,BAn)/\AaN|AcD=>[pq S,rE bs]|AV8=>by show L' (bS hz rfl (.ref ε)) rfl|BBi=>Aa4 cells.lookup|AV9=>Aa6 ds|AV_=>St ->AHj ε|AV'=>fun h hh=>ε|AWA=>k∈ks|AWB=>k*7 % ns.length|AWD=>ε I1.hok ea|AcE=>(sF.trans gr.f)|AWF=>.ext (DZ ε)|AWG=>by unfold Rep at r⊢;exact r|AWH=>Value.int i t|AWI=>∀c∈cs,ε|AWJ=>∃m,m<n/\ε|AWK=>hs.map fun h=> ε|AcF=>PE X i ty|AWL=>Value.str x t|AWM=>HG ds rest|AcG=>D.rt v H|AWN=>(B4 e True.intro)|AWO=>(HQ b hb)|AWP=>(HQ x hx)|AWR=>by have ε:ρ (AAr ζ s.heap.objs.size) η:=θ|AWS=>(List.range' ε n).map|AWT=>by show OM Τ h|AWU=>Tm x c|AWV=>by refine zs1 ε ?_ ?_|AWW=>oz TR t v as|AWY=>AAH s.heap Χ|AWa=>(AOv/ Α b)|AWb=>AN1 cX (Ç ε)|AWc=>nG fun i j=> .bl (AAp ε)|AcH=>by obtain⟨z,hd,xs,rel,dd⟩:=WB KN|AWd=>Ä Hi ε (cB bT yv ζ)|AcI=>⟨Aac ε,codeAny_builtin ζ η⟩|AWe=>(start N vs)|AWf=>gy TD H2 H|AWg=>Int.gcd a b=ε|AcJ=>fun C dx H' =>ε|AWh=>mT (t Γ (fun c Γ' =>ε) E)|AWi=>by show AH1 rfl rs|AWj=>∀c∈cs,f c=0|AWk=>DM QG tg g|AWl=>(AO6 ⟨GN::us,kw⟩)|AWm=>(jt kvs k).isSome|AWn=>by rw[e1,e2] at hd|AWo=>nJ ε nT (L5 ζ)|AcK=>(rel.val k).lZ|AWp=>lA K H a AO8|AWq=>I.cell x c e|AWr=>by have e:b=it:=AN hb|AWs=>fun b u q n ε=>ζ|AWt=>BBS (fun ε Γ=>ζ) η|AWu=>∀b ob,Aao ->oo h'.get?|AcL=>Un (frs ε) ζ H H' s.heap s'.heap|AcM=>(mv,q_ fun r=> AAa)|AcN=>(mz ns ε).fmod|AWv=>by have hlt:=zF e|AcO=>lA K F a vs|AWw=>(So as (gc/\LS H0))|AcP=>FT x B Τ|AWx=>(.UnaryOp .Not a pos)|AWy=>[BS,p_ (gh AAX x),ε,ζ,y4,y5]|AcQ=>(BBX (xF (ED x np) D6))|AWz=>by show À ε (AZ8 Oc) l2 ζ _ (zY _ η)|AW0=>cand S n bs k BBT|AW1=>BBa (qV c)|AW2=>σ ->AI|AW3=>(x.1).isSome|AW4=>xs=ys|AW5=>x.2≠y.2|AW6=>∀m∈ms,ε|AW7=>x h - Ų|AW8=>f j - rV*q j|AW9=>["sheet","hand"]|AW_=>by obtain⟨_,_,e,_⟩:=hS b z|AW'=>ElemsOf knd ε|AXA=>(ps.zip us)
|AXB=>(.exc C)|BBj=>(Str.ofString "abcdefghijklmnopqrstuvwxyz").ε|AXC=>by exact Nat.le_add_right _ _|AXD=>pure (ForInStep.yield ε)|AXF=>fun H s=>ε|AXG=>(q::qs)|AXH=>BG Int Int|AXI=>∀(K:W.Frag)(tl:TE),_|AXJ=>(i - j)|AXK=>(k - l)|AXL=>A4 (ll rows)|AXM=>.inl (sF.seq hq)|AXN=>.inr (su sF hq)|AXO=>Heap.get?_update_other _ _ AHr|AXP=>qC rows h|AXQ=>cutD (ε ζ) η none|AXR=>(zX _ rfl)|AXS=>BE jh AAQ|AXT=>FU y y|AcR=>uW b (e - s)|AXU=>(fJ.fs++ [("kept_borders" :Str)])|AXV=>h v zV|AXW=>mo XS ε #[Oj]|AXX=>by have hr' :=iU.mp hr|AXY=>swappedStores ε ζ X.env=pure η|AcS=>ρ (entryFor table ε) ζ|BBk=>by have ε:ζ[j]=η:=by simpa [List.getElem?_eq_some_iff] using (zT.mp θ).2|BBl=>∀x∈a,x∉b|AXZ=>ω (Τ=h)|AXa=>(List.nodup_cons.mp nd).2|AXb=>.leaf (qD g)|AcT=>Fk ε (.tr [] (.kt k))|AXc=>Mw rows x m|AcU=>(.ob C [] [])|AXd=>Gr F ε F' H'|AXe=>by show K' t (Bz (re ε) r);cases e;rfl|BBm=>AGf oA update|AXf=>R J H'|AXg=>(nL ((AOY).zip AHd))|AXh=>zH (Nat.lt_succ_self _)|AXi=>if_neg (Nat.lt_irrefl _)|AXj=>∀(K:W.Frag)(F0 H0:Hp),_|AXk=>(m.getD j default)|AXl=>by show NA setsByText XJ|AXm=>∀(I:Η)(S:AH0),_|BBn=>(b∈X.ex\/AAy b)|AXn=>Heap.SameBut a s.heap ε|AcV=>T.keep _ _ _ ε fun b hb o e=>ζ|AXo=>by obtain⟨_,_,_,_,o,_,_,e,_⟩:=k;exact C6 e|AXp=>∀{σ:St}{Γ:G2},_|AXq=>by show ŷ v r1|AXr=>["hand","mark","self"]|AXs=>∀(K:W.Frag) (C:Addr),_|AXt=>yi (ε (Γ'.set i υ))|AcW=>∃o,ε/\∀v,o.data≠ .cell v|AXu=>(yZ _ _ _ ?_)|AXv=>VT F H Γ|AXw=>(L2.upd F a MY)|AXx=>by rw[D_ (show¬(ε) from Bool.false_ne_true)]|AXy=>ρ (X.env.scope.names.lookup y) AOt|AcX=>ρ (K.lookup f) ⟨oc,od,ε,ζ⟩|AcY=>(es.getD p (0,Χ)).2|AcZ=>Ka rows ws ps|AXz=>by show qo z9 wpAny_onRaise|AX0=>U i j hij ε|AX1=>(rL w hw)|AX2=>ANt Wk hN ε hx ζ|AX3=>B' (.Constant ε j pos) ζ|AX4=>(j - i).toNat|AX5=>(hi - lo).toNat|AX6=>jk t s.heap l xs|AX7=>qD (Aay h)|AX8=>by unfold kO;rw[K9 xs];simp|Aca=>∀(C:Addr)(i:Nat),_|AX9=>gy (¬TD) H2 H'|AX_=>BAi (ū ε f pos')|AX'=>h.Ns1 dx mA|AYA=>σ ->α ->Rat|AYC=>holding ε (eval ζ X.env)|AYD=>∀{A:Around}{E:dR},_|Acb=>(fs.zip vs).lookup|AYE=>A4 (ll l)|AYF=>∀(X:Cx)(pins:dJ),_|AYG=>AO7 (bi st.at (APD it))|Acd=>iT t1 s.heap i1 l1 k1|Ace=>iT t2 s.heap i2 l2 k2|AYH=>by obtain⟨a,vs,h0,h1,h2⟩:=h|BBo=>am ->∀h∈kW rows Ν,h∈m|AYI=>AF (BE ns.map D.int)|AYJ=>lt ε (p.getD ζ 0)|AYK=>#[Cj rfl (BAo ε ζ)]|AYL=>∀(td ty:TE),_|AYM=>CY (sIx n 0 lo)|Acf=>GL ε p 1 0|AYO=>Slot.tr ε (.dic ks ζ)|AYP=>by refine z9 (wpAny_typeNameOfWhole_keyiter hit.typeIs AO0)|AYQ=>∀{f:Addr}{fd:FuncData},_|BBp=>∀s∈rows,Ν=s.1 ->ε|AYR=>(Qz r ta tb)|AYS=>(Wg b o e hx)|Acg=>AHm hq2 (Aaj hq2 (APB ε))|AYT=>WX ε (Sb W0) AHp|Ach=>ne c _ z (E4 w (by cases w))|AYU=>jj xs ys=true|AYV=>pU H F' a|AYW=>AN6 BBP e (ε i ζ)|Aci=>g x σ H' (AHO (tb (AHS N N) σ2 H2))|AYX=>rC p s i|Acj=>by rw[typeLookup_type,builtinLookup_eq_fast];kernel_rfl|Ack=>BBN ε Χ Χ|AYY=>∀{n:Nat}{f:pe},_|AYZ=>ρ (jt kvs k) v|AYa=>Bi Wu hu ε ζ (IT hval)|AYb=>by have n:=TF (t:=t) h|AYc=>∀(qs:AW)(bs:GU),_|AYd=>∀(OF){r:Rw}{w:Str},_|Acl=>AOX ho x y v u|AYe=>∀(t1 t2:Bool)(h:Heap)(l1 l2:Addr),_
|AYf=>by refine Ol (P.below ξ) (AAz ξ) (P.ne ξ ξ ξ) ?_|AYg=>BBZ r p|Acm=>ε=operate ζ (getItem η θ)|AYh=>⟨H1,I1,q1⟩|AYi=>(by rcases hq with hq | hq)|AYj=>by rw[K1 e1,List.set_set] at ε|Acn=>nM rows ws m ε j*AHw x m.getD|AYk=>WL (At ε) (C4 AZ4)|Aco=>Ab M TN|Acp=>(Nx I.hok eb)|AYl=>∀{elts:AD}{x1},_|AYm=>∀[Tu](val:GH κ),_|AYn=>ε H2 (s2.trans s3)|AYo=>(cB g ta tb)|Acq=>ε (gM qs) qs.length ζ η|AYp=>ε ζ es1 (SetTable.grown es1.size)|AYq=>by refine wpAny_Call_Name_kw (Bi Kv I hg hm ?_ hdb)|AYr=>by show Cn rfl rs X4 ε|AYs=>by show Cn p1 p2 List.pairwise_cons.mp ε|AYt=>Tq (hu1 hu) ε ζ|AYu=>∀{t1 t2:Bool},_|Acr=>GS if_neg hb (Aaq ε)|AYv=>Xa I S e|AYw=>∀(x:D1)(L:BA),_|AYx=>∀{i:Nat}{x:Str},_|AYy=>T.obj _ _ ε b hb|BBq=>∃es,o.data= .dict es ep|AYz=>∀(hs:ο)(x:D1),_|AY0=>ε (hc z) hg hm ζ|AY1=>⟨0,0,0,0⟩|Acs=>My (BAw k0) BAv|Acu=>ρ (nsIn K mainGlobals x) (BO EQ)|AY2=>ε S es.size ep o|BBr=>by (obtain⟨_,_,z,_⟩:=r';cases z)|AY3=>μ*d.fdiv T0|Acv=>(xw (Sum.inr (xs.getD i Str.empty):Key))|AY4=>JJ _ R1 s1 MX q|AY5=>((p,w)::P.zip vs)|AY6=>yL ε I (fst ζ) η S n ep|AY7=>AZ9 QE elt te|AY8=>AZ9 QG tg g|AY9=>AZ9 Ld ifs tc|AY_=>by show AHE (D5 .ε) (D5 .ζ) (D5 .η)|AY'=>by show AHE (.ε _ _ k1 hu0) (.ζ _ _ k1 hu0) (.η _ _ k1 hu0)|AZA=>wpAny pd X.A (pyNext (AA it)) (fun r s1=>ε) E s|AZB=>by show È (.ε _ _ k2 hu0) (.ζ _ _ k2 hu0) (.η _ _ k2 hu0)|AZC=>(backToKw pos (keywordEach [] X.env))|AZD=>by show P9;exact ε a t' b t|AZE=>.tr a7 (Ai hk (oh l))|BBt=>AOq (∃F ds P Ex,ε)|Acw=>∀{mg:CD}{base:Heap},_|AZF=>lX.some_of (v:=v) (o:=ε)|AZG=>∀(O:rh)(P:Tx),_|AZH=>ρ (W.typeIn K EQ) (KF "function")|AZI=>dt rs (cols p)|AZJ=>(gh (ws.take i) v)|AZK=>FE far b (Nz hT hdT q n)|AZL=>Oa (i:=ε) (At Xk) PySem.F.slot_list_append PySem.F.type_list_append rfl|Acx=>∀(BBH){ix:WA}(h:AHe),_|AZM=>X7 (d:=ε) (NC ζ)|Acy=>obs (cut s.heap n)|Acz=>∀{n p:Nat}{A:PZ},_|AZN=>by have hm:APF s1.heap.DictAt:=⟨o,es,ε,h2,h3,h4⟩|AZO=>by show CM r hr e F.of S hS|AZP=>⟨A7 e d0,A7 e (d1 _ b1 b2)⟩|AZQ=>by obtain⟨b1,b2,b3,b4⟩:=ε|AZR=>by exact Md (main _ _ χ χ)|AZS=>(fun d Γ' =>DA Γ' 0 (.pu Aat)/\Q d)|AZT=>ε X.prog X.w s.heap.objs.size ns|AZV=>(.Assign [.Name y py] pk spos)|AZW=>.ask i j k|BBu=>∀(aO:AS Vu)(aR:AS PN),_|AZX=>⟨F4,Γ4,R4,s2.trans (s3.trans s4),q⟩|Ac0=>dG n caps ti g|BBv=>⟨_,rfl,ε,_,AOz,ζ,?_⟩|BBw=>Tl (BBV ho hd) ((Obj.cls_mapFields ..).trans hc) ε|AZY=>by obtain⟨z,its,n,r,e⟩:=ε|AZZ=>by show AAG a2 u2 h2 h1|Ac1=>(ε (HT.sIx xs.length 0 lo)).take (BBW - BBR)|AZa=>(false,BF ε)::backTo pos (starEach ζ X.env)|BBx=>∀(t:T) (v:V) (as:AO),ε|AZb=>∀(ts:Gc) (vs:Δ) (as:AO),ε|AZc=>["spot","row","place","ahead","lead"]|BBy=>(zO _ (Wl hb e))|AZd=>by exact fD.there ts vs bs h a ha|Ac2=>(N9 v (∃h:Aak,v=Aa1))|AZe=>["hands","sheets","lefts","rights","numbers"]|AZf=>GS (backToKw cpos (keywordEach [] X.env)).ε x ζ|AZg=>KO (.For tg ε body [] pos) (ζ η g tb)|AZh=>(match k with | ic=>x | .inl _=>Str.empty)|AZi=>[z,TI,TO,i1,i2]|Ac3=>["_law_way","_law_w","_law_h","_law_hands","_law_cell_here"]|AZj=>(.Slice lo hi none p2)
|AZk=>ω (ε+ ([]:AOE).length+ (AC ([]:AOE).isEmpty 0 1)<30)|BBz=>x_ gq X.base (ANi gD) k f fd ps ε|BB_=>∀(q:Nat) w p,ar ws w ->ar ps p ->ε|AZl=>∀{A:PZ}{d:Int}{tb:PZ}{rs:CF}{fs:AAP}{ix:WA},_
|AZm=>∀(hline:ib:=by rfl)
 (he2:Ct starEach (o6 ANv [] cpos) (FD (BF ABN) (FC [])):=by rfl),_
|AZn=>DD (∃a b:Rat,ds= [qD a,qD b]/\KM a/\KM b/\ε)|Ac4=>["self","rows","rule","gap","scale","bounds"]|AZo=>["part","head","row","lead","place","ahead"]|AZp=>fI (Wi ta tb (fun i j H2=>ε) σ H)|BB'=>DD (∃(S:Φ) (n:Int) (bs:GU),ε)|AZq=>by have:=AO9 TV cs ε (ks:=ks) (ss:=rs) (r:=ζ) fun s hs=>hs
|AZr=>by
 generalize Α a.num=x at*;generalize Α b.num=y at*;generalize DE a.den=u at*;generalize DE b.den=v at*;subst h1 h2
 grind
|Ac5=>.FunctionDef|Ac6=>(FP L (ε w hw)).1|Ac7=>["sheet"]|Ac8=>["counts"]|Ac9=>if ε ζ η=true then θ else ι|Ac_=>if ε then ζ else none|Ac'=>by rw[List.length_append,ε,ζ]|AdA=>by rw[List.getElem?_map] at ε|AdB=>by rw[List.pairwise_cons] at ε|AdC=>ε<=fs.flatten.length|AdD=>by obtain⟨_,_,_,_,e⟩:=ε|AdE=>by obtain⟨_,_,_,e⟩:=ε|AdF=>by obtain⟨_,_,_,e,_⟩:=ε|AdG=>by obtain⟨_,⟨_,_,_,e,_⟩,_⟩:=ε|AdH=>by simp only [List.length_map] at ε|AdI=>Int.gcd_dvd_left ..|AdJ=>Int.gcd_dvd_right ..|AdK=>by simp only [if_true]|AdL=>by simp only [raiseNew]|AdM=>by simp only [List.lookup_cons,ε] at ζ|AdN=>by injection ε|AdO=>by cases e|AdP=>List Obj|AdQ=>l.length+1|AdR=>Nat.mul_le_mul_right _ ε|AdS=>Int.fmod_eq_emod_of_nonneg _ ε|AdT=>AF pf|AdU=>I.list h|AdV=>List.mem_iff_getElem.mp h|AdW=>.ref s1.heap.objs.size|AdX=>.ref acc|AdY=>Α AO2|AdZ=>fs.lookup ε=none|Ada=>.int (lo+i)|Adb=>(s₂.heap.objs.size+1)|Adc=>ω zI|Ade=>(At none)|Adf=>(BV ys)|Adg=>(BV xs.reverse)|Adh=>by rw[<- ε];rfl|Adi=>List.take_append_drop i ε|Adj=>i<ns.length|Adk=>Db Addr|Adl=>Db Heap|Adm=>AE beq_eq_false_iff_ne ε|Adn=>List.length_filter_le _ _|Ado=>Nat.lt_succ_self _|Adp=>SeqAt.EqAt.same _|Adq=>Int.le_refl _|Adr=>BN s.heap.get? ε|Ads=>Υ items.size|Adt=>Υ ys.length|Adu=>De AIJ|Adv=>by simp;omega|Adw=>fA ABd|Adx=>.inr rq|Ady=>some cE|Adz=>(Nat.le_refl _)|Ad0=>B_ h'.get? ε|Ad1=>(IT h1)|Ad2=>(IT hk)|Ad3=>(BH hx)|Ad4=>(.dK (Bh kvs k))|BCG=>(List.of_mem_zip ε).1|Ad5=>by have ε:=Heap.get?_update_self ζ η rfl|Ad6=>By W.handedIn ε|Ad7=>(C5 hy)|Ad8=>j<xs.length|Ad9=>show ε by show PF|Ad_=>(B7 10)|Ad'=>by refine wpAny_truthy_bool ?_|AeA=>by refine Calls.spliced_nil ?_|AeB=>by show EF wpAny_holding ε|AeC=>(CA hy)|AeD=>E_ ay|AeE=>Cb (kY xs ys)|AeF=>by rw[List.pairwise_cons] at h|AeG=>by unfold ε;show We|AeH=>.none_bool _|AeI=>.bool_none _|AeJ=>rows.take i|AeK=>FV ε (Ú Tz ζ)|AeL=>(FX hh)|AeM=>AZt (Ly F ε (Sb ζ) η) θ|AeN=>KK o.dict|AeO=>KK (jG ε H b)|AeP=>by rw[List.length_map];exact ε|AeQ=>show ε by omega|AeR=>(mw qC)|AeS=>DS APk|AeT=>DS BBo|AeU=>(w9 ay)|AeV=>.none_int _ _|AeW=>.none_str _ _|AeX=>.bool_bool _ _|AeY=>.int_none _ _|AeZ=>.str_none _ _|Aea=>Nat.lt_or_ge j ε|Aeb=>decide_eq_false ξ|Aec=>DJ Result|Aed=>(Kq.map .inr)|Aee=>b∈X.fs|Aef=>aA l (AG a ε)|Aeg=>No ε O.ex.1|BCH=>List.mem_singleton.mp hb|Aeh=>.bool true|Aei=>nB ε (E8 s' ζ)|Aej=>xA BBi|Aek=>by show APl;exact ε|Ael=>by have hl:=r.length|Aem=>AGe ae|Aen=>Fr APc|Aeo=>(aU Au)|Aep=>ε ζ a its.toArray|Aeq=>GY true|Aer=>(zY _ e1)|Aes=>List.nodup_cons.mpr ⟨ε,ζ⟩|Aet=>by rw[List.mem_singleton.mp ε] at ζ|Aeu=>Pc (AHX k.map)|Aev=>(nL AbE)|Aew=>(xE Θ)|Aex=>Gl X "range"|Aey=>k<ns.length|Aez=>(hf b hb)|Ae0=>(l.map .int)|Ae1=>fun z E cx=>Jz (ε ζ) η|Ae2=>V_ MB|Ae3=>V_ NE|Ae4=>by rw[ε,Rat.mul_zero] at e|Ae5=>by show MU ao;exact h|Ae6=>V' AbO|Ae7=>ny I.laid|Ae8=>WB zvb|Ae9=>zx.up χ|BCI=>xs.length=n|Ae_=>WE ks.length|Ae'=>f_ List.getD_eq_getElem?_getD ε|AfA=>(pre++d::oa)|AfB=>(pre++j::post)|AfC=>(pre++c::AH')|AfD=>P [.int e]|AfE=>Zs NQ t|AfF=>by show AU u rfl rx vals1 r1
|AfG=>(by rcases zR.mp h with ε | h)|AfH=>.dic ε (Nn (fL ks xs ζ d).map)|AfI=>gL (aE 1)|AfJ=>By pB x|AfK=>Cls X.K C|BCK=>wpAny_truthy_bool ⟨ε,ζ,η⟩|AfL=>ε*Iq (j::ds)|AfM=>Heap.ExtBut I ε ζ|AfN=>OL (j+1)|AfO=>qD (x' h)|AfP=>oq its|AfQ=>(gi AGj)|AfR=>(MW).Nodup|AfS=>QQ (kf e.2)|AfT=>Tb<=9000|AfU=>["hand","group"]|AfV=>dI (show Qr from ε)|AfW=>WN AbN|BCL=>List.getElem?_append_right (BH hi)|AfX=>AN0 env|AfY=>K.In base|AfZ=>pS (xI vs)|Afa=>pS (.dict es ep)|Afb=>fun h' hs' =>ε|Afc=>Int.lt_or_le 0 ε|Afd=>by show ε=ζ;grind|Afe=>by have hi:i<vs.length:=ε|Afg=>by have hi:i<Γ.length:=ε|Afh=>bb I.base.keep|Afi=>bb I.base.free|Afj=>(XO a C od)|Afk=>rows.take t|Afl=>rows.drop t|Afm=>(ks.map kV)|Afn=>Hd.ex "__init__" ε ζ|Afo=>(Aa'::us)|Afp=>pz Subscript ε ζ η|Afq=>(bx.mp hr').1|Afr=>ws.filter fun w=>ε|Afs=>E2 ε ["rows"] ζ|Aft=>xs.getD j 0|Afu=>KL p f7|Afv=>.seq items n|Afw=>br (APa h)|Afx=>PY base Nc Fc f fd ps (ε K sp)|Afy=>AG3 Int|Afz=>wpAny_execs_nil ⟨ε,ζ,η,θ⟩|Af0=>Array.getElem?_eq_getElem hi|Af1=>rv.up s1|Af2=>D0.nx Γ|Af3=>a=X.env.locals|Af4=>rows.filter fun r=>ε|Af5=>(qc Ψ)|Af6=>(qc ABt)|Af7=>Lc .bool_str|Af8=>Lc .str_bool|Af9=>(qh bX)|Af_=>Rd H a ay|Af'=>KV kvs ws|AgA=>o.cls= GN|AgB=>if Sl then none else ε|AgC=>ρ (X.env.cells.lookup y) ε|AgD=>by rw[z,ε] at e;cases e|AgE=>BN F (.frz ε (HF a C))|AgF=>(AAm List.length_take)|AgG=>qr ε this.symm|BCM=>BAf "other"|AgH=>c<s.heap.objs.size|AgI=>(x,NameKind.free)∈ε|AgJ=>Iq ABf*f j|AgK=>seqIndex_neg ξ ε|AgL=>(Nw a TL)|AgM=>IL r (r= Χ/\ε)|AgN=>r1.up s2|AgO=>z.natAbs<=B|AgP=>cB cI (DO eO ε ζ) η|AgQ=>B_ h.get? o|BCN=>(.str name t)|AgR=>AaJ fD.move|AgS=>AaJ fD.rep|AgT=>AaJ fD.repN|AgU=>(AaK dx)|AgV=>ρ o v|AgW=>ρ o CB|AgX=>AG6 ->Dx ->ε ->ζ|AgY=>ABa Aa5
|AgZ=>(by
 rintro(⟨ε,ζ,η⟩ | θ)
 ·exact ι
 ·exact ν)
|Aga=>by show AH ε ζ _=_;rw[η];rfl|Agb=>ABe W.hasDictIn ε|Agc=>by show ABh ds.length|Agd=>(ABk AOO)|Age=>pK K H1 a xs|Agf=>W 0 m σ H|Agg=>R1.g.trans sH|BCO=>AOu vs.length|Agh=>by show AH3 List.length_map ε ζ|Agi=>(vs++Nr)|Agj=>AM w _|BCP=>g x (a::ds)|Agk=>PD _ (Q ε H)|Agl=>mo K6 ε #[yI aQ]|Agm=>B4 ε (Nat.le_succ _)|Agn=>p.getD k 0|Ago=>AIA c.fO|Agp=>(jt kvs k)|Agq=>AH ε r (i:: ·)|Agr=>sY a2 b2|Ags=>su R1.g hq|Agt=>zri (t:=ε) (b:=ζ)|Agu=>PA X ae ta|Agv=>by have:=ε;show Ap ζ;show DT|Agw=>(ma AO1 [a] pos2)|Agx=>AIM base.Ns|BCQ=>iT t1 ε i1 l1 (k1+1)|Agy=>iT t2 ε i2 l2 (k2+1)|Agz=>(N*M)^rs.length|Ag0=>(by rcases Nat.lt_or_gt_of_ne ε with q | q)|Ag1=>(by rcases Rat.mul_eq_zero.mp ε with q | q)|Ag2=>fR nW H' s'.heap|Ag3=>y0 p p p (xB p ε)|Ag4=>ms.Perm ns|Ag5=>s'.os=s.os|Ag6=>1<ps.length|Ag7=>BQ<ps.length|Ag8=>ds.length - B2|Ag9=>200*27720|Ag_=>F x=none|Ag'=>(cellsFrom ε ζ η).lookup|AhA=>APQ AbR|AhB=>(APS a.den_pos)|AhC=>EV #[ycz]|AhD=>by show EU;simp;omega|AhE=>by show EU;have:=ε;omega|AhF=>(I_ Θ Ε)|AhG=>LA h F7|AhH=>(k,x)::r|AhI=>r j*Iq cs|AhJ=>tb Γ' P E|AhK=>aA l f=0|AhL=>.none_tuple k2 hu0|AhM=>.none_list k2 hu0|AhN=>.tuple_none k1 hu0|AhO=>.list_none k1 hu0|AhP=>by obtain⟨its,r',pl,hz⟩:=I.list hq|AhQ=>by obtain⟨its,r',pl,hz⟩:=I.tuple hq|AhR=>.bool_tuple _ k2 hu0|AhS=>.bool_list _ k2 hu0|AhT=>.tuple_bool _ k1 hu0|AhU=>.list_bool _ k1 hu0|AhV=>bt.lead (N:=16)|AhW=>bt.small (N:=16)|AhX=>Ñ as (AH2 ε)|AhY=>G5 K F HW (ε a o w_) ζ|AhZ=>bindL kindOf ε m x|Aha=>bindC kindOf ε m x|Ahb=>zC od (AAs ε) sl|Ahc=>gT (E_ TL/\i<kvs.length)|Ahd=>gT (E_ TL/\kvs.length<=i)|Ahe=>(S0 w os)|Ahf=>APG h i|Ahg=>by obtain⟨Ss,F,p⟩:=G.pi|Ahh=>by obtain⟨Ss,F,p⟩:=G.g.pi|Ahi=>(AC AOl (F b) (AOi (H b)))|Ahj=>(AC AOl (F b) (AOi (H1 b)))|Ahk=>.tuple_list k1 k2 hu0|Ahl=>.list_tuple k1 k2 hu0|Ahm=>AP5 (ε σ' H')|Ahn=>K.lookup C|Aho=>W.KasT α|Ahp=>T s.heap|Ahq=>ws.map v|Ahr=>oe.data= xI vs|Ahs=>t.dummies= #[]|Aht=>⟨0,ε,An⟩|Ahu=>by show Aa8 Nat.add_mul|Ahv=>by rw[List.map_cons,List.map_cons]|Ahw=>by rw[List.zip_cons_cons,List.lookup_cons]|Ahx=>qs.length<=61|BCR=>⟨Ξ (by(cases z)),ε⟩|Ahy=>["group","hands"]|Ahz=>s.heap.FunFrames X.base ε|Ah0=>(Aa9 hk)|Ah1=>(p::ABc)|Ah2=>ω (ANq AHk ε ζ)|Ah3=>ε (rows.take i)|Ah4=>∀s',ε ->ABL|Ah5=>(ns.getD i 0)|Ah6=>BE qX ns|Ah7=>Aa_ ys.map|Ah8=>ε K c (FN Q) (aH ζ ds) SZ|Ah9=>Sz 1900 m|BCS=>A7 r.length z|Ah_=>D2.nx (Γ1.set i ε)|Ah'=>qD (f j)|AiA=>FF (dI ne) jW|AiB=>(PU Ck Ψ)|AiC=>ft M_ pM|AiD=>KP (AIT 2) [ε] ζ|AiE=>Ŵ Γ' a|AiF=>by obtain⟨its,rv,pl,hz⟩:=I1.list hq|AiG=>eG p fun c=>ε*fs c j|AiH=>.cons _ t|AiI=>.dic _ ts|AiJ=>kd=eN k|AiK=>zt D8 AbA|AiL=>(jF F0 F')|AiM=>cW (fun d es=>s d*h es) ε|AiN=>eG m.length (JA ε)=ζ|AiO=>Fk Γ1 (.pu (eN k))|AiP=>AbQ Γ1|AiQ=>by show Cn h1 h2 zA.mp ε|AiR=>.pu (sX i3 ws)|AiS=>by show B6 (yB AP2) (ψ y H' z)|AiT=>DV rows r (Ø*ε) ζ|AiU=>(∀p∈ps,Fo 300 p)|AiV=>(hg x).mpr (C5 ε)|AiW=>TR.rep s1 t v as|AiX=>(Aba vs)|AiY=>fun _ _ _ _ _ ε=>ζ|AiZ=>Un (frs X.stack) [] H1 ε|Aia=>Rw ->Str|Aib=>sc.kind= ſ|Aic=>ε=DE ζ/ DE (a.den*b.den)
|Aid=>⟨uq,mk,ε⟩|Aie=>by show BBb decide_eq_true_eq ε|Aif=>List.mem_flatten.mp (G.mem ε)|Aig=>∀(K:W.Frag)(ta:TA),_|Aih=>AM k hk|Aii=>AM x hx|Aij=>Same H H1|Aik=>Ξ (ε q z.symm)|Ail=>By xs.all pB|Aim=>by refine PyProof.Rows.callWith_type1 ε ζ rfl|Ain=>by refine wpAny_call (codeAny_mono ε ζ)|Aio=>HG es us|Aip=>(ws++ [w])|Aiq=>fN F' H'|Air=>MS SR F H ε (gN ζ)|Ais=>(Ox a b)|Ait=>GT ε "some" "bounds" ζ|Aiu=>(by show ANx;decide)|Aiv=>i.natAbs<2^k|Aiw=>FE Cr.2 _ ε|Aix=>by show N0 (List.eq_nil_of_length_eq_zero ε)|Aiy=>F9 r hr|Aiz=>List.getElem?_append_right (Nat.le_refl _)|Ai0=>WF is.map AbU|BCT=>(fun b z=>(AHA z))|Ai1=>OK (AIa (APU ε))|Ai2=>om e tf|Ai3=>(P6 Θ 3)|Ai4=>(gi (Abd cdv))|Ai5=>dU (g j)|Ai6=>(∀p∈names,Aah)|Ai7=>ρ (xK S.marks) (ks,ys)|Ai8=>(iO (sA/\ABV))|Ai9=>(l.map f).sum|Ai_=>qi p hk|Ai'=>rS a xs|AjA=>dt Ì iP|AjB=>Ë i j|AjC=>Ó ε Ψ Ι|AjD=>AOd dx a|AjE=>∀(i:Nat)(te:aX),_|AjF=>⟨ε,H,I.tok _,CO,ζ⟩|AjG=>ψ r s' hq|AjH=>bx.mpr ⟨h1,h2⟩|AjI=>.lst (Í o (AP8 h))|AjJ=>by show N0 (Xf rs hns)|AjK=>by have kp:yy s1.heap.get? ε:=HK ζ|AjL=>vf (gi AGj) F0 H ε t|AjM=>AIV (n_ q) trans|AjN=>(Eo X.prog X.w q ns)|AjO=>by rw[List.nodup_cons,List.nodup_cons] at nd|AjP=>(rv.up s2).up|AjQ=>by show LG;subst h;simp [ao]|AjR=>tM o4 Ψ ε aT|BCU=>(mU Θ AP4 mK)|BCV=>MS SR F' H' σ' Γ'|AjS=>yQ s.heap x dx C mA|AjT=>∀(t:bZ)(g:qP)(tb:aF),_|AjU=>by refine Call_ (AAx ε (PyProof.Rows.callWith_type1 (APn AIY) hs rfl))|AjV=>fun w hw q=>ε|AjW=>BBj cps.toList|AjX=>AOX ε _ I2 q2|AjY=>by obtain rfl:os' =s.os:=hm.os|AjZ=>aA OG AO5/ Α WS|Aja=>rk S bs i|Ajb=>∀(K:W.Frag)(H:Hp)(a:Addr)(xs:Δ),_|Ajc=>pz Constant ε j (tC ζ)|Ajd=>∀(c:APb)(n:sP),_|Aje=>gD P w outer H s ε e s'|Ajf=>⟨a1,a2,a3,a4⟩|Ajg=>by obtain⟨t,ht,hq⟩:=Abe|Ajh=>.inl (Hm _ kk (Il R2.g ec) ε)|Aji=>(Xr t1 ε l1).objs.size|Ajj=>⟨F2,Gr.refl s3,rv.up s2⟩|Ajk=>ε t es (knd.hash k) x|Ajl=>by have nab:a∉bs:=AO3|Ajm=>(startM N.length AbJ ds)|Ajn=>CX outer H s E|Ajo=>DD (∃qs:AW,ds= [sN]/\ε/\ sL/\ζ)|Ajp=>(zJ χ (pw 4000 χ))|Ajq=>ε++ (AC (Ν=w) [ζ] [])|Ajr=>BBx ((iO ε) ->Ð ->ζ)|Ajs=>(AIX ε) ->ABX ζ|Ajt=>Hd.cB pg|Aju=>r.inj r'|Ajv=>ps.map wu|Ajw=>⟨ε,ζ,η,IsTup.new _ _⟩|Ajx=>by rw[List.length_append,List.length_singleton]|Ajy=>xj/\APW|Ajz=>AGo sc.names.lookup\/ε|Aj0=>10^20<=F|Aj1=>A.units<cLine|Aj2=>U.length<60|Aj3=>⟨vw,hd⟩|Aj4=>by simp only [newExc,newTuple]|Aj5=>by dsimp only at e1 e2|Aj6=>let ⟨o,ho,r⟩:=x;No (ε o ho) r|Aj7=>by wp_walk using BBd,BBe|Aj8=>(cols (p+1))|Aj9=>ε own.length caps ζ|Aj_=>by show AV Bool.false_ne_true;exact ε|Aj'=>.val (KI ε)|AkA=>ρ l.most n|AkB=>ρ env.frame L|AkC=>∀(hu:X.A.units+21<cLine),_|AkD=>.pu (.obj c.ak ε ζ)|AkE=>s2.trans (s3.trans ε)|AkF=>by obtain⟨_,_,_,_,rfl,_⟩:=h;rfl|AkG=>∀H1,ZN H1 ->ε|AkH=>(Int×Str×ο)|AkI=>CS ds d|AkJ=>e_ TE TE|AkK=>AM j hj|AkL=>AM i hi|AkM=>A4 (num j)|AkN=>R1.g _ _ ea|AkO=>Sz 1000 x|AkP=>.pu (pq S)|AkQ=>B' value tv|AkR=>PE X value tv|AkS=>S.filter fun e=>ε|AkT=>FU h h|AkU=>(AGZ z z)|BCW=>AGa pd (pyIter (AA it))|AkV=>Sc tk kd ε|AkW=>fI (∃F0 H0,ε mR σ H Q)|AkX=>A7 (lB r1) h1.1|AkY=>ET (gH IE (as i))
|AkZ=>by obtain rfl:d' =ε:=hm.drawn|Aka=>(Heap.SameBut.update _ I _)|Akb=>Ff (call (KF ε) ζ)|BCX=>AGd (m4 ε "__init__") ζ|Akc=>(FS h _ I hw)|Akd=>absurd rfl h|Ake=>(lE.mp hr).2|Akf=>(∀k,Sz 4000 (gZ (qs.take k)))|Akg=>r∈ε↔r∈rows/\ζ|Akh=>.seq items2 n2|Aki=>again (.builtin ε ζ)|Akj=>MZ ps.map pD|Akk=>(PU yco aZ)|Akl=>PS X st t|Akm=>by by_cases hb2:b=s1.heap.objs.size|BCY=>min v.toNat n|Akn=>yH b _ (lY eb n1) ε|Ako=>call qE (ε::us)|Akp=>(ig g t)|Akq=>ų s2.heap.push AHy|Akr=>(y,k)::r|Aks=>{Dn with nx:=ε,ct:=ζ,bk:=Dn.nx}|Akt=>kvs.map (·.1)=ε ζ|Aku=>gT (∃xs,ε/\AbC)|Akv=>Β ->mS (ε) XV|Akw=>(h.2).up f|Akx=>xl "__setattr__" Aal|Aky=>["end","found","bound"]|Akz=>["start","end","bound"]|Ak0=>(je #[JC Ψ APg HY])|Ak1=>k b ob q|Ak2=>bS hos hds ε|Ak3=>Q_ ε pG ζ (ZO Ck η θ)|Ak4=>(JO/ Α l.length)|Ak5=>(ε _ z).2.1 rfl|Ak6=>Ũ Χ (.fields ps)|Ak7=>AG0 ε (Jt fun i j=> .bl (AAp ζ))|Ak8=>fs.Pairwise (Ź BBl)|Ak9=>Qh (H x)|Ak_=>by refine ε (wpAny_pyIter_list pl.isList ?_)|BCZ=>cW (fun d es=>ε) cs|Ak'=>by have sH:Same H1 ε:=HK ζ|AlA=>sY b1 a2|BCa=>(v+ E5).toNat|AlB=>(K_+ AF m*1).toNat|AlC=>∀(n:Nat)(f:WA),_
|AlD=>∀(ha:og)
 (hd:B1 x "__debug__":=by decide) (he:Ct starEach D6 (FD (BF e) (FC es)):=by rfl) (hpl:ff cpos es:=by rfl),_
|BCb=>(by rw[isSubtype_type];kernel_rfl)|AlE=>{s with drawn:=d}|AlF=>(AHB Ε yv)|AlG=>∀{rs:CF}{cs:AL},_|BCc=>s1.heap.push (Mb ε #[AR])|AlH=>Heap.SameBut ε s.heap h'|AlI=>ρ (ε p) (FA [AA',v])|AlJ=>(h2 a h).2|AlK=>∀{k:Nat}{A:Around},_|AlL=>by show KW (seqEpoch_at (n:=ea)) ε rfl|AlM=>⟨r,hr,e⟩|AlN=>É (AIP ε χ)|AlO=>[AbV,To,.int ε]|AlP=>vC ps APJ|AlQ=>h p (zU _ hp)|AlR=>by show D' hl hb h|AlS=>Õ (DV l a ε ζ)|AlT=>(AC neg (! xJ ks k) (xJ ks k))|AlU=>(pH t i)|AlV=>(.dik ks (lK ts))|AlW=>DV s h (ε* cK) ζ|AlX=>(zY _ (zX _ rfl))|AlY=>mT (ta Γ (fun d Γ' =>ε) E)|AlZ=>ABp (.jX ks ε)|BCd=>fun ys hy=>(AE (ε hy hq) hx)|Ala=>IsPart vl lo|Alb=>IsPart vu hi|Alc=>ε l its.toArray n ζ|Ald=>∀(K:Frag)(a:Addr),_|Ale=>A4 (od r)|Alf=>(ws.map fun w=>AGy)|Alh=>(B4 z (yS _))|Ali=>by show VI hb e hb|Alj=>by show VI hx e hx|Alk=>vY n d d'|Alm=>AH_ AOS "work" ε|Aln=>sz+k* AbK|Alo=>fR gD X.stack H s ε e s'|Alp=>AO' Fu (done _ ε)|Alq=>Hq (true&& ! false)|Alr=>APH (vY n x y)|Als=>zM (ε (ζ r hr)) χ|Alu=>(pw 4000 χ)|Alv=>by have n1:ε=none:=AIC Nat.le_succ|Alw=>APP (Ô ε) (fun ζ s₁=>η)|Alx=>∀(h:Heap)(H:Hp),_|Aly=>APZ ε (x∈uX rows Ν)|Alz=>by show ON c q1 q1|Al0=>APf ε ζ Θ Ε|Al1=>∀(rows:BA)(w:Str),_|Al2=>∀(rows:IA)(w:α),_|Al3=>(APh none (H' b))|Al4=>∀(ks:Î)(k:Be),_|Al5=>by refine M3 typeOf (wpAny_typeOf ε ?_)|Al6=>by unfold eG;rw[ih];grind|Al7=>AHA (Bz (b∈ ([]:AO)) ε)|Al8=>ABH (OA k) (y_ h)|Al9=>Sz 4000 (x Τ)|Al_=>(a.free c ob q n hx)|Al'=>(revObj l (AH5 - 1))|AmA=>Δ ->Δ ->Δ|BCe=>Kj ε i x ζ (by rw[List.getElem?_map,η,θ];rfl)|AmB=>.pu (qD (v Ν))|AmC=>zR.mp (I.stkSub b ε)|AmD=>SJ (znl rs ε)|AmE=>RelV (kV k) ε|AmF=>(.Tuple elts x1 pos)|AmG=>IB rfl rfl rfl|AmH=>∀{hs:ο}{h:Str},_|AmI=>∀(n:Nat)(g:qP),_|AmJ=>∃a vs,Å ε bc ζ|AmK=>AbI aA (ε (l:=l))|AmL=>⟨iA,_,I2,rfl,ε,ζ,η⟩|AmM=>(kS hl1 hs1.extBut D.l1z)|AmN=>AHx (C4 (Q Ρ)) Q|AmO=>I.un (h' :=s.heap) (t' :=ε)|AmP=>by refine iF specialOf (wpAny_specialOf hT2 ε ?_)|AmQ=>Mn (te (fu Γ) (K2 d ε) mR)|BCf=>∀(pins:dJ)(σ:St),_|BCg=>∀{E:dR}{s:Shared},_|AmR=>WF ps.map (AHf p (rawInt p))|BCh=>BindsTo s fd (D7 [u]) [(x,u)]|AmS=>∀(au:ph)(aJ:PV "marks"),_|AmT=>AbZ H s|AmU=>Abb BAn kf|BCi=>PY base Nc k f fd ps (ε K C fl sp)|AmV=>ω (ks=ks')&&ir|AmW=>(σ[j]?).join|AmX=>by obtain⟨z,ez,hz⟩:=ε|BCj=>uN X.env.scope y|AmY=>AbM ε/\GG s.heap.get? ζ/\AbS η θ|AmZ=>(ws.filter APR).filter|Ama=>List.mem_range.mp (a1.mem_iff.mp hi)|Amb=>∀{pins:dJ}(bz),_|Amc=>by subst z;rw[ε] at mu;exact mu|Amd=>⟨_,_,_,_,ε,ζ⟩|Ame=>ER (vR ε H).get?|Amf=>v9 l r x|BCk=>∀j,f j=a j+g j|Amg=>by have hlk:es.size=ε:=AN O.key.length_eq|BCl=>A2 (W.codeIn K cdv qual)|Amh=>by show Ts;cases h;subst r;rfl|Ami=>is.map fun i=>ε i Ρ|Amj=>Vals (ns.map T_) its|Amk=>Ê e (zC od (AAs t) #[])|Aml=>(Nat.le_of_eq (Heap.size_push _ _))|Amm=>(vals.map kf).Perm ks|Amn=>∀ds Q Ex,sp ds Q Ex ->t ε (iR N ds) SZ|Amo=>∀o u,X.H₀ b≠BBg|Amp=>∀(APK)(AOp){m:IO}(L:Aaw),_|Amq=>by show Fs;show AHg b h;exact BY _ e|Amr=>{nx:=L8,rt:=L8,rT:=ε}|Ams=>fun σ H=>(BAr (I B2 Γ2))|Amt=>∀{α:Type}{one:AAq},_|Amu=>.inl (zM (oV (k:=ε) ξ) χ)
|Amv=>dG 2 ε (JK (Ev Θ ζ)) AP0|BCm=>Wp (tb D Γ fun Γ1 Cv=>ε)|Amw=>∀(te:aX)(tl th:G6),_|Amx=>by have h1:=Bl a.den b.den;have:=ha.2;have:=hb.2;omega|Amy=>by have hr:L6 r Aah:=fun p hp=>hh p (zU _ hp)|Amz=>∀{S:LH}{hs:AI}(ns:WN s.Nodup)(nh:hs.Nodup),_|BCn=>⟨F1,Γ1,R1,oP,i0⟩|Am0=>(AG Γ' (tb (APz D0 D0.nx) Γ' E))|Am1=>by obtain⟨h',g',d',tk',os'⟩:=s'|Am2=>fun a ha b hb n e=>ε|Am3=>BBw (by rw[Obj.data_mapFields hd];simp [rawInt])|Am4=>(match t with | false=>ε | true=>ζ)|Am5=>e=x\/AOd e x|Am6=>W.methodCall_KW (pl:=pl)|Am7=>by by_cases hk:aa k NameKind.free|Am8=>∃u,AOF e u|Am9=>["other","hand","sheets"]|Am_=>["end","some","rests"]|Am'=>[ε,qD w,qD m]|AnA=>(by (repeat (any_goals (first | assumption | wp_step))))|AnB=>∀{xs ys:Β},ε|AnC=>by rw[List.length_cons,<- r.length,<- List.length_cons (a:=ε),ζ]|AnD=>Rv sF rs|AnE=>(l.Pairwise (Ź (a.1≠b.1)))|AnF=>lM sc ε X.env|AnG=>fun F0 H0=>(AH4 ε)|AnH=>zvp (fp:= ε) (its:= ζ)|AnI=>I.tuple (su sF ε)|AnJ=>Q (.int ε s.toks) AIS|AnK=>zK ε (Nat.pow_le_pow_right χ ζ)|AnL=>fun _ Γ E=>(Æ (AIB ε))|AnM=>(hμ r hr).2|AnN=>(Kh w hw).2|AnO=>R'.sl 0 _ e0|AnP=>Hm ε H1 I1 q1|AnQ=>PH (s.heap.push (Ib w))|AnR=>IU (txt j ABZ)|AnS=>g ε σ H (AHO (tb (AHS AOQ AOQ) σ2 H2))|AnT=>by obtain rfl:g' =s.gens:=hm.gens|BCo=>(qC rows h).map|AnU=>EG l us ABg ε|AnV=>{s with heap:=ε,drawn:=d}|BCp=>Se ty y (Mc td x ε)|AnW=>by have ε:AIK ζ=s.heap.objs.size+η:=by rw[Heap.size_push,θ]|AnX=>n c (zU _ hc)|AnY=>.leaf (jd c ps)|AnZ=>∃ks xs,AbP/\ε|Ana=>∃cs t',DA Γ 0 (.tr g9 t')/\ε|Anb=>fun l2 ms hl2 ε ζ=> ?_|Anc=>by show N3 hf hf hf|Ane=>.cons ε (.cons ζ B9)|Anf=>(ŭ s.heap.objs.size s H fp)|Ang=>(letOwnedTupleGo tg b9 u)|Anh=>by have ε:ps.length=es.size:=AN hps.length_eq|Ani=>ANu (ε (X.wsh z) tg e (Zs ζ t E))|Anj=>JB (NZ (DN ε))|Ank=>∀(x:Option (Option Value)),_|Anl=>gT (∃xs x,ε/\WG)|Anm=>P_ (AHA (Bz (p∈ ([]:dJ)) hp))|Ann=>dI (hm b _ q (Ξ z))|Ano=>zwa O P hk U|Anp=>qD (TN - N1)|Anq=>nM rows ws m ε|BCq=>∀(own:Nat)(caps:AL),_|Anr=>(AC (b∈as) (H' b) (F' b))|Ans=>by show b0 ok ov st|BCr=>ε f ts vs bs (fun b hb=>k b (zU _ (zU _ hb))) h|Ant=>(kI h1 hs1.extBut D.i1z)|Anu=>rule i j t t'|Anv=>AN' BBm s.heap.objs.size APM ε|Anw=>aA m (f a)|Anx=>#[RM ε rfl cA boot_list (H_ ζ)]|Anz=>∀(sQ)(i:Nat)(f:Str),_|An0=>(putK kvs k v)|An1=>.tr a6 (Ai wk (ow l))|An2=>cW (fun x es=>g x (c::d::es)) post|BCs=>W.fnOf x qual (GJ st) yY (bI st) ε kV doc|An3=>(items.toList.drop (sIx items.size 0 lo)).take|An4=>∀(K:W.Frag)(F H:Hp),_|An5=>k b o (AG z (hc (FX z))) e|An6=>if ε then ks else ks++ [k]|An7=>(x - l.1)* (r.2 - l.2)|An8=>∀(h:Heap)(v:Value)(ε:ζ),_|An9=>(AC (k=f) ((k,v)::r) ((k,x)::mQ f v r))|An_=>by rw[q] at h;cases h;rw[ε r q];rfl|An'=>Sq t1 K H a xs|AoA=>Sq t2 K H b ys|AoB=>∀(APo) (base:Heap) (C:Addr) (m:Str) (k:Nat) (ps:ο) (sp:ε),_|AoC=>by show CM v hv rv JN kv hw|AoD=>APx (∃vs,AHb/\h.DictOf ik a vs)|AoE=>by have h1:dt (f::rs) iP=f j*Iq cs:=Yj z|AoF=>by obtain⟨d,d0,bd,hd⟩:=ε|AoG=>by obtain⟨o,n,e,_⟩:=pl|AoH=>(X.wsh ⟨xe,z.pn++pins⟩)|AoI=>ε Fn hr hb cx|AoJ=>(relabel sc X.env).names.lookup
|AoK=>#[Oe rfl rfl ji (HC ε ζ)]|BCt=>∀(D9){F:Hp}{a:Addr}{o:Obj}{ks:Be},_|AoL=>by show Bn l xs hq q q1|AoM=>∀x y c,ε ->ζ ->x=y|AoN=>∀k,k<n ->∀j,(ε k j).natAbs<=ζ|AoO=>fun m hm=>(hg m hm).ε|AoP=>by refine z9 (wpAny_field he hd h1 ?_)|BCu=>R1.wrT e0 e1 (Bz (iQ (Slot.tr (a::ε) ANz) ox ζ) η)|AoQ=>by refine wpAny_Call_Name_kw (AAx hb ?_ χ χ)|BCv=>∀(o:Obj)(kvs:M')(ep:Nat)(G9:BBq),_|AoR=>.pu (.dik AbF (P3 wk.map w AbD))|AoS=>∃x F',E Γ1 x/\Gr F1 H1 F' H' /\ε|AoT=>0::qs.map fun m=>(AF (iV qs m))|AoU=>∀{xs:Δ} {us:Ζ},ε|AoV=>∃(its:Ζ) (n:Nat),ε|AoW=>(by rcases mf f hf with hf | rfl)|AoX=>∀(names:bq) (cs:zw),ε|AoY=>(by rcases ε with z | ⟨z1,z2,z3⟩)|AoZ=>(relayAll t2 es1 (SetTable.grown es1.size))|Aoa=>(List.replicate k.toNat xs).flatten|Aob=>⟨F2,Γ2,_,R2,h2,ε⟩|Aoc=>ZZ s3 (s3.heap.push (Mb "slice" #[vl,vu,Χ]))|Aod=>fun r hr=>by(cases hr)|Aoe=>by show AU u hu ru rv.get hx|Aof=>∀b xs,Pc L9 ->AHi L9|Aog=>∃i j,x= B8/\y= gI/\C i j/\ε|Aoh=>∃f∈fs,dZ f ε=true/\x∈f|BCw=>absurd (zF e) (yS _)|Aoi=>∀{ds:Β} {vs:Δ},C8 ->ε|Aoj=>∀(OF){ms:HP}{x:D1}(G:AAw)(u:EW),_|Aok=>CE outer P w H s Q u s'|Aol=>BBt (APv JE C8 P ε)|Aom=>al _ _ l2 _ R3 s1 q1 q2 q3 (ε ms)|Aon=>(by simp only [Rep] at r;subst r;cases d' <;>simp only [Rep] at r' <;>first | (cases hf;done) | (cases r';done) | (cases r';exact W3 _) | show BBr)|Aoo=>fun b ob eb=>xG b ob (ε b ob eb)|Aop=>by obtain⟨xs,hq,hx⟩:=hg|Aoq=>by obtain⟨n1,n2,n3⟩:=nd|Aor=>show Dv 10 ε from ⟨AB,AB,AB⟩|Aos=>by simp only [List.mem_cons,List.not_mem_nil,or_false] at hc|Aot=>∀(q:Rat)(l:AW),_|Aou=>Itz K t1 t2 a|Aov=>Ew K H2 y k|Aow=>decide (Ab (ε*B) AOT)|Aox=>Calls.callWith_builtin rfl (PySem.evalArgs_none ?_)|Aoy=>A4 (FT x B Τ)|Aoz=>PH ((AbW Aa2).push Aas)|BCx=>BindsTo s fd ε (ps.zip ζ)|Ao0=>APE H1 C' Dy x|Ao1=>∀j,ZB M (r j)|Ao2=>∀{rs:CF} {cs:AL},ε ->ζ|Ao3=>KH ha hb I h|Ao4=>Ν=w/\Τ=h|Ao5=>∀(ND)(tg e:Expr)(t:bZ),_|Ao6=>∃its:Ζ,ABm/\ε/\zo|Ao7=>comprehension pk sc X.env _|Ao8=>Low rs cs a q|Ao9=>ε f ts us cs (fun b hb=>k b (zO _ hb)) h2|Ao_=>by show AAG a3 u3 h3 h2|Ao'=>Sq t X.K H a ε|ApA=>(by refine iF firstArgMember (wpAny_of_eq (a:=Value.none) (by first | rfl | (simp only [firstArgMember];rfl)) ?_))|ApB=>[(false,BF ε),(false,BF ζ)]|ApC=>wpAny_isInstance (T:= "StopIteration") (b:=true)|ApD=>fun x lo hi H Q=>ε|ApE=>(putK kvs k v).length|ApF=>PassesOwn ZY X.A X.env X.xe|ApG=>Bi QL (ε hc) hg hm hb|ApH=>by obtain⟨I,i0,turn,done⟩:=h1|ApI=>["rows","rights","table","ahead","place"]|ApJ=>hq ds Pd Ex hsp|ApK=>by refine CU (newFields _ _) (wpAny_newObj_type (A3 (BBv "set_iterator" qW.lookup)))|ApL=>AHW "tuple" Mi (.seq ε dn) Mj|ApM=>(Aa7 d B8 (AP3 i.toNat) Ρ)|ApN=>∀{ta:TA}{p pos:Pos},_|ApO=>lX (fs.lookup f) (mA f)|BCy=>sp (AAf::es) (oB (P r Γ2)) fun Cx=>E Γ2 Cx|ApP=>ε (knd:=pA X.prog X.w) (kvs:=ws) (ep:=ep)|BCz=>⟨ε,H1,I1,r,z,q⟩|ApQ=>s.heap.IsSliceOf sl vl vu Χ|ApR=>∀(tb:aF)(D0:qR)(E:XW)(Γ:G2),_|ApS=>(I.ok.cab x c hfn hc)|ApT=>h b (zU a hb)|ApU=>by refine Yb ε fun i x u e1 e2=> ?_|ApV=>by show Fs;obtain⟨b,_,_,rfl,e,_⟩:=h;cases e;rfl|ApW=>by obtain⟨xs,x,hq,hx⟩:=hg
|ApX=>∀C s₀ H₀ fp,ε BAZ ζ η|ApY=>by unfold ao ao ao Rep at r1|ApZ=>by obtain⟨⟨k,u⟩,hw⟩:∃p,AH7 p:=⟨WV,A0 hx⟩|Apa=>(sliceBounds lo hi none n)|Apb=>I.step (g' :=s.gens) (d' :=s.drawn) (ch:= ε) ζ (η) (θ) (ι)|Apc=>comb (rs.map r8) rs j|Apd=>Cds (Iu m.length) m x
|Ape=>by
 show T' p1 p2 ε;show DB o p1 (Ri p2 Go ζ);have:η:=Ξ (by subst z;exact θ)
 rw[dI this];exact ι
|Apf=>pf<=i/\i<2^62/\ pf<=j/\APO|Apg=>(f AIQ (.int j u))|Aph=>MV ch (BBn/\ABU/\ (ABn b)/\L6 AII (AK≠b))|Api=>∃f fd,AOK ε/\Meth K C m f/\ż|BC_=>by show Ki oj g1 g2 g3 hit2|BC'=>TC h (DY i s o a) e|Apj=>ε f t v bs (fun b hb=>k b (zN _ hb)) h1|Apk=>∀(a:Addr)(o:Obj)(kvs:M'),_|Apl=>by have Cr:Heap.SameBut ε h1 h2:=sb|BDG=>(IL r (r= .ok (.ret AIE)/\OldK s₁.heap s'.heap/\s'.os=s₁.os/\AIH))|Apm=>#[Cj rfl (qt (AZy ε) (BAo ζ η))]|Apn=>∀{m n:Nat}{a b:Rat}(ha:Sz m a)(hb:Sz n b),_|Apo=>ε a _ o kvs ep ⟨es,h3⟩|Apq=>(Bz (iQ (Slot.ow ds) ox a) rfl)|Aps=>by have hlz:APA=ε:=by rw[List.length_zip,hkl,Nat.min_self]|Apt=>AHW t _ (.seq xs _) _|Apu=>nZ ds g tb D0 E Γ1|Apv=>∀Γ F' H σ,AbB ->Dx ->ε Γ ->ζ|Apw=>by obtain⟨e,n,ne,nf,d⟩:=I.pin p hp|BDH=>entryFor_alias (id' := ε) BAt rfl Lu BAt|Apx=>(Sn wK i j Td hv2 hd2 Eu)|Apy=>["some","bounds","found","bound","rests","steps"]|BDI=>y s h - cY (k s) (y s)|Apz=>(by rcases hc with rfl | rfl | rfl | rfl | rfl)|Ap0=>h F1 ε z mR (Xh cx) pins s σ|Ap1=>by show CM hT hN hsm Wv I1 (C5 ⟨kvs,ε⟩)|Ap2=>ε Γ F1 H σ R (s.trans s1) h|Ap3=>Ű (P4 tl l (th Γ2 (fun u Γ3=>(Sk ε ζ)) E))|Ap4=>Walks.list (toI (I.ok.hd hc)) s.heap.objs.size p (zH N8) its.toArray|Ap5=>ε Γ F' H' σ (R.unbase g) s h|Ap6=>∀(dO:AS zen)(pY:AS zve)(aY:AOb)(rZ:xo "Few" c.G4 c.G4),_|Ap7=>by obtain⟨j,h1,h2,h3,h4,h5⟩:=zul he|Ap8=>∀(G:x_ ε X.base x k ps sp)(hr:AHu)(hg:TM)(AIW),_|BDJ=>∃as ws ps x y z,Ka (rows.take ε) ws ps/\Γ= [BS,p_ AbX,x,y,z]|Ap9=>ε bV fQ aO aR bJ c7 aY au|Ap_=>∀(aP:AS PJ)(iw:AS zii)(dH:AS Vt)(bU:AS zcl)(cF:AS zc0)(pZ:AS zuo)(cD:A6 "sorted")(cA:A6 "list")(au:ph)(bL:AHo)(bK:PV "rule")(bQ:PV "gap")(bA:PV "scale")(aL:PV "kept_leanings")(bG:PV "sheets")(aJ:PV "marks")(aM:PV "kept_borders")(aK:aN K c.Scale "points"),_|Ap'=>∀(iy:AS zik)(aP:AS PJ)(bV:AS zck)(fQ:AS zfx)(BBu)(bJ:AS YJ)(c7:AS zdz)(aY:AOb)(au:ph),_|AqA=>by ·obtain⟨F,ds,P',Ex,_,rs,hs,_⟩:=hq1;rw[<- W'];exact ε|BDK=>wpAny_mono (zuf (I:=I) hh hQ ε) (FU q q.elim) ip|BDL=>Nat.le_succ_of_le ε|BDM=>ε s1.heap.objs.size|BDN=>["_law_script"]|BDO=>by rw[PySem.W.Fast.te15667345088766844465,ε,ζ]|BDP=>by rw[List.pairwise_iff_getElem]|BDQ=>-1099511627776|BDR=>by simp only [ε,decide_eq_true_eq]|BDS=>by simp only [List.length_map]|BDT=>by apply Array.toList_inj.mp|BDU=>PySem.mem_of_lookup ε|BDV=>Nat.pos_of_ne_zero ε|BDW=>by split<;>omega|BDX=>by split<;>decide|BDY=>(by assumption)|BDZ=>by exact_mod_cast ε|BDa=>(by rw[List.size_toArray]<;>omega)|BDb=>ε (List.eq_nil_of_length_eq_zero ζ)|BDc=>rows.length+1|BDd=>.pu (FA [AA',ε t])|BDe=>AF ps.length|BDf=>(B5 ns.sum)|BDg=>(B5 (lo+i))|BDh=>decide_eq_false h|BDi=>List.drop_eq_getElem_cons h|BDj=>Nat.min_eq_left h|BDk=>Α s.length|BDl=>Α rows.length|BDm=>Eg W.CFound|BDn=>List.pairwise_singleton _ _|BDo=>Int.natCast_nonneg _|BDp=>Υ ns.length|BDq=>Int.natAbs_eq_zero.mp z|BDr=>P xs.reverse|BDs=>(Nat.le_succ _)|BDt=>(ItemsOf.nil _)|BDu=>ER s2.heap.get?|BDv=>(E8 _ True)|BDw=>Code.quiet_builtin _ ε|BDx=>C6 (get?_update_seq ε ζ)|BDy=>by refine Calls.spliced_cons ?_|BDz=>decide_eq_true hl
|BD_=>A0 Rat.intCast_mul|BD'=>A0 Rat.intCast_sub|BEG=>decide_eq_false e|BEJ=>Except.error e|BEK=>(KI "BaseException.__getattribute__")|BEM=>Cb xs.reverse|BEO=>DE qs.length|BEQ=>DE both.length|BER=>(PP (qv 13))|BES=>(ANk "HallError")|BEU=>(by unfold Iu;omega)|BEV=>Rat.num_divInt_den q|BEW=>vs.length<=i|BEY=>(its.toArray.size - 1)|BEZ=>Int.mul_nonpos_of_nonneg_of_nonpos ε h|BEa=>decide_eq_true ξ|BEb=>List.drop_eq_getElem_cons ξ|BEc=>Int.natAbs_of_nonneg ξ|BEd=>IntMulOk i j|BEe=>(AN9 map .inr)|BEf=>List.filter_congr fun ε _=>ζ|BEg=>(Int.gcd_eq_zero_iff.mp ε).2|BEh=>subscriptTail_builtinR (x:=ε)|BEi=>GV List.any_map|BEj=>Lc slotArgs|BEk=>HR xs.length|BEl=>HR ks.length|BEm=>sp ds ε (At False)|BEn=>fs.length<=1000|BEo=>rows.length<=1000|BEp=>Pc (BV zs)|BEr=>Lv beq_false_of_ne ε ζ|BEs=>E4 _ trivial|BEt=>Paired.length r|BEu=>(JA (Acn i))|BEv=>((At 0)::rs)|BEw=>i<=ds.length|BEx=>i<=t.place.toList.length|BEy=>ff cpos es|BEz=>by rw[List.getD_eq_getElem?_getD,ε] at e|BE_=>WE xs.length|BE'=>WE kvs.length|BFG=>FU q q.elim|BFH=>by show LL SetTable.probe.go|BFI=>List.mem_filterMap.mpr ⟨ε,ζ,η⟩|BFJ=>OL both.length|BFK=>List.range_succ (n:=ε)|BFL=>vs.length<64|BFM=>ps.length<64|BFN=>(.bool (pQ x y))|BFO=>ε (List.mem_cons_of_mem _ ζ)|BFP=>W.plainOver K C=true|BFQ=>W.makesIn K C=true|BFR=>decide_eq_true h2|BFS=>of_decide_eq_true h2|BFT=>(sc.names.map (·.1)).Nodup|BFU=>["hand","mark"]|BFV=>bP List.mem_singleton.mpr ε|BFW=>by show x0 List.take_length|BFX=>by show x0 List.length_range|BFY=>by dsimp only;grind|BFZ=>(WU I.ok.Ht)|BFa=>List.getElem?_set_ne hj
|BFb=>∀(ha:og)
 (hst:Ct starEach D6 (FD (BF e) (FC es)):=by rfl),_
|BFc=>AllBare s.gens|BFd=>B.StaysIn h'|BFe=>ρ (scope.names.lookup y) ε|BFf=>Vals xs its.toList|BFg=>(xF (m4 e "items") [])|BFh=>by obtain⟨its,rv,p,hz⟩:=I.tuple hq|BFi=>(zh "sheets")|BFj=>Array.getElem?_eq_getElem hlt|BFk=>(x,NameKind.cell)∈ε|BFl=>AHL X.env.kindOf|BFm=>(.tr MW ANz)|BFn=>TC ε Nat.not_lt_zero _|BFo=>(WI vs.toArray 0)|BFp=>(WI vals.toArray 0)|BFq=>(AG1 And [a])|BFr=>(AHR "mean")|BFs=>pure Flow.next|BFt=>Cu t.place.toList|BFu=>(binaryOp op)|BFv=>(R2.grow gr)|BFw=>W.of_hideAll _ q|BFx=>B_ s.heap.get? o|BFy=>(AHX ks.map)|BFz=>(AaK s.heap.objs.size)|BF_=>X.env.kindOf n==AG_|BF'=>cs.Pairwise (· <= ·)|BGA=>by rw[List.getElem?_zipWith] at hd|BGB=>["spot","row"]|BGC=>Nat.le_mul_of_pos_right _ ξ|BGD=>Int.fmod_eq_emod_of_nonneg _ ξ|BGE=>Nat.le_mul_of_pos_left _ ξ|BGF=>BN K.lookup o|BGG=>BN s.heap.get? o|BGH=>ABQ List.length_take|BGI=>ABQ List.length_reverse|BGJ=>ABl ε (EP X pins σ Q) ζ|BGK=>fun h' eb=>(FY (AbL Xm fp ε I ζ hf))|BGL=>BAk ε X.env.scope.kind|BGM=>by refine CU (setEpoch S) (ε hg O.dat O.fit ?_)|BGN=>(wM own caps σ)|BGO=>d.params.defaults= []|BGP=>AOu ws.length|BGQ=>by rw[AHn PyProof.Rows.F.plain_set_update_loop]|BGR=>by rw[AHn PySem.F.plain_proto_collect]|BGS=>by rw[AHn PySem.F.plain_list_iadd]|BGT=>xs.toList[k]|BGU=>BE both.map f|BGV=>k a (FX ha)|BGW=>h'.IsCell c v|BGX=>u=Value.bool b|BGY=>(PU pG Ι)|BGZ=>Aac PySem.F.plain_extend_loop|BGa=>(xN jX ks us)|BGb=>yk value tn|BGc=>#[zxz (i:=0) au ε ζ rfl EO]|BGd=>n=xs.length|BGe=>by simp only [Int.toNat_natCast,hx]|BGf=>by rw[ε] at q;cases q|BGg=>APN hms.length_eq|BGh=>APN List.length_range|BGi=>(FA [kV k,v])|BGj=>GS rows.filter r ε|BGk=>AIk (Α (f a))|BGl=>AIm X.env.kindOf|BGm=>(I_ Θ Au)|BGn=>(N9 v (oq vals))|BGo=>My (! ε) (Builtin.List.listTooLong (ζ))|BGp=>(AIx "enumerate")|BGq=>Tk s.heap.get? AN5|BGr=>(AGt i g9 (AH2 t'))|BGs=>∀j,j<xs.length ->ε|AqB=>(f j).den_pos|AqC=>APG s.heap i|AqD=>AJM (fT ABT)|AqE=>nM rows ws m ε m.length|AqF=>(WU I.ok.bs).1|AqG=>s₁.gens= #[]|AqH=>by rw[List.zip_cons_cons,List.find?_cons]|AqI=>["row","hands"]|AqJ=>X.s₀.heap.FunFrames X.base ε|AqK=>ρ oe.dict dx|AqL=>dI (Nat.ne_of_lt ε)|AqM=>by rw[List.getElem?_eq_getElem hi]|AqN=>by rw[List.length_eraseIdx_of_lt hi]|AqO=>(ns.getD i Str.empty)|AqP=>(iU.mp h1).1|AqQ=>Vals ys its'|AqR=>by obtain⟨its,rv,pl,hz⟩:=I.list hq|AqS=>g d (c::post)|AqT=>sM CB "dict"|AqU=>sM CB "list"|AqV=>.pu (sX rows ws)|AqW=>AJR sU s.heap|AqX=>by show AQ3 bne_self_eq_false|AqY=>∀{X:Cx}(AJW){h' :Heap}{t' :Nat},_|AqZ=>Good i (as i)|Aqa=>(∀p∈ps,Fo 4000 p)|Aqb=>TR.repN s1 t v as|Aqc=>Value.builtin "BaseException.__getattribute__"|Aqd=>Value.builtin "object.__getattribute__"|Aqe=>hc.keeps keep|Aqf=>ws.length<=rows.length|Aqg=>["mark","marks"]|Aqh=>["mark","least"]|Aqi=>["part","multiple"]|Aqj=>["part","head"]|Aqk=>(s.heap.push T1)|Aql=>ε (s2.heap.objs.size+1)|Aqm=>ω (Τ∈ks.flatten)|Aqn=>AE (List.mem_singleton.mp h) ε|Aqo=>(VQ Ou Θ)|Aqp=>(.ob C AOY AQp)|Aqq=>(.ob C AOY (ts++ [Q3]))|Aqr=>TZ (b<s.heap.objs.size)|Aqs=>(DO jN i7 0)
|Aqt=>(AG1 Or (b::rest))|Aqu=>(AG1 Or BAz)|Aqv=>(B.wm w).mpr|Aqw=>ie (i.fmod j)|Aqx=>ie (i.fdiv j)|Aqy=>Υ (xs.length+ys.length)|Aqz=>Υ (xs.length+zs.length)|Aq0=>typeLookup (KF "list_reverseiterator") ε =pure ζ|Aq1=>(R1.g b u eb)|Aq2=>fun b ob q _ _ _=>ε|Aq3=>ε it d B2 es.size ep|Aq4=>∀{K:W.Frag}{F0 H0 F H:Hp},_|Aq5=>by show AU f hf ε List.mem_flatten.mp ζ|Aq6=>AcS ε Builtin.«dict_keyiterator.__iter__»|Aq7=>∀(hbase:cc "items"=BF e:=by rfl)(hline:ib:=by rfl),_|Aq8=>by show KW wpAny_dictEntries hod hdd|Aq9=>by show KW wpAny_dictEpoch hod hdd|Aq_=>(Bz (s.heap.IsTuple a its.toArray) p)|Aq'=>(znz f y fs)|ArA=>dG 1 ε (iL (dN BCU)) (B7 0)|ArB=>by exact C6 (Bz (GG h.get? _) k)|ArC=>by exact C6 (Bz (GG s2.heap.get? _) k)|ArD=>l.take (cnt q l)|ArE=>l.drop (cnt q l)|ArF=>tI (FS ho _ _ u w) ε|ArG=>(GK lo n).go i H/\ε|ArH=>∀(k:Nat) (h:k<xs.length),ε ->ζ|ArI=>∀(k:Nat) (h:k<xs.toList.length),ε ->ζ|ArJ=>Ac1 xs.drop|ArK=>∀(X:Cx),Ο (X.prog=P) (X.w=w) (X.K=K) C7 ε|ArL=>fun m=>xs[i+m]?|ArM=>u=Value.none|ArN=>c<=qs.length|ArO=>xs.length*k.toNat|ArP=>by simp only [Bool.false_eq_true,if_false]|ArQ=>(vs.toArray.zip vs.toArray)|ArR=>PySem.Slot "set_iterator" ε ζ|ArS=>BG World Heap|ArT=>by rw[List.drop_eq_getElem_cons hi']|ArU=>(bs.getD i false)|ArV=>ε fun i=>xs.getD i d|ArW=>(Na A9 G0)|ArX=>by show OH h1 h2 (wv r hr);exact⟨v,ε,ζ⟩|ArY=>Z3 g5.get? c|ArZ=>(hte _ _ cx)|Ara=>(VQ n8 Θ)|Arb=>by refine codeAny_builtin PyProof.Rows.F.entry_set_update_loop ?_|Arc=>(aU (cC AB_))|Ard=>by funext j;unfold comb;grind|Arf=>by (with_reducible refine wpAny_isSubtype_exc ε ?_;rw[ζ])|Arh=>Ÿ Γ.set (xN jX ε (Nn (tV ks xs ζ).map))|Ari=>(xk "zip" ae)|Arj=>Tk H' (AOo B.get?)|Ark=>(AZz z3g Ψ)|Arl=>P6 (OS ε ζ) 2147483647|Arm=>List.map_congr_left fun i hi=>ε|Arn=>(∀p∈ex,BBh)|Aro=>(cS ou Θ)|Arp=>k= ! xs.isEmpty|Arq=>Prod.ext e1 e2|Ars=>(cB eY AcA Θ)|Art=>wg (ps.drop i) x=ε|Aru=>s.heap.Ns X.env.locals m|Arv=>(z9 (zZ ?_))|Arw=>bindArgs (ε pm an cdv ct) ζ=pure η|Arx=>v= Ρ/\AIj Sj|Ary=>(DO bT Ε 7919)|Arz=>LA w (by show ACa ε)|Ar0=>AP' is.Perm vs.length|Ar1=>(fun p q=>by cases q)|Ar2=>fF F AJS (gN t)|Ar3=>ã (Ŷ (isTrue e X.env ε) TP)|Ar4=>APy W.mroIn C "object"|Ar5=>(JA (r j+comb ks ss j))|Ar6=>⟨ABR,qD 0,ε,APm,sh,gh ws v⟩|Ar7=>by show Abf List.getD_eq_getElem?_getD W_ ε|Ar8=>(zZ (zZ Abp))|Ar9=>(G.g.sys u hm).1|Ar_=>l.any fun s=>AcR|Ar'=>(P3 AIf j (f j))|AsA=>Vals (xs.map V.str) vs|AsB=>(AC (i=p) _ _)|AsC=>AcL outer []|AsD=>(∀i,i∈ms↔i∈ns)|AsE=>codeAny E1 A (.builtin ε ζ) η s|AsF=>∀{l:AI} {P:Mm},(AAT ε) ->P (l.map g) ->î l.map|AsG=>PySem.Within mA (fs.map (·.1))|AsH=>(∀h∈m,ACQ)|AsI=>(Itv K a xs)|AsJ=>(l.map fun x=>D.bl (f x))|AsK=>Ix [] (C3 (zS comb))|AsL=>(P3 L.map r E9)|AsM=>∀(t:Bool)(h:Heap),_|AsN=>jo (i:=3) nd rfl EO ε|AsO=>sp ds (At AQR) (AAR Cx Cx)|AsP=>.tr a7 (Ai hk (oh rows))|AsQ=>∀(Fn:BBz (pN X.K sp))(hr:AHu),_|AsR=>by refine plainObj_wpAny_Assign_Attribute (UE (aS hv) ε ζ η) hs|AsS=>(.BinOp a op b pos)|AsT=>(.IfExp c a b pos)|AsU=>cS (UH "mark" Iw Θ) ε|AsV=>∀(D9){F:Hp}{d:D}{v:V}(h:IN),_
|AsW=>(wM own.length caps σ).length|AsX=>(PIE X pins σ tg R)|AsY=>by show NI;cases rx;show ARG;show RO|AsZ=>(.nt as c t)|Asa=>(.fresh 0 0 (mq w))|Asb=>by show Cn q1 q2 Bool.and_eq_true_iff.mp q|Asc=>(zk2 hq' rfl ?_ kp)|Asd=>fun c o hb e=>Cr.extBut c o QP ε|Ase=>by show BB (fun i m σ H=>m=xs.length - i/\ε/\å) ⟨ζ,An,G1,h0⟩|Asf=>znd R1 hJ hx ha h1 ε|Asg=>(Nn (Ey ks xs jb d).map)|Ash=>∀(XU) (x:Str) (C:Addr) (fl:Str) (k:Nat) (ps:ο) (sp:cP),_|Asi=>BDH "dict_keyiterator.__iter__"|Asj=>BDK (ARO extBut)|Asl=>w.params.followText "set-order"|Asm=>B.StaysIn s'.heap|Asn=>s2.heap.push AHy|Aso=>raiseNew (<- ARB)|Asp=>unsupported "internal:set_iterator"|Asq=>zn6 O.tok.XC|Asr=>pre.getLast hne|Ass=>items.size+items2.size|Ast=>its.toArray.size+its2.toArray.size|Asu=>[W.topFrame Hd.z]|Asv=>(WU I.ok.bs).2|Asw=>h'.objs.size=i6|Asx=>by rw[List.reverse_cons,List.reverse_cons]|Asy=>by rw[size_push',Heap.size_update]|Asz=>W.funFrames_hide (as:=ε)|As0=>Tb+bo<=100000000|As1=>s.heap.objs.size<h'.objs.size|As2=>by have f3:=AutoSeq1.sub_list_list|As3=>["other","part"]|As4=>["work","self"]|As5=>["end","some"]|As6=>["count","order"]|As7=>[LZ,s1.heap.objs.size]|As8=>by simp only [List.getElem_map,List.getElem_range]|As9=>by unfold dU Builtin.Int.intBits|As_=>by rw[List.map_cons,List.sum_cons,ε,ζ]|As'=>by replace ε:AAH ζ (rawInt g5.objs.size):=η|AtA=>by rw[<- ε,List.flatten_append,List.nodup_append] at ζ|AtB=>(compareOp op')|AtC=>by show Pf;cases t<;>(cases e;exact DZ h)|AtD=>by rw[<- e,Int.natAbs_mul];exact ε|AtE=>ER s₁.heap.get? ->ε ->ζ|AtF=>ρ X.env.frame X.env.locals|AtG=>pq (ya (AAS j))|AtH=>(AG f (! ze))|AtI=>.ref (ų (AQU ε) l2)|AtJ=>BG V Value|AtK=>ω (APy W.mroIn (me "Barred") ε)|AtL=>by have z:=Int.dvd_gcd_mul_iff_dvd_mul.mpr ε|AtM=>by have p:=List.nodup_append.mp ε|AtN=>KB (xB s.heap.objs.size ε) ζ|AtO=>CS Γ' (Slot.pu ε)|AtP=>AH l.filter p|AtQ=>AH ws.take i|AtR=>BN s₁.heap.get? AQV|AtS=>De (t.place[i]+1)|AtT=>upd ε dx (.xd [(f,y)])|AtU=>R1.gr.h _ _ hx|AtV=>.lst ([ε]++hs.map fun h=> ζ)|AtW=>∃ob,ε/\KK ob.dict|AtX=>(by show(false || (backTo cpos (starEach es X.env)).any (·.1))=false)|AtY=>(true==true)|AtZ=>(rb.getD i g6)|Ata=>(b.num*a.den)|Atb=>.pu (Fq bs[i])|Atc=>B' ABT (cV i)|Atd=>(.dK ((ks++ [kk]).zip AHd))|Ate=>(Array.getElem?_eq_some_iff.mp h3).1|Atf=>By w.params.followText "set-order"|Atg=>By W.notCls o|Ath=>(Nat.mul_le_mul_right _ h12)|Ati=>BE ps.map pD|Atj=>BE gs.map hdS|Atk=>BE ws.map v|Atl=>BE rows.take i|Atm=>h a List.mem_cons_self|Atn=>(⟨#[ch]⟩:Str)|Ato=>by refine wpAny_call (codeAny_call_builtin ε ζ η)|Atp=>(ps++ [([],[])])|Atq=>(Z.pl.xs++ [.lst []])|Atr=>s.TypeIs v T|Ats=>PH (pushCells (s.heap.push T1) ε)|Atu=>by unfold gb;trivial|Atv=>by unfold argsOk;kernel_rfl|Atw=>(B4 hk (BY I' q))|Atx=>(FX (I.ok.hd hc))|Aty=>qD (X (m.idxOf h))|Atz=>EH (by simp at hb;simp [hb])|At0=>Ff (AIt "sorted" ε)|At1=>D ->Option (ε×Β)|At2=>(AGd (m4 o m) [])|At3=>∀x∈Abz,f x=0|At4=>ω (a.1<b.1)|At5=>W.tail_of_in X ht|At6=>Si w.params.followText "set-order"
|At7=>by rw[ε,List.length_cons,List.length_cons];omega|At8=>(Nn (AH ms.map gl))|At9=>List.filter_eq_nil_iff.mpr fun ε _=>An|At_=>FF e2 Array.append_assoc|At'=>D_ (Ξ (n z.symm))|AuA=>us.length=ps.length ->ε|AuB=>[Abi,.int E9]|AuC=>(xB acc [])|AuD=>by refine call_reversed_list pl.isList ?_|AuE=>pyNext (AA I)|AuF=>cB bT b_ (VQ oW ε)|AuG=>AGh (LV ABo (HR (AC ε j i)))|AuH=>ds= ABo/\HR (Int.gcd i j)|AuI=>(nL (mQ f y fs))|AuJ=>V ->V ->Bool|AuK=>F_ kO (K9 xs)|AuL=>(K2 v (v= i9))|AuM=>by show Ts;subst r;rfl|AuN=>(VY oQ VZ)|AuO=>R2.sl i _ e2|AuP=>by show NA Ab4 wpAny_newObj_type|AuQ=>(KK dx\/dx=dd)|AuR=>A2 (W.tailIn K Hr ε)|AuS=>TU ns.getD 0|AuT=>TU bs.getD false|AuU=>((ε Aa2).push Aas).get?|AuV=>om pk (Ac0 tc te)|AuW=>xl "__class__" AQE|AuX=>(.ListComp elt [⟨target,iter,ifs,0⟩] scope pos)|AuY=>SetTable.below xs j|AuZ=>by show Fs;cases h.1|Aua=>QU CG List.length_map ε|Aub=>DA N 0 ("self" :Str)|Auc=>AGw Builtin.SmallTypes.nextOf it|Aud=>cZ (Ev (qh ε) (qh ζ))|Aue=>pS (.seq its n)|Auf=>tn 0 s2.heap|Auh=>vg (HC (y8 ε) (y8 ζ))|Aui=>AAL kvs.lookup k|Auj=>oz pC H0 s o|Auk=>(h.push APX).push|Aul=>(s2.heap.push Abs).push|Aum=>PE (X.wsh z) (ma AOg [a] pos2) ε|Aun=>yi (AHC (W m' Γ'))|Auo=>yi (Ÿ Γ'.set υ)|Aup=>by show XG List.Nodup List.pairwise_map|Auq=>(vR s₁.heap H)|Aur=>p.2= nk ->AK≠x|Aus=>(L2.upd H p MY)|Aut=>release [v,ov,iv] []|Auu=>e (h1.trans z)|Auv=>isIn m b=false|Auw=>c0 iter wi|Aux=>AHD (h∈k s) BDI|Auy=>i4 (Pm n q/\Up lt q n)|Auz=>(SetTable.below xs j)|Au0=>by rw[List.mem_append,List.mem_singleton]|Au1=>(i5 (VM hq) e)|Au2=>ρ (s.heap.get? p) ACY|Au3=>(cB eY bX Au)|Au4=>cB jN Au (cB cI ε EA)|Au5=>Inv X pins AI4 H s'|Au6=>xJ ks k=true|Au7=>Ũ L4 (.seq its'.toArray n')|Au8=>zt qs.map qD|Au9=>by show i' (seqItems? (AA l))|Au_=>sD (k j (zU _ hj))|Au'=>Ã z.cps.toList c|AvA=>pure (none:LP)|AvB=>pure (some true)|AvC=>(cB cI Θ Ε)|AvD=>(ma BBf [a] pc)|AvE=>h s (zU _ hs)|AvF=>h b (zU _ hb)|AvG=>h u (zU _ hu)|AvH=>Ò (ρ (sO ε) (l.map f))|AvI=>⟨u,AN e1,e2⟩|AvJ=>AQu o - x o|AvK=>tn B2 s2.heap|AvL=>EK ->Rat ->Rat|AvM=>(.List es pos)|AvN=>r=none/\fA s1|AvO=>(kvs.map fun kv=>(ARA (S_,y)))|AvP=>(á aZ A9)|AvQ=>FE far a (n_ hne)|AvR=>∀{A:Around}{outer:EX},_|AvS=>AOm (gr.f.trans (s4.trans ε))|AvT=>h b (List.mem_cons_of_mem _ hb)|AvU=>Dh K F' ε H' C dx x|AvV=>AOn "plus" Mz|AvW=>AOn "minus" Ir|AvX=>AOn "times" T8|AvY=>AOn "over" O5|AvZ=>Α (g j)=Α μ*ε|Ava=>s.TypeIs CB "dict"|Avb=>(.ref Sj::vs)|Avc=>Dg X body tb|Avd=>(Array.perm_iff_toList_perm.mp ε).trans P|Ave=>by show FB (ret Value.none)|Avf=>Fk Γ (.pu (eN k1))|Avg=>FG is AL (∀i∈is,ε) ζ|Avh=>l.getD (l.length/2 - 1) 0|Avi=>(xF (m4 HL name) D6)|Avj=>pK X.K H a xs|Avk=>∀i j,i<m ->j<m ->ε ->i=j|Avl=>ACO (g r*g r)|Avm=>(.Subscript HL k pos')|Avn=>ρ (gK ks xs k) d|Avo=>(atKey xs k).isSome|Avp=>⟨F1,Γ1,D2,R1,q,k.mono s1⟩|Avq=>am ->BBp (N_∈m)|Avr=>fun Γ=>(BDJ B2)|Avs=>lN Acv xs.length|Avt=>(Hd.adr (VS AHk "__init__"))|Avu=>ZZ s1 (BCc "dict_items")|Avv=>CY (sIx n n hi)|Avw=>(ū HL f Ij)|Avx=>(sJ own.length caps Γ)|Avy=>∃a vs,v= AR/\ε/\C8
|Avz=>Aar it s.heap|Av0=>FE far b (Ξ (Ab' hB))|Av1=>Option (Shared×Thread)|Av2=>(Et X.prog X.w q xs)|Av3=>ne c _ z (FU w (by cases w))|Av4=>Ord lt vs.length|Av5=>I ts.length Γ1|Av6=>ε r (pm.mem_iff.mp hr)|Av7=>ω (ANq ε "__setattr__" Aal)|Av8=>Ξ (q (List.mem_singleton.mp z).symm)|Av9=>(.Tuple es k pos)|Av_=>IB r hr rfl|Av'=>PR (AGu Aa5) tk|AwA=>PR (AGu Abr) s.toks|AwB=>FF (dI (Ne.symm n2)) jW|AwC=>OE (fs.map gl)|AwD=>(call EQ (.ref AIc::rest))|AwE=>AQS (Mb "dict_values" #[AR])|AwF=>ci (0 - F) 1|AwG=>(eG p (Ù (- APi)))|AwH=>∀{H:Hp}{a:Addr}{kvs:M'},_|AwI=>∀{m:IO}(nm:m.Nodup),_|AwJ=>AQ9 (∃u,AIg/\Yd u)|AwK=>DV l a ((f a+d a)* (f a+d a)) ε|AwL=>fD.rep sF ts vs bs|AwM=>FL iA I2 (k _ ACR)|AwN=>PY base Nc Fc f fd Ab6 (ε K C fl sp)|AwO=>⟨ABR,qD g,AJC,APm,sh,ε⟩|AwP=>Np (s:=LX) e c d χ ⟨ε,H,I1,ζ,η,AE hl hit',ABW hf⟩|AwQ=>BE ε qs=qs.length|AwR=>by simp [sliceBounds,HT.sIx]|AwS=>ρ (mA name) v|AwT=>ρ (Acb g) v|AwU=>(zQ.mp hp).elim|AwV=>(ms.take B2).flatten|AwW=>congrArg Int.natAbs (J2 ε)|AwX=>by subst hb;rw[jW] at e;cases e;exact ε|AwY=>BG (CD) Heap|AwZ=>Meets (ε (D7 [FI,NH])) ζ|Awa=>DM Rr es gs|Awb=>∀v∈vs,(∃k,AJG ε k v=true)/\AaN|Awc=>(∀v∈vals,AcC)|Awd=>I.pins_of fun p hp=>ε|Awe=>by have e:ε:=by unfold uW;simp [q]|Awf=>Da one 1 0|Awg=>KO (.Return AQA pos) ε|Awh=>FG qs AW (∀q∈qs,ε) ζ|Awi=>dis x hx (e ▸ hy)|Awj=>FL FI (yam I2 d) ε|Awk=>VX (hd i j F) hp|Awl=>OC ps (AP_ (by rw[ε,q];simp))|Awm=>cJ h1 (ABP itv h2)|Awn=>∀(F:AJ "__init__" "Barred.__init__" Nm),_|Awo=>∀(F:AJ "__init__" "Sitting.__init__" Jm),_|Awp=>Tl _ _ rfl|Awq=>RH e n ?_|Awr=>∀{kindOf:BBc}{x:Str},_|Aws=>∀b u,â ->(∀kvs,u≠ AQs) ->ε|Awt=>∀{fd:FuncData}{x:Str},_|Awu=>k1 c o QP QP|Awv=>MT Γ1[i]? (some AIr) (g xs ds fun ys=>ε)|Aww=>(qu env scope.names [])|Awx=>(qu X.env sc.names [])|Awy=>ï zk8 r (OP p ε s_)|Awz=>AIl (DF (.int ε)) (AZ hm)|Aw0=>(AC (v<0) BCa BCY)|Aw1=>QY (LJ n1) (LJ n2) e|Aw2=>⟨x,F',hE,gr,xr⟩|Aw3=>⟨x,F',hE,gr.low sH,xr.back sH⟩|Aw4=>AQ6 r6 1 (K_+1)|Aw5=>∀(rows:BA)(ws:ο),_|Aw6=>(fun j hj P hP=> ?_)|Aw7=>(fun i hi P hP=> ?_)|Aw8=>h ⟨r,hr,of_decide_eq_true z⟩|Aw9=>oy "under" "one" "other" Fi|Aw_=>oy "divisor" "one" "other" O4|Aw'=>AGx tl x (∃a,ABb ((ε)\/ (ζ)))|AxA=>∀(Aca)(f:Str)(te:aX),_|AxB=>fJ.d c S (some nE)|AxC=>BBp (Ab B (N1 - x N_))|AxD=>∀{i j:Int}(h1:Tb<=4000)(h2:bo<=4000),_|AxE=>∀{i j:Int}(h1:Tb<=8000)(h2:bo<=8000),_|AxF=>(GK lo n).stop i H/\jI|AxG=>((num at_+ ε*Hq (ω (AHh=AHh)&& ! one)).fmod 26).toNat|AxH=>∀(X:Cx),Ο (X.prog=P) (X.w=w) (X.K=K) (cm X) ε
|AxI=>by
 obtain⟨its,r,pl,hz⟩:=I.list hq;refine ε (yR x) pl.isList (fun w hw=>Q7 rx fx r fs w (BH hw)) (ACS ?_)
 rw[AQD (its.toArray.any (yR x)=its.any (yR x)),Q6 r fs]
 exact q
|AxJ=>⟨m',l,w3⟩|AxK=>by rw[List.length_cons,List.length_nil,sizeLine_eq]|AxL=>by rw[List.getElem?_append_right (by show AbG;omega),List.getElem?_replicate,ε]|AxM=>Di (j:=27720)|AxN=>⟨AN8,FF List.size_toArray ε⟩|AxO=>r c*BCZ (s d*h es)|AxP=>IntsAre its ns|AxQ=>(Builtin.«zip.__next__» (D7 [.ref z]))|AxR=>ε ζ f2 hd (Array.getElem?_eq_some_iff.mp h1).1|AxS=>u=Value.type n|AxT=>(by simpa [Rat.not_lt] using q)|AxU=>ρ (H1 dx) (.xd fs)|AxV=>∀(rs:BA){k:Nat}(h:k<=rs.length),_|AxW=>Hy (AIu si)|AxX=>by obtain⟨_,_,_,_,_,_,_,_,_,_,_,_,_,_,_,_,_,_,_,_,h⟩:=h;exact h.elim|AxY=>onTheHeap (Value.ref C)|AxZ=>Slot.pu (pq S)|Axa=>t.slot j= .empty|Axb=>Α (AHl ofM m)|Axc=>ψ ws ps B|Axd=>wpAny_Name (ε fin) hd|Axe=>KB ε (w8 s1 h' tk)|Axf=>P (nU n m (Ub k s a))|Axg=>∃k,k<n/\r=jl A k|Axh=>one x fun ys=>ε one xs fun zs=>P (ys++zs)|Axi=>ks.any fun k' =>(ω (k' =k))|Axj=>ZT ta x (Mc tb y ε)|Axk=>GL t "tuple" ε none|Axl=>(B4 I.ok.glob (I.mod.glob.keeps I.bk))|Axm=>∀(hit:s.heap.IsKeyIter it d i es.size ep)(hm:AQj),_|Axn=>GT sK "hand" "sheets" ε|Axo=>KO AcQ (zv8 C sp t)|Axp=>by refine CU (runValue _) (wpAny_runValue ε)|Axq=>m_ (te Γ (fun d _=>ε) E)|Axr=>R.put i ε (E4 h h.elim)|Axs=>.pu (oF n (TU A n))|Axt=>Υ (xs.length+ys.length)/\ε|Axu=>fun r s' =>r=w/\tJ r s'|Axv=>z4v r _ _ hr|Axw=>IsPair h' s.heap.objs.size x ε|Axx=>∀(ND)(es:AD)(t:bZ),_|Axy=>by have l1:0<ε:=List.length_pos_iff.mpr ζ|Axz=>Ÿ Γ2.set (xN dic ε (Nn (fL ks xs ζ d).map))|Ax0=>AGs (AF (BE qs.map qD)) 1|Ax1=>RI (gZ qs/ sg)|Ax2=>∃sl,GG h'.get? {o with slots:=sl}|Ax3=>XN tv y (Mc ta x ε)|Ax4=>∀(hm:Ab7)(hC:mj X.K C),_|Ax5=>∀(sc:Scope)(x:Str),_|Ax6=>(hp.update ε (AI9 hp.objs.size)).get?|Ax7=>ρ (uT xs.length k) j|Ax8=>∀i,s<=i ->i<s+n ->ε|Ax9=>-(2^64)<i/\i<2^64|Ax_=>(setAttr XI name v)|Ax'=>∀{x y:Rat}(h1:tZ x)(h2:tZ y),_|AyA=>fun b ob u q=> ?_|AyB=>TJ (t:=z) (b:=27720)|AyC=>["some","bounds","backward","lists"]|AyD=>fun h' Q9 hs=>h _ ?_|AyE=>AbT J.type (z9 (AbT ε ζ))|AyF=>M4 (G.sr m hm)|AyG=>inD ABz (g.map WO)|AyH=>∀{rows:BA}(L:OO),_|AyI=>by have e:ε (BE ζ η)=θ:=FF List.length_map List.take_length|AyJ=>(kY (ps.map pD) (cutD (ps.map pD) ij none))|AyK=>zwc I S hk e|AyL=>⟨y,H1,I1,ry,q⟩|AyM=>AQ4 u Value BCh|AyN=>∀i j,i<j ->j<r ->ε|AyO=>if x<Ν then ε else ζ (r::t) x|AyP=>O2 (ns s hS) nh (sub s hS)|AyQ=>∀{h0:β} (hh:h0∈m),_|AyR=>Abk ε "__getattribute__" (BO (KI "type.__getattribute__"))|AyS=>(h u _ zD ru)|AyT=>Iy a ha b hb|AyU=>ARH (ε K a).yld Aci|AyV=>Acq fk ng 1|AyW=>ε I.ok.kind hk hc hcell|AyX=>(hd j hj hj)|AyY=>Og lt (W.kas_sort vs.length)|AyZ=>ω (A2 (W.plainGet K (me ε) Str.empty))|Aya=>(((Ab1).extBut.push _).push _)|Ayb=>ε fun v hv=>AO3 (BCG hv)|Ayc=>(BCX AZ0 AQb)|Ayd=>AGh (XE ds [Id] ε [MD] ζ)|Aye=>MA rows BA U ο ε|Ayf=>∀(cD:A6 "sorted")(vL:A6 "set"),_|Ayg=>c9 (aj (cZ (Ev bX ε)) aq)|Ayh=>ε (Mb (RW t1) #[.ref l1,s0])|Ayi=>∀(C:Addr) (fs:ο) (ts:Gc),_|Ayj=>(fL ks vs k v)|Ayk=>by show Fs;rw[h.1] at ha;cases ha|Ayl=>P AAk (Γ.set i AQL)|Aym=>by show Ki o ho hc hd hit2|Ayn=>by have hlt2:s.heap.objs.size<=l:=zM (Nat.le_of_lt ε) ζ
|Ayo=>Es ⟨P,a1,gL (r<=n),a3⟩|Ayp=>Ig prog w A E vs (Lz xs) ε oneType'|Ayq=>k b u (hb b n) q|Ayr=>∀vs H Q E,ARD ->BCO|Ays=>by show CM f hf sub p.sub S hS|Ayt=>∀(i:Nat)(tk tv:aX),_|Ayu=>BCp (APj o (oY H2 a y o) ε)|Ayv=>∀(lo hi:Ic)(n:Nat),_|Ayw=>∀b o u,Pc Ï ->AHi Ï|Ayx=>∀(G_){l:AI}{i:Nat}{d:α}(h:i<l.length),_|Ayy=>∀(BCq)(ti:bZ)(g:qP),_|Ayz=>∀(names:bq) (n:Nat) (acc:zw),ε|Ay0=>(AbH k' y (ABi v y) ks vs)|Ay1=>WalkO q loose XP YP l.row.toRowW d [] (fun f vs=>PySem.call f vs)|Ay2=>by have vw:(s1.heap.push (Mb "dict_values" #[AR])).IsValuesView s1.heap.objs.size a:=RS|Ay3=>EW ->BB_ (p=AcM)|Ay4=>ε ->∀a∈as,∃u,qA/\LD u|Ay5=>by unfold frs;rw[List.filterMap_cons,hf];exact ε|Ay6=>⟨ε,R.len,R.sl,R.ap⟩|Ay7=>(AC a 1 0)==b|Ay8=>(hz i him).2|Ay9=>N' =own++caps.map fun j=>N.getD j ""|Ay_=>⟨z.1,ht _ _ z.2.1,z.2.2⟩|Ay'=>by rw[tk,List.filter_append,List.flatten_append]|AzA=>KK xs[k1]?\/KK ys[k2]?|AzB=>w∈ GS BCo r Ν|AzC=>f p*HM.dt rs cs|AzD=>[B8,gI,To]|AzE=>∀{cs:AL},cW (UB ds ε) cs=ζ|AzF=>by case ε=>subst r;show LU rv;exact UF|AzG=>by rw[BCL,List.getElem?_map,List.length_replicate] at ε|AzH=>nx k % l.length|AzI=>by rw[List.length_zip,<- hkl,Nat.min_self] at ε|AzJ=>SetTable.below t.place slot|AzK=>L.back R' s'|AzL=>cY AQK (mw yW)|AzM=>(k a zV).o e3 (E8 z AAZ)|AzN=>by rw[AP9 (Hk ε),UC];show NA (pure _) A3|AzO=>Py rows (rows.length+1) ε ζ|AzP=>(Sum Int Str)|AzQ=>by simp [qD,jw,gb]|AzR=>Ζ ->Ζ ->Ζ|AzS=>j<ts.length ->I j Γ1 ->ε|AzT=>AIz ->HI it s ->BCW|AzU=>IsPair h' TO x y ->BCQ h' ->ε|AzV=>ε ->G2 ->BG (Þ) XW|AzW=>(h.push T1).update|AzX=>(AQf cd).kindOf|AzY=>AcN 40 (10^ ABY)|AzZ=>by show AIL Ik;exact hl|Aza=>Except.ok (Flow.ret v)|Azb=>(fun y hy=>k y (zU _ hy))|Azc=>backTo cpos (starEach ε X.env)= ζ|Azd=>∀(i j l:Nat)(tv:aX),_|Aze=>nW P w H' s'.heap|Azf=>DA Γ' x (Slot.tr (b::cs') (BV us'))|Azg=>DA nms v Ν|Azh=>ψ p hp z|Azi=>Mr (oV (k:=4000) ε) χ|Azj=>ds.length=n/\gs ds Γ Q E|Azk=>(BV (Cz.set j (BV us')))|Azl=>(Fw (rD qs))|Azm=>(A3 (A3 h))|Azn=>(g k*f j - f k*g j)|Azo=>AE (dI (Ach)) z|Azp=>qF qs bs=true|Azq=>∃w,LD w/\GG F0 w|Azr=>∃f,Acu/\ρ (ε K f x) g|Azs=>Ο (Gr F H F' H3) Q4 (Pd d) ε ζ
|Azt=>by
 split
 ·exact ε (n:=ζ) χ χ
 ·exact η (n:=θ) χ χ
|Azu=>ao K F0 ds vs|Azv=>by by_cases hl:xs.length=ys.length|Azw=>(ps.map fun p=>AcY)|Azx=>PE X XA (Nu r t)|Azy=>(ybv h hB).1|Azz=>ztb F Good ε (AM as has)|Az0=>ε ->io d v ->io d' v ->kO d d' =true|Az1=>ρ (W.takerIn K C ε) none|Az2=>(ma BBf ae pc)|Az3=>by show c∈_;simp|Az4=>PH (Abo push (W.instObj C s.heap.objs.size))|Az5=>ε (prog:=X.prog) (w:=X.w)|Az6=>typeOf qE=pure (KF "method_descriptor")|Az7=>DF (vC tN APJ)|Az8=>fun b z=>(TC z QK b)|Az9=>(I.hok b _ e1)|Az_=>GS decide_eq_false q (nomatch q)|Az'=>ne g (zU _ hg)|A0G=>ω (q - m<w)|A0H=>VO zxk aP (H_ (je ε))|A0I=>.leaf (jJ ms.flatten x)|A0J=>zM (zmk xs lo hi) hz|A0K=>m_ ((∃as ts,KS (.tr as AH6))/\ε)|A0L=>(FH iY oQ VZ)|A0M=>uN (bI st) "self"|A0N=>Ix (A k j) (hA k hk j)|A0O=>qU (lN val i) (val i)|A0P=>ε i u (A7 Array.getElem?_toList e2)|A0Q=>PY base CX k f fd ps ε|A0R=>by show II (cutD (m.map D.str) ij none)|A0S=>∀s∈ws.map (kW rows),ε|A0T=>(N9 j (ω (ye>AQc)))|A0U=>Q (B5 ((m*m).fmod 2147483629))|A0V=>(cutD xs l u)|A0W=>Lv K1 e1 q|A0X=>cW (fun x ds=>BCP) ε|A0Y=>∀A' :Around,KK A'.handled ->ε|A0Z=>ac (WF ps.map (AHf i (rawInt i)))|A0a=>fun us s1 (BCz xs)=>(EJ BCS)|A0b=>by have hsz:its.toArray.size=ns.length:=AN ε|A0c=>(xF (m4 o "get") [e,f])|A0d=>(ψ s6 I6 ⟨a,hsb,ha⟩)|A0e=>(∀a,Good i a ->P [F i a])|A0f=>Mo (CY (pH t ε)).toNat (pH t ζ) (Int.toNat_natCast _)|A0g=>I.kIn a o hk|A0h=>P4 t es BCy|A0i=>ARF o m o=BF o|A0j=>∀(he:PE X e ta)(hb:cc f=BF e),_|A0k=>pQ (hdS a) (hdS b)=true|A0l=>P_ ⟨XB (AJB C.sz),XB (C.sz p hp).2⟩|A0m=>AcB*μ.fdiv ì|A0n=>(aA OG (oB TN)/ Α WS)|A0o=>fun v hv=>scn v (ε hv)|A0p=>(pT (AG8 as (H' b) (F' b)))|A0q=>zO _ (zP.mpr rfl)|A0r=>RR (Mc tb y (r x y H2 ε))|A0s=>∀{prog:Program}{w:World}{A:Around},_|A0t=>AH H b (.frz (ob b))|A0u=>Mod X.K X.mg X.base|A0v=>pz Attribute e f ε|A0w=>E E3 none H1|A0x=>by refine A3 (AcI PySem.F.plain_list_iadd PySem.F.entry_list_iadd ?_)|A0y=>∀i h,tn i h ->TZ (AcW P7)|A0z=>(AC (j<0) (-j) j)|A0_=>(AC (a<0) (-a) a)|A0'=>ie (i^j.toNat)|A1G=>⟨R'.gr.h,H2,e1,e2,ε⟩|A1H=>cn (storeName X.env x u)|A1I=>qq (setAttr CB f u)|A1J=>∀{n:Nat}{f:pe}{i:Nat}(h:CH),_|A1K=>AHB ε (cB eO sf (fb ζ))|A1L=>Acl Q I2 rx ry q|A1M=>fun o=> !(ω (q<o))|A1N=>yH c _ (AG hc ?_) q|A1O=>XR m (zvs l)|A1P=>Bi ε LE hbase hline|A1Q=>qD (cq 0 (ARI o) (fP Me AQ8 o))|A1R=>∀{kvs:WZ}{xs:AIO},_|A1S=>(.Subscript HL Abw pos2)|A1T=>so (∃F ds P,JE/\C8/\g ds P/\ε)|A1U=>Ò (ε (l.map f)=l.map ζ)|A1V=>SeqAt.EqAt A s u v ε|A1W=>by rw[List.zip_cons_cons,List.map_cons,ε (BH h)]|A1X=>V ->V ->V ->mS Hp Hp|A1Y=>Iy x c e z|A1Z=>FL ε I2 (q _ (I1.hok.fresh (zL _)))|A1a=>DV ABr h (é*x h) ε|A1b=>AaP (ltP a b=true)|A1c=>qr (h ε Ü ξ AQC) this|A1d=>∀(AOp)(u:EW)(nw:ws.Nodup),_|A1e=>∀(AOp){m:IO}(L:Aaw),_|A1f=>fun d ds e=>h d cy i_|A1g=>pF Γ1 σ i b|A1h=>∀(X:Cx) (o:Expr) (m:Str) (apos:Pos),_|A1i=>sp AcU ds (K2 t' (Cb t')) (E4 Cx (E Γ1 Cx))|A1j=>AO' (k _ Γ2 F2 H2) hp|A1k=>∀(K:W.Frag)(td ty:TE),_|A1l=>["some","order","part","place"]|A1m=>aC N ps scope|A1n=>sy (by show RC eN;rfl) (Rh ks)|A1o=>∃d,Ã xs d/\P d|A1p=>GL Τ h ABy 0
|A1q=>∀b ps,Pc (.Hs ps) ->∃more,GG H' (.Hs (ps++more))|A1r=>W.item i s _ _|A1s=>by rw[Ω e,D_ (ABw e h1.trans)]|A1t=>AIq (∃l xs,x= FI/\vs= []/\jS/\AQo ε)|A1u=>Co "is_scale" 3 ["points"] Uk|A1v=>Co "mean_mark" 3 ["sheet"] U4|A1w=>Co "ends" 3 ["marks"] Ut|A1x=>Aan "total" 4 MF|A1y=>Aan "mean" 5 T9|A1z=>Aan "rising" 2 Ua|A1_=>AI6 (AQa HL f) (ε C i f ζ)|A1'=>AAg "must_have" 1 AOS Vb|A2G=>AAg "mark" 2 AOS Iw|A2H=>AAg "grade" 3 AOS Vc|A2I=>qq (compareOp ε u CB)|A2J=>∀(i x:Nat)(tb:aF),_|A2K=>z0v h1 hr hg h2|A2L=>QE (gi AGj) F0 H value te|A2M=>∀{one:AAq}{f g:pe},_|A2N=>∀{rs:CF}{f g:Row},_|A2O=>APw ds Β (C8 ->By ds.all Dj ->ε)|A2P=>APw ks Be (ks.length=vs.length ->ε)|A2Q=>tc Γ2 (fun w Γ3=>g' y w fun d=>P d Γ3) E|A2R=>Aaz "by_work" 1 MN|A2S=>Aaz "groups" 3 UW|A2T=>Aaz "leanings" 8 U7|A2U=>AJU (gh ws v)|A2V=>∀(AP6)(h0:IJ∈S)(hn:n∈S),_|A2W=>∃q,BN h'.get? q|A2X=>fin s.heap s.drawn ε []|A2Y=>(x.above y c (PySem.mem_of_lookup h))|A2Z=>(h.push (Mb "list_iterator" #[L_,AQX])).ε|A2a=>ω (n.fmod 3=1)|A2b=>∀{rows:IA}(u:EW),_|A2c=>∀{m:ο}(hm:m∈ms),_|A2d=>E2 ["table","place",ε,ζ] ["table","place",η] θ|A2e=>AQJ (∃kvs,AQO/\GG H1 (.frz (ob b) GM))|A2f=>∀(D9){c:Cls}{a:Addr}{ds Q Ex}(h:ε c ds Q Ex),_|A2g=>sp [AAf] (oB (Cb r)) (AAR Cx Cx)|A2h=>(nP (cT (AI0 Θ)) (I_ Ε (cU eZ Θ)) Abh)|A2i=>∀(X:Cx)(id:String)(r:cz),_|A2j=>AQY (t D σ H) ε (SP X pins D)|A2k=>tF sj f F6 (f n)|A2l=>cW (fun d es=>s d*h (c::es)) ds|A2m=>⟨a,dx,vs,e1,ε,e5,BCr ζ⟩|A2n=>AHx (C4 (Pd Ρ)) Pd|A2o=>B' XA (aB (Bo C fl sp) t)|A2p=>.pu (.dik (hk.map .inr) (P3 hk.map w Abl))|A2q=>AQ' (∃a o kvs,v= AR/\qB TL/\ (AAc ->R (ε a o kvs) H1))|A2r=>(hg x).mpr (CA ⟨f,hf,q,ε⟩)|A2s=>∀(AbY){x:D1}(G:AAw),_|A2t=>EqD A s v u (kO d d')|A2u=>Bool×APd×APd|A2v=>ACZ ε (rule "set.scan.the-table-gave-way") (pure ())|A2w=>st (I.hok b u q)|A2x=>⟨ε,_,c,hv,AE Array.toArray_toList hg⟩|A2y=>fun l hl=>k _ _ l rs hl h|A2z=>(W.methodObj EQ (AA y))|A2_=>zmn (k:=ε) (ks:=ks)|A2'=>(Γ'.set x Slot.no).set|A3G=>Co "_law_marked" 1 Ac3 U8|A3H=>Co "without" 1 ARL Ud|A3I=>(rel.val k).getD rd|A3J=>by rw[yan rv hv];exact wpAny_truthy_bool ε|A3K=>Abn h hh hh|A3L=>∀{ns:Φ} {its:Ζ},ε ->ζ|A3M=>MA bs APe m Rat ε|A3N=>∃l,v= FI/\∃is,ε|A3O=>iq (∃bs,ρ (sO xs) bs/\GY (ε id))|A3P=>(∀b,gc ->¬Sl ->LS F1)|A3Q=>zsq (ep:=ep) hbt hg O hdr|A3R=>typeLookup sq "__getitem__" =pure (BO qE)|A3S=>(xk "list" (o6 ANv [] cpos))|A3T=>(xk "list" (o6 AO1 [a] pos2))|A3U=>AbL I.laid o ε (OC ob yT) C1 ?_|A3V=>∀a∈l,Ab k (f a)|A3W=>∀{H:Hp}{a b:Addr},_|A3X=>Co "rests_behind" 4 ["some","bounds"] Uu|A3Y=>Co "greatest_cuts" 5 ["some","bounds"] Uv|A3Z=>(APV Rep (OP l1 h1 q1))|A3a=>qq (getAttr CB f b)|A3b=>aA hs (pW S x)|A3c=>(AC (v<0) (max (v+ E5) 0) (min v E5))|A3d=>∀(D9){F H:Hp}{σ:St},_|A3e=>∀(D9){F0 H:Hp}{N:ο},_|A3f=>(AcJ (∃x F',E Γ x/\a_ /\APE H C dx x))|A3g=>FG cs AL (∀c ds,ds.length+1=cs.length ->ε) ζ|A3h=>Nu (ε K g) (MS NQ t E) σ H Q|A3i=>SR K F1 H F1 H σ (fu Γ)|A3j=>SR K F1 H1 F1 H1 σ (jH Γ)|A3k=>Ef K x ε st f fd (AA T)|A3l=>AcV ε (ζ (b,o) (zO _ BBy)).1
|A3m=>∀(ho:c8 lW APp (nc g))(ha:OX)(hb:ja)(hm:APs),_|A3n=>∀{K:Frag}{x:Str}{st:Stmt}(h:ε K x=ex x x st),_|A3o=>∀{K:Frag}{x:Str}{g:FuncData}(h:ρ (ε K x) g),_|A3p=>Acr (hn b (List.mem_cons_of_mem _ ε)).1|A3q=>(fore treeTable topGo p w os)|A3r=>(Hd.fore treeTable W.topGo pg w os)|A3s=>∀(l:Addr) (ms:ο),APT ->ε ->AQq ->APq (ms.map .str)|A3t=>∀(l:Addr) (ms:Φ),APT ->ε ->AQm ->APq Abt|A3u=>((num j+ Cc*Hq (ω (RE=AHh)&& ! one)).fmod 26).toNat|A3v=>∀(Acz)(BBH){ix:WA}(h:AHe),_|A3w=>Ö h ->Aar c h ->it≠c ->Ö h'|A3x=>jk t h l ws ->Aar c h ->l≠c ->jk t h' l ws
|A3y=>by
 obtain⟨its,rv,p,hz⟩:=I1.list hq;refine wpAny_pyIter_list p.isList ?_;refine ε;show ACI
 exact ACd
|A3z=>(match r with | .pl d=>ε | .nt c t=>ζ)|A3_=>["self","work","sheet","levels"]|A3'=>by rw[List.getElem?_set_ne (Ne.symm hj)] at e2|A4G=>fun pre c d post=>ε|A4H=>setField r6 2 Χ|A4I=>(putK kvs k y)|A4J=>∀{α:Type}[AG7 α]{one:AAq}{f:pe},_|A4K=>qD (jx Me h)|A4L=>hq H1 (s1.trans s2)|A4M=>by show AU q hq e List.mem_iff_getElem.mp ε|A4N=>(Xn (hf c hc) (zH (ε c hc))).1|A4O=>CL #[zwd #[yaf (i:=1) rfl EO]]|A4P=>D5 hQ R'.gr MX q|A4Q=>Iy s us X hl|A4R=>Iy h' tk hS hold|A4S=>nN ((h.push APX).push AI8) t|A4T=>∀as:GH α,ε ->P (ζ (ET (F i (as i))))|A4U=>L6 sc.names (p.2= Ll ->ρ (ε AK) nk\/ρ (ζ AK) Ll)|A4V=>BCK H1 I1 q|A4W=>∀{kvs:P8}{vs:ABj}(r:AHb)(k:κ),_|A4X=>∃u,us= [u]/\im|A4Y=>(AaG (upd F' s1.heap.objs.size AZ2) [(fl,v)])|A4Z=>∀(hM:DS Aco)(n:yA 49),_|A4a=>fore treeTable topGo p w|A4b=>x_ ε X.base x C fl k ps sp|A4c=>∀{op:CmpOp}{r:R2}(ho:lW X APp r)(ha:c_)(hb:ACW)(hm:APs),_|A4d=>APr UD (P4 tb d' (MT d' (.str y) ε))|A4e=>∀(N:ο) (sc:Scope) (own:ο) (caps:AL),_|A4f=>AQF (Bi ε hg hm Cf hs) (Acg ζ)|A4g=>∀{x y:V}{u:Value},_|A4h=>∀{x:V}{u:Value}(r:im),_|A4i=>#[rO (At yd2) rfl um boot_abs Q1]|A4j=>kk d Γ1 F' H' v AQk AcE rv hp|A4k=>vV.k (k:=kk) ea (by show AIL hkl;exact hl)|A4l=>∀(sp:Sp)(Nr:Δ)(E:XK)(t:TA),_|A4m=>∀{a b:Expr}{ta:TA},_|A4n=>DV hs o (fP S h o*x o) ε|A4o=>NJ (XE y Ρ ε (.bl d) (MT x (.bl c) (GY ζ)))|A4p=>(KE bs.length fun k=>pq (rk ABs bs.reverse AIF))|A4q=>∃ms:AW,ms.length=rs.length/\∀j,ε|A4r=>(names.map fun sC=>if (BAw k&&BAv) then APY else sC).lookup|A4s=>∀(AJH){cs:AL}{a f g:Row}(hf:BCk)(hg:AQQ),_|A4t=>BCe rv.get ε List.getD_eq_getElem?_getD W_|A4u=>by have hbs:=hb (ZZ s1 (AJL (W.instObj C s1.heap.objs.size))) ε I2.kIn (B4 List.append_nil hl)|A4v=>fun b o ε e n=>u.free b o e n ζ|A4w=>(hch c z).2.2.1 x c e rfl|A4x=>BCm (∃C,Cv.cls=C/\zf K C/\A2 (mO K C Cd)/\ε)|A4y=>(bM g g' ta tb tc)|A4z=>BCu (dx::bs) a zV|A4_=>oY.k (k:=kk) ea|A4'=>⟨cs,t',e0,q⟩|A5G=>fun(sT r h1 h3)=>⟨r,ε,ζ⟩|A5H=>by rw[List.getElem?_append_left (by show AbG;exact hi),List.getElem?_map,ε]|A5I=>∀{ps:EK} {x:Rat},ε|A5J=>fun obj s₁=>obj= iA/\s₁=ε|A5K=>∀b o,Ο P7 F8 ε AQM ζ|A5L=>(TN - N1) - aA (dD rows Ν) AO5/ Α (AHl dD Ν)|A5M=>by simp only [List.zipIdx_cons,List.zipIdx_nil,List.forIn_cons,List.forIn_nil]|A5N=>∀(f m:Nat),1<=m ->m+f<=n ->ε ->ζ|A5O=>by simp only [List.filter_cons,q,ε,ζ,η,List.flatten_nil,List.append_nil]|A5P=>ex d.1 d.1 d.2|A5Q=>hQ h' s.toks (AQv ε)|A5R=>putSet_of es' t' hd|A5S=>ε (AG s Acy) good 40000|A5T=>(List.zipWith g as bs)|A5U=>(fM Γ σ H)|A5V=>zyf ε LE (IT hl) (IT hh)|A5W=>.pu (Fj n n A)|A5X=>if_pos (zwu C.gd C.len)|A5Y=>∀{kindOf:BBc}{x:Str}{v:Value},_|A5Z=>I1.fpOk hb2 (I1.hok.fresh hb2)|A5a=>aA ABr (jx S)|A5b=>gq l.prog w K mg|A5c=>ε _ _ e' (n1 b n hb)|A5d=>(ε (b,o) (zO _ BBy)).2.1|A5e=>(.ob C2 fs2 ts2)|A5f=>(k (lt i j))|A5g=>AK=q.1/\KL q.2.1 (AHX (AK).map)/\RelV p.2 q.2.2|A5h=>Co "reached" 2 AQl Ur|A5i=>Co "share" 5 BCM U0|A5j=>Co "shares" 6 ç U3|A5k=>PIg X tg iter wi|A5l=>2^ (max (dU i) (dU j))|A5m=>Bz (AQ1 b GM) (qi b ε)|A5n=>(.While c body [] pos)
|A5o=>.tup [.str w,AGy,.int 0]|A5p=>∀{vl vu:Value}{lo hi:Ic},_|A5q=>zr2 hl _ fun i a b z1 z2=>by simp only [z1,z2]|A5r=>∀{c:Cls}{t ds P E}(h:Kd c t ds P E),_|A5s=>(∀d,ε≠ Q3)/\∀k,ζ≠ .kt k|A5t=>∀h' e,ε ->(∃o,qV e/\AOh "StopIteration") ->E (AA e) LX|A5u=>hQ d v F' H' gr rv q|A5v=>DF (BCR (xz r hr _ ε))|A5w=>Ff (setNext S slot given ε)|A5x=>(fun b u e n=> ?_)|A5y=>aA l fun a=>(IC è (f a))|A5z=>(.Compare a [op,op'] [b,c] pos)|A5_=>pushCells_keeps _ _ b o OI|A5'=>fun a ha b hb ε=> ?_|A6G=>GY (bs.any (Ux w m))|A6H=>∀(K:W.Frag)(Cd:Addr)(i:Nat)(tb th:aF),_|A6I=>ε vs (s3.seq (s2.seq hq))|A6J=>∀x:Str,sw ->mb x=bootBuiltins x|A6K=>far b _ (Nz he hd q n) k|A6L=>∀(OF){ws:ο}{ps:AJJ}(B:AcZ)(u:EW),_|A6M=>∀(OF){ms:HP}(G:AQ7),_|A6N=>z98 u nw cw h|A6O=>(qU (lN val i) (val i)).ε|A6P=>s.1=Ν/\N_=Τ|A6Q=>OK (QC x y=true/\ε)|A6R=>fC k A ->Ο (ARN A) (BCx args us) ACH ε ζ|A6S=>Es ⟨τ,h4,fun j a b=>h5 j ξ b⟩|A6T=>Co "whole_row" 2 ["row"] Uc|A6U=>Co "least_number" 1 ["rule"] Ui|A6V=>#[z9x (i:=3) rfl EO ε #[fV Ψ ζ fE]]|A6W=>oy "_law_names" "_law_cell_here" "_law_many" O9|A6X=>oy "_law_cell" "_law_script" "_law_k" CK|A6Y=>oy "meet" "group" "hands" O8|A6Z=>oy "sheets_with" "hand" "sheets" Kc|A6a=>oy "is_within" "step" "bound" O6|A6b=>oy "_law_divisor" "_law_one" "_law_other" Va|A6c=>Co "solved" 3 ["rows","rights"] Uh|A6d=>Co "reach" 3 ["some","bounds"] MK|A6e=>Co "_law_bottom" 3 ["_law_sitting","_law_rows_here"] Ve|A6f=>Co "borders_borders" 3 ["marks","counts"] Uz|A6g=>∀(Q2){x:HU}(ev:DS (xP rows x Τ)),_|A6h=>⟨_,es',ep',hL,r'⟩|A6i=>xz f hf k ⟨f,ε hf,k⟩|A6j=>pS (.set es ep t)|A6k=>cJ (Pi ha _ I1 q) (ABP ov ε)|A6l=>VA aB (Bo c.Scale "points" (MJ c)) ε|A6m=>bi (ce).at (hk I Μ o e)
|A6n=>by
 show JS (zR.mp h)
 ·cases z;exact AIn ε
 ·show B3 z
|A6o=>∀{H:Hp}{kvs:WZ}{xs:AIO}(r:AJP),_|A6p=>Co "climbs" 2 ["left","right"] Uj|A6q=>Co "joined" 2 ["found","hands"] UL|A6r=>Co "fraction" 2 ["top","bottom"] Hi|A6s=>Co "led" 2 ["table","place"] Ug|A6t=>Co "number_from" 2 ["least","marks"] Us|A6u=>Co "grade_borders" 2 ["some","mark"] UG|A6v=>AAg "leaning" 1 (ů "hand") Iv|A6w=>AAg "reckoned" 7 ["self","work","sheet"] Vd|A6x=>AAg "table" 4 ["self"] Pb|A6y=>{o with data:= .set es' (ep+1) t'}|A6z=>k a zV _ (ε f g AQd h)|A6_=>fs AHc j - fs AHc p/AQZ*AI1|A6'=>(fun c hc u hu=> ?_)|A7G=>∀kvs,u≠ .dK kvs|A7H=>AOM (AH8 CH) (H' =H/\x= ε) (AH8 (n<=i))|A7I=>∀(sR){tg:Expr}(a it:Addr),_|A7J=>∀(sR){tg:Expr}(a it:Addr)(BCv),_|A7K=>Yl (cs:=ε) wr (N:=N)|A7L=>h kV doc pm an|A7M=>h ms x ws sh
|A7N=>by
 rw[e];show AJF
 ·exact zN _ q
 ·exact zO _ (zU _ q)
|A7O=>∀(X:Cx)(tg iter:Expr)(wi:TI),_|A7P=>∀(X:Cx)(BCf)(tg:Expr)(R:AIh)(itv:Value)(s2:Shared),_|A7Q=>∀(K:W.Frag)(n:Nat)(t:Hv),_|A7R=>∀(K:W.Frag)(ta:TE)(f:Str),_|A7S=>∀(i:Nat) x Γ,Zl ds ->I i Γ ->g x Γ ε E|A7T=>vs= .ref x::rest/\B_ H (XO x C none)/\JE/\ε|A7U=>(xk "sum" (o6 ANv [] cpos))|A7V=>∃m xs ys,n=m+1/\d= ε/\d' = ζ/\APH (vY m x y)|A7W=>key j i hj hi|A7X=>z06 ε h (kn I sF r rv) (kn I sF r' ru)|A7Y=>ABu ε ⟨z,H3,I3,r3,k,e,q3⟩|A7Z=>by have e:AF 10^ ABY=10^20:=rfl;rw[e] at this⊢;omega|A7a=>pW (S.map k) x h|A7b=>Bi Wm cx.po hc ε (IT hg)|A7c=>ACN ((∃as t,V' (.tr as t))/\P4 tk kd ε)|A7d=>∀d v F' H,Gr F0 H0 F' H ->ε ->ζ d ->AcG|A7e=>holding [v,ov,iv] (setItem ov iv v)|A7f=>∀(ACf)(Td:AQ0)(hv2:BCj),_|A7g=>⟨a,_,e1,Abu f,Rh k⟩|A7h=>z50 L x hi i0|A7i=>(fun f hf=>M4 (sr f hf))|A7j=>∀{kvs:P8}{vs:ABj}(r:AHb)(k:κ){y:V}{u:Value}(ry:JY),_|A7k=>Co "cuts" 6 ["marks","bounds"] Uw|A7l=>(ts.set q (.dic (jg LQ k2) (Nn (fL LQ xs k2 d).map)))|A7m=>AIy (xk "sorted" (o6 AOg [a] pos2)) ε|A7n=>∀a ds Q Ex,sp ds Q Ex ->ε|A7o=>AI7 sK "sheet" ε "sheet" "hand"|A7p=>AI_ (∃a xs,Å ε BCI (t xs σ H Q))|A7q=>∀(AP6)(hn:n∈S)(hg:AP1),_|A7r=>(mQ f v fs).map (·.1)|A7s=>∀(m:Nat) (u:OU),(eG m fun c=> - u c)= - eG m u|A7t=>z4f (fun r:XT=>ε) AQ_ ζ rows.length rows η θ|A7u=>checkCount "sorted" 1 1 _|A7v=>List.lookup x ((AC Acs APY (n,k0))::_)=_|A7w=>AOH v u Q I r (D5 hi q)|A7x=>∀{x qual:Str}{st:Stmt},_|A7y=>∀{A:Around}{C:Addr}{us:Ζ}{kw:AH9},_|A7z=>¬(a.1=b.1/\a.2.1=b.2.1)|A7_=>∀x c v,xi ->Ab8 ->ε|A7'=>(eG m (Ù (AC (c<p) (- APi) (Acf c))))|A8G=>DD (∃(bs:APe) (w m:Rat),ε)|A8H=>#[RM (At Xc) rfl cA boot_list Q1]|A8I=>∀(AbY){x:D1}(G:AAw),_|A8J=>⟨o,es,ep,k _ o ε ho,r⟩|A8K=>by rw[QU List.getElem?_append_right B.len (Nat.le_refl _)] at h2|A8L=>h2.imp id fun⟨a,o,b,c⟩=>⟨a,o,τ,c⟩|A8M=>compPost ZY X.A X.xe use|A8N=>(U i AB' q' ξ)|A8O=>(lQ (kW rows) (yW rows) ws h)|A8P=>Co "excess" 5 ["hand","sheets"] U5|A8Q=>Co "group_leanings" 7 ["hands","sheets"] U6|A8R=>by have hez:e≠z:=fun x=>by subst x;rw[ε] at hoe;cases hoe;simp at hce|A8S=>Ix u (Np (s:=LX) e c d χ ⟨x,H,I1,ru,FY (BCd ε),st',ABW hf⟩)|A8T=>∀q,ii q ->HI q (Nw q ε)|A8U=>cf ε (VY i8 (zq9 (At ye7) rfl Bx boot_int (aD ζ aQ)))|A8V=>DD (∃ns:Φ,ds= [r9]/\ABq/\ε)|A8W=>x_ yK X.base C m k ps sp|A8X=>ABS (AP7 d v ε d g_)|A8Y=>ABS (AP7 ds vs ε ds (Q vs H'))|A8Z=>MT Γ1[i]? (some (.tr as AH6)) (WE ts.length/\ε)|A8a=>(APV Rep ⟨l2,us,se,h2,q2⟩)|A8b=>Hd.fore treeTable W.topGo pg w os|A8c=>fun i a b h1 h2=>ε B2 a b à AIe|A8d=>∀{A B:Nat}{p q:Rat}(h1:GZ A p)(h2:ACb),_|A8e=>∀{A B:Nat}{x y:Rat}(h1:ZB A x)(h2:ZB B y),_|A8f=>BBz (ε X.K C fl sp)|A8g=>BB' (ds= ε/\sB/\Last S n/\n∈S/\ AP1/\ζ)|A8h=>BB' (ds= AcD/\sB/\Last S n/\OT ε)|A8i=>⟨s',o,q,p1,hb⟩|A8j=>E9*B - AcP - FT v B Ν|A8k=>∀{CX:Ca}{P:Program}{w:World}{K:W.Frag}(Acw),_|A8l=>(CN k p a i)
|A8m=>by
 intro hi;show Û ε q
 ·have:=ζ i hi;omega
 ·exact q
|A8n=>JH.extBut _ _ ε (ζ _ _ c4 (hs3.extBut _ _ c2 (hs2.extBut _ _ c3 (hs1.extBut _ _ c1 η))))|A8o=>(h r zV c).mul|A8p=>DV ws w (IC zI (F w)) ε|A8q=>nB (fT a) (UA s₁ (ABl (fT b) (fun u s₂=>ε) s₁))|A8r=>∃p ys,xs= [L_]/\ (rS p ys\/AQw p)/\ε|A8s=>∀(EM){a:Addr}{vs:Δ}{xs:Β}(hq:AcO)(rs:r_)(hz:Υ vs.length),_|A8t=>ds= [AQB,ε,AQe]/\OO/\ACP/\ζ|A8u=>OK (∃p xs i v,x= L_/\y= B8/\ε/\Ã xs v/\Q v H)|A8v=>∀(c:Cls)(F:Ef K "worth" "worth" Jl f fd (AA tE)),_|A8w=>∃as fs ts,AIs/\f∉fs/\AQg/\A2 (Ce (fs++ [f]))/\ε|A8x=>∃a C dx fs v,ABb (Ab0/\AIv/\Ab5/\APu/\ε)|A8y=>DV m h (Α (AHl qC h)*f h) ε|A8z=>∀{binds:AH9} {m:CD},(∀v,(x,v)∉binds) ->ε=m x|A8_=>∃a vs bs,v= AR/\as=qS/\ε/\bc/\AI5|A8'=>(rk ABs bs.reverse AIF).contains (n - e)|A9G=>dA ε (IG (Pm n r.2/\1<=Ν/\Ν<=n/\Up lt r.2 Ν))|A9H=>By Dj x/\By xs.all Dj/\GY (AC neg (! inD x xs) (inD x xs))|A9I=>ë (TR.move f t v as) (ACV k) r|A9J=>⟨APt,APt,I.base.free,AIo hx,I.base.tups,I.base.oX,I.base.qp⟩|A9K=>AAj h.objs.size filterMap fun a=>if a=L\/ ε then none else AH h.get? a fun o=>(a,o)|A9L=>∀(Q2){x:HU}{M:Rat}(ev:DS (xP rows x Τ))(M0:0<=M),_|A9M=>∀(BCt){vs:Δ}{xs:Β}(e:Ab3)(hkl:bc)(rs:r_)(hz:Υ APA),_|A9N=>(fun a ha u hu=>mine a u ha hu)|A9O=>⟨Gr.refl s2,QY ε List.length_map R.len,Tm i s,fun i j a ⟨s,o,e,_,h⟩=>BC'⟩|A9P=>(zv4 hn hg k ξ).2|A9Q=>⟨hS,by show AHg o hS;exact OR e,fun h1 h2 q st=>ε ζ⟩|A9R=>fun u' s2 I2 ru=>⟨v,H1,I2,ru,q⟩|A9S=>∀j∈caps,j<N.length/\ρ (sc.names.lookup (N.getD j "")) Ll|A9T=>∃i vs σ' H',Inv AIZ [] σ' H' s' /\tn i s'.heap/\ AI2/\ε|A9U=>∃l b xs zs,x= FI/\ε|A9V=>∀(d:D) (v:V),jw d ->IN ->Q4|A9W=>∀(ds:Β) (vs:Δ),ACJ ->C8 ->ACU|A9X=>∀(rows:BA) (U:ο),AI3 ->Ο ε AQW EW Abx ζ|A9Y=>by simp only [show¬(K_<0) from τ,if_false,Int.toNat_natCast,ε]|A9Z=>["hand","other","sheets","both","through_works"]|A9a=>["found","hands","apart","together","group"]|A9b=>assignInOrder [fun v=>bindName X.env y v,fun v=>bindName X.env x v] ε|A9c=>Builtin.Slice.sliceAdjust lo hi 1 E5|A9d=>R1.put i (s:= ε) ⟨v,rfl,nd,ABH (OA hn) (AIb hn),r1⟩ fun a ha=>(hn a ha).2.2
|A9e=>∀(hTI:ARK s.heap)(hTO:AJD s.heap)
 (h1:Acd) (h2:Ace) (hl1:AJN) (hl2:AJT),_
|A9f=>∀(qH:A6 "tuple")(jT:xo "NoScale" c.jq c.jq)(bL:AHo)(aK:aN K c.Scale "points"),_|A9g=>ε os un hok bare BCT|A9h=>∀{M:Model}{A:Around}(BCg),_|A9i=>zp6 (g:=ε) (μ r) (sD ζ)|A9j=>BBh/\Sm AK/\AK≠X.env.locals/\AK∉X.fs/\∀v,(p.2).data≠ .cell v|A9k=>holding [v] (setAdd S v)|A9l=>yaa R1 h1.2 (k.mono s1)|A9m=>Ο TB Program World Nat (Ο LP Nat Shared Thread ε)|A9n=>MR Li base "worth" 6 AJQ (Pa c)|A9o=>Bi Wm cx.po hc (ε ζ) (IT hg)|A9p=>mT ((ε)/\Æ (∃a bs tt,V' (.tr MW tt)/\sp tt ds (fun t' d=>∀cs,P d (AGt i g9 t')) fun t' Cx=>∀cs,E (AGt i g9 t') Cx.bare))|A9q=>(AO2*tb AHc j - tb AHc p*tb s j).fdiv d|A9r=>by refine z9 (AIU hit2.typeIs F.slot_tuple_iterator_next (sv F.slot_tuple_iterator_next hit2.typeIs F.entry_tuple_iterator_next F.args_tuple_iterator_next_1))|A9s=>∀(D9){F0 H0 F H:Hp}{σ:St}{Γ:G2}(R:DH),_|A9t=>∀(D9){F F' :Hp}(e:Dx),_|A9u=>Un (frs X.stack) [] AOB ACc (s1.heap.push W.emptyDict) (ε ζ)|A9v=>ρ (jF F0 F b) u|A9w=>jl A (ix i) c|A9x=>⟨boot_heap w.params,Array.mk [],boot_drawn,boot_toks,os⟩|A9y=>nI to (Wt K T x H1/\ε)|A9z=>⟨F5,Γ5,R5,s2.trans (gr.f.trans (s4.trans s5)),q⟩|A9_=>AOL ε AIZ (hc _ _) i [] s5|A9'=>ε I.kIn c n hx rfl rfl rfl ζ|A_A=>∃xs:ο,ds=xs.map WO/\ε<1000/\Cb (HE ζ)|A_B=>AH hs.map AQ2 eN=hs.map WO|A_C=>hs i x σ _ (y xs q) p|A_D=>MR yK base c.Scale "scaled" 5 (ů "x") (Um c)|A_E=>k l _ (Abg hlt2) hms (zr0 a2)|A_F=>∀{w h:Str}(hh:zI),_|A_G=>∀i v,ε ->knd.is (val i) v=true/\AaN|A_H=>ρ (jt (ks.zip vs) k) v|A_I=>∀(K:Frag)(f:Addr)(qual:Str),_|A_J=>(hs3.extBut _ _ D.TOz.symm (hs2.extBut _ _ D.i1z.symm hz1))|A_K=>∀{k:Nat}{A:Around}(r:fC k A),_
|A_L=>by
 rw[ß] at e';split at e'
 ·rename_i hm;exact(hn b (zU _ hm)).2
 ·show IQ n e' e'
|A_M=>AOV (APj v (oY H2 a y av) ε)|A_N=>⟨F1,ds,_,R1.g,r1,h1,ε⟩|A_O=>ä (hm.heap S o hw e)|A_P=>ε<=max (dU i) (dU j)+1|A_Q=>fore treeTable topGo p w os|A_R=>∀{X:Cx}{pins:dJ}(bz){s:Shared}{a:Addr},_|A_S=>((AJA (k a (by rcases zQ.mp ha with z | z<;>simp [z]))))|A_T=>AJK (∃a xs,vs= P1/\AQr/\ (zo ->ε))|A_U=>envOfC qual scope s.heap.objs.size f cd|A_V=>zxd I S ε i x v h1 h2|A_W=>∀i h h',tn i h ->(So fp (∀o,P7 ->pM)) ->tn i h'|A_X=>(AbH a b (D.bl (g a b)) as bs)|A_Y=>⟨_,_,_,rfl,rfl,rfl,hc⟩|A_Z=>∀{E:dR}{pins:dJ}{s:Shared}{σ:St}{H:Hp}{x:Str}{u:Value}{pos:Pos}{Q:dR}(I:Η),_|A_a=>fun a ha b hb e=>ε (by rw[BCH] at e;exact e ▸ ha)|A_b=>∀{K:Frag}{f:Addr}{x qual:Str}{st:Stmt}(h:ρ (ε K f qual) (Ack Χ Χ none Χ Χ)),_|A_c=>(Bz (n9 H1 s1.heap a TL) (I1.hok a _ ea))|A_d=>Co "_law_rows" 2 ["_law_script","_law_hands","_law_works"] U9|A_e=>Co "cleared" 2 ["table","place","ahead"] Ue|A_f=>æ pd callerA (AA fa) AQG BDG s₁|A_g=>by show B6 ⟨vs,v,ε,hv⟩ (ψ x H' y);show sd y y;have:=ζ;show Ap hv;show DT;exact η|A_h=>∀{xs:Δ} {us:Ζ} (n:Nat),OV ->Vals (ε n) (ζ n)|A_j=>∀{ds:Β} {vs:Δ} (n:Nat),C8 ->HG (ε n) (ζ n)|A_l=>sU knd kf (mq w) h' s.heap.objs.size (lN val items.size)|A_m=>(a k k*a i j - a i k*a k j)|A_o=>BB_ (Ps AK=Ps p.2/\(AK).Nodup/\Ps AK<=rows.length/\∀h,h∈AK↔h∈ZU uX)|A_p=>⟨i,sl,o,q,e1,hb⟩|A_q=>∀{ks:Be} {xs:Β} {vs:Δ},ε|A_r=>ε c o (I.cne x c e) hc Qj ho AQy|A_s=>k≠0/\k.natAbs<1073741824/\A2 (Builtin.Range.small i j k)/\Builtin.Range.rangeSize i j k=E5/\ε
|A_t=>∀(l:APu)
 (h:∀u s',ABv ->JU ->Q u s'),_
|A_u=>APr (.exc C0) ((zf K C0/\Cp K C0)/\AIi ε)|A_v=>by show CM r h1 h2 G.hand hm hz;rw[<- h2];exact hr r h1|A_w=>∀C:Db β,(o5 (∀s∈rows,Ν=s.1 ->C Τ ->C N_)) ->(∃h∈m,C h) ->br (C h)|A_x=>∃f fd,BCi ε/\ACX/\AIw/\AQT/\Aby/\ż
|A_y=>∀(hc:C7)(hg:Gl X "sorted")(hm:Fm "sorted")(hg2:Gl X "set")(hm2:Fm "set")(ha:ACG)(hb:ρ (bootBuiltins "sorted") (KI "sorted"):=by show PF)
 (he:Ct starEach [a] (FD (BF a) (FC [])):=by rfl) (he2:Ct starEach (o6 AOg [a] pos2) (FD (BF (ma AOg [a] pos2)) (FC [])):=by rfl),_
|A_z=>["rows","found","hands","sheets","hand","leaning"]|A_0=>fun c ob q n hc hx=>ε|A_3=>∃k as ks xs d,AcT Γ/\KS AQx/\AQz k/\ε|A_4=>zgv (scope:=sc) (env:=X.env) sc.names ε|A_5=>.of_wp fun prog w A R s h=>ε
|A_6=>by
 show OQ sl ε
 obtain⟨_,o2,e2,nf⟩:=I.ok.funs.mem hf;rw[e] at e2;cases e2;obtain⟨sl',e3⟩:=up b _ e1 nf;exact ζ
|A_7=>by
 show AJV;show AJO
 have hit2:=hit.Lr (rawInt ε);show BC_;refine CU (Lc setField) (wpAny_setField g1 g3 Μ ?_)
 exact ζ
|A_8=>ε (uY a1 b2) (uY b1 a2)|A_9=>∀(kvs:P8)(k:κ)(v:V),_|A__=>∀(hu:hG)(hi:AcF)(ho:AQt),_|A_'=>∀(lt:cr)(p:XL)(r:Nat),_|A'A=>∀(he:ME)(hl:DM QO lo tl)(hh:DM QO hi th),_|A'B=>∃od,ε/\∀name,ρ (W.lookIn name od) (mA name)|A'C=>⟨F0,iR N AIp,_,Rv sF (sy MX rs),hq a ds Pd Ex hsp,ε⟩|A'D=>(ε (u:= .frz o VW) (ACT zV) (hn a zV).2.1 (hn a zV).2.2).frzM|A'E=>B' Abv (jf C m sp te t)|A'F=>DD (∃(rows:BA) (ws:ο) (h:Str),ε)|A'G=>(sortedHeap h a vs out).get?|A'H=>fun j y v' e1 e2 e3=> ?_|A'I=>fun s' acc c' hm hS' hacc=> ?_|A'J=>∀{i:Nat} {e:Int},e∈ε ->e∈S|A'K=>DV (ACe fun b=>ê) b (φ (key b)*g b) ε
|A'L=>by
 show AJI;have h1:0< ε - a:=F7
 have h2:0< ζ:=F7
 have h3:0< (η - a)* θ:=Rat.mul_pos h1 h2;have h4:0<=a* ι:=Rat.mul_nonneg h0 NF
 grind
|A'M=>MR Ma base "Sitting" c.ak 9 Ac4 (Kd c)|A'N=>z.sameBut hs (cne y c e)|A'O=>Se t xs (AQN (∀p,ii p ->HI p (Nw p ε)))|A'P=>iq (∃ns m,AJE/\m∈ns/\ (∀i∈ns,ε)/\HR m)|A'Q=>(cB jN (gf (Ac c.ak "table" (Pb c) EL)) (VQ Ou b_))|A'R=>∀d z F' H',a_ ->ű d z ->P d ->Q z H'|A'S=>Co "exchanged" 1 ["table","place","spot"] zdt|A'T=>Co "between" 4 ["left","right","x"] Ul|A'U=>AOq (∃x rest F ds Pd Ex,ε)|A'V=>zy (Yz B.nd l1 l2 (by rw[l1',l2',z]))|A'W=>MS Mp F H σ Γ F1 H1|A'X=>by refine CU (holding _ _) (Ab9 (wpAny_call_entry slot_list_sort (Is hoL) entry_list_sort ε (args_list_sort _)))|A'Y=>(by simp only [Rep] at r;obtain⟨a,vs,rfl,h1,_⟩:=r;cases d' <;>simp only [Rep] at r' <;>first | (cases hf;done) | (cases r';done) | (obtain⟨_,_,z,h2,_⟩:=r';cases z;exact(zua I ε ζ).elim))|A'Z=>ε q loose (importedModules p.main.body) Xt true s|A'a=>AIU hT F.slot_zip_next (wpAny_call_entry F.slot_zip_next hT F.entry_zip_next (ε ζ η θ) (F.args_zip_next_1 _))|A'b=>DD (∃(ns:Φ) (f m:Nat),ds= [r9,.int f,.int m]/\ABq/\f<100/\m<=ε/\ζ)|A'c=>∀Γ' F' H' σ',BCV ->Dx ->P Γ' ->Q σ' H'|A'd=>(match nsIn K mainGlobals x with | some (some EQ)=>ε K f x | _=>none)
|A'e=>by
 show RA ⟨⟨xs,xs[i],q,A0 hlt⟩,AOQ,fun σ' H' p' =>(EG (xs.length - B2) τ hlt p'),ψ x H' y⟩
 obtain⟨e,y⟩:=y;subst e;exact ε
|A'f=>∀{l r:Pt}(h:l.1<Ν)(h2:l.2<=r.2),_|A'g=>MR Mk2 base "Scale" c.Scale "points" 4 Abq (MJ c)|A'h=>MR Xk2 base "Barred" c.fj "reach" 4 AQP (O7 c)|A'i=>[.Name "self" p6,.Attribute (ABx p7) fl p8]|A'j=>∀(l b:Addr)(items items2:D3)(n n2:Nat)(dd dd2:JP)(sl sl2:í)(x y:Str)(t u:Tok)(h1:DA items 0 AI')(h2:DA items2 0 (.str y u))(hxy:x≠y),_|A'k=>Ο AQn (B_ H' (XO x C (BO dx))) (ρ (H' dx) (.xd AQi)) (∀b,b≠x ->b≠dx ->H' b=H3 b) Abm|A'l=>My (CY AHT==0&&Qb==1) (AQ5==items.size)|A'm=>kY (D8 f) (D8 g)=D8 (ET (RF (f i) (g i)))|A'n=>by subst ey;show ARJ;show AcH;refine ε (tupleKind_room_in1 hu) Acp hd dd ?_;have q:=AcK;rw[Option.isSome_map] at q;rw[<- q,<- l];exact ζ|A'o=>⟨m',l,F3,Γ3,R3,s1.trans (s2.trans s3),w3⟩|A'p=>{s with heap:=h',drawn:=d,toks:=tk}|A'q=>["enumerate","zip","dict_itemiterator","dict_reverseitemiterator","odict_iterator","itertools.zip_longest","itertools.pairwise"]|A'r=>∃h' tk acc c',r= .ok (.ret MC)/\s' =OW/\ (gg AQH (ER (AAr jY)) pM)/\AQh ε/\ItemsOf Ac2 acc es.size|A's=>(by rcases h with ⟨_,z⟩ | ⟨_,z⟩ | ⟨_,z⟩ | ⟨_,_,_,z,_⟩ | ⟨_,z⟩<;>cases z)|A't=>∀(jV:qw K c.fj)(iZ:Ep K c.fG)(jr:AS YK)(cA:A6 "list")(jy:xo "HallError" c.fG c.fG)(fU:aN K c.fj "reach"),_|A'u=>fd=BCs ε pm an cdv ct/\AcX (.func fd) osl/\BCl|A'v=>by refine zsh he I h (ψ v H1 hq) hbase hline|A'w=>by cases h;simp only [Rep] at r r';show Bn l1 vs h1 q1 r;show Bn l2 us h2 q2 r';cases rv;cases ru;obtain⟨is1,p1,ε,_⟩:=ζ|A'x=>(kI (kI (kI h2 hs1.extBut D.i2z) hs2.extBut D.i12.symm) hs3.extBut D.TOi2.symm)|A'y=>∀{n p M N:Nat}{A:PZ}(Acx),_|A'z=>(kS (kS (kS hl2 hs1.extBut D.l2z) hs2.extBut D.l2i1) hs3.extBut D.l2TO)|A'0=>∀o i,Acm (subscripted b false o i) [o,i] o i
|A'1=>(by
 rw[show its.toArray.size=bs.length by simp [hl],ε]
 refine Xe (s:=s) (v:= .bl (ζ id)) I (HK (kp b o (NG ?_) OI)) rfl (AZu (Gr.refl sF) MX h)
 rcases AId with rfl | z
 ·exact BCw
 ·cases z)
|A'2=>if ε then List.zipWith (fun k' y=>(ABi x y)) ks xs else xs++ [x]|A'3=>ε (xs:=vs) (fun i σ H=>Ab_) BCn (fun i σ H _ ⟨F2,Γ2,R2,s2,_⟩=>ζ) (body ds vs rs I turn) ?_|A'4=>∃l xs ws F Pd ds,v= FI/\ρ (H2 l) (BV ws)/\ZN H2/\bv xs ws/\bv ds vs/\g xs ds Pd/\∀ys us,bv ys us ->Pd ys ->Q Ρ (upd H2 l Ý)|A'5=>⟨fun _ _ q _ _ _=>q,fun _ ob q _ _ _=>(ABO ob.slots),fun b ob q n _=> ?_,fun b ob q _=>(ABO ob),HH xs q,ε,OC ps (EJ #[])⟩|A'6=>(W.fnOf name qual params body scope dV kV doc pm an cdv ct)|A'7=>wpAny E1 A.in1 (Builtin.ObjectAttr.storeInDict dx BCN name v) (IL fin (fin= Ab2 Χ/\ABL)) AHK s'|A'8=>(.of (owner:= "set_iterator") (n:= ε) (Acj) Lu Lu Lu (by first | show B3 Lu | show DI Lu) BCb)
|A'9=>by
 have e2:Fk ys ys[j]:=A0 g2'
 show CM w1 f1 m1 vd q1 e1;show CM w2 f2 m2 vd q2 e2;show AU z1 c1 b1 p1.get f1
|A'_=>by
 simp only [sliceBounds,HT.sIx,Option.getD_none,Abj (Qb>0),if_true]
 by_cases h:i<0
 ·simp only [h,if_true]<;>omega
 ·simp only [h,if_false]<;>omega
|BAI=>staticsOk (importedModules p.main.body) (boot_heap w.params) s.heap&&namesBound p s.heap&&gensDone s&&laidKept (boot_heap w.params) s.heap|BAJ=>ε dH bU cF pZ cD cA au bL bK bQ bA aL bG aJ aM aK
|BAK=>by
 show AU z2 c2 b2 p2.get f2;show BBk y1 is1.toArray z1 c1
 show BBk y2 is2.toArray z2 c2
 simp only [e1,e2];rw[y1,y2];exact ε
|BAM=>(ih A.in1 _ _ w1 w2 z1 z2 (AQI (Ů (A.units+1+n))) (hc j _ _ e1 e2) m1 m2 b1 b2).ε
abbrev dR:=BG PySem.Value PySem.Shared
abbrev dJ:=e_ PySem.Addr PySem.Obj
section
open PySem PySem.Spec PyProof.Rows
abbrev z9:= @wpAny_bind
abbrev zZ:= @wpAny_pure
abbrev zY:= @Heap.get?_push_of_some
abbrev zX:= @Heap.get?_push_size
abbrev zW:= @List.getElem?_eq_getElem
abbrev zV:= @List.mem_cons_self
abbrev zU:= @List.mem_cons_of_mem
abbrev zT:= @List.getElem?_eq_some_iff
abbrev zR:= @List.mem_cons
abbrev zQ:= @List.mem_append
abbrev zP:= @List.mem_singleton
abbrev zO:= @List.mem_append_right
abbrev zN:= @List.mem_append_left
abbrev zM:= @Nat.le_trans
abbrev zL:= @Nat.le_refl
abbrev zK:= @Nat.lt_of_lt_of_le
abbrev zJ:= @Nat.lt_of_le_of_lt
abbrev zH:= @Nat.ne_of_lt
abbrev zG:= @Bool.false_ne_true
abbrev zF:= @Heap.lt_size
abbrev zE:= @Option.some.inj
abbrev zB:= @List.mem_map
abbrev zA:= @List.mem_filter
abbrev yZ:= @Heap.get?_push_ne
abbrev yX:= @List.cons.inj
abbrev yV:= @List.mem_of_getElem?
abbrev yU:= @List.getElem_mem
abbrev yS:= @Nat.lt_irrefl
#where
namespace L2
open PySem PySem.Spec PyProof.Rows
def GF(s:Stmt)(j:Nat):Stmt:=match s with
 | Lc (D5 (.ClassDef _ _ _ body))=>body.getD j (.Pass AY1)
 | _=> .Pass AY1
def GJ(s:Stmt):Arguments:=match s with
 | D5 (Ac5 _ a _ _) _ _=>a
 | _=>{posonlyargs:= [],args:= [],vararg:=none,kwonlyargs:= [],kw_defaults:= [],kwarg:=none,defaults:= []}
def wJ(s:Stmt):LM:=match s with
 | D5 (Ac5 _ _ b _) _ _=>b
 | _=> []
def bI(s:Stmt):Scope:=match s with
 | D5 .FunctionDef _ _ sc _ _ _=>sc
 | _=>{kind:= ſ,names:= [],isGenerator:=false,isCoroutine:=false}
#print L2
namespace L3
open PySem PySem.W PyProof.Rows L2
abbrev Hr:Ζ:= AaM
def uR(wP):Bool:=match Ahn with
 | some (AHW "type" _ (.cls cd) sl)=>(match cd.mro,sl.toList with
  | .ref C' ::bm,[_,_,_,_,some (KI n),_]=>C' ==C&&n== "ValueError.__new__" && ! cd.hasDel&&W.tailIn K Hr bm
  | _,_=>false)
 | _=>false
def mO(K:W.Frag)(C D:Addr):Bool:=match Ahn with
 | some (Tl _ (.cls cd) _)=>cd.mro.contains (AA D)
 | _=>false
def acI(wP):Bool:=match Ahn with
 | some (AHW "type" _ (.cls cd) _)=>(Aa7 cd.mro (.ref C' ::_) (C' ==C) false)
 | _=>false
def isV(o:BDm)(s:String):Bool:=match o with
 | some (Aj' t)=>t==s
 | _=>false
#print L3
namespace Hd
open PySem PySem.W PySem.Calls PyProof.Rows L2 L3
noncomputable section
def Dp:mi AdP Frag
 | _,[]=> []
 | i,o::r=>ACZ o.isFreed (Dp B2 r) ((i,o)::Dp B2 r)
def cut(h:Heap)(_:Nat):Frag:=Dp 0 h.objs.toList
def treeOf:AdP ->Nat ->BT ->BT
 | [],_,t=>t
 | o::r,i,t=>treeOf r B2 (t.ins i o)
abbrev ann:LP:=some (AA 6)
abbrev z:Pos:=AY1
def env(p:Program):Env:={scope:=p.main.scope,locals:=mainNs,globals:=mainNs,cells:= [],code:= .ref 13,frame:=some 14}
def cB(p:Program):Code:= .body (behindTheImports p) (env p)
def S0(Ţ):Shared:=A9x
def Sa(x:Av1)(w:World)(os:OsState):Shared:=ò x (some y) y.1 (S0 w os)
def Ta(s:Shared):SharedT:=⟨treeOf s.heap.objs.toList 0 B9,15,s.heap.life,s.gens,s.drawn,s.toks,s.os⟩
abbrev TB:=String ->Eg Builtin
abbrev GoT:=A9m Av1
abbrev YL:=TB ->Ο Program World Nat LP (Ο Nat Nat SharedT Thread (Option (Flow×SharedT×Code×Pos)))
abbrev YM:=A9m (Eg Shared)
def fore(tb:TB)(GO:GoT)(p:Program)(Ţ):Shared:=Sa (GO tb p w 11 ann 12 Ahe (topStub p)) w os
def shot{α:Type}(tb:TB)(GO:GoT)(RUN:YL)(TOP:YM)(EXS:LM ->Env ->Sem Flow)(p:Program)(obs:Shared ->α)(Ţ):Option ((Flow×Code)×α):=
 (RUN tb p w 11 ann 1 30000 (Ta (fore tb GO p w os)) ⟨(EXS (behindTheImports p) (env p)).wrap doneF deadEnd id id,cB p,z,AME⟩).bind fun x=>
  (TOP tb p w 11 ann 2 (x.2.1).abs ⟨doneF dC,x.2.2.1,x.2.2.2,AME⟩).map fun s=>((x.1,x.2.2.1),obs s)
def rest{α:Type}(SEEN:Program ->ο ->Ο ο (Shared ->Bool) Bool Shared α)(p q:Program)(loose:ο)(Xt:jn Shared){β:Type}(obs:Frag ->β)(n:Nat)(w:World)(s:Shared):Bool×α×β:=
 (BAI,A'Z SEEN,Acy)
def adr(Ank):Addr:=match x with | some (some EQ)=>f | _=>0
def isRef(Ank):Bool:=match x with | some (some (AA _))=>true | _=>false
def allB:jn tj
 | []=>true
 | b::l=>ACZ b (allB l) false
def nth(l:tj)(i:Nat):Bool:=match l,i with
 | [],_=>true
 | b::_,0=>b
 | _::l,BQ=>nth l i
def bare(fd:FuncData):FuncData:={fd with kwdefaults:= Χ,doc:= Χ,pyModule:= Χ,annotations:=none,code:= Χ,closureTuple:= Χ}
def fnO(A_I):AJ0:=match K.lookup f with
 | some (Tl _ (.func fd) _)=>(ACZ (codeIn K fd.code qual&&keepIn K EQ) (some (bare fd)) none)
 | _=>none
def PX(K:Frag)(v:Value):Bool:=match v with
 | .ref T=>(match K.lookup T with | some Apt=>t== "tuple" &&(Aa7 xs.toList [Χ] true false) | _=>false)
 | _=>false
def YQ(A_I):AJ0:=(fnO K f qual).bind fun fd=>(ACZ (PX K fd.defaults) (some {fd with defaults:= Χ}) none)
def Qa(K:Frag)(x:Str):AJ0:=A'd fnO
def fnM(K:Frag)(x:Str):AJ0:=A'd YQ
abbrev ex(x qual:Str)(st:Stmt):AJ0:=some (Ack Χ Χ none Χ Χ)
abbrev d(x:Str)(s:Stmt):Str×Stmt:=(x,s)
def seen(K:Frag)(ds:ASv):APd:=ds.map fun d=>Qa K d.1
def due(ds:ASv):APd:=ds.map fun d=>A5P
def recOf(s:Stmt):DefRec:=match s with
 | Ac5 n a b _ _ _ sc _ _ ps=>⟨n,a,b,sc,ps⟩
 | _=>⟨Str.empty,GJ s,[],bI s,z⟩
def acJ(Ank):Ic:=match x with | some (some (.int i _))=>some i | _=>none
def yN:Ζ ->rg AzP
 | []=>Č
 | AMK::r=>AH yN r (.inl i:: ·)
 | AMS::r=>AH yN r (.inr x:: ·)
 | _=>none
def acK(Ald):rg AzP:=match ASS with
 | some Apt=>Axk (yN xs.toList)
 | _=>none
def acL(b:Bool)(w:World):World:={w with params:={w.params with followText:=IG (if r== "special-get-raises" then b else w.params.followText r)}}
def Jk:Ζ ->rg Str
 | []=>Č
 | AMS::r=>AH Jk r (x:: ·)
 | _=>none
def tupS(Ald):rg Str:=match ASS with
 | some Apt=>Axk (Jk xs.toList)
 | _=>none
def Qc(K:Frag):List DictEntry ->rg AkH
 | []=>Č
 | ⟨h,AMS,NH⟩::r=>(tupS K b).bind fun t=>(Qc K r).map ((h,x,t):: ·)
 | _=>none
def acM(Ald):rg AkH:=match ASS with
 | some (AHW t none (.dict es _) sl)=>Ac_ (t= "dict" &&sl.isEmpty) (Qc K es.toList)
 | _=>none
def nU(w:World)(kvs:ADa):rg AkH:=some (kvs.map fun p=>(hashStr w AK,AK,p.2))
#where
#print Hd
local macro_rules | `(tactic| nofun)=> `(tactic| exact ⟨rfl,rfl,rfl,by decide+kernel,rfl,by decide+kernel,by decide+kernel⟩)
namespace Lw
open PySem PySem.Spec PyProof.Rows L2 L3
def top(Ya):Stmt:=PySem.Challenge.pw_hall_k92_whole_mean_is_even.main.body.getD i (.Pass AY1)
abbrev YS:Stmt:=top 76
abbrev YT:Stmt:=top 73
abbrev YW:Stmt:=top 77
abbrev YX:Stmt:=top 78
abbrev YZ:Stmt:=top 18
abbrev Y0:Stmt:=top 58
abbrev VN:Stmt:=top 57
abbrev Qd:Stmt:=GF (top 60) 0
abbrev VP:Stmt:=top 32
abbrev VR:Stmt:=top 31
abbrev Y4:Stmt:=top 28
abbrev Y5:Stmt:=top 30
abbrev Y6:Stmt:=top 12
abbrev V0:Stmt:=top 35
abbrev V1:Stmt:=top 39
abbrev V2:Stmt:=top 38
abbrev Y7:Stmt:=top 13
abbrev Y8:Stmt:=top 37
abbrev Y9:Stmt:=top 36
abbrev Qe:Stmt:=top 34
abbrev V3:Stmt:=top 43
abbrev Za:Stmt:=top 66
abbrev Qf:Stmt:=top 65
abbrev Zb:Stmt:=top 14
abbrev Zc:Stmt:=top 19
abbrev V4:Stmt:=top 45
abbrev V5:Stmt:=top 44
abbrev Zd:Stmt:=top 15
abbrev Ze:Stmt:=top 47
abbrev V6:Stmt:=top 46
abbrev Nk:Stmt:=top 42
abbrev V7:Stmt:=top 41
abbrev Zf:Stmt:=top 16
abbrev Zg:Stmt:=top 17
abbrev Zh:Stmt:=top 59
abbrev Zi:Stmt:=GF (top 60) 1
abbrev Zj:Stmt:=ň 6
abbrev Zk:Stmt:=top 51
abbrev Zm:Stmt:=top 20
abbrev Jl:Stmt:=top 50
abbrev V8:Stmt:=ň 1
abbrev V9:Stmt:=top 21
abbrev Wa:Stmt:=top 23
abbrev Zn:Stmt:=top 64
abbrev Nm:Stmt:=GF (top 8) 0
abbrev Wb:Stmt:=top 63
abbrev Wc:Stmt:=top 62
abbrev Wd:Stmt:=top 69
abbrev Qg:Stmt:=top 68
abbrev Zo:Stmt:=top 67
abbrev Jm:Stmt:=ň 0
abbrev Zq:Stmt:=ň 3
abbrev Zr:Stmt:=ň 4
abbrev Zt:Stmt:=top 74
abbrev Zu:Stmt:=top 79
abbrev Zv:Stmt:=top 25
abbrev Zw:Stmt:=ň 5
abbrev Wf:Stmt:=ň 2
abbrev wO:Stmt:=top 80
def ds:ASv:= [Hd.d "_law_names" YS,Hd.d "_law_cell" YT,Hd.d "_law_marked" YW,Hd.d "_law_rows" YX,Hd.d "under" YZ,Hd.d "climbs" Y0,Hd.d "is_scale" VN,Hd.d "meet" VP,Hd.d "joined" VR,Hd.d "by_work" Y4,Hd.d "groups" Y5,Hd.d "divisor" Y6,Hd.d "whole_row" V0,Hd.d "without" V1,Hd.d "cleared" V2,Hd.d "fraction" Y7,Hd.d "exchanged" Y8,Hd.d "led" Y9,Hd.d "solved" Qe,Hd.d "sheets_with" V3,Hd.d "is_within" Za,Hd.d "reached" Qf,Hd.d "plus" Zb,Hd.d "total" Zc,Hd.d "share" V4,Hd.d "shares" V5,Hd.d "minus" Zd,Hd.d "mean_mark" Ze,Hd.d "excess" V6,Hd.d "group_leanings" Nk,Hd.d "leanings" V7,Hd.d "times" Zf,Hd.d "over" Zg,Hd.d "between" Zh,Hd.d "least_number" Zk,Hd.d "mean" Zm,Hd.d "rising" V9,Hd.d "reach" Zn,Hd.d "number_from" Wb,Hd.d "ends" Wc,Hd.d "rests_behind" Wd,Hd.d "greatest_cuts" Qg,Hd.d "cuts" Zo,Hd.d "_law_divisor" Zt,Hd.d "_law_bottom" Zu,Hd.d "law" wO]
def fts(lf):tj:= [
 YV "NoScale",
 YV "NoFraction",
 YV "NoAnswer",
 YV "Few",
 YV "HallError",
 YV "NoWork",
 YV "Scale",
 YV "Sitting",
 YV "Barred",
 AyZ "Scale",
 Agb "Scale",
 ABe W.plainOver "Scale",
 Av7 kU,
 ABe W.makesIn "Scale",
 ANr W.keepIn kU,
 AyZ "Sitting",
 Agb "Sitting",
 ABe W.plainOver "Sitting",
 Av7 Ŭ,
 ABe W.makesIn "Sitting",
 ANr W.keepIn Ŭ,
 AOG kU "points",
 Ń "kept_leanings",
 Ń "scale",
 Ń "rule",
 Ń "gap",
 AOG AHk "reach",
 Ń "sheets",
 Ń "marks",
 Ń "kept_borders",
 ABe uR "Barred",
 Ah2 "__getattribute__" BEK,
 AOG AHk "__getattr__",
 Ah2 "__class__" AQE,
 AtK "object",
 AtK "BaseException",
 Ah2 "__setattr__" Aal,
 Agb "Barred",
 ω (AyR BES),
 ω (A2 (W.readsIn K (me "HallError") ASV)),
 ω (L3.isV (W.findCls K BES ASV "__init__") "ValueError.__init__" =true),
 AGl (VS kU "__init__"),
 AON (Hd.adr (VS kU "__init__")),
 AGl (VS kU "scaled"),
 AON (Hd.adr (VS kU "scaled")),
 ī "leaning",
 ŉ "leaning",
 ī "reckoned",
 ŉ "reckoned",
 AGl (VS AHk "__init__"),
 AON Avt,
 ī "__init__",
 ŉ "__init__",
 ī "must_have",
 ŉ "must_have",
 ī "mark",
 ŉ "mark",
 ī "grade",
 ŉ "grade",
 ī "table",
 ŉ "table",
 YV "borders_borders",
 YV "grade_borders",
 AFb "NoScale",
 AFb "NoFraction",
 AFb "NoAnswer",
 AFb "Few",
 AFb "HallError",
 AFb "NoWork",
 NY "range",
 NY "int",
 NY "len",
 NY "all",
 NY "zip",
 NY "tuple",
 NY "any",
 NY "list",
 NY "sorted",
 NY "set",
 NY "abs",
 NY "enumerate",
 NY "sum",
 NY "reversed",
 NY "max"]
def obs(lf):A2u:=(Hd.allB (fts K),
 Hd.seen K ds,[AAb (Hd.adr (VS kU "__init__")) "Scale.__init__",
  AAb (Hd.adr (VS kU "scaled")) "Scale.scaled",
  ļ "leaning" "Sitting.leaning",
  Hd.fnM K "worth",
  ļ "reckoned" "Sitting.reckoned",
  AAb (me "borders_borders") "borders",
  AAb Avt "Barred.__init__",
  ļ "__init__" "Sitting.__init__",
  ļ "must_have" "Sitting.must_have",
  ļ "mark" "Sitting.mark",
  AAb (me "grade_borders") "grade",
  ļ "grade" "Sitting.grade",
  ļ "table" "Sitting.table"])
def good(AMi):A2u:=(true,Hd.due ds,
 [Afn "Scale.__init__" Qd,
  Hd.ex "scaled" "Scale.scaled" Zi,
  Hd.ex "leaning" "Sitting.leaning" Zj,
  Hd.ex "worth" "worth" Jl,
  Hd.ex "reckoned" "Sitting.reckoned" V8,
  Hd.ex "borders" "borders" Wa,
  Afn "Barred.__init__" Nm,
  Afn "Sitting.__init__" Jm,
  Hd.ex "must_have" "Sitting.must_have" Zq,
  Hd.ex "mark" "Sitting.mark" Zr,
  Hd.ex "grade" "grade" Zv,
  Hd.ex "grade" "Sitting.grade" Zw,
  Hd.ex "table" "Sitting.table" Wf])
abbrev pg:Program:=PySem.Challenge.pw_hall_k92_whole_mean_is_even
abbrev lw:W.OpenLaw:=PySem.Challenge.rw_hall_k92_whole_mean_is_even
abbrev vw:Program:=W.view pg [80]
def loose:ο:=pg.boundNames.filter fun x=>x != "law"
theorem hd_e:W.opening pg=W.plainProg pg.main.scope.names:=dL
theorem hd_f(s:Shared):ρ (PySem.fenceModules? pg s) s:=dL
theorem hd_A(Ţ):ρ (W.topGo treeTable pg w 11 Hd.ann 12 (Hd.S0 w os) (W.topStub pg)) (A8b,⟨denote treeTable (Hd.cB pg),Ajt,Hd.z,Asu⟩):=by
 show BDO PySem.W.Fast.te11892475500146522536 PySem.W.Fast.te14364793385576792824;kernel_rfl
theorem hd_B(Ţ):ρ (W.segRun treeTable pg w 11 Hd.ann 1 1 A3r (W.blockOf (W.behindTheImports pg) (Hd.env pg) (Hd.cB pg) Hd.z Asu)) (dC,A8b,Ajt,Hd.z):=by
 show BDO PySem.W.Fast.te14374325043358763698 PySem.W.Fast.te14364793385576792824;kernel_rfl
theorem hd_C(Ţ):(Hd.Ta A3r).abs=Hd.fore treeTable W.topGo pg w os:=by
 rw[PySem.W.Fast.te15667345088766844465,PySem.W.Fast.te14364793385576792824];kernel_rfl
theorem hd_D(Ţ):ρ (Hd.shot treeTable W.topGo W.segRunT W.topRun execs pg (Hd.rest W.openSeen pg vw loose (At true) obs 1500 w) w os) ((dC,Ajt),(true,W.openGood vw loose,good w)):=by
 rw[PySem.W.Fast.te15667345088766844465,PySem.W.Fast.te10110043849684766642,PySem.W.Fast.te14082659384304107361,PySem.W.Fast.te12563942051412417395,PySem.W.Fast.te4187177175401517315,PySem.W.Fast.te14364793385576792824];kernel_rfl
theorem hd_s:A2 lw.row.wellSaid:=dL
theorem hd_said:A2 lw.wellSaid:=by
 unfold W.OpenLaw.wellSaid;rw[hd_s]
 kernel_rfl
theorem hd_ok:My (W.chainsOk vw&&W.opensWell lw.row.prog) (W.frees lw.row.toRowW&&lw.row.within.isEmpty):=dL
theorem hd_bare:lw.row.prog.bare:=⟨rfl,rfl,rfl,rfl,rfl,tS⟩
theorem hd_d:ρ (W.defOf vw lw.row.name) (Hd.recOf wO,[]):=dL
theorem hd_p:ρ (lw.row.prog.theDef lw.row.name) (Ś params,Ś body,Ś scope):=dL
theorem hd_k:ρ (W.kwWritten? (Ś params.kwonlyargs) (Ś params.kw_defaults)) []:=dL
theorem hd_n:Ś name= "law" :=dL
theorem hd_z:Ś params.defaults= []:=dL
#print Lw
namespace L2
open PySem PySem.Spec PyProof.Rows
abbrev Key:=Sum Int Str
def tG:Key ->Value ->Bool
 | .inl k,v=>Value.isInt k v
 | ic,v=>Value.isStrOf x v
def Zx(AMi):Key ->Int
 | .inl k=>hashInt k
 | ic=>hashStr w x
theorem yO:∀{k:Key} {v:Value},tG k v=true ->(∃i t,k=Sum.inl i/\v=AWH)\/ (∃x t,k=Sum.inr x/\v=AWL)
 | ACz,v,h=>by
  show K' t (Value.isInt_shape (k:=i) (v:=v) h);exact .inl (IB i t e)
 | ic,v,h=>by
  show K' t (Value.isStrOf_shape (x:=x) (v:=v) h);exact .inr (IB x t e)
theorem z5h(i:Int)(t:Tok):tG (C5 i) AIQ=true:=RU tG Value.isInt
theorem z29(x:Str)(t:Tok):tG (CA x) AI'=true:=RU tG Value.isStrOf
theorem yg6(a b:Int):ARs Sum.inl Sum.inl=(a==b):=by
 show IP a b
 ·subst e;simp
 ·have h:¬(Sum.inl a:Key)=Sum.inl b:=fun q=>e (Sum.inl.inj q);rw[BDh];exact(beq_eq_false_iff_ne.mpr e).symm
theorem yf6(a b:Str):ō (ARs Sum.inr Sum.inr) (a=b):=by
 show IP a b
 ·subst e;simp
 ·have h:¬(Sum.inr a:Key)=Sum.inr b:=fun q=>e (Sum.inr.inj q);rw[BDh,BEG]
theorem ygz(a:Int)(b:Str):Hk (ARs Sum.inl Sum.inr):=Az_
theorem yhw(a:Str)(b:Int):Hk (ARs Sum.inr Sum.inl):=Az_
def pA(prog:Program)(w:World):PySem.KeyKind prog w Key where
 is:=tG
 hash:=Zx w
 inj:=fun v a b ha hb=>by
  rcases yO ha with ⟨i,t,rfl,rfl⟩ | ⟨x,t,rfl,rfl⟩
  ·rcases yO hb with ⟨j,u,rfl,e⟩ | ⟨y,u,rfl,e⟩
   ·injection e with e1 _;rw[e1]
   ·exact AJe
  ·rcases yO hb with ⟨j,u,rfl,e⟩ | ⟨y,u,rfl,e⟩
   ·exact AJe
   ·injection e with e1 _;rw[e1]
 byValue:=fun k v h=>by
  rcases yO h with ⟨i,t,rfl,rfl⟩ | ⟨x,t,rfl,rfl⟩<;>rfl
 pyHash:=fun hv h=>by
  rcases yO hv with ⟨i,t,rfl,rfl⟩ | ⟨x,t,rfl,rfl⟩
  ·exact wpAny_pyHash_int h
  ·exact wpAny_pyHash_str h
 eqBool:=fun hu hv h=>by
  rcases yO hu with ⟨i,t,rfl,rfl⟩ | ⟨x,t,rfl,rfl⟩
  ·rcases yO hv with ⟨j,u,rfl,rfl⟩ | ⟨y,u,rfl,rfl⟩
   ·rw[yg6] at h;exact wpAny_eqBool_int h
   ·rw[ygz] at h;exact iX (SeqAt.EqAt.int_str i t y u) h
  ·rcases yO hv with ⟨j,u,rfl,rfl⟩ | ⟨y,u,rfl,rfl⟩
   ·rw[yhw] at h;exact iX (SeqAt.EqAt.str_int x t j u) h
   ·rw[yf6] at h;exact wpAny_eqBool_str h
 «strs»:=fun k x t v h=>by
  rcases yO h with ⟨i,u,rfl,e⟩ | ⟨y,u,rfl,e⟩
  ·exact AJe
  ·injection e with e1 _;subst e1;cases v<;>rfl
theorem zuq(prog:Program)(w:World)(i:Int)(t:Tok):AJG pA (C5 i) AIQ=true:=z5h i t
theorem zn4(prog:Program)(w:World)(x:Str)(t:Tok):AJG pA (CA x) AI'=true:=z29 x t
inductive V where
 | non | bl (b:Bool) | int (AFO) | str (x:Str) | Jo (b:Array UInt8) | flt (b:UInt64) | ref (a:Addr) | ty (n:String)
 deriving DecidableEq
def RelV:AtJ
 | Ρ,u=>ArM
 | UR,u=>BGX
 | B8,u=>re AWH
 | UD,u=>re AWL
 | .Jo b,u=>re (Value.bytes b t)
 | .flt b,u=>re (Value.float b t)
 | AR,u=>AZw u
 | .ty n,u=>AxS
abbrev Vals:BG Δ Ζ:=Paired RelV
theorem Vals.length{xs:Δ}{us:Ζ}(r:OV):AJZ us.length:=BEt
theorem Vals.get:∀{xs:Δ} {us:Ζ} {i:Nat} {x:V},OV ->WG ->∃u,CS us u/\im
 | _,_,_,_,B9,e=>AJk
 | _,_,0,_,.cons r _,e=>by simp at e;subst e;exact Md r
 | _,_,BQ,x,AiH,e=>by
  show CM u h1 h2 (Kj Vals.get i x x) t Ē
  exact⟨u,AN h1,h2⟩
theorem Vals.set(A4h):∀{xs:Δ} {us:Ζ} (i:Nat),OV ->Vals (xs.set i x) (us.set i u)
 | _,_,_,B9=> B9
 | _,_,0,AiH=> Ŀ
 | _,_,BQ,.cons q t=> .cons q (Vals.set r i t)
theorem Vals.append:∀{xs ys:Δ} {us ws:Ζ},OV ->Vals ys ws ->Vals AVj (us++ws)
 | _,_,_,_,B9,s=>s
 | _,_,_,_,Ŀ,s=> .cons r (Vals.append t s)
theorem Vals.take:A_h xs.take us.take
 | _,_,0,_=> B9
 | _,_,_+1,B9=> B9
 | _,_,n+1,Ŀ=> .cons r (Vals.take n t)
theorem Vals.drop:A_h xs.drop us.drop
 | _,_,0,r=>r
 | _,_,_+1,B9=> B9
 | _,_,n+1,AiH=>Vals.drop n t
def lX:BG UM LP
 | t_,uA=>JU
 | none,none=>True
 | _,_=>False
def KV{κ:Type}:BG P8 ABj:=Paired fun(p:κ×V) (q:κ×Value)=>AK=q.1/\RelV p.2 q.2
def kV:Key ->V
 | ACz=> B8
 | ic=> UD
inductive HO where
 | lst (xs:Δ)
 | tup (xs:Δ)
 | dK (kvs:M') | dT (kvs:WZ)
 | set (S:jn Int) (n:Nat)
 | ins (C dx:Addr) (fs:US)
 | own (x:Addr)
 | xd (fs:US)
 | met (f x:Addr)
 | rng (lo hi:Int)
 | frz (o:Obj) (u:HO)
 | Hs (ps:D3)
 | ext (φ:Adl)
abbrev Hp:=Addr ->Eg HO
def upd(H:Hp)(a:Addr)(o:HO):Hp:=WP (GL b a (some o) (H b))
theorem jW{H:Hp}{a:Addr}{o:HO}:ρ (upd H a o a) o:=AeG upd
theorem dI(A3W){o:HO}(h:Qr):upd H a o b=H b:=AKT upd ă
theorem yi5(A3W){o u:HO}(h:ASb)(h' :â)(d:o≠u):a≠b:=by
 intro e;subst e;rw[h] at h';exact d (zE h')
theorem lY{H:Hp}{a b:Addr}{o:HO}(h:ASb)(h' :F8):a≠b:=by
 intro e;subst e;rw[h] at h';cases h'
section
variable(P:Program)(w:World)
def bN(H:Hp)(h:Heap)(a:Addr):Db HO
 | Id=>AQN (AoV (ABm/\OB ACY))
 | MD=>AQN (∃its:Ζ,ABm/\Aep IsTup h)
 | AQs=>AoD
 | .dT kvs=>APx (∃xs:AIO,
   Paired (fun(p:Be×V) (q:Be×AOI)=>A5g) kvs xs/\
   ∃o es ep,eD/\o.ExactDict/\Afa/\es.toList=xs.map (entryOfKey (tupleKind ik))/\ (xs.map (·.1)).Nodup)
 | .set S n=>h.SetOf (intKind P w) a S n
 | .ins C dx fs=>AjD/\BEn/\dx≠a/\OB AgU/\
   ∃mA,AX'/\ (∀f,ApO)/\AsG
 | .own _=>∃o,eD
 | .xd fs=>∃mA,h.Ns1 a mA/\∀f,ApO
 | .rng lo hi=>∃t u v,OB Aa5
 | .frz o u=>eD/\bN H h a u
 | .Hs ps=>OB Ak6
 | .met f x=>OB (W.methodObj EQ XI)
 | .ext φ=>φ h/\ (∃o,eD)/\∀h1 h2:Heap,φ h1 ->(∀o,BN h1.get? o ->BN h2.get? o) ->φ h2
def nW(H:Hp)(h:Heap):Prop:=∀a o,ASb ->YR a o
#where
section
variable{P:Program}{w:World}{H H' :Hp}{h h' :Heap}{a:Addr}{o:HO}
theorem bN.lt(x:YR a o):ARU a:=by
 cases o with
 | lst xs=>show AdD x;exact G'
 | tup xs=>show AJn p x p.lt
 | dK kvs=>obtain⟨_,_,_,_,o,_,_,e,_⟩:=x;exact G'
 | dT kvs=>obtain⟨_,_,_,_,o,_,_,e,_⟩:=x;exact G'
 | set S n=>show AHg o x;exact G'
 | ins C dx fs=>show AdF x;exact G'
 | own y=>obtain⟨_,e⟩:=x;exact G'
 | xd fs=>show AdG x;exact G'
 | rng lo hi=>show AdE x;exact G'
 | frz ob u=>obtain⟨e,_⟩:=x;exact G'
 | Hs ps=>exact zF (show OB _ from x)
 | met f y=>exact zF (show OB _ from x)
 | ext φ=>obtain⟨_,⟨_,e⟩,_⟩:=x;exact G'
theorem Paired.mapP{α β:Type}{F G:BG α β}:∀{l₁:AI} {l₂:IO},Paired F l₁ l₂ ->(∀a b,F a b ->G a b) ->Paired G l₁ l₂
 | _,_,B9,_=> B9
 | _,_,Ŀ,f=> .cons (f _ _ r) (Paired.mapP t f)
theorem bN.stay(x:YR a o)(k:AMa (b=a\/Pc (.own a)))
  (ho:IY (Pc (.own a)) (AHi (.own a))) (ht:Aof):bN P w H' h' a o:=by
 induction o with
 | lst xs=>show AZY x;exact⟨z,its,n,r,Y2⟩
 | tup xs=>obtain⟨z,its,r,ob,e,c⟩:=x;exact⟨z,its,r,ob,Y2,c⟩
 | dK kvs=>obtain⟨z,y,vs,r,ob,es,ep,e,c⟩:=x;exact⟨z,y,vs,r,ob,es,ep,Y2,c⟩
 | dT kvs=>
  obtain⟨z,y,xs,r,ob,es,ep,e,c⟩:=x;exact⟨z,y,xs,Paired.mapP r fun p q z=>Ay_,ob,es,ep,Y2,c⟩
 | set S n=>obtain⟨ob,es,ep,t,e,c⟩:=x;exact⟨ob,es,ep,t,Y2,c⟩
 | ins C dx fs=>
  obtain⟨d,z,ne,e,mA,⟨od,es,ep,e2,c⟩,r⟩:=x;exact⟨ho _ d,z,ne,Y2,mA,⟨od,es,ep,k _ _ (CA d) e2,c⟩,r⟩
 | own y=>show K' ob x;exact⟨ob,Y2⟩
 | xd fs=>obtain⟨mA,⟨od,es,ep,e,c⟩,r⟩:=x;exact⟨mA,⟨od,es,ep,Y2,c⟩,r⟩
 | rng lo hi=>obtain⟨t,u,v,e⟩:=x;exact⟨t,u,v,Y2⟩
 | frz ob u ih=>show vS e q x Y2 (ih q)
 | Hs ps=>
  have e:OB Ak6:=x;show BN h'.get? Ak6;exact k a _ Pe e
 | met f y=>
  have e:OB A2z:=x;show BN h'.get? A2z;exact k a _ Pe e
 | ext φ=>obtain⟨p,⟨o,e⟩,st⟩:=x;exact⟨st _ _ p fun o q=>k _ _ Pe q,OR Y2,st⟩
theorem nW.lt(x:Os)(e:ASb):ARU a:=(x a o e).lt
theorem nW.fresh(x:Os)(e:h.objs.size<=a):ABV:=by
 cases q:H a with
 | none=>rfl
 | some u=>exact Ņ (zK (x.lt q) e)
theorem nW.kept(x:Os)(k:AVp):nW P w H h' :=fun a o e=>
 (x a o e).stay (fun b u _ q=>AU8) AMo ip
theorem nW.laid(x:Os)(k:AVp)(hp:h.objs.size<=a)(new:bN P w ALt h' a o):nW P w ALt h' :=IM (by
 have hn:=x.fresh hp;show SL
 ·show AwX new
 ·rw[eB] at e;exact œ x e (fun c v _ q=>k c v q) (UB q ATZ) fun c xs q=>ATZ)
#where
def Rd(H:Hp)(a:Addr)(u:HO):Prop:=qA\/∃o,E_ Ï
theorem Rd.ok{P:Program}{w:World}{H:Hp}{h:Heap}{a:Addr}{u:HO}(r:Rd H a u)(x:Os):YR a u:=by
 rcases r with r | ⟨o,r⟩
 ·exact x a u r
 ·obtain⟨_,q⟩:=x a _ r;exact q
def Qh:Db (Eg HO)
 | some (BV _)=>True
 | some (.dK _)=>True
 | some (.dT _)=>True
 | some (.set _ _)=>True
 | some (.ins _ _ _)=>True
 | some (.ext _)=>True
 | _=>False
section
variable{P:Program}{w:World}{H:Hp}{h h' :Heap}{x e:Addr}{o' :HO}
theorem nW.write(ok:Os)(mu:Ak9)(he:Am5)(k:AMa (b≠e))(heo:Am8)
  (new:bN P w (KG x o') h' x o'):nW P w (KG x o') h' :=OC u (by
 have Qi:∀c y,AOd c y ->c≠x:=fun c y r z=>(Amc r)
 have Zy:∀c xs,KL c L9 ->c≠x:=fun c xs r z=>(Amc r)
 show n5 x
 ·subst hb;rw[jW] at q;cases q;exact new
 ·rw[eB] at q;by_cases hbe:b=e
  ·have q' :Pc (.own x):=by
    show JS he
    ·exact dS hbe.trans z hb
    ·rw[hbe];exact z
   rw[q] at q';cases q';obtain⟨v,hv⟩:=heo;exact⟨v,AE hbe hv⟩
  ·refine œ ok q (fun c v hc r=>k c v ?_ r) (UB r (Lv dI (Qi c b r) r)) fun c xs r=>(Lv dI (Zy c xs r) r)
   show Û hc hc
   ·exact hbe
   ·rintro rfl;show JS he
    ·exact Qi c b hc z
    ·rw[hc] at z;cases z;exact hb rfl)
#where
structure Un (fs ex:AO) (H H' :Hp) (h h' :Heap):Prop where
 keep:A5K (b∉fs) pM
 slot:A5K (b∈fs) Ax2
 free:ft P7 (F8 ->AQM ->AAl)
 there:gg P7 AQM (AOo h'.get?)
 tups:Aof
 oX:Ayw
 qp:A1q
section
variable{fs fs' ex ex' :AO}{H H1 H2:Hp}{h h1 h2 h' :Heap}{a x e:Addr}{o:HO}
theorem Un.any(u:Ť H1 h h1){b:Addr}{ob:Obj}(q:oo h.get?)(n:F8)(hx:AQM):∃sl,GG h1.get? {ob with slots:=sl}:=by
 by_cases hb:b∈fs
 ·exact u.slot b ob q n hb hx
 ·exact⟨ob.slots,u.keep b ob q n hb hx⟩
theorem Un.trans(a:Ť H1 h h1)(b:Un fs ex H1 H2 h1 h2):Ť H2 h h2 where
 keep:=A_0 (b.keep c ob (a.keep c ob q n hc hx) Al_ hc hx)
 slot:=A_0 (by
  show OQ sl (a.slot c ob q n hc hx);obtain⟨sl',e2⟩:=b.slot c _ e1 Al_ hc hx;exact⟨sl',e2⟩)
 free:=fun c ob q n hx=>by
  show OQ o' (a.there c ob q hx);exact b.free c o' e1 Al_ hx
 there:=fun c ob q hx=>by
  show OQ o' (a.there c ob q hx);exact b.there c o' e1 hx
 tups:=fun c xs q=>b.tups c xs (a.tups c xs q)
 oX:=fun c ob xs q=>b.oX c ob xs (a.oX c ob xs q)
 qp:=fun c ps q=>by
  show OQ m1 (a.qp c ps q);show ô m2 (b.qp c _ e1);exact⟨m1++m2,At_⟩
theorem Un.kept(k:AVp):Ť H h h' :=
 ⟨Aq2 Ak1,Aq2 ⟨ob.slots,Ak1⟩,ww n _ n,fun b ob q _=>⟨ob,Ak1⟩,ip,Ō _ q q,fun _ ps q=>(AP_ (AKa q))⟩
theorem Un.refl:Ť H h h:=Un.kept ip
theorem Un.laid(k:AVp)(hp:h.objs.size<=a)(hn:ABV):Ť ALt h h' where
 keep:=fun b u q _ _ _=>AU8
 slot:=fun b u q _ _ _=>⟨u.slots,AU8⟩
 free:=AWs _ (AE (AqL (Nat.lt_of_lt_of_le (Heap.lt_size q) hp)) n)
 there:=RH q _ ⟨u,AU8⟩
 tups:=OC xs ATZ
 oX:=RH xs q ATZ
 qp:=Awl (ABJ hn)
theorem Un.write(mu:Ak9)(he:Am5)(k:AMa (b≠e))(heo:Am8):Ť (KG x o) h h' :=by
 have hx:ASn (b≠x):=fun b n z=>(Amc n)
 have hb:ASn (b≠e):=fun b n z=>by
  subst z;rcases he with r | r
  ·exact hx b n r
  ·show IQ n r r
 have hm:∀b u,â ->¬Qh (some u) ->b≠x:=fun b u q nm z=>by subst z;rw[q] at mu;exact nm mu
 refine⟨fun b u q n _ _=>Ayq,fun b u q n _ _=>⟨u.slots,Ayq⟩,AWs _ (AE (dI (hx b n)) n),RH q _ ?_,
  OC xs (gS Ann),RH xs q (gS Ann),Awl Ann⟩
 by_cases hbe:b=e
 ·subst hbe;exact heo
 ·exact⟨u,k b u hbe q⟩
#where
def Dq(Alx):AO:=AAj h.objs.size filter fun a=>(AAL H a)
def vR(Alx):Heap:=W.hideAll h (Dq h H)
theorem z1b(Alx):(vR h H).objs.size=h.objs.size:=W.hideAll_size _ _
theorem z7x{h:Heap}{H:Hp}{b:Addr}{o:Obj}(e:P7)(n:F8):Ame h:=
 AJv e (fun hm=>by
  have q:A2 (AAL H b):=(zA.mp hm).2;rw[n] at q;simp at q)
theorem ydb{h:Heap}{H:Hp}{b:Addr}{o:Obj}(e:Ame h):P7/\F8:=by
 have e' :P7:=W.of_hideAll (Dq h H) e;show CI e';cases q:H b with
 | none=>rfl
 | some x=>
  have hm:b∈Dq h H:=zA.mpr ⟨List.mem_range.mpr (zF e'),A0 q⟩
  have z:LS (vR h H).get?:=W.hideAll_none (Dq h H) hm;rw[z] at e;cases e
def ycx(g h:Heap)(L:Addr):dJ:=A9K (A2 (AAL g.get? a))
def rest(g h:Heap)(L d:Addr):dJ:=(ycx g h L).filter fun p=>(ω (AK≠d))
structure Mod (K:W.Frag) (mg:CD) (base:Heap):Prop where
 Jp:AfY
 glob:Agx
 blt:∃mb,base.Ns builtinsNs mb/\A6J
 nolimit:base.NoLimit
structure Cx where
 prog:Program
 w:World
 K:W.Frag
 mg:CD
 base:Heap
 A:Around
 N:ο
 s₀:Shared
 H₀:Hp
 env:Env
 outer:EX
 stack:EX
 ex:AO
 fn:Str ->Bool
 calm:Bool
 pn:dJ
 xe:dR
def frs(l:EX):AO:=l.filterMap (·.frame)
abbrev Cx.fs(Y_):AO:=frs X.outer
def uN(Ax5):Prop:=Ajz (ALZ\/AIm sc.names.lookup)
def Loc(Ax5):Prop:=Ajz ALZ
def Look(env:Env)(h:Heap)(m:CD)(x:Str)(u:Value):Prop:=
 (AGo env.kindOf/\B_ m u)\/ ((AHL env.kindOf\/AIm env.kindOf)/\∃c,AKf/\h.IsCell c (some u))
structure Cx.Ok (Y_):Prop where
 mod:A0u
 kind:X.env.scope.kind= ſ
 glob:X.env.globals=mainGlobals
 blt:X.env.builtins=builtinsNs
 above:AAy X.env.locals
 inj:AoM xi (AgC c)
 has:∀x,(BFl\/BGl) ->∃c,xi
 cab:∀x c,AZ_ ->xi ->AAy c
 hd:C7 ->KK X.A.handled
 frames:ρ X.A.frames X.stack
 stk:X.stack=X.outer\/ (X.stack=X.env::X.outer/\AtF)
 Zz:MV X.ex (ABU/\ABn b)
 bs:AUB (ASG/\LS X.H₀)
 Jq:X.base.objs.size<=X.s₀.heap.objs.size
 Ht:AUB (b∉X.ex)
 Hu:MV X.ex ADj
 funs:AqJ X.outer
 Ks:MV X.fs (LS X.H₀)
structure Inv (X:Cx) (pins:dJ) (σ:Ż V) (H:Hp) (s:Shared):Prop where
 ok:X.Ok
 os:s.os=X.s₀.os
 bare:BFc
 base:Un X.fs X.ex X.H₀ H X.s₀.heap s.heap
 loc:∃m,Aru/\∀(i:Nat) (x:Str) (v:V),Sr ->AGq av ->ax ->∃u,JU/\Look X.env s.heap m x u
 cell:AOC (∃v,Ab8)
 free:Sm X.env.locals
 freeC:AOC (Sm c)
 pin:L6 AII A9j
 hok:nW X.prog X.w H s.heap
 len:σ.length=X.N.length
section
variable{X:Cx}{pins:dJ}{σ:Ż V}{H H' :Hp}{s:Shared}{h' :Heap}
theorem Cx.Ok.nofr(ok:X.Ok){b:Addr}{o:Obj}(e:ER X.base.get?):ADj:=fun hb=>by
 have:=(ok.funs.mem hb).1;show dq;show DT
theorem Inv.bs(NS):AUB (M_/\F8):=HK ⟨I.base.keep b o AqF Asv (I.ok.nofr e) BFZ,I.base.free b o AqF Asv BFZ⟩
theorem Inv.bk(NS):AUB M_:=HK (WU I.bs).1
theorem Inv.mod(NS):A0u:=I.ok.mod
theorem Inv.kIn(NS):X.K.In s.heap:=I.ok.mod.Jp.keeps I.bk
theorem Inv.lt(NS):X.env.locals<s.heap.objs.size:=let ⟨_,hn,_⟩:=I.loc;hn.lt
theorem Inv.sz(NS):AAy s.heap.objs.size:=zM I.ok.above (Nat.le_of_lt I.lt)
theorem Inv.nofs(I:Η){a:Addr}(h:XZ a):a∉X.fs:=fun hb=>by
 obtain⟨_,o,ho,_⟩:=I.ok.funs.mem hb;exact Ņ (zK (zF ho) (zM I.sz h))
theorem Inv.cne(NS):ABn X.env.locals:=fun x c e z=>by
 obtain⟨v,o,ho,hd⟩:=AWq;obtain⟨m,⟨o',es,ep,ho',hd',_⟩,_⟩:=I.loc;rw[z,ho'] at ho;cases ho;rw[hd'] at hd;cases hd
theorem Inv.funs(NS):Ahz X.outer:=by
 have all:∀(l:EX),(So (frs l) Aee) ->AqJ l ->Ahz l:=by
  intro l;induction l with
  | nil=>intro _ _;trivial
  | cons env r ih=>
   intro hs hl;obtain⟨hk,⟨L,o,hf,hn,ho,hd⟩,hr⟩:=hl;have hL:L∈X.fs:=hs L (Ay5 zV)
   show K' sl (I.base.slot L o ho (I.ok.Ks L hL) hL (Ξ (I.ok.Hu L z hL)));exact⟨hk,⟨L,_,hf,hn,e,hd⟩,ih (fun b hb=>hs b (Ay5 AT6)) hr⟩
 exact all X.outer (E8 hb hb) I.ok.funs
theorem Inv.stack(NS):Ahz X.stack:=by
 rcases I.ok.stk with e | ⟨e,hf⟩
 ·rw[e];exact I.funs
 ·rw[e];obtain⟨m,hn,_⟩:=I.loc;refine .cons (by rw[I.ok.kind];decide) hf hn ?_ I.funs
  exact Heap.get?_none_of_le (zM I.ok.Jq I.ok.above)
theorem Inv.stkSub(NS):MV Ł (b∈X.env.locals::X.fs):=EH (by
 rcases I.ok.stk with e | ⟨e,hf⟩
 ·rw[e] at hb;exact AT6
 ·rw[e] at hb;unfold frs at hb;rw[List.filterMap_cons,hf] at hb;exact hb)
theorem Inv.stkFree(NS):MV Ł F8:=EH (by
 rcases AmC hb with e | hb
 ·rw[e];exact I.free
 ·obtain⟨_,o,ho,_⟩:=I.ok.funs.mem hb;exact I.base.free b o ho (I.ok.Ks b hb) (Ξ (I.ok.Hu b z hb)))
theorem Inv.step{g' :kQ}{t' :Nat}{d' :Drawn}{ch:AO}(I:Η)
  (hch:Aph)
  (keep:ft ABU (Ο ADj AKg M_ F8 pM))
  (slot:ft ABU (Ο Aee AKg M_ F8 Ax2)) (free:ft AKg (M_ ->F8 ->AAl))
  (there:gg AKg M_ (AOo h'.get?))
  (tups:Aof) (oX:Ayw) (qp:A1q)
  (ns:∀m,Aru ->h'.Ns X.env.locals m) (hok:AVY) (hg:AllBare g'):
  xh {s with heap:=h',gens:=g',drawn:=d',toks:=t'}:=by
 have neL:yy X.s₀.heap.get? ABU:=HK (zH (zK (zF e) I.ok.above));have Wg:gg ASG (b∉X.ex) AKg:=fun b o e hx hb=>by
  show JS (OA hch)
  ·exact hx z
  ·exact Ņ (zK (zF e) z)
 have cellK:AOC (∀v,Ab8 ->BGW):=fun x c e v (ADf hd)=>by
  have Qj:c∉ch:=Ξ A4w;by_cases hc:c∈X.fs
  ·show AJd q (A_r slot);exact BY q hd
  ·exact No (A_r keep) hd
 refine⟨I.ok,I.os,hg,⟨APt,APt,fun b o e n hx=> ?_,AIo hx,md xs (tups b xs (I.base.tups b xs e)),Z_ xs e (oX b o xs (I.base.oX b o xs e)),HH ps e⟩,?_,AWU,?_,AWU,li,hok,I.len⟩
 ·exact keep b o (WU neL) hb AYS (Afh hb hx) (Afi hx)
 ·show OQ sl (bb I.base.slot hb hx);show ô sl' (slot b _ (WU neL) hb AYS e1 (Afi hx));exact⟨sl',e2⟩
 ·show OQ o' (I.base.there b o e hx);exact free b o' AYS e1 (Afi hx)
 ·show OQ o' (I.base.there b o e hx);exact there b o' AYS e1
 ·show OQ m1 (I.base.qp b ps e);show ô m2 (qp b _ e1);exact⟨m1++m2,At_⟩
 ·obtain⟨m,hn,hl⟩:=I.loc;show DB m (ns m hn) (fun i x v e1 e2 e3=> ?_);show CM u r l (hl i x v e1) e2 e3;show BB u r;rcases l with l | ⟨k,c,e,z⟩
  ·show B3 l
  ·show DI ⟨k,c,e,cellK x c e _ z⟩
 ·show vS v z AWq v (cellK x c e v z)
 ·obtain⟨m,⟨o,_,_,ho,_⟩,_⟩:=I.loc;exact free _ o (NG (Ak5 hch)) ho I.free
 ·obtain⟨v,o,ho,hd⟩:=AWq;exact free c o (NG A4w) ho AQy
 ·show Apw;have Qj:AK∉ch:=Ξ ((hch AK z).2.2.2 p hp rfl);exact⟨keep AK p.2 ne nf Qj e n,free AK p.2 Qj e n,ne,nf,d⟩
theorem Inv.un{t' :Nat}(I:Η)(u:Un X.fs [] H H' s.heap h')(hok:AVY):xh ABd:=by
 obtain⟨m,⟨o,es,ep,ho,r⟩,_⟩:=id I.loc;show AJd hL (u.any ho I.free Μ)
 exact Apb [] (E8 z (nomatch z)) (fun b o _ hb _ e n=>bb u.keep hb Μ) (fun b o _ hb _ e n=>bb u.slot hb Μ) (A4v _ Μ) (fun b o _ e=>u.there b o e Μ) u.tups u.oX u.qp (fun m' hm=>by
  obtain⟨o',es',ep',ho',r'⟩:=hm;rw[ho] at ho';cases ho';exact A6h) hok I.bare
theorem Inv.call{g' :kQ}{t' :Nat}{d' :Drawn}{ch:AO}(I:Η)(u:Un (frs X.stack) ch H H' s.heap h')(hok:AVY)(hg:AllBare g')
  (hch:Aph):
  xh {s with heap:=h',gens:=g',drawn:=d',toks:=t'}:=by
 obtain⟨m,⟨o,es,ep,ho,r⟩,_⟩:=id I.loc;show AJd hL (u.any ho I.free (Ξ (Ak5 hch)));exact I.step (ch:=ch) hch (fun b o hL hb hc e n=>bb u.keep (NG ((zR.mp (I.stkSub b z)).elim hL hb)) hc) (fun b o _ _ hc e n=>u.any e n hc) (A4v hc hc) (fun b o hc e=>u.there b o e hc) u.tups u.oX u.qp (fun m' hm=>by
  obtain⟨o',es',ep',ho',r'⟩:=hm;rw[ho] at ho';cases ho';exact A6h) hok hg
theorem Inv.turned{t' :Nat}{it:Addr}(I:Η)(k:AVr (b≠it))(hn:Sm it)(hL:it≠X.env.locals)
  (h1:it∈X.ex\/AAy it) (h2:ABn it) (h3:L6 AII (AK≠it)):Adw:=by
 have Qk:Tk H (b≠it):=RH e z (AgD hn)
 refine Apb [it] AWO (fun b o _ _ hc e _=>An5) (fun b o _ _ hc e _=>⟨o.slots,An5⟩) (ww _ n n)
  (fun b o hc e=>(OR An5)) (AEz) (AGZ e e) (md ps (AP_ (by rw[e];simp))) (HQ m hm) (FR) I.bare
 ·show AWr
  subst e;exact sT h1 hL h3
 ·obtain⟨o,es,ep,ho,r⟩:=hm;exact A8J (n_ hL)
 ·refine œ I.hok e (fun c v hc q=>k c v ?_ q) AMo ip;show JS hc
  ·rw[z];exact Qk b u e
  ·exact Qk c _ z
theorem Inv.tok(I:Η)(t:Nat):fA {s with toks:=t}:=AmO t Un.refl I.hok
theorem Inv.kept{t' :Nat}(I:Η)(k:BGq):Adw:=I.un (Un.kept k) (I.hok.kept k)
theorem Inv.laid{a:Addr}{o:HO}{t' :Nat}(I:Η)(k:BGq)(hp:XZ a)(new:n9 ALt h' a o):
  pV a o ABd:=I.un (Un.laid k hp (Abg hp)) (I.hok.laid k hp new)
theorem Inv.write{x e:Addr}{o:HO}{t' :Nat}(I:Η)(mu:Ak9)(he:Am5)(k:∀b u,b≠e ->LT s.heap.get? ->AN5)(heo:Am8)
  (new:n9 (KG x o) h' x o):pV x o ABd:=I.un (Un.write mu he k heo) (I.hok.write mu he k heo new)
theorem Inv.pins_of{rN :dJ}(I:Η)(h:L6 rN A9j):Inv X rN σ H s:=
 ⟨I.ok,I.os,I.bare,I.base,I.loc,I.cell,I.free,I.freeC,P_ (AwU (NG (I.pin p (zN _ z))) (h p)),I.hok,I.len⟩
theorem zwy{N:ο}(hN:N.Nodup){i j:Nat}{x:Str}(a:Zl N)(b:Fk N x):i=j:=by
 show Cn h1 e1 zT.mp a;show ô h2 (zT.mp b);exact(List.getElem_inj hN).mp (e1.trans e2.symm)
theorem ZC{M:Model}(AYD)(AYx){v:V}{u:Value}{Q:DJ Unit}(I:Η)(mI)(hx:ko)(r:JU)
  (h:∀s',Au5 ->(∃a,AXn s'.heap/\ (Af3\/B_ X.env.cells.lookup a)) ->ABL) (hf:lr:=by first | show d5 | show kg | assumption):A1H:=by
 show AU m hn hl id I.loc;show da hcls (X.env.scope.kind== .class || (X.env.scope.kind== .module&&X.env.locals !=X.env.globals)) (GV I.ok.kind)
 have hiσ:i<σ.length:=AE I.len SH
 have cne:=I.cne;have tracked:∀{a:Addr} {h' :Heap},(∃o,BGG/\ABV) ->AXn h' ->nW X.prog X.w H h' :=fun{a h'} ha hs b ob e=>by
  obtain⟨_,_,hfree⟩:=ha;refine(I.hok b ob e).stay (fun c w' hc q=>FE hs.2 c ?_ q) AMo ip;rintro rfl;show Û hc hc
  ·rw[hfree] at e;cases e
  ·show IQ hfree hc hc
 rcases hx with hk | hk
 ·refine wpAny_storeName_local hk hn (ψ h' hn' hs) hcls;obtain⟨oL,_,_,hoL,_⟩:=id hn;refine h _ ⟨I.ok,I.os,I.bare,A9J,BY hn' A'H,Tm y c,I.free,I.freeC,li,tracked ⟨oL,hoL,I.free⟩ hs,AN I.len⟩ (BY hs AJ8)
  ·exact AF_ I.ok.above (Afh hb hx)
  ·show OQ sl (bb I.base.slot hb hx);exact⟨sl,AF_ I.ok.above e1⟩
  ·show OQ o' (I.base.there b o e hx);exact⟨o',AF_ I.ok.above e1⟩
  ·by_cases hj:j=i
   ·subst hj;rw[hi] at e1;cases e1;show ALw hiσ;cases e2;exact⟨u,r,ċ hk An⟩
   ·show A3';show CM u' r' q (hl j y v' e1) e2 e3;show BB u' r';rcases q with ⟨k,e⟩ | ⟨k,c,e,z⟩
    ·refine .inl (EJ k);have:y≠x:=QQ (hj (zwy hN e1 (e ▸ hi)));simp [this,e]
    ·show DI ⟨k,c,e,A'N⟩
  ·show vS w' z (I.cell y c e) w' A'N
  ·show Apw;exact⟨FE hs.2 AK ne e,n,ne,nf,d⟩
 ·have hfn:AZ_:=by
   show JS hf
   ·exact z
   ·show IQ z hk hk
  obtain⟨c,hc⟩:=I.ok.has x (C5 hk);obtain⟨w',z⟩:=I.cell x c hc;refine wpAny_storeName_cell I.ok.kind hk hc z (ψ h' hc' hs);obtain⟨oc,hoc,ZD⟩:=id z;refine h LX ⟨I.ok,I.os,I.bare,A9J,⟨m,hn.sameBut hs (Ne.symm (cne x c hc)),A'H⟩,Tm y c',I.free,I.freeC,li,tracked ⟨oc,hoc,I.freeC x c hc⟩ hs,AN I.len⟩ ⟨c,hs,.inr hc⟩
  ·exact AF_ ApS (Afh hb hx)
  ·show OQ sl (bb I.base.slot hb hx);exact⟨sl,AF_ ApS e1⟩
  ·show OQ o' (I.base.there b o e hx);exact⟨o',AF_ ApS e1⟩
  ·by_cases hj:j=i
   ·subst hj;rw[hi] at e1;cases e1;show ALw hiσ;cases e2;exact⟨u,r,.inr ⟨.inl hk,c,hc,hc'⟩⟩
   ·show A3';show CM u' r' q (hl j y v' e1) e2 e3;show BB u' r';rcases q with q | ⟨k,c',e,z'⟩
    ·show B3 q
    ·show RA ⟨k,c',e,z'.sameBut hs ?_⟩;rintro rfl;exact hj (zwy hN e1 (I.ok.inj _ _ _ e hc ▸ hi))
  ·by_cases hcc:c' =c
   ·subst hcc;exact C6 hc'
   ·show vS w2 z2 (I.cell y c' e) w2 (z2.sameBut hs hcc)
  ·show Apw;refine⟨FE hs.2 AK ?_ e,n,ne,nf,d⟩;intro q;rw[q,hoc] at e;have q' :oc=p.2:=zE e;exact d w' (A7 q' ZD)
theorem Wh{M:Model}(AYD)(AYx){v:V}{u:Value}{Q:DJ Unit}(I:Η)(mI)(hx:ko)(r:JU)
  (h:Ah4 Au5) (hf:lr:=by first | show d5 | show kg | assumption):A1H:=
 ZC I hN hi hx r (fun s' I' _=>h s' I') hf
theorem Inv.call'{s' :Shared}{ch:AO}(I:Η)(ho:Ag5)(u:AcL X.stack ch)(hok:Ag2)(hg:AIH)
  (hch:Aph):k7 :=by
 obtain⟨h',g',d',t',o'⟩:=s';have e:o' =s.os:=ho;subst e;exact I.call (g' :=g') (t' :=t') (d' :=d') u hok hg hch
#where
abbrev XK:=xy (PM JP)
abbrev St:=Ż V
abbrev VK:=AKR
abbrev TE:=St ->Ū
abbrev TT:=AV_ ue
abbrev TA:=AV_ AKS
structure Ends where
 nx:Lo
 rt:VK
 bk:Lo:=xx
 ct:Lo:=xx
abbrev TS:=Ends ->Lo
def EP(AYF)(σ:St)(Q:VK)(u:Value)(s' :Shared):Prop:=∃v H',k7 /\JU/\g_
def TP(AYF)(σ:St)(Q:ue)(b:Bool)(s' :Shared):Prop:=∃H',k7 /\Q b H'
def AP(AYF)(σ:St)(Q:AKS)(us:Ζ)(s' :Shared):Prop:=∃vs H',k7 /\ACH/\Q vs H'
def SP(X:Cx)(pins:dJ)(D:Ends)(f:Flow)(s' :Shared):Prop:=
 match f with
 | dC=>Ahm D.nx
 | .brk=>Ahm D.bk
 | .cont=>Ahm D.ct
 | .ret u=>∃v σ' H',AaV /\JU/\D.rt v H'
def PE(X:Cx)(e:Expr)(t:TE):Prop:=
 ∀(pins:dJ) (s:Shared) (σ:St) (H:Hp) (Q:VK),ã (yz (fT e))
def PT(X:Cx)(e:Expr)(t:TT):Prop:=
 ∀(pins:dJ) (s:Shared) (σ:St) (H:Hp) (Q:ue),Ar3 (fT e)
def PW(X:Cx)(e:Expr)(t:TT):Prop:=
 ∀(whole:AOJ) (pins:dJ) (s:Shared) (σ:St) (H:Hp) (Q:ue),Ar3 whole
theorem PW.pt{X:Cx}{e:Expr}{t:TT}(h:PW X e t):PT X e t:=h _
def PA(X:Cx)(es:AD)(t:TA):Prop:=
 ∀(pos:Pos) (pins:dJ) (s:Shared) (σ:St) (H:Hp) (Q:AKS),ã (Ŷ (spliced (AM6 es)) AP)
def PS(X:Cx)(st:Stmt)(t:TS):Prop:=
 ∀(pins:dJ) (s:Shared) (σ:St) (H:Hp) (D:Ends),A2j (ASl st)
def Dg(X:Cx)(st:LM)(t:TS):Prop:=
 ∀(pins:dJ) (s:Shared) (σ:St) (H:Hp) (D:Ends),A2j (execs st X.env)
theorem cJ(G_){t:Sem α}{Q Q' :DJ α}(A9h)(h:cn t)(hQ:∀a s,Q a s ->Q' a s):wpAny M A t Q' E s:=wpAny_mono h hQ wo
section
variable{X:Cx}
def Ku(Ya):TE:=fI (∃v,AGq av/\Q v H)
def tC(v:V):TE:=PD _ (Q v H)
theorem wK{i:Nat}{x:Str}{pos:Pos}(ACf)(AFh):PE X ABT (Ku i):=by
 show EC;show D' v e h;obtain⟨m,hn,hl⟩:=I.loc;show CM u r l (hl i x v hN) e hv;have fin:tJ u s:=⟨v,H,I,r,h⟩;rcases l with ⟨hk,hm⟩ | ⟨hk,c,hc,hcell⟩
 ·exact Axd (wpAny_loadName_local I.ok.kind hk hn hm)
 ·rcases hk with hk | hk
  ·exact Axd (AyW wpAny_loadName_cell)
  ·exact wpAny_Name (AyW wpAny_loadName_free fin hcd) hd
theorem yfr{i j pos}:Ajc tq tq:=fun _ _ _ H _ I h=>wpAny_Constant_int (AjF B8 h)
theorem yh9{b j pos}:Ajc (.bool b) (.bl b):=fun _ _ _ H _ I h=>Constant_bool (AAh UR h)
theorem yhp{j pos}:pz Constant Χ j (tC .non):=fun _ _ _ H _ I h=>Constant_none (AAh Ρ h)
theorem yg2{x j pos}:Ajc ABz ABz:=fun _ _ _ H _ I h=>Calls.Constant_str (AjF UD h)
def Gl(X:Cx)(x:Str):Prop:=B_ X.env.kindOf .globalImplicit
theorem Kv(A_Z)(hg:TM)(hm:AOx u)(h:Q u s)
  (hd:B1 x "__debug__":=by decide):AqD:=
 Calls.Name_function_global I.ok.kind hg (Calls.loadGlobal_global Axl hm h) hd
theorem Dr(A_Z)(Ŝ)(hv:ď u)(h:Q u s)
  (hn:sw :=by decide) (hd:B1 x "__debug__":=by decide):AqD:=by
 obtain⟨mb,h1,h2⟩:=I.mod.blt;exact Calls.Name_function_global I.ok.kind hg (Calls.loadGlobal_builtin Axl hm (B4 I.ok.blt (h1.keeps I.bk)) (FE h2 x hn hv) h) hd
def Wi(ta tb:TE)(k:Int ->PM Int):Lo:=fun σ H=>(Axj (AIa (k i j H2)))
def acN(ALc):TE:=AZp (Q (B5 (i+j)) H2)
def acO(ALc):TE:=AZp (Q (B5 AXJ) H2)
def acP(ALc):TE:=AZp ((Ax9)/\Q (B5 (i*j)) H2)
variable{a b:Expr}{ta tb:TE}{pos:Pos}
def PC(X:Cx)(op:CmpOp)(a b:Expr)(t:TE):Prop:=
 ∀(pins:dJ) (s:Shared) (σ:St) (H:Hp) (Q:VK),ã (A8q (BGJ (compareOp op v u) s₂))
def BZ(p:AG3 Bool)(ta tb:TE):TE:=AZp (Q (.bl (p i j)) H2)
abbrev tLt:AGI:=AVu (i<j)
abbrev tLe:AGI:=AVu (i<=j)
abbrev tGt:AGI:=AVu (j<i)
abbrev tGe:AGI:=AVu (j<=i)
abbrev acQ:AGI:=BZ fun i j=>(ω (i=j))
abbrev acR:AGI:=BZ fun i j=> !(ω (i=j))
def acS(ta:TE):TE:=RR (Q (.bl (AAp (x= Ρ))) H1)
def abO(ta:TE):TE:=RR (Q (.bl (!(ω (x= Ρ)))) H1)
def tB(t:TE):TT:=nI t (AK5 (Q c H1))
theorem ZF{op:CmpOp}{t:TE}(h:PC X op a b t)(h1:APs:=by first | exact Ql _ χ χ | rfl):PT X AMA (tB t):=by
 show AKU hw;refine wpAny_isTrue_Compare1 (UE Akc v h1 (cJ h1 fun u s2 h2=>cJ h2 (ABu c ALE))) h1;show ON d q q1;cases r1;exact A4V
theorem yf4{e:Expr}{t:TE}(h:PE X e t)(he:∀whole,isTrue e X.env whole=(do let v<- whole;standAt e.pos;holding [v] (truthy v)):=by intro _;rfl):PT X e (tB t):=by
 show AKU hw;refine isTrue_plain (Pp Akc v ALE) (he _);show ON d q q1;cases r1;exact A4V
variable{tA Qm :TT}{rest:AD}
def ZG(t u:TT):TT:=Se t c (Da c (AFe u) (Q false H1))
def tOr(t u:TT):TT:=Se t c (Da c (Q true H1) (AFe u))
def ZJ(t:TT):TT:=Se t c (Q (! c) H1)
theorem ycq(ha:PT X a tA):PW X BFq tA:=by
 intro wh pins s σ H Q I h;show Uf isTrue_and (FS ha Q I h) c e;cases c with
 | true=>exact isTrue_and_nil e
 | false=>exact e
theorem yhd(ha:PT X a tA)(hb:PW X AUc Qm):PW X AUd (ZG tA Qm):=by
 intro wh pins s σ H Q I h;show Uf isTrue_and km c AYh;cases c with
 | true=>exact hb wh pins s1 σ H1 Q I1 q1
 | false=>exact AYh
theorem yg9(ha:PT X a tA):PT X AWx (ZJ tA):=by
 show EC;exact isTrue_not (FS ha (UB H1 (Q (! c) H1)) I h)
def Qn(ALc):TE:=RR (AK5 (Da c (AFe tb) (Q AB_ H1)))
def ZK(ALc):TE:=RR (AK5 (Da c (Q ASX H1) (AFe tb)))
def Qo(ta:TE):TE:=RR (AK5 (Q (.bl (! c)) H1))
theorem yff{op}{t:TE}(h:PE X a t):pz BoolOp op [a] t:=fun pins s σ H Q I hw=>BoolOp_one (AOH Q I hw)
theorem yht(ha:c_)(hb:PE X AUc tb):PE X AUd (Qn ta tb):=by
 show EC;show Uf BoolOp_and km v yP;show SV yP;show Alz;cases r1;show Ad';cases c with
 | true=>exact Pi hb Q I1 q1
 | false=>exact AnP ADK
theorem yio(ha:c_)(hb:PE X Aqt tb):PE X Aqu (ZK ta tb):=by
 show EC;show Uf BoolOp_or km v ZL;show SV ZL;show Alz;cases r1;show Ad';cases c with
 | false=>exact Pi hb Q I1 q1
 | true=>exact AnP i9
theorem yfq(ha:c_):PE X AWx (Qo ta):=by
 show EC;show Uf UnaryOp_ km v Qp;show SV Qp;show Alz;cases r1;exact not_of (wpAny_truthy_bool (AnP (.bl (! c))))
def tIf(t:TT)(ta tb:TE):TE:=Se t c (Da c (AFe ta) (AFe tb))
theorem z74{c:Expr}(hc:PT X c tA)(ha:c_)(hb:ACW):PE X AsT (tIf tA ta tb):=by
 show EC;show Uf wpAny_IfExp (aS hc) d AYh;cases d with
 | true=>exact Pi ha Q I1 q1
 | false=>exact Pi hb Q I1 q1
#where
def lA(Ajb):Prop:=
 Rd H a f7\/
  ∃(o:Obj) (its:D3) (n:Nat),BGF/\o.cls= L4 /\AeN/\Aue/\Υ its.size/\BFf
def pK(Ajb):Prop:=
 Rd H a L9\/
  ∃(o:Obj) (its:D3) (n:Nat),BGF/\AU_ /\Aue/\Υ its.size/\BFf
def ZM:xy UM
 | Χ=>some Ρ
 | .bool b=>some (.bl b)
 | AMK=>some tq
 | AMS=>some ABz
 | .bytes b _=>some (.Jo b)
 | .float b _=>some (.flt b)
 | AR=>some CB
 | .type n=>some (.ty n)
 | _=>none
theorem RelV.abs(A4h):ρ (ZM u) x:=by
 cases x with
 | non=>cases r;rfl
 | bl _=>cases r;rfl
 | int _=>show ADU
 | str _=>show ADU
 | Jo _=>show ADU
 | flt _=>show ADU
 | ref _=>cases r;rfl
 | ty _=>cases r;rfl
theorem RelV.inj(A4g)(r:im)(q:JY):x=y:=zE (r.abs.symm.trans q.abs)
theorem Vals.inj:∀{xs ys:Δ} {us:Ζ},OV ->xC ys ->AW4
 | _,_,_,B9,B9=>rfl
 | _,_,_,Ŀ,.cons r' t' =>FF Aju (Vals.inj t t')
section
variable{X:Cx}{pins:dJ}{σ:St}{H:Hp}{s:Shared}{a:Addr}{xs ys:Δ}
theorem Inv.list(I:Η)(h:Ai'):Ao6 (Aep PlainL s.heap):=by
 rcases h with h | ⟨o,its,n,hk,hc,hd,hs,hz,r⟩
 ·show AZY (h.ok I.hok);exact⟨its,r,⟨_,n,e,rfl,rfl,rfl⟩,z⟩
 ·show Fh its.toList r ⟨o,n,A0g,hc,hd,AN hs⟩
  have e:=r.length;show ARW e;omega
theorem Inv.tuple(I:Η)(h:Avj):Ao6 (Aep IsTup s.heap):=by
 rcases h with h | ⟨o,its,n,hk,hc,hs,hz,r⟩
 ·obtain⟨z,its,r,p⟩:=h.ok I.hok;exact⟨its,r,p,z⟩
 ·show Fh its.toList r ⟨o,A0g,hc,n,AN hs⟩
  have e:=r.length;show ARW e;omega
theorem Inv.list_inj(I:Η)(h:Ai')(h' :rS a ys):AW4:=by
 obtain⟨its,r,⟨o,n,e,_,_,d⟩,_⟩:=AdU;obtain⟨its',r',⟨o',n',e',_,_,d'⟩,_⟩:=I.list h';rw[e] at e';cases e';rw[d] at d';injection d' with d1 _;have:its=its' :=AN (ù Array.toList d1)
 show XY;exact Aju
theorem Inv.tuple_inj(I:Η)(h:Avj)(h' :AQw a):AW4:=by
 obtain⟨its,r,⟨o,e,_,n,d⟩,_⟩:=I.tuple h;obtain⟨its',r',⟨o',e',_,n',d'⟩,_⟩:=I.tuple h';rw[e] at e';cases e';rw[d] at d';injection d' with d1 _;have:its=its' :=AN (ù Array.toList d1)
 show XY;exact Aju
#where
abbrev Cx.wish(X:Cx)(E:dR):Cx:={X with xe:=E}
abbrev Cx.nox(Y_):Cx:=X.wish fun _ _=>False
section
variable{X:Cx}{pins:dJ}{σ:St}{H:Hp}{s:Shared}{E:dR}
#where
section
variable{X:Cx}{st:Stmt}{rest:LM}{t u:TS}{e:Expr}{te:TE}{pos:Pos}
def Qq:TS:=ad jI
def ZP(t u:TS):TS:=ad (t {D with nx:=u D} σ H)
theorem yd8:Dg X [] Qq:=fun _ _ σ H _ I h=>(Afz σ H I h)
theorem ZQ(h1:Akl)(h2:Dg X rest u):Dg X (st::rest) (ZP t u):=by
 show SD;show Uf wpAny_execs_cons (FS h1 {D with nx:=u D} I h) f q;cases f with
 | next=>
  obtain⟨σ',H',I',q⟩:=q;exact h2 pins s1 σ' H' D I' q
 | ret v=>exact q
 | brk=>exact q
 | cont=>exact q
theorem ZR(h1:Akl):Dg X [st] t:=by
 show SD;show Uf wpAny_execs_cons (FS h1 D I h) f q;cases f with
 | next=>exact wpAny_execs_nil q
 | ret v=>exact q
 | brk=>exact q
 | cont=>exact q
def ZS:TS:=ad (D.bk σ H)
def abP:TS:=ad (D.ct σ H)
theorem Inv.quiet(Amb){s:Shared}(I:Η):Si interactive X.env:=RU interactive I.ok.kind
def Qs(ADn):TS:=XN te _ (WC H1)
theorem ZV(he:SO)(hs:Ī none pos.line X.env:=by rfl):PS X (.Expr e pos) (Qs te):=by
 show SD;exact wpAny_Expr_any (UE z0 v Kw (by show SV Kw;exact⟨σ,H1,I1,q1⟩)) I.quiet hs
def ZW(ADn):TS:=ad (te σ H D.rt)
theorem yad(he:SO):PS X (.Return AQA pos) (ZW te):=by
 show SD;exact wpAny_Return_some (cJ z0 fun v s1 Ds=>by show SV Ds;exact⟨x,σ,H1,I1,r1,q1⟩)
def abQ:TS:=fun D _ H=>D.rt Ρ H
def ZX(c:TT)(t u:TS):TS:=XN c b (Da b (t D σ H1) (u D σ H1))
theorem yit{c:Expr}{a b:LM}{tc:TT}(hc:PT X c tc)(ha:Dg X a t)(hb:Dg X b u):PS X (.If c a b pos) (ZX tc t u):=by
 show SD;show Uf wpAny_If (aS hc) d AYh;cases d with
 | true=>exact Pi ha D I1 q1
 | false=>exact Pi hb D I1 q1
def Z0:TS:=SK
#where
abbrev TG:=V ->St ->AHj Lo
abbrev Hv:=Δ ->St ->AHj Lo
def PG(X:Cx)(target:Expr)(t:TG):Prop:=
 ∀(pins:dJ) (s:Shared) (σ:St) (H:Hp) (v:V) (u:Value) (Q:Lo),Η ->JU ->t v σ H Q ->
  Aei (assign target X.env u) (AP5 (Q σ' H'))
def Ky(X:Cx)(ts:AD)(t:Hv):Prop:=
 ∀(pins:dJ) (s:Shared) (σ:St) (H:Hp) (vs:Δ) (us:Ζ) (Q:Lo),Η ->ACH ->t vs σ H Q ->
  Aei (assignInOrder ((assignEach ts X.env).map (·.2)) us) (AP5 (Q σ' H'))
abbrev Hw:=A1X
def Qt(X:Cx)(t:Hw):Prop:=
 ∀(pins:dJ) (s:Shared) (σ:St) (H:Hp) (o i v:V) (ov iv u:Value) (Q:Db Hp),Η ->Ο (RelV o ov) (RelV i iv) JU (t o i v H Q) (Aei (setItem ov iv u) (∃H',k7 /\Q H'))
abbrev Wj:=kz
def PIp(X:Cx)(op:Operator)(t:Wj):Prop:=
 ∀(pins:dJ) (s:Shared) (σ:St) (H:Hp) (x y:V) (v u:Value) (Q:VK),AEg Op JY (t x y H Q) (inplaceOp op v u)
section
variable{X:Cx}{pos:Pos}
def Jr(Ya):TG:=AI_ (Q AI4 H)
theorem ydi(AYx)(mI)(hx:ko)(hf:lr:=by first | show d5 | show kg | assumption):PG X ABT (Jr i):=by
 intro pins s σ H v u Q I r h;exact wpAny_assign_Name (Wh I hN hi hx r (fun s' I' =>(Tl H I' h)) hf)
def Z1:Hv:=aI vs Q (vs= []/\Q σ H)
def Qu(t:TG)(u:Hv):Hv:=aI vs Q (∃v r,vs=v::r/\t v σ H fun σ' H' =>u r σ' H' Q)
theorem ycp:Ky X [] Z1:=by
 intro pins s σ H vs us Q I r h;obtain⟨e,h⟩:=h;subst e;cases r;exact assignInOrder_nil ⟨σ,H,I,h⟩
theorem z6d{e:Expr}{es:AD}{t:TG}{u:Hv}(h1:PG X e t)(h2:Ky X es u)
  (hs:AFo D6 (·.2)=AR8 e::AFo es (·.2):=by rfl):Ky X D6 (Qu t u):=by
 intro pins s σ H vs us Q I r h;show L7 v vr e1 h;subst e1;cases r with
 | cons r rr=>
  rw[hs];show Uf assignInOrder_cons (FS h1 _ _ _ I r h) _ ⟨σ1,H1,I1,q1⟩;exact h2 pins s1 σ1 H1 _ _ Q I1 rr q1
def Z2(A7Q):TG:=A7p kr
theorem ygo{es:AD}{k:Nat}{t:Hv}{n:Nat}(hc:C7)(h:Ky X es t)
  (hn:MI assignEach es X.env=n:=by rfl) (hst:(assignEach es X.env).findIdx? (·.1)=none:=by rfl):PG X Av9 (Z2 X.K n t):=by
 intro pins s σ H v u Q I r hw;obtain⟨a,xs,e1,hq,hl,hw⟩:=hw;subst e1;cases r;obtain⟨its,rv,ht,hz⟩:=I.tuple hq;refine assign_Tuple_tuple eL ht (by simp [hn,<- hl,rv.length]) hst (AM h' hx)
 have I1:AaZ:=ny I.kept (HK (hx b o AMc e));exact h pins _ σ H xs _ Q I1 (BH rv) hw
def eY(to ti:TE)(t:Hw):TG:=AI_ (ZT to o (Mc ti i (t o i v H2 fun H3=>Q σ H3)))
theorem ygg{o i:Expr}{to ti:TE}{t:Hw}(ho:PE X o to)(hi:PE X i ti)(hs:Qt X t)
  (ha:∀v,assign (ASP o i) X.env v=(do
   let ov<- AYC [v] o
   let iv<- AYC [v,ov] i
   standAt pos
   A7e
   Aut):=by intro _;rfl):PG X (ASP o i) (eY to ti t):=by
 intro pins s σ H v u Q I r h;rw[ha];show AeB (Pp AS3 ov Dt);show SV Dt;show AeB (cJ (eM hi) (ABP iv Du));obtain⟨y,H2,I2,r2,q2⟩:=Du;show EF wpAny_standAt (z9 (wpAny_holding (cJ (AOX hs x y v ov iv u _ I2 r1 r2 r q2) (ABu _ ⟨H3,I3,q3⟩))));exact wpAny_release ⟨σ,H3,I3,q3⟩
def Qw(te:TE)(g:TG):TS:=XN te x (g x σ H1 D.nx)
theorem yg8{tg e:Expr}{te:TE}{g:TG}(he:SO)(hg:PG X tg g)(hs:ATw [tg] e:=by rfl)(hw:AXY [tg] e none:=by rfl)
  (h1:AFo [tg] (·.2)= [AR8 tg]:=by rfl):AEb [tg] e (Qw te g):=by
 show SD;refine wpAny_Assign_stores (AVN ALE) hs hw;rw[h1];exact cJ (Pi hg x v _ I1 r1 q1) fun _ s2 q=>q
theorem Wk{i:Nat}{x:Str}{e:Expr}{te:TE}{pos' :Pos}(mI)(hx:ko)(he:SO)(hs:Ī (BO (ED x pos')) pos.line X.env:=by rfl)(hf:lr:=by first | show d5 | show kg | assumption):
  AEb BBP e (Qw te (Jr i)):=by
 show SD;refine wpAny_Assign_Name (AVN (xt y r1)) hs;exact Wh I1 hN hi hx r1 (fun s2 I2=>(Tl H1 I2 q1)) hf
def Z4(i j:Nat)(ta:TA):TS:=XN ta vs (∃v w,vs= [v,w]/\D.nx ((σ.set i av).set j (BO w)) H1)
theorem yfg{i j:Nat}{x y:Str}(A4m){px py pt:Pos}{kt k2 Kz}(hc:C7)(hN:X.N.Nodup)(hi:Sr)(hj:AQ0)(hij:i≠j)
  (hx:AZ') (hy:AXy) (ha:Agu)
  (hw:AXY AGU AGN (BO lc))
  (hs:ATw AGU AGN:=by rfl):
  AEb AGU AGN (Z4 i j ta):=by
 show SD;rw[exec_Assign_arm];show IF wpAny_standAt;rw[hs];show eC;show dl
 show EF Tuple_ (Pp (ha _ pins s σ H _ I h) us Z5);obtain⟨vs,H1,I1,r1,q1⟩:=Z5;obtain⟨v,w,e1,q1⟩:=q1;subst e1;obtain⟨u1,u2,rfl,rv,tD⟩:∃u1 u2,us= [u1,u2]/\RelV v u1/\RelV w u2:=by
  cases r1 with
  | cons p q=>
   cases q with
   | cons p' q' =>
    cases q';exact EG _ _ p p'
 show AVm (by show Υ 2;decide)
 have I2:Ć (ZZ s1 (s1.heap.push (ac [u1,u2].toArray))):=x6 I1.kept Th;rw[hw];show eC;show wpAny ZY X.A (do rule "assign.swapped-stores";let items<- unpackItems (AA s1.heap.objs.size) 2 none;A9b items.reverse;BFs) _ _ _;show EF wpAny_rule (z9 (unpackItems_tuple (items:= #[u1,u2]) (I.ok.hd hc) (IsTup.new s1.heap _) (AM h' hx')));have I3:=I2.kept (h' :=h') (t' :=s1.toks) (HK (hx' b o AMc e));show FB (A9b [u2,u1]>>=C4 BFs);show EF assignInOrder_cons (wpAny_bindName (Wh I3 hN hj Ad7 tD (HQ s2 I4) AeC));refine assignInOrder_cons (wpAny_bindName (Wh I4 hN hi (C5 hx) rv (fun s3 I5=>assignInOrder_nil (zZ ?_)) (CA hx)));rw[List.set_comm _ _ (n_ hij)] at I5;exact Tl H1 I5 q1
def acT(i:Nat)(te:TE)(ti:Wj):TS:=ad (∃x,AGq (BO x)/\ZT te y (ti x y H1 fun z H2=>D.nx (pv (BO z)) H2))
def abR(to ti te:TE)(Z6:kz)(tip:Wj)(Z7:Hw):TS:=XN to o (Mc ti i (Z6 o i H2 fun x H3=>te σ H3 fun y H4=>tip x y H4 fun z H5=>Z7 o i z H5 fun H6=>(WC H6)))
def acU(X:Cx)(t:kz):Prop:=
 ∀(pins:dJ) (s:Shared) (σ:St) (H:Hp) (o i:V) (ov iv:Value) (Q:VK),AEg (RelV o ov) (RelV i iv) (t o i H Q) (getItem ov iv)
def ipI(f:Afy):Wj:=Ai1 (f i j)
#where
section
variable{X:Cx}{pos:Pos}
def KC(c:TT)(tb:TS):TS:=ad (∃W:ASM,(∃m,W m σ H)/\∀m σ H,W m σ H ->
 ZT c b (Da b (BBK (W m' σ' H') (tb (AHS N N) σ H1)) (WC H1)))
theorem z7y{c:Expr}{body:LM}{tc:TT}{tb:TS}(hp:ApF)(hc:PT X c tc)(hb:Avc):PS X A5n (KC tc tb):=by
 show SD;obtain⟨W,⟨m0,w0⟩,turn⟩:=h;refine wpAny_While (codeAny_whileLoop (IL n (AP5 (W n σ' H'))) ?_ m0 ⟨σ,H,I,w0⟩);rintro n s1 ⟨σ1,H1,I1,w1⟩;show Š (hc pins s1 σ1 H1 _ I1 (turn n σ1 H1 w1)) (HH s2 ⟨H2,I2,q2⟩);cases b with
 | true=>
  obtain⟨N,hN,q2⟩:=q2;show We;show Š (hb pins s2 σ1 H2 _ I2 q2) (ABu f q3);cases f with
  | next=>
   obtain⟨σ3,H3,I3,n3⟩:=q3;obtain⟨m',hm,w3⟩:=hN σ3 H3 n3;exact⟨m',hm,σ3,H3,I3,w3⟩
  | cont=>
   obtain⟨σ3,H3,I3,n3⟩:=q3;obtain⟨m',hm,w3⟩:=hN σ3 H3 n3;exact⟨m',hm,σ3,H3,I3,w3⟩
  | brk=>exact q3
  | ret v=>exact q3
 | false=>
  show Aj_ (Afz σ1 H2 I2 q2)
#where
structure It where
 go:PM Nat
 yld:mi Hp AKR
 stop:PM Nat
def nY(AYF)(H:Hp)(b:Addr):Prop:=
 F8/\ABU/\ADj/\ BBn/\ (ABn b)/\L6 AII (AK≠b)
theorem Inv.fpOk{X:Cx}{pins:dJ}{σ:St}{H H' :Hp}{s:Shared}{b:Addr}(I:Η)(hb:XZ b)(hn:AAl):ATf:=by
 refine⟨hn,Nat.ne_of_gt (zK I.lt hb),I.nofs hb,.inr (zM I.sz hb),A1Y,Azh⟩
 ·obtain⟨v,q⟩:=AWq;exact Ņ (zK q.lt (B4 z hb))
 ·exact Ņ (zK (zF (AJB I.pin)) (B4 z hb))
structure Turn (P:Program) (w:World) (K:W.Frag) (tg:Expr) (J:It) (fp:AO) (it:Addr) (tn:AK2):Prop where
 mem:it∈fp
 obj:A0y
 keep:A_W
 item:ArK (∀(i:Nat) (pins:dJ) (s:Shared) (σ:St) (H:Hp) (E:dR),Ο Η ATt AIz (J.go i H) (AZA (∃u,N4 r/\
   wpAny pd X.A Ang (E8 s2 (∃x H',ATS/\im/\J.yld i H x H' /\AvK/\TZ AAl)) E s1)))
 done:ArK (∀(i:Nat) (pins:dJ) (s:Shared) (σ:St) (H:Hp) (E:dR),Ο Η ATt AIz (J.stop i H) (AZA AvN))
 self:∀(A:Around) (i:Nat) (s:Shared) (Q:dR) (E:dR),AzT
abbrev TI:=AV_ AIh
def PIE(A7P):Prop:=
 ∃(it:Addr) (fp:AO) (tn:AK2) (J:It) (H' :Hp),itv= .ref it/\ATS/\fR Turn X.K tg J fp it tn/\Auf/\ (So fp ATf)/\AXf
def PI(A7O):Prop:=
 ∀(pins:dJ) (s:Shared) (σ:St) (H:Hp) (R:AIh),AQY (wi σ H R) ADi (UA s1 (ABl (pyIter v) AsX s1))
theorem Np(A9h){tg:Expr}{it:Addr}{u:Value}{o:Obj}{n:String}{vs:D3}{Q:DJ Unit}(ho:AGn it)(hc:AOh n)(hd:AfZ)
  (hn: Si (A'q).contains n) (hQ:Q () s):cn Ang:=by
 unfold letOwnedTupleGo;cases tg<;>first
  | exact zZ hQ
  | (
    cases u<;>first
    | exact zZ hQ
    | (
      show L' wpAny_load ho;rw[hc,hd];show cn (AHM (My ((A'q).contains n) (vs[0]?==some (rawInt _))));rw[D_ (by intro h;rw[hn,Bool.false_and] at h;cases h)]
      exact zZ hQ))
def KD(K:W.Frag)(a:Addr):It:=
 AEo (Anl UT) (∀xs,UT ->WG) (Aku UT)
def Js(K:W.Frag)(a:Addr):It:=
 AEo (Anl kr) (∀xs,kr ->WG) (Aku kr)
def GK(lo:Int)(n:Nat):It:=A7H Ada
theorem zte(A7I):AFV (KD K a) (h.IsListIter it a i) where
 mem:=An
 obj:=Ŗ (by
  show AWr
  subst e;show ANb;exact AEe)
 keep:=AYG
 item:=by
  intro X hP hw hK hc i pins s σ H E I hf st hg;show KA;show ApW;show ALP;show Aoe;show U_
  refine wpAny_pyNext_list_item st p.isList (x:=u) ASD (ψ h' st' sb)
  show ANE;show Ki o e c d st';exact A8S I.list_inj
 done:=by
  intro X hP hw hK hc i pins s σ H E I hf st hg;show KA;show Aop;show ALP;show U_
  show RO;exact wpAny_pyNext_list_end eL st p.isList i_ AGS
 self:=fun _ _ _ _ _ st h=>wpAny_pyIter_listiter st h
theorem zpz(A7I):AFV (Js K a) (h.IsTupleIter it a i) where
 mem:=An
 obj:=Ŗ (by
  show AWr
  subst e;show ANb;exact AEe)
 keep:=AYG
 item:=by
  intro X hP hw hK hc i pins s σ H E I hf st hg;show KA;show ApW;show BFh;show Aoe;show U_
  refine wpAny_pyNext_tuple_item st Aq_ (x:=u) ASD (ψ h' st' sb)
  show ANE;show Ki o e c d st';exact A8S I.tuple_inj
 done:=by
  intro X hP hw hK hc i pins s σ H E I hf st hg;show KA;show Aop;show BFh;show U_
  show RO;exact wpAny_pyNext_tuple_end eL st Aq_ i_ AGS
 self:=fun _ _ _ _ _ st h=>wpAny_pyIter_tupleiter st h
theorem zzh(sR){tg:Expr}(it:Addr)(lo:Int)(n:Nat):AFV (GK lo n) (IsRangeIter h it (lo+ De i*1) (E5 - De i) 1) where
 mem:=An
 obj:=Ŗ (by
  show AWr
  subst e;exact BY st (fun v z=>by
   have z' :Data.fields _=Data.cell v:=z;cases z'))
 keep:=AO7 (vT it st)
 item:=by
  intro X hP hw hK hc i pins s σ H E I hf st hg;show KA;show U_
  have W:=Az5 Walks.range eL it lo 1 n;refine A1r hg st fun v h' tk hv st' kk=> ?_;show LU hv;have I1:fA OW:=I.turned (oS (kk b o (BH hb) e)) f0 f1 f3 f4 f5
  show kK _ (Np (s:=OW) (n:= "range_iterator") st' rfl rfl χ ⟨Ada,H,I1,EJ t,ka,st',ABW hf⟩)
  rw[Int.mul_one]
 done:=by
  intro X hP hw hK hc i pins s σ H E I hf st hg;show KA;show U_
  exact wpAny_pyNext_range_end (I.ok.hd hc) st (by have:n<=i:=hg;omega) AGS
 self:=fun _ _ _ _ _ st h=>wpAny_pyIter_rangeiter st h
section
variable{X:Cx}{tg:Expr}
def abS(AXI):TI:=AGx tl x (AOj (∃xs,AQr) (Ĺ KD))
def acV(AXI):TI:=AGx tl x (AOj (∃xs,Age) (Ĺ Js))
theorem zxx(Amb){s:Shared}{R:AIh}{E:dR}{lo hi:Int}{t u v:Tok}{tk:Nat}(I:Η)(h1: pf<=lo)(h2:lo<2^62)(h3: pf<=hi)(h4:hi<2^62)
  (q:R (GK lo AX5) H):AAV (pyIter (AA s.heap.objs.size)) AsX E Av':=by
 refine wpAny_pyIter_range (IsRange.new ..) (small_one h1 h2 h3 h4) ?_;have I1:fA Av':=I.kept Th;refine⟨AgY,[AgY],_,_,H,rfl,
  kX I1.kept Th,zzh _ lo AX5,?_,He,q⟩
 ·have e1:lo+ Ę*1=lo:=An
  have e2:CY AX5 - Ę=Builtin.Range.rangeSize lo hi 1:=by rw[rangeSize_one];split<;>omega
  show IsRangeIter _ _ (lo+ Ę*1) (CY AX5 - Ę) 1;rw[e1,e2];exact LW
 ·have e:b=AgY:=AN hb
  subst e;exact ACd
def Qx(ta:TA):TI:=AJK (∃j:Int,vs= [gI]/\ pf<=j/\APO/\R (GK 0 j.toNat) H1)
def Qy(ta:TA):TI:=AJK (∃i j:Int,vs= ABo/\ (Apf)/\R (GK i AX4) H1)
theorem z5k{a:Expr}(ApN)(hg:Gl X "range")(hm:Fm "range")(ha:AVT)(hs:Ct starEach [a] (AMs a):=by rfl):c0 (AIx "range") (Qx ta):=by
 show d6;show AjU boot_range;obtain⟨j,e,q1,q2,q⟩:=q1;subst e;cases r1 with
 | cons r rr=>
  cases rr;show LU r;exact call_range_1 (zxx I1 ξ ξ q1 q2 (BH q))
theorem z5n(A4m){p pos:Pos}(hg:Aex)(hm:Fm "range")(ha:Agu)(hs:Ct starEach ae (ApB a b):=by rfl)(hs2:Ct starEach [b] (AMs b):=by rfl):
  c0 (xk "range" ae) (Qy ta):=by
 show d6;refine Call_ (AAx boot_range (PyProof.Rows.callWith_type1 (APn AIY) (i5 hs hs2) (ul hs2)))
 obtain⟨i,j,e,⟨q1,q2,q3,q4⟩,q⟩:=q1;subst e;cases r1 with
 | cons r rr=>
  cases rr with
  | cons r' rr=>
   cases rr;show LU r;show Zp t' r';exact call_range_2 (zxx I1 q1 q2 q3 q4 q)
def Z8(wi:TI)(g:TG)(tb:TS):TS:=XN wi J (AFK Lo (W 0 m σ H1) (∀i m σ H,AL0 ->
 (J.stop i H/\jI)\/ (J.go i H/\ARH J.yld Aci)))
def tH(fp:AO)(h:Heap):dJ:=fp.filterMap fun b=>AH h.get? b fun o=>(b,o)
theorem Wl{fp:AO}{h:Heap}{b:Addr}{o:Obj}(hb:b∈fp)(e:P7):(b,o)∈tH fp h:=BFI b hb (by rw[e];rfl)
theorem z37{fp:AO}{h:Heap}{p:Addr×Obj}(hp:p∈tH fp h):AK∈fp/\ABK h.get?:=by
 show AU b hb e List.mem_filterMap.mp hp;cases q:h.get? b with
 | none=>show eJ
 | some o=>
  show Pf;have e' :(b,o)=p:=zE e;subst e';exact ABO hb
theorem Inv.pinned(AJW){fp:AO}(I:Η)(hf:AK1)(ho:TZ (AcW M_)):Inv X (pins++tH fp s.heap) σ H s:=
 Awd (AwU (NG (I.pin p (zO _ z))) (Ξ (by
  show K' hb (z37 z);obtain⟨f0,f1,f2,_⟩:=hf AK hb;show CM o e' d ho AK hb;rw[e] at e';cases e';exact⟨e,f0,f1,f2,d⟩)))
theorem Inv.unpinned{pins pl:dJ}(bz){s:Shared}(I:Inv X (pins++pl) σ H s):Η:=Awd (I.pin p (zO _ (zN _ hp)))
theorem Wm{iter:Expr}{body:LM}{wi:TI}{g:TG}{tb:TS}{pos:Pos}(hp:ApF)(hc:C7)(hi:Auw)(hg:PG X tg g)(hb:Avc)
  (hs:e9 iter:=by intro _;rfl):PS X (.For tg iter body [] pos) (Z8 wi g tb):=by
 show SD;refine wpAny_For (UE AS2 v h1 Awm) hs;obtain⟨it,fp,tn,J,H2,e,I2,T,st2,f2,W,⟨m0,w0⟩,turn⟩:=h2;subst e
 
 have stat:FG H' Hp AI2 (TZ ATf):=fun hn b hb=>⟨hn b hb,y_ f2⟩;refine codeAny_forLoop_any (IL n (∃i σ' H',AaV /\tn i s'.heap/\ AI2/\W i n σ' H')) ?_ m0 ⟨0,σ,H2,I2,st2,ABW f2,w0⟩;rintro n s3 ⟨i,σ3,H3,I3,st3,fr3,w3⟩;rcases turn i n σ3 H3 w3 with ⟨stop,qn⟩ | ⟨go,N,hN,step⟩
 ·show Š (AOL T.done X hc i pins s3 σ3 H3 X.xe I3 (stat fr3) st3 stop) (ψ r s4 ⟨hr,I4⟩);subst hr;exact Afz σ3 H3 I4 qn
 ·show Š (AOL T.item X hc i pins s3 σ3 H3 X.xe I3 (stat fr3) st3 go) (ψ r s4 ⟨u,hr,h4⟩);subst hr;show Š h4 (ψ _ s5 Z9);obtain⟨x,H5,I5,r5,y5,Nq,Wn⟩:=Z9;have I5' :=I5.pinned (stat Wn) (T.obj _ _ Nq);show Š (hg _ s5 σ3 H5 x u _ I5' r5 (step x H5 y5)) (ψ _ s6 ⟨σ6,H6,I6,q6⟩);show Š (hb _ s6 σ6 H6 _ I6 q6) (ψ f s7 q7);have again:∀{σ7:St} {H7:Hp},Inv X (pins++tH fp s5.heap) σ7 H7 s7 ->N σ7 H7 ->AWJ (∃i σ' H',Inv X pins σ' H' s7/\tn i s7.heap/\ AI2/\W i m σ' H') :=fun{σ7 H7} I7 n7=>by
   obtain⟨m',hm,w7⟩:=hN σ7 H7 n7;refine⟨m',hm,BQ,σ7,H7,I7.unpinned,A3l Nq I7.pin,He,w7⟩;show T' e d (AYy Nq);exact A5d I7.pin
  cases f with
  | next=>obtain⟨σ7,H7,I7,n7⟩:=q7;exact again I7 n7
  | cont=>obtain⟨σ7,H7,I7,n7⟩:=q7;exact again I7 n7
  | brk=>obtain⟨σ7,H7,I7,q7⟩:=q7;exact⟨σ7,H7,I7.unpinned,q7⟩
  | ret v=>obtain⟨x7,σ7,H7,I7,r7,q7⟩:=q7;exact⟨x7,σ7,H7,I7.unpinned,r7,q7⟩
#where
theorem z68(D9){a:Addr}{xs:Δ}{g:TG}{tb:TS}{D:Ends}{σ:St}{H:Hp}(Pv:ASM)(h0:Pv 0 σ H)(hl:∀i σ H,AKw ->å ->UT)
  (hs:∀i x σ H,WG ->å ->AnS x) (hd:∀σ H,Pv xs.length σ H ->jI):
  AFK Lo Agf (∀i m σ H,AL0 ->
   ((KD K a).stop i H/\jI)\/ ((KD K a).go i H/\AyU KD)):=by
 show Ase AKw xs.length
 rintro i m σ H ⟨rfl,hi,p⟩;have q:=hl i σ H hi p;by_cases hlt:i<xs.length
 ·show A'e A_C
 ·have e:i=xs.length:=τ
  subst e;exact ċ ⟨xs,q,GB⟩ (hd σ H p)
theorem ydc(D9){a:Addr}{xs:Δ}{g:TG}{tb:TS}{D:Ends}{σ:St}{H:Hp}(Pv:ASM)(h0:Pv 0 σ H)(hl:∀i σ H,AKw ->å ->kr)
  (hs:∀i x σ H,WG ->å ->AnS x) (hd:∀σ H,Pv xs.length σ H ->jI):
  AFK Lo Agf (∀i m σ H,AL0 ->
   ((Js K a).stop i H/\jI)\/ ((Js K a).go i H/\AyU Js)):=by
 show Ase AKw xs.length
 rintro i m σ H ⟨rfl,hi,p⟩;have q:=hl i σ H hi p;by_cases hlt:i<xs.length
 ·show A'e A_C
 ·have e:i=xs.length:=τ
  subst e;exact ċ ⟨xs,q,GB⟩ (hd σ H p)
theorem z3n{lo:Int}{n:Nat}{g:TG}{tb:TS}{D:Ends}(bz)(Pv:ASM)(h0:Pv 0 σ H)
  (hs:∀i σ H,CH ->å ->AnS BDg) (hd:∀σ H,Pv n σ H ->jI):
  AFK Lo Agf (∀i m σ H,AL0 ->
   (AxF)\/ (ArG (ARH (GK lo n).yld Aci))):=by
 show BB (fun i m σ H=>m=n - i/\i<=n/\å) ⟨n,An,G1,h0⟩
 rintro i m σ H ⟨rfl,hi,p⟩;by_cases hlt:CH
 ·show RA ⟨hlt,AOQ,fun σ' H' p' =>(EG (n - B2) τ hlt p'),ψ x H' y⟩
  obtain⟨e,y⟩:=y;subst e y;exact hs i σ _ hlt p
 ·have e:i=n:=τ
  subst e;exact ċ GB (hd σ H p)
abbrev R2:=kz
def lW(X:Cx)(f:ţ)(r:R2):Prop:=
 ∀(pins:dJ) (s:Shared) (σ:St) (H:Hp) (x y:V) (v u:Value) (Q:VK),AEg Op JY (r x y H Q) (f v u)
def UnR(X:Cx)(f:xy AOJ)(r:ATV):Prop:=
 ∀(pins:dJ) (s:Shared) (σ:St) (H:Hp) (x:V) (v:Value) (Q:VK),Η ->Op ->r x H Q ->
  yz (f v)
def fB(X:Cx)(f:Value)(r:UX):Prop:=
 ∀(pins:dJ) (s:Shared) (σ:St) (H:Hp) (xs:Δ) (us:Ζ) (Q:VK),Η ->OV ->r xs H Q ->
  yz (call f us)
def acW(X:Cx)(r:V ->AHj ue):Prop:=
 ∀(pins:dJ) (s:Shared) (σ:St) (H:Hp) (x:V) (v:Value) (Q:ue),Η ->Op ->r x H Q ->
  Ŷ (truthy v) TP
def Qz(r:R2)(ta tb:TE):TE:=A0r Q
def tUn(r:ATV)(ta:TE):TE:=RR (r x H1 Q)
def rI(C:AXH)(g:AT3):R2:=OK (Aog (Q YU H))
def Jt(g:AT3):R2:=OK (AIa (Q YU H))
def rU(g:Int ->V):ATV:=PD x (∃i,x= B8/\Q (g i) H)
section
variable{X:Cx}{a b c:Expr}{ta tb tc:TE}{pos:Pos}
theorem KH(ha:c_)(hb:ACW){pins:dJ}{s:Shared}(bz){R:V ->AKR}(I:Η)
  (h:Axj (R x y H2)) {Q:dR} {f:ţ}
  (hf:∀v u s2 x y H2,Ο (KB H2 s2) Op JY (R x y H2) (ABl (f v u) Q s2)):
  A8q (ABl (f v u) Q s₂):=by
 refine cJ km (PQ v aac);show SV aac;refine cJ (eM hb) (ψ u s2 aad);obtain⟨y,H2,I2,r2,q2⟩:=aad;exact hf v u s2 x y H2 I2 r1 r2 q2
theorem ygr{op:Operator}{r:R2}(ho:lW X BFu r)(ha:c_)(hb:ACW):PE X AsS AYR:=by
 show EC;exact wpAny_BinOp (Ao3 fun v u s2 x y H2 I2 rx ry q=>A1L)
theorem yie{op:UnaryOp}{r:ATV}(ho:UnR X (unaryOp op) r)(ha:c_):pz UnaryOp op a (tUn r ta):=by
 show EC;exact UnaryOp_ (cJ km fun v s1 aae=>by show SV aae;exact Pi ho x v Q I1 r1 q1)
theorem Wo{f:ţ}{C:AXH}{g:Afy}
  (rule:∀(i j:Int) (t u:Tok) (s:Shared) (Q:dR) (E:dR),C i j ->AnJ YU ->AJM Apg):
  lW X f (rI C (ie YU)):=by
 intro pins s σ H x y v u Q I rx ry h;show fz i j rfl hc q h;show P9;show Ŏ;exact Anu s _ _ hc (AL8 YU)
theorem QB{f:ţ}{g:Afy}
  (rule:∀(i j:Int) (t u:Tok) (s:Shared) (Q:dR) (E:dR),AnJ YU ->AJM Apg):
  lW X f (Jt (ie YU)):=by
 intro pins s σ H x y v u Q I rx ry h;show Bn i j rfl q h;show P9;show Ŏ;exact Anu s _ _ (AL8 YU)
theorem KJ{f:ţ}{g:AG3 Bool}
  (rule:∀(i j:Int) (t u:Tok) (s:Shared) (Q:dR) (E:dR),Q (.bool YU) s ->AJM Apg):
  lW X f (Jt fun i j=> .bl YU):=by
 intro pins s σ H x y v u Q I rx ry h;show Bn i j rfl q h;show P9;show Ŏ;exact Anu s _ _ (AAh (.bl YU) q)
def acX(lT):Prop:=0<j/\j<1073741824
def abT(lT):Prop:=j≠0/\j.natAbs<1073741824
def Dv(lT):Prop:=0<=j/\j<=1000000/\i.natAbs<2^64
def acY(lT):Prop:=(Ax9)\/ (-(2^64)<j/\j<2^64)
theorem yfl:AAn Add (Jt (ie (i+j))):=QB fun _ _ _ _ _ _ _ q=>add_int q
theorem yhx:AAn Sub (Jt (ie AXJ)):=QB fun _ _ _ _ _ _ _ q=>sub_int q
theorem yeb:AAn Mod (rI (E8 j (j≠0)) Aqw):=Wo fun _ _ _ _ _ _ _ hc q=>mod_int' hc q
theorem yg0:AAn Pow (rI Dv A0'):=Wo fun _ _ _ _ _ _ _ hc q=>pow_int_small hc.1 hc.2.1 hc.2.2 q
theorem unI{f:xy AOJ}{g:Int ->Int}
  (rule:∀(i:Int) (t:Tok) (s:Shared) (Q:dR) (E:dR),AnJ (g i) ->AJM (f AIQ)):
  UnR X f (P3 rU i (g i)):=by
 intro pins s σ H x v Q I rx h;show D' i rfl q;show P9;exact rule i t s _ _ (AL8 (g i))
theorem yhf:UnR X (unaryOp .USub) (P3 rU i (-i)):=unI (AiY q (neg_int q))
#where
def QC:AuJ
 | Ρ,Ρ=>true | Ρ,IR=>true | IR,Ρ=>true | Ρ,Kx=>true | Kx,Ρ=>true | Ρ,HZ=>true | HZ,Ρ=>true
 | IR,IR=>true | Kx,Kx=>true | HZ,HZ=>true | .Jo _,.Jo _=>true
 | IR,HZ=>true | HZ,IR=>true | Kx,HZ=>true | HZ,Kx=>true
 | _,_=>false
def rEq:R2:=A6Q (AS5 (AAp (x=y)))
def rNe:R2:=A6Q (Q (.bl (!(ω (x=y)))) H)
section
variable{X:Cx}{a b c:Expr}{ta tb tc:TE}{pos:Pos}
theorem ygn(Amb){s:Shared}{Q:VK}{k k' :Bool}(I:Η)(q:AS5 k)(e:k=k'):tJ (.bool k') s:=by
 subst e;exact AAh (.bl k) q
theorem yis:Ak7 Lt (i<j):=KJ fun _ _ _ _ _ _ _ q=>lt_int q
theorem yi1:Ak7 LtE (i<=j):=KJ fun _ _ _ _ _ _ _ q=>le_int q
theorem yin:Ak7 Gt (j<i):=KJ fun _ _ _ _ _ _ _ q=>gt_int q
theorem yc2:AG0 IsNot (fun x y H Q=>y= Ρ/\Q (.bl (!(ω (x= Ρ)))) H):=by
 intro pins s σ H x y v u Q I rx ry h;show sd q h;cases ry;refine isnot_none_gen (ygn I q ?_);cases x<;>first
  | (cases rx;rfl)
  | (show P9;rfl)
def isObj:jn HO
 | YA=>true
 | Lc .ins=>true
 | _=>false
theorem bO(b:Expr){op:CmpOp}(h:op≠ .In:=by decide)(h2:op≠ ð:=by decide):APs:=by
 have e1:(op==CmpOp.In)=false:=by cases op<;>first | rfl | show ADq h
 have e2:(op==CmpOp.NotIn)=false:=by cases op<;>first | rfl | show ADq h2
 cases b<;>simp [behindInMarks,e1,e2]
theorem yb8(A4c):PE X AMA AYR:=by
 show EC;exact wpAny_Compare1 (Ao3 fun v u s2 x y H2 I2 rx ry q=>A1L) hm
def QD(t:TE):TT:=fI (t σ H fun x H' =>∃k,x= .bl k/\Q k H')
theorem yc6(A4c):PT X AMA (QD AYR):=by
 show EC;refine wpAny_isTrue_Compare1 (UE km v ALE (cJ (eM hb) (ALW u y r2 (cJ (Acl _ I2 r1 r2 q2) (A7Y c))))) hm
 subst e;cases r3;exact BCK H3 I3 q3
def Dw(r r' :R2)(ta tb tc:TE):TE:=A0r (fun z H3=>∃k,z= .bl k/\
 (AC (A2 k) (tc σ H3 fun w' H4=>r' y w' H4 Q) (Q AB_ H3)))
theorem z7b{op op' :CmpOp}{r r' :R2}(ho:lW X APp r)(ho' :lW X AtB r')(ha:c_)(hb:ACW)(hc:PE X c tc)
  (hm:lastMarks [op,op'] [b,c]=false:=by show AOD):PE X A5z (Dw r r' ta tb tc):=by
 show EC;refine Compare_chain (UE km v ALE (chain_link (cJ (eM hb) (ALW u y r2 (cJ (Acl _ I2 r1 r2 q2) (A7Y d)))))) hm
 subst e;cases r3;show Ad';cases k with
 | false=>exact ite_ff (Hm ADK H3 I3 q3)
 | true=>exact ite_tt (chain_last (cJ (hc pins s3 σ H3 _ I3 q3) fun w' s4 aaf=>by obtain⟨z',H4,I4,r4,q4⟩:=aaf;exact ho' pins s4 σ H4 y z' u w' Q I4 r2 r4 q4))
def acZ(K:W.Frag)(x:V)(H:Hp)(k:Bool):Prop:=
 match x with
 | Ρ=>Hk k
 | UR=>k=b
 | B8=>k=(i !=0)
 | .str y=>Υ y.length/\k=(AF y.length !=0)
 | .Jo y=>Υ y.size/\k=(AF y.size !=0)
 | L_=>(∃xs,ALk/\Arp)\/ (∃xs,AUn/\Arp)\/∃kvs,KL p GM/\k= ! kvs.isEmpty
 | _=>False
theorem pL:De sizeLine<2^63:=ADd sizeLine_eq
theorem zz6:AAn Add (fun x y H Q=>∃i j,x= .str i/\y= .str j/\Υ (i.length+j.length)/\Q (HE (i++j)) H):=by
 intro pins s σ H x y v u Q I rx ry h;show fz i j rfl hz q h;show P9;show Ŏ;exact add_str (fun t' tk=>⟨.str (i++j),H,I.tok _,CO,q⟩) hz
def yh7(b:Expr):Prop:=A'0
theorem vals1{x:V}{us:Ζ}(r:xC [x]):A4X:=by
 cases r with
 | cons r1 r2=>cases r2;exact Md r1
theorem vals2{x y:V}{us:Ζ}(r:xC lc):∃u w',us= [u,w']/\im/\RelV y w' :=by
 cases r with
 | cons r1 r2=>
  cases r2 with
  | cons r3 r4=>cases r4;exact EG _ _ r1 r3
theorem z58:hV "abs" (PD xs (∃i,xs= [B8]/\APU ANP)):=by
 intro pins s σ H xs us Q I r h;show D' i rfl q;obtain⟨u,rfl,t,rfl⟩:=vals1 r;exact call_abs_int fun u tk=>(AL8 ANP)
def ac0(K:W.Frag)(x:V)(H:Hp)(n:Nat):Prop:=
 match x with
 | .str y=>Υ y.length/\n=y.length
 | .Jo y=>Υ y.size/\n=y.size
 | L_=>(∃xs,ALk/\BGd)\/∃xs,AUn/\BGd
 | _=>False
#where
structure yQ (h:Heap) (x dx C:Addr) (mA:CD):Prop where
 obj:B_ h.get? AgU
 ns:AX'
 ne:AQn
theorem zsm{h:Heap}{dx:Addr}{mA:CD}(n:AX'):A'B (Ê dx od):=by
 obtain⟨o,es,ep,ho,hd,hk,_,hm⟩:=n;show DB o ho (Jn name);have e:=hm name;unfold nsFind findBy at e;rw[<- Array.find?_toList] at e;unfold W.lookIn;rw[hd];dsimp only;split
 ·rename_i y q;show Pf;exact uv some
 ·show GW;show Pf;have a:Si es.toList.any (·.refKey):=by
   rw[List.any_eq_false];intro y hy;obtain⟨z,t,hkey⟩:=hk y (Array.mem_toList_iff.mp hy);simp [DictEntry.refKey,hkey]
  have a' :¬(By es.toList.any (·.refKey)):=AE a zG
  show AV a';exact uv some
theorem yQ.look{h:Heap}{x dx C:Addr}{mA:CD}(I:yQ h x dx C mA):A'B (W.InstAt h x AgU C (BO od)):=
 let ⟨od,ho,hl⟩:=zsm I.ns
 ⟨od,IB I.obj rfl ho,hl⟩
section
variable{prog:Program}{w:World}{A:Around}{E:dR}{s:Shared}{K:W.Frag}{x dx C f:Addr}{mA:CD}{name:Str}{v:Value}
theorem ybn{expr:Bool}{Q:dR}(X:Ĵ)(I:AjS)(hg:AVO name)(hh:ATd)
  (ha:ATs name) (hv:AwS) (hv' :Ad6 v) (h:Q v AIS):
  Ff (getAttr XI name expr):=by
 obtain⟨od,J,hl⟩:=I.look;exact W.get_value X J (W.plainGet_of hg).1 (W.findObj_own hh ha rfl (i5 hl hv)) hv' h
theorem z7r{pl:ATW}{Q:DJ (Value×Ζ)}(X:Ĵ)(I:AjS)(hg:AVO name)
  (hf:xl name EQ) (ht:AIw) (hv:mA name=none) (h:Q (.ref f,[.ref x]) s):
  Ff (getMethod XI name pl):=by
 obtain⟨od,J,hl⟩:=I.look;exact W.method_fn X J (W.plainGet_of hg).1 (W.plainGet_of hg).2 hf (beq_iff_eq.mp ht) (by show(W.lookIn name od).map (·.isSome)=some false;rw[hl,hv];rfl) h
theorem ybj{ns:ο}{Q:DJ Unit}(X:Ĵ)(I:AjS)
  (hs:Akx) (hp:BFP) (ht:Az1 name) (hh:ATd)
  (hw:PySem.Within mA ns) (hsz:BDp)
  (h:vi (yQ h' x dx C (AG y (GL y name t_ (mA y)))) (AlH dx) (Q () (PR h' (s.toks+2)))):
  Ff Ax_:=by
 obtain⟨od,J,hl⟩:=I.look;refine W.set_plain X J hs (W.osa_open (s:=AIS) (r:=none) X J hp ht fun b=> ?_);show AU cd hc hd' W.any_some hh;have hx:B_ s.heap.get? (zC (some dx) .plain #[]):=I.obj;show EF zZ (z9 (z9 (wpAny_loadPart hx (z9 (BAu AIS (W.looks_clsIn X hc) ?_)))));rw[hd'];refine zZ (a:=some dx) (z9 (zZ (z9 ?_)));refine wpAny_nsSet1 (s:=AIS) I.ns (ψ h' hn2 hs2);obtain⟨oD,esD,epD,hoD,hdD,hcD⟩:=hn2.count (PySem.Within.cons name v hw);show KW wpAny_lookBehind hoD (B4 hdD (pastItsLine_dict (zM hcD (AAm List.length_cons))))
 exact zZ (h _ ⟨FE hs2.2 _ (n_ I.ne) I.obj,hn2,I.ne⟩ hs2)
theorem zyy{R:Aec}{vs:Ζ}{kw:AH9}(X:Ĵ)(hm:BFQ)
  (hi:ACX) (hf:AZH)
  (h:æ E1 (A.under (AO6 ⟨GN::vs,kw⟩)) EQ ⟨.ref X2::vs,kw⟩ (W.InitBack X2 R) Az4):
  æ E1 A E3 ⟨vs,kw⟩ R s:=by
 obtain⟨hh,g,d,t,os⟩:=s;exact W.make_core (W.makes_of X hm) (W.looks_findIn X hi) (AG self (W.bind_fn X self hf)) Pe h
#where
def mQ(f:Str)(v:V):US ->US
 | []=> AQi
 | (g,x)::r=>AMr ((g,v)::r) ((g,x)::mQ f v r)
theorem zm6(f g:Str)(v:V):∀fs:US,(mQ f v fs).lookup g=AMr t_ (fs.lookup g)
 | []=>by
  show List.lookup g AQi=_;by_cases h:g=f
  ·have hb:aa g f:=beq_iff_eq.mpr h;show ř ACo
  ·show da hb (g==f) (beq_eq_false_iff_ne.mpr h);show ř ă
 | AhH=>by
  have ih:=zm6 f g v r;rw[Mo (mQ f v ((k,x)::r)) An9 rfl];by_cases hk:k=f
  ·show ADV;by_cases h:g=k
   ·have hb:aa g k:=beq_iff_eq.mpr h;show ř (bP h.trans hk)
   ·show da hb (g==k) (beq_eq_false_iff_ne.mpr h);show ř (D_ (fun e:g=f=>h (e.trans hk.symm)))
  ·show ADN;by_cases h:g=k
   ·have hb:aa g k:=beq_iff_eq.mpr h;show ř (D_ (fun e:g=f=>hk (h.symm.trans e)))
   ·show da hb (g==k) (beq_eq_false_iff_ne.mpr h);simp only [List.lookup,hb];exact ih
theorem znz(f:Str)(v:V):∀fs:US,f∈ A7r/\∀g,g∈fs.map (·.1) ->g∈ A7r
 | []=>⟨A0 mQ,fun g h=>by simp at h⟩
 | AhH=>by
  obtain⟨i1,i2⟩:=znz f v r;rw[Mo (mQ f v ((k,x)::r)) An9 rfl];by_cases hk:k=f
  ·show ADV;subst hk;exact⟨An,fun g h=>(AN h)⟩
  ·show ADN;show YE ?_ g h
   ·rw[List.map_cons];exact zU _ i1
   ·rw[List.map_cons] at h⊢;rcases zR.mp h with e | e
    ·exact zR.mpr (C5 e)
    ·exact zU _ (i2 g e)
theorem zmy(f:Str)(v:V):∀fs:US,(mQ f v fs).length<=fs.length+1
 | []=>A0 mQ
 | AhH=>by
  have ih:=zmy f v r;rw[Mo (mQ f v ((k,x)::r)) An9 rfl];by_cases hk:k=f
  ·show At7 (AZ hk)
  ·show At7 (Ω hk)
theorem lX.some_of{v:V}{o:LP}(r:lX (some v) o):∃u,N4 o/\JU:=by
 cases o with
 | none=>show AFZ
 | some u=>exact Ix u r
theorem lX.none_of{o:LP}(r:lX none o):KK o:=by
 cases o with
 | none=>rfl
 | some u=>show AFZ
theorem ztg{v:V}{u:Value}(r:JU):Ad6 u:=by
 cases v with
 | non=>show ASg ArM
 | bl b=>show ASg BGX
 | int i=>show AXe AWH
 | str x=>show AXe AWL
 | Jo b=>show AXe (Value.bytes b t)
 | flt b=>show AXe (Value.float b t)
 | ref a=>show ASg (AZw u)
 | ty n=>show ASg AxS
section
variable{P:Program}{w:World}{H H' :Hp}{h h' :Heap}{a C dx:Addr}{fs fs' :US}
theorem zvb(hok:Os)(e:AKO):∃mA,yQ h a dx C mA/\ (∀f,ApO)/\AsG/\BEn/\AjD:=by
 obtain⟨d,z,ne,ob,mA,n,r,q⟩:=(Bz (YR a AN_) (hok a _ e));exact⟨mA,⟨ob,n,ne⟩,r,q,z,d⟩
#where
structure Cls (wP):Prop where
 pg:AVO Str.empty
 hd:ATd
 po:BFP
 sa:Akx
theorem Cls.get{K:W.Frag}{C:Addr}(c:AIv)(f:Str):AVO f:=c.pg
def aN(K:W.Frag)(C:Addr)(f:Str):Prop:=ATs f
theorem aN.taker{K:W.Frag}{C:Addr}{f:Str}(n:Ab5):Az1 f:=AUW W.takerIn (show ATs f from n)
structure Con (eQ) (C:Addr) (f:Str) (v:V) (u:Value):Prop where
 at_:xl f u
 rel:JU
 get:Abk u "__get__" none
 cp:Si W.copiedNames.contains f
structure Meth (AXs) (m:Str) (f:Addr):Prop where
 at_:xl m EQ
 fn:AIw
 kp:AAt
section
variable{X:Cx}{pins:dJ}{σ:St}{H:Hp}{s:Shared}{a C dx:Addr}{fs:US}{f:Str}{v:V}{A:Around}{E:dR}
theorem zy5{b:Bool}{Q:dR}(I:Η)(e:AKO)(c:AfK)(n:sP)(A_t):A3a:=by
 obtain⟨mA,O,r,_,_,_⟩:=Ae8;show AFR (AZF (mA f) (A7 l (r f)))
 exact ybn I.kIn O (c.get f) c.hd n hu (ztg ru) AyS
theorem zpk{m:Str}{g:Addr}{pl:ATW}{Q:DJ (Value×Ζ)}(I:Η)(e:AKO)(c:AfK)(k:Meth X.K C m g)(l:AdZ m)
  (h:Q (.ref g,P1) s):qq (getMethod CB m pl):=by
 obtain⟨mA,O,r,_,_,_⟩:=Ae8;have hn:mA m=none:=lX.none_of (A7 l (r m))
 exact z7r I.kIn O (c.get m) k.at_ k.fn hn h
theorem zzn{y:V}{u:Value}{Q:DJ Unit}(I:Η)(e:AKO)(c:AfK)(n:sP)(hl:AQg)(ry:JY)
  (h:Ah4 (pV a AuI s')):A1I:=by
 obtain⟨mA,O,r,wi,_,ho⟩:=Ae8;have hz:Υ (Ps (fs.map (·.1))):=APN sizeLine_eq
 refine ybj I.kIn O c.sa c.po n.taker c.hd wi hz fun h' O' sb=>h _ ?_;have hd:∃o,qV dx:=let ⟨o,_,_,e',_⟩:=O'.ns;OR e';refine AMT a dx AWN (CA ho) (fc q z (FE sb.2 b hb z)) hd ?_
 refine⟨Lv dI O.ne ho,?_,O.ne,O'.obj,_,O'.ns,Jn g,AM g hg⟩
 ·have:=zmy f y fs;omega
 ·show lX ((mQ f y fs).lookup g) (AC (g=f) uA (mA g));rw[zm6];show OM g f
  ·rw[E6,E6];exact ry
  ·rw[Ω q,JI];exact r g
 ·show OM g f
  ·rw[q];exact Aq'.1
  ·refine Aq'.2 g (wi g (Ξ (hg ?_)));show(AC (g=f) uA (mA g))=none;show AV q;exact z
theorem Inv.made(NS):KB (upd (KG s.heap.objs.size (.own X2)) X2 (.ins C s.heap.objs.size [])) Az4:=by
 show AWR e1 W.emptyDict W.emptyDict (zX s.heap rfl);show À e2 (Abo push) BFz X2 BFz (fw (zX (s.heap.push W.emptyDict) (o:=W.instObj C s.heap.objs.size) rfl) Heap.size_push)
 have e3:Abo Ns s.heap.objs.size Ade:=⟨W.emptyDict,#[],_,e1,rfl,(fun e he=>(AHA he)),AJ3⟩
 have I1:=I.laid (a:=s.heap.objs.size) (o:= .own X2) (h' :=AGu W.emptyDict) (t' :=s.toks) AFJ C1 (C6 e1);refine ny (I1.laid (a:=i6) (o:= .ins C s.heap.objs.size [])) AFJ Aml ?_;have ne:s.heap.objs.size≠i6:=AXh;refine⟨AiA,G1,ne,e2,ARw,(Heap.Ns1.of_empty e3).at fun o q=>yT,C4 True.intro,fun y hy=>(AIn hy)⟩
theorem z2f{prog:Program}{w:World}{env:Env}{e:Expr}{f:Str}{pos:Pos}{s:Shared}{Q:dR}(hb:attributeBase e f env (Ô e)=eval e env)
  (h:Alw e o (P5 (getAttr o f true) Q s₁)):Ff (Ô (.Attribute e f pos)):=
 Attribute_any_ h (i5 arm_eval_Attribute hb)
#where
def aag(A7R):TE:=RR (A8x ATi)
def ac1(A7R):TE:=RR (∃a C dx fs v u,ABb (Ab0/\AIv/\Con K C f v u/\AdZ f/\ATi))
def aah(eQ)(ta tv:TE)(f:Str):TS:=Ax3 (∃a C dx fs,ABb (AJ5 AN_/\AIv/\Ab5/\AQg/\
 WC (upd H2 a AuI)))
def ac2(X:Cx)(op:Operator)(rd:kz):Prop:=
 ∀(pins:dJ) (s:Shared) (σ:St) (H:Hp) (x y:V) (u v:Value) (Q:VK),AEg im (RelV y v) (rd x y H Q) (inplaceOp op u v)
def yih(K:W.Frag)(ta tv:TE)(rd:kz)(f:Str):TS:=XN ta x (A8x (Mc tv y (rd v y H2 fun z H3=>∃Dy fs',BN H3 (.ins C Dy fs')/\fs'.length<1000/\WC (upd H3 a (.ins C Dy (mQ f z fs'))))))
section
variable{X:Cx}{o e value:Expr}{f:Str}{pos pos' tpos:Pos}{ta tv:TE}
theorem z92(A0j):A0v (aag X.K ta f):=by
 show EC;refine z2f hb (cJ z0 (PQ u aai));obtain⟨x,H1,I1,rx,a,C,dx,fs,v,ex,ea,c,n,l,q⟩:=aai;subst ex;show la;exact zy5 I1 ea c n l A9R
theorem z38(ha:PE X o ta)(hv:AkR)(hs:AX_ o):AEb (AQa o f) value (aah X.K ta tv f):=by
 show SD;show AsR u AyL (A6k ⟨x,H2,I2,rx,a,C,dx,fs,ex,ea,c,n,l,q2⟩);subst ex;show ŷ ov rx;exact zzn I2 ea c n l ry fun s3 I3=>⟨σ,_,I3,q2⟩
def ac3:kz:=Ai1 (i+j)
def ac4:kz:=Ai1 AXJ
#where
section
variable{X:Cx}{pins:dJ}{σ:St}{H:Hp}{s:Shared}{A:Around}{E:dR}{Q:dR}{c:Value}{b:Bool}
inductive tK (K:W.Frag) (H:Hp):AtJ where
 | non:sM Ρ "NoneType"
 | bl (x:Bool):sM (.bl x) "bool"
 | int (AFO):sM tq "int"
 | str (x:Str):sM ABz "str"
 | flt (x:UInt64):sM (.flt x) "float"
 | lst {a:Addr} {xs:Δ} (e:E_ f7):AqU
 | frz {a:Addr} {o:Obj} {xs:Δ} (e:E_ (w9 f7)):AqU
 | tup {a:Addr} {xs:Δ} (e:E_ L9):sM CB "tuple"
 | dK {a:Addr} {kvs:M'} (e:Ė):AqT
 | dT {a:Addr} {kvs:WZ} (e:AeD):AqT
 | ins {a C dx:Addr} {fs:US} (e:AKO) (cl:AIv) (ha:AuW)
   (hn:Abk AQE "__get__" (BO (KI "getset_descriptor.__get__"))) (htk:ρ (W.takesIn K AQE) true)
   (hm:Ar4):tK K H CB E3
#where
structure fC (k:Nat) (A:Around):Prop where
 hd:NB
 dp:A.depth+3*k+5<recursionLimit
 un:A.units+16*k+200<cLine
theorem fC.mono{j k:Nat}{A:Around}(r:fC k A)(h:j<=k):fC j A:=⟨r.hd,Fr r.dp,Fr r.un⟩
theorem fC.deeper(AlK)(r:fC Fc A)(env:Env):fC k (A.deeper env):=
 ⟨r.hd,by have:=r.dp;show A.depth+1+3*k+5<_;omega,by have:=r.un;show A.units+3+16*k+200<_;omega⟩
theorem zz0(A7y):(A.under AWl).depth=A.depth+1:=by
 first | rfl | simp [Around.under,Code.weight,Code.isCreation,Code.isGuard,Code.isCaller,Code.frames,Code.isFrame,guardIds]
theorem z0f(A7y):(A.under AWl).units=A.units+1:=by
 first | rfl | simp [Around.under,Code.cUnits,Code.frames,Code.isFrame]
theorem fC.make(AlK)(r:fC Fc A)(C:Addr)(us:Ζ)(kw:AH9):fC k (A.under AWl):=
 ⟨r.hd,by have:=r.dp;rw[zz0];omega,by have:=r.un;rw[z0f];omega⟩
theorem fC.depth(A_K):A.depth<recursionLimit:=Fr r.dp
theorem fC.units(A_K):A.units+64<cLine:=Fr r.un
def aaj:TA:=Agk []
def QH(ta:TE)(tr:TA):TA:=RR (Mc tr xs (Q AEt H2))
section
variable{X:Cx}{e:Expr}{es:AD}{te:TE}{t:TA}{pos:Pos}
theorem Wq:PA X [] aaj:=fun _ _ _ _ H Q I h=>Calls.spliced_nil ⟨[],H,I,B9,h⟩
theorem QJ(ha:SO)(hr:AUo)(hs:Ct starEach D6 (FD (BF e) (FC es)):=by rfl):PA X D6 (QH te t):=by
 intro pos pins s σ H Q I h;rw[hs];show fg (spliced (AZa e es));show Uf Calls.spliced_cons km u aak;show SV aak;exact cJ (hr pos pins s1 σ H1 _ I1 q1) fun us s2 aal=>by obtain⟨xs,H2,I2,r2,q2⟩:=aal;exact⟨FM,H2,I2,.cons r1 r2,q2⟩
def aam(t:TA):TE:=A'O L9
def aan(t:TA):TE:=A'O f7
theorem yg7{x1}(h:AUo):pz Tuple es x1 (aam t):=by
 show AKU hq;refine wpAny_Tuple_spliced (cJ (fh h pos H _ I hq) A0a)
 have hf:ii s1.heap.objs.size:=AIC zL;refine Hm AdW (upd H1 s1.heap.objs.size L9) (x6 I1.laid (IM VU) C1 ?_) (q _ hf);exact⟨z,us,r,EG _ LW _ rfl⟩
theorem yh0(h:AUo):PE X AvM (aan t):=by
 show AKU hq;refine wpAny_List_spliced (cJ (fh h pos H _ I hq) A0a)
 have hf:ii s1.heap.objs.size:=AIC zL;refine Hm AdW (upd H1 s1.heap.objs.size f7) (x6 I1.laid (IM VU) C1 ?_) (q _ hf);exact⟨z,us,0,r,LW⟩
#where
abbrev Sp:=Δ ->Hp ->BG VK XK
abbrev Ca:=Ο EX Hp Shared XK (DJ Value)
structure wQ (XU) (A:Around) (outer:EX) (s:Shared) (H:Hp):Prop where
 frames:ARe outer
 mod:Mod K mg base
 bs:yy base.get? (M_/\F8)
 Jq:base.objs.size<=s.heap.objs.size
 funs:s.heap.FunFrames base outer
 Ks:MV (frs outer) F8
 hok:nW P w H s.heap
 bare:BFc
def CE(outer:EX)(P:Program)(w:World)(H:Hp)(s:Shared)(Q:VK)(u:Value)(s' :Shared):Prop:=
 ∃v H',s'.os=s.os/\AIH/\AsC/\Aze/\JU/\g_
def CR(CX:Ca)(outer:EX)(P:Program)(w:World)(H:Hp)(s:Shared)(Q:VK)(E:XK)(r:Result)(s' :Shared):Prop:=
 match r with
 | .ok (.ret u)=>Aok
 | .ok _=>False
 | .error e=>Ajn e s'
structure gq (XU) (CX:Ca) (k:Nat) (f:Addr) (fd:FuncData) (ps:ο) (sp:Sp):Prop where
 len:Ayr
 run:∀(A:Around) (outer:EX) (s:Shared) (H:Hp) (args:Args) (us:Ζ) (vs:Δ) (Q:VK) (E:XK),A6R ARD (æ pd A EQ args (CR CX outer P w H s Q E) s)
theorem gq.imp(sR)(Acw){CX:Ca}{k:Nat}(AYQ){ps:ο}{sp sp' :Sp}(F:A0Q sp)
  (h:∀vs H Q E,sp' vs H Q E ->ARD):A0Q sp' :=
 ⟨fun vs H Q E q=>F.len vs H Q E (D5 h q),fun A outer s H args us vs Q E hr he hb hv hs=>F.run A outer s H args us vs Q E hr he hb hv (D5 h hs)⟩
theorem wQ.make(sR)(Acw)(AvR){s:Shared}{H:Hp}(e:ARN A)(C:Addr)(us:Ζ)(kw:AH9):
  ARN (A.under AWl):=⟨by first | exact e.frames | (simpa [Around.under,Code.envs,Code.isFrame,pushEnvs] using e.frames),e.mod,e.bs,e.Jq,e.funs,e.Ks,e.hok,e.bare⟩
section
variable{X:Cx}{pins:dJ}{σ:St}{H:Hp}{s s' :Shared}
theorem Inv.env0(NS):x_ wQ X.base X.A X.stack s H:=
 ⟨I.ok.frames,I.ok.mod,I.bs,zM I.ok.Jq I.sz,I.stack,I.stkFree,I.hok,I.bare⟩
theorem Inv.after{Q:VK}{u:Value}(I:Η)(h:CE X.stack X.prog X.w H s Q u s'):tJ u s' :=by
 obtain⟨v,H',os,bare,un,hok,r,q⟩:=h;obtain⟨hh,g,d,t,os'⟩:=s';obtain rfl:os' =s.os:=os;exact⟨v,H',I.call (h' :=hh) (g' :=g) (d' :=d) (t' :=t) (ch:= []) un hok bare BCT,r,q⟩
#where
def abU(A4l):TE:=ALN (sp Agi H1 Q E)
def abV(sQ)(m:Str)(sp:Sp)(Nr:Δ)(E:XK)(ta:TE)(t:TA):TE:=RR (∃a dx fs,x= AR/\Ab0/\AdZ m/\
 Mc t vs (sp (x::Agi) H2 Q E))
def abW(sQ)(A4l):TE:=ALN (∀x dx,ii x ->ii dx ->AQn ->
 sp (.ref x::Agi) (upd (Nw dx (.own x)) x (nL [])) (UA H2 (v= Ρ/\HI x H2)) E)
def Binds(K:W.Frag)(fd:FuncData)(ps:ο)(ds:Ζ):Prop:=
 AQ4 us Ζ (Ĵ ->AOu (Ps (us++ds)) ->BCx AKV (us++ds))
theorem Binds.all{K:W.Frag}{fd:FuncData}{ps:ο}(h:∀us:Ζ,AuA (bindArgs fd AKV=pure AXA)):ż:=fun s us _ hl=>by
 rw[List.append_nil] at hl⊢;exact .of_eq (h us hl)
def Passes(CX:Ca)(X:Cx)(E:XK):Prop:=∀(pins:dJ) (σ:St) (H:Hp) (s:Shared) (e:Value) (s' :Shared),Η ->CX X.stack H s E e s' ->AVR
section
variable{X:Cx}{CX:Ca}{k:Nat}{f C:Addr}{fd:FuncData}{ps:ο}{sp:Sp}{Nr:Δ}{ds:Ζ}{E:XK}{x m:Str}{p pos apos:Pos}{e o:Expr}{es:AD}{ta:TE}{t:TA}
structure Mk (K:W.Frag) (C f:Addr):Prop where
 makes:BFQ
 init:ACX
 fn:AIw
 kp:W.keepIn K E3=true
#where
def PK(X:Cx)(kws:AOE)(t:TA):Prop:=
 ∀(pos:Pos) (pins:dJ) (s:Shared) (σ:St) (H:Hp) (Q:AKS),ã (Ŷ (evalAll ((backToKw pos (keywordEach kws X.env)).map (·.2))) AP)
section
variable{X:Cx}{CX:Ca}{k:Nat}{f C:Addr}{fd:FuncData}{ps ks:ο}{sp:Sp}{E:XK}{x m:Str}{p pos apos kpos:Pos}{e o:Expr}{es:AD}{kws:AOE}{te ta:TE}{t tk:TA}{nm:Eg Str}
structure aao (eQ) (fd:FuncData) (ps ks:ο) (g:AzR) (gV:AmA):Prop where
 to:∀(s:Shared) (us ws:Ζ),Ĵ ->AOu (MI g us ws) ->BindsTo s fd ⟨us,ks.zip ws⟩ (ps.zip (g us ws))
 rel:∀{vs:Δ} {us:Ζ} {zs:Δ} {ws:Ζ},ACH ->Vals zs ws ->Vals (gV vs zs) (g us ws)
def aap(sp:Sp)(gV:AmA)(E:XK)(t tk:TA):TE:=ALN (Mc tk zs (sp (gV vs zs) H2 Q E))
variable{g:AzR}{gV:AmA}
#where
structure aC (N P:ο) (sc:Scope):Prop where
 kind:Aib
 co:Hk sc.isCoroutine
 gen:Hk sc.isGenerator
 nd:N.Nodup
 pre:N.take P.length=P
 par:∀x∈P,Ajz ALZ
 nofree:∀y∈sc.names,y.2≠ Ll
theorem ztc(Awr):A8z (AhZ binds)
 | [],_,_=>rfl
 | (n,v)::r,m,h=>by
  unfold bindL;rw[ztc (AVe (ASd h w hw))];split
  ·have:x≠n:=by rintro rfl;exact AXV
   simp [this]
  ·rfl
theorem ztn(Awr):A8z (Aha binds)
 | [],_,_=>rfl
 | (n,v)::r,m,h=>by
  unfold bindC;rw[ztn (AVe (ASd h w hw))];split
  ·rfl
  ·have:x≠n:=by rintro rfl;exact AXV
   simp [this]
theorem ztl(A5Y):∀{P:ο} {vs:Ζ} {i:Nat} {m:CD},Ο P.Nodup (Zl P) ADz (AGo kindOf) (ρ (AhZ (P.zip vs)) v)
 | [],_,_,_,_,h,_,_=>AJl
 | A8,[],_,_,_,_,h,_=>AJl
 | p::P,AK9,0,m,nd,h1,h2,hk=>by
  simp at h1 h2;subst h1;subst h2;show bindL kindOf AY5 m p=_;unfold bindL;rw[Ayb ztc,AZ hk];simp
 | p::P,AK9,BQ,m,nd,h1,h2,hk=>by
  show AhZ AY5=_;unfold bindL;exact tz ztl AXa à AIe hk
theorem zse(A5Y):∀{P:ο} {vs:Ζ} {i:Nat} {m:CD},Ο P.Nodup (Zl P) ADz (kindOf x≠some AOt) (ρ (Aha (P.zip vs)) v)
 | [],_,_,_,_,h,_,_=>AJl
 | A8,[],_,_,_,_,h,_=>AJl
 | p::P,AK9,0,m,nd,h1,h2,hk=>by
  simp at h1 h2;subst h1;subst h2;show bindC kindOf AY5 m p=_;unfold bindC;rw[Ayb ztn,Ω hk];simp
 | p::P,AK9,BQ,m,nd,h1,h2,hk=>by
  show Aha AY5=_;unfold bindC;exact tz zse AXa à AIe hk
def start(N:ο)(vs:Δ):St:=vs.map some++AJh (N.length - vs.length) none
def gQ(CX:Ca)(P:Program)(BAc)(N:ο)(qual:Str)(scope:Scope)(f:Addr)(cd:Value)(A:Around)(outer:EX)(s:Shared)(H:Hp)(E:XK):Cx where
 prog:=P
 w:=w
 K:=K
 mg:=mg
 base:=base
 A:=A.deeper (AQf cd)
 N:=N
 s₀:=s
 H₀:=H
 env:=A_U
 outer:=outer
 stack:=A_U::outer
 ex:= []
 calm:=true
 fn:=C4 true
 pn:= []
 xe:=fun e s' =>wpAny pd (A.deeper (AQf cd)) (leaving (AQf cd) e) (E8 s'' (Ajn e s'')) (fun e' s'' =>Ajn e' s'') s'
theorem zxj{sc:Scope}{n:Nat}{x:Str}(h:ALZ):∃c,xA (Ag' n sc.names []):=by
 have q:=W.cellsFrom_some sc.names n [] (C5 h);exact Option.isSome_iff_exists.mp q
theorem z1v(A8k){N ps:ο}{qual:Str}{scope:Scope}{f:Addr}{cd:Value}{A:Around}{outer:EX}{s s1:Shared}{H:Hp}{E:XK}{us:Ζ}{vs:Δ}
  (S:A1m) (hd:NB) (e0:ARN A) (hl:BCO) (r:ACH)
  (x:InCallC s s.heap.objs.size (bindL AzX AXA ARw) (cellsFrom X2 scope.names []) (bindC AzX AXA ARw) s1):
  Inv (gi (Abd cd)) [] AWe H s1:=by
 have hpl:ps.length<=N.length:=by have:=congrArg List.length S.pre;show Ap List.length_take;omega
 obtain⟨h1,tk,rfl,hk⟩:=x.done;have QK:∀b:Addr,b∉ (Abd cd outer s H E).ex:=fun b z=>(Al7 z)
 refine⟨⟨e0.mod,S.kind,rfl,rfl,GB,fun y z c h1 h2=> ?_,AM y hy,fun y c _ h=> ?_,C4 hd,Around.frames_deeper e0.frames,.inr ka,Az8,e0.bs,e0.Jq,fun b _ _=>QK b,Az8,e0.funs,e0.Ks⟩,
  rfl,e0.bare,Un.kept hk,BY x.toInCall.ns (fun i y v h1 h2 h3=> ?_),fun y c h=>(C6 (x.cell y c h)),e0.hok.fresh (zL _),ψ y c h,Anm,e0.hok.kept hk,?_⟩
 ·exact name_of_addr x.apart (BDU h1) (PySem.mem_of_lookup h2)
 ·have hy:BFe nk\/BFe Ll:=hy;rcases hy with hy | hy
  ·exact zxj hy
  ·exact absurd rfl (S.nofree _ (BDU hy))
 ·exact Nat.le_of_lt A2Y
 ·show Afe (by
   unfold start at h2;show ABh vs.length
   ·exact hi
   ·rw[List.getElem?_append_right (BH hi)] at h2
    rw[List.getElem?_replicate] at h2;split at h2<;>cases h2)
  have ha:ADz:=by
   unfold start at h2;show AJf ATo h2
   cases e:vs[i]? with
   | none=>rw[e] at h2;cases h2
   | some a=>rw[e] at h2;cases h2;rfl
  show AU u hu rv r.get ha;have hp:CS ps y:=by
   rw[<- S.pre,List.getElem?_take_of_lt ξ];exact h1
  have ndP:ps.Nodup:=A7 S.pre (S.nd.sublist (List.take_sublist _ _))
  show BB u rv;rcases S.par y (yV hp) with k | k
  ·show B3 ⟨k,ztl ndP hp hu k⟩
  ·show Cn c e (zxj (n:=i6)) k;show RA ⟨.inl k,c,e,?_⟩;have q:=x.cell y c e;rw[zse ndP hp hu (by show scope.names.lookup y≠_;rw[k];decide)] at q
   exact q
 ·exact e0.hok.fresh (Nat.le_of_lt A2Y)
 ·unfold start;show _=N.length;show Ac' List.length_map List.length_replicate;omega
theorem Nt(A8k){k:Nat}{f:Addr}{name qual:Str}{params:Arguments}{body:LM}{scope:Scope}{dV kV doc pm cdv ct oc:Value}{an od:JP}
  {osl:í} {N ps:ο} {sp:Sp} (lk:AcX (.func A'6) osl) (hcd:BCl) (S:A1m)
  (len:Ayr)
  (hbody:∀(A:Around) (outer:EX) (s:Shared) (H:Hp) (vs:Δ) (Q:VK) (E:XK),AHU k (xS qual scope) ->ARD ->
   ∃t,Dg Ai4 body t/\t (AHx (E4 H' Abm) Q) AWe H):
  PY base CX Fc f A'6 ps sp:=by
 show B6 len (fun A outer s H args us vs Q E hr e0 hb r hsp=> ?_);have hl:=iX len hsp;have KX:Ĵ:=e0.mod.Jp.keeps (HK (WU e0.bs).1);have lim:s.heap.NoLimit:=e0.mod.nolimit.keeps (HK (WU e0.bs).1);have hkind:∀y∈ps.zip us,ρ (scope.names.lookup y.1) AOt\/ (ρ (scope.names.lookup y.1) nk/\ A2 (AAL (Ag' X2 scope.names []) y.1)):=fun⟨n,v⟩ hy=>by
  show AFM (S.par n (BCG hy))
  ·show B3 q
  ·show DI ⟨q,W.cellsFrom_some _ _ _ (C5 q)⟩
 refine codeAny_call_function hr.depth (KX _ _ lk) rfl S.co S.gen rfl (W.codeRec_of KX hcd) (D5 hb ?_);refine wpAny_newFunctionEnv_cells S.kind hkind (Iy env he s1 x);subst he;show B6 (lim.keeps x.toInCall.keep) (codeAny_func ?_);obtain⟨t,ht,hq⟩:=hbody A outer s H vs Q E (hr.deeper _) hsp;have I:Inv Ai4 [] AWe H s1:=z1v S hr.hd e0 hl r x;refine wpAny_mono (ht [] s1 AWe H _ I hq) (ψ fl s' hs) fun e s' hs=>hs;have fin:∀{σ' :St} {H' :Hp} {v:V} {u:Value},Inv Ai4 [] σ' H' s' ->JU ->g_ ->Aok :=
  fun{σ' H' v u} J rv q=>⟨v,H',J.os,J.bare,J.base,J.hok,rv,q⟩
 cases fl with
 | ret u=>
  obtain⟨v,σ',H',J,rv,q⟩:=hs;exact fin J rv q
 | next=>
  obtain⟨σ',H',J,q⟩:=hs;exact fin (v:=V.non) (u:=Value.none) J rfl q
 | brk=>
  show AJn q hs (False.elim q)
 | cont=>
  show AJn q hs (False.elim q)
section
variable{X:Cx}{x:Str}{p pos:Pos}{e:Expr}{es:AD}{t:TA}{id T:String}{r:UX}
def Nu(r:UX)(t:TA):TE:=ALN (r vs H1 Q)
theorem QL(hc:hV id r)(Ŝ)(hv:ď qE)(ha:AUp)(hn:sw :=by decide)(hdb:B1 x "__debug__":=by decide)
  (yb):Azx:=by
 show EC;refine wpAny_Call_Name_kw (AAx hv ?_ hn hdb);exact PyProof.Rows.callWith_builtin1 (UE AIY us aaq (by obtain⟨vs,H1,I1,r1,q1⟩:=aaq;exact Pi hc vs us Q I1 r1 q1)) he hpl
theorem Wr(hc:fB X sq r)(Ŝ)(hv:ď sq)(ha:AUp)(hn:sw :=by decide)(hdb:B1 x "__debug__":=by decide)
  (yb):Azx:=by
 show EC;refine wpAny_Call_Name_kw (AAx hv ?_ hn hdb);exact PyProof.Rows.callWith_type1 (UE AIY us aar (by obtain⟨vs,H1,I1,r1,q1⟩:=aar;exact Pi hc vs us Q I1 r1 q1)) he hpl
#where
#print L2
namespace HT
open PySem PyProof.Rows
def lexLt:Φ ->Φ ->Bool
 | [],[]=>false
 | [],A8=>true
 | A8,[]=>false
 | FM,AEf=>GL x y (lexLt xs ys) (ω (x<y))
section
open PySem.SeqAt
open PySem.AutoSeq1 (wpAny_loadPart')
open PySem.MeetsSeq PySem.MeetsSeq2 PySem.MeetsSeq3
#where
section
variable{prog:Program}{w:World}{A:Around}{E:dR}{s:Shared}
def sIx(n d:Nat):Ic ->Nat
 | none=>d
 | t_=>if v<0 then BCa else BCY
theorem yg4(n d:Nat)(hd:d<=n)(o:Ic):sIx n d o<=n:=by
 cases o with
 | none=>exact hd
 | some v=>
  show Aw0<=n;by_cases hv:v<0
  ·show DU hv;omega
  ·show AV hv;exact Nat.min_le_right _ _
theorem z2b(v:Int)(n d:Nat):A3c=CY (sIx n d (some v)):=by
 show A3c=CY Aw0;by_cases hv:v<0
 ·simp only [AZ hv];omega
 ·simp only [AR1];omega
theorem zy2(Ayv):A9c=(AYM,Avv):=by
 have h1:¬(Qb<0):=τ
 unfold Builtin.Slice.sliceAdjust;simp only [h1,if_false];refine Prod.ext ?_ ?_
 ·cases lo with
  | none=>rfl
  | some v=>exact z2b v n 0
 ·cases hi with
  | none=>rfl
  | some v=>exact z2b v n n
theorem zz2(i j:Nat):Builtin.Slice.slicePlaces K_ RE 1=j - i:=by
 unfold Builtin.Slice.slicePlaces;have h1:Qb>0:=τ
 simp only [h1,if_true,Int.ediv_one];split<;>omega
theorem zpx{v:Value}{o:Ic}{Q:DJ Ic}(p:IsPart v o)(h:Q o s):Ff (Builtin.Slice.slicePartIndex v):=by
 cases p with
 | none=>exact slicePart_none h
 | int i t=>exact slicePart_int h
theorem zlp{sl:Addr}(A5p){n:Nat}{Q:DJ (Int×Int×Nat)}(hs:ApQ)(pl:Ala)(pu:Alb)
  (h:Q (AYM,1,sIx n n hi - sIx n 0 lo) s):Ff (Builtin.Slice.sliceApplied (AA sl) (pure E5)):=by
 show Ki os hos hcs hds hs;unfold Builtin.Slice.sliceApplied Builtin.Slice.sliceFields;show EF z9 (Ak2 vl rfl (z9 (Ak2 vu rfl (z9 (Ak2 Χ rfl AO0)))));show IF slicePart_none;show ADt (aa Qb 0);show dl
 refine z9 (zpx pl (z9 (zpx pu Arv)));show fg (match A9c with | (lo,hi)=>pure (lo,Qb,Builtin.Slice.slicePlaces lo hi 1))
 rw[zy2 lo hi n];show fg (pure (AYM,Qb,Builtin.Slice.slicePlaces AYM Avv 1));rw[zz2];exact zZ h
theorem z7s(xs:D3)(i k:Nat):WF (AAj k filterMap) (AHf m xs[AlB]?)=WF (xs.toList.drop i).take k:=by
 have e:(AG (De m) xs[AlB]?)=ArL:=by
  funext m
  have:AlB=i+m:=τ
  rw[this]
 rw[e];have:=pick_run xs i k;show Ap List.filterMap_map;have e2:((AG x xs[x]?) ∘ XX (i+x))=ArL:=rfl;show Ap e2;rw[this]
theorem getItem_tuple_cut{t sl:Addr}{items:D3}(A5p){Q:dR}(ht:IsTup s.heap t items)(hs:ApQ)(pl:Ala)(pu:Alb)
  (hw:¬(AHT=0/\AOs=items.size))
  (h:ALu (ac (WF An3 AQ5)))
  (hsz:Ads):Ff (getItem (AA t) (AA sl)):=by
 have Bg:sizeOk (.seq (WF An3 AQ5)):=by
  show Υ (An3 AQ5).toArray.size;rw[List.size_toArray,List.length_take,List.length_drop,Array.length_toList];omega
 have hj:AOs<=items.size:=yg4 _ _ C1 hi;show Ki os hos hcs hds hs;have hTs:s.TypeIs (AA sl) "slice" :=⟨os,hos,hcs⟩;unfold getItem
 try with_reducible refine wpAny_holding ?_
 first | show eC | skip
 show KW wpAny_sequenceKey ht.typeIs χ
 refine z9 (BAm "__getitem__" ht.typeIs PyProof.Rows.slot_tuple_getitem
  (wpAny_call_entry PyProof.Rows.slot_tuple_getitem ht.typeIs entry_tuple_getitem ?_ (args_tuple_getitem _ _)))
 show i' (Builtin.Tuple.tupleItemsOf (AA t));show L' tupleItemsOf_ ht;show L' wpAny_typeOf hTs;show DU χ
 refine z9 (zlp hs pl pu ?_);have hno:¬(A'l):=by
  intro q;rw[Bool.and_eq_true,Bool.and_eq_true] at q;have q1:CY AHT=0:=eq_of_beq q.1.1;have q2:AOs - AHT=items.size:=eq_of_beq q.2;exact hw ⟨τ,τ⟩
 show ADt A'l;rw[Ω hno,z7s]
 first
  | exact ATN (wpAny_newObj_type (zZ Abp) Bg)
  | exact ATN (wpAny_newObj_type (z9 Ar8) Bg)
  | exact z9 (ATN (wpAny_newObj_type Ar8 Bg))
  | exact z9 (ATN (wpAny_newObj_type (zZ Abp) Bg))
#where
#print HT
namespace L2
open PySem PySem.Spec PyProof.Rows
abbrev TO:=AV_ (PM Ic)
def PO(X:Cx)(e:ACu)(t:TO):Prop:=
 ∀(pins:dJ) (s:Shared) (σ:St) (H:Hp) (Q:PM Ic),ã (nB (evalPart e X.env) (IL u (∃o H',k7 /\IsPart u o/\Q o H')))
def ydl:TO:=Agk none
def QM(t:TE):TO:=nI t (∃i,x= B8/\Q (some i) H1)
section
variable{X:Cx}{e:Expr}{te:TE}{lo hi:ACu}{tl th:TO}{pos p2:Pos}
theorem yck:PO X none ydl:=by
 show EC;rw[evalPart_none];exact zZ ⟨none,H,I,Χ,h⟩
theorem ybx(h:SO):PO X AQA (QM te):=by
 show AKU hw;rw[evalPart_some];refine cJ Akc (PQ u aas);show SV aas;show ON i q q1;show LU r1;exact⟨some i,H1,I1,.int i t,q⟩
def SlR(X:Cx)(r:AGO):Prop:=
 ∀(pins:dJ) (s:Shared) (σ:St) (H:Hp) (x:V) (v vl vu:Value) (lo hi:Ic) (sl:Addr) (Q:VK),Η ->Op ->Ο ApQ Ala Alb (r x lo hi H Q) (∃T id,A3R/\Atr/\yz (getItem v (AA sl)))
def tSl(r:AGO)(te:TE)(tl th:TO):TE:=nI te (Mc tl l (AMp th u (r x l u H3 Q)))
theorem zyf{r:AGO}(hr:SlR X r)(he:SO)(hl:PO X lo tl)(hu:PO X hi th):Afp e AZj (tSl r te tl th):=by
 show EC;show Uf Subscript_ z0 v aat;show SV aat;refine wpAny_Slice (cJ (eM hl) (ALW vl l pl (cJ (AjX hu) (ABu vu ⟨u,H3,I3,pu,q3⟩))));rw[evalPart_none];refine zZ ?_;have I4:KB H3 Aoc:=I3.kept (t' :=s3.toks) (OC ob yT);obtain⟨T,id,hT,ht,hg⟩:=hr pins Aoc σ H3 x v vl vu l u s3.heap.objs.size Q I4 r1 (Heap.IsSliceOf.new ..) pl pu q3;show BGJ (subscriptTail e AZj v (AA s3.heap.objs.size)) Aoc;exact tail_any (ops:= [.ref s3.heap.objs.size,v]) ht hT hg û
def vU(xs:Δ)(lo hi:Ic):Δ:=ArJ
theorem zmk(xs:Δ)(lo hi:Ic):(vU xs lo hi).length<=xs.length:=by
 unfold vU;rw[List.length_take,List.length_drop];omega
def aau(lf):AGO:=ApD (∃a xs,x= AR/\kr/\
 ¬(BBR=0/\BBW=xs.length)/\AVZ (FA AV5))
theorem ygh:SlR X (aau X.K):=by
 intro pins s σ H x v vl vu lo hi sl Q I rx hs pl pu h;show fz a xs hx hw q h;cases rx;obtain⟨its,r,ht,hz⟩:=I.tuple hx;have hlen:its.toArray.size=xs.length:=AE List.size_toArray r.length.symm
 refine⟨"tuple",_,PyProof.Rows.slot_tuple_getitem.lookup,ht.typeIs,?_⟩;refine HT.getItem_tuple_cut ht hs pl pu (B4 hlen hw) ?_ (B4 hlen hz)
 rw[hlen];refine FL iA (A3U (.tup AV5)) (q _ ACR);exact Ajw A0J _ (Ac1 r.drop)
def ac5(lf):R2:=OK (∃a b ns ms,x= AR/\y= NH/\pK K H a AO8/\pK K H b (ms.map V.int)/\AS5 (HT.lexLt ns ms))
def abX(lf):R2:=OK (∃a b xs ys,ABb (y= NH/\kr/\pK K H b ys/\xs≠ []/\Aqy/\
 (ys= [] ->Q CB H)/\ (ys≠ [] ->AVZ (FA AVj))))
#where
def uT(n:Nat)(i:Int):Eg Nat:=if 0<=i then(AC CH (some i.toNat) none) else Ac_ (-E5<=i) (some (i+n).toNat)
def nF(G_)(xs:AI)(i:Int):Eg α:=(uT xs.length i).bind fun j=>AK3
theorem z1x{n:Nat}{i:Int}{j:Nat}(h:ρ (uT n i) j):ρ (seqIndex? i n) j/\j<n/\ -E5<=i/\CH:=by
 show A_ uT;by_cases h0:0<=i
 ·show ADT h0;by_cases h1:CH
  ·show ADT h1;have e:i.toNat=j:=zE h;exact⟨FF (seqIndex_of h0 h1) e,τ,τ,h1⟩
  ·show k8 (Ω h1)
 ·rw[Ω h0] at h;by_cases h1: -E5<=i
  ·show ADT h1;have e:(i+n).toNat=j:=zE h;exact⟨FF (AgK h1) e,τ,h1,τ⟩
  ·show k8 (Ω h1)
theorem zul(G_){xs:AI}{i:Int}{v:α}(h:Ã xs v):∃j,ρ (seqIndex? i xs.length) j/\Fk xs v/\Ad8/\ -Ă<=i/\kA:=by
 show A_ nF;cases e:uT xs.length i with
 | none=>show k8 e
 | some j=>
  rw[e] at h;obtain⟨h1,h2,h3,h4⟩:=z1x e;exact⟨j,h1,h,h2,h3,h4⟩
theorem Hy(G_){xs:AI}{j:Nat}{v:α}(h:Fk xs v):ρ (nF xs RE) v:=by
 have hj:j<xs.length:=ID h;have e:ρ (uT xs.length RE) j:=by
  unfold uT;rw[AZ ξ,kF];simp
 unfold nF;rw[e];exact h
def zvj(b:Expr):Prop:=A'0
def Ws(X:Cx)(r:R2):Prop:=
 ∀(value slice:Expr) (pins:dJ) (s:Shared) (σ:St) (H:Hp) (x y:V) (v u:Value) (Q:VK),Η ->Ο Op JY (r x y H Q) (Acm (subscripted slice false v u) [v,u] v u) (yz (subscriptTail value slice v u))
def MtR(A2i):Prop:=
 ∀(pins:dJ) (s:Shared) (σ:St) (H:Hp) (x:V) (xs:Δ) (v:Value) (us:Ζ) (Q:VK),AEg Op OV (r x xs H Q) (Ako v)
section
variable{X:Cx}{a b:Expr}{ta tb:TE}{pos:Pos}
theorem ygk{r:R2}(hr:Ws X r)(ha:c_)(hb:ACW)(hs:zvj b):Afp a b AYR:=by
 show EC;exact Subscript_ (Ao3 fun v u s2 x y H2 I2 rx ry q=>hr a b pins s2 σ H2 x y v u Q I2 rx ry q (hs _ _))
def QV(lf):R2:=A8u ALk
def QX(lf):R2:=A8u AUn
def QZ:R2:=OK (∃z i c,x= kL/\y= B8/\ARy/\Au'/\Q (HE AEq) H)
theorem z2e:Ws X (QV X.K):=by
 intro value slice pins s σ H x y v u Q I rx ry h hs;obtain⟨p,xs,i,z,rfl,rfl,hq,he,q⟩:=h;cases rx;show LU ry;obtain⟨its,r,pl,hz⟩:=I.list hq;show Ap7;show AU w ew tD r.get h2;show Ael;show Ř;have fin:tJ w s:=⟨z,H,I,tD,q⟩;by_cases h0:0<=i
 ·have hj:i.toNat=j:=by
   rw[seqIndex_of h0 h5] at h1;exact zE h1
  exact item_listR pl.isList h0 ξ (by rw[hj];simpa using ew) fin hs
 ·have hj:(i+ AH5).toNat=j:=by
   rw[AgK h4] at h1
   show APl;exact zE h1
  exact BEh w pl.isList.typeIs slot_list_getitem.lookup
   (wpAny_getItem_list_neg (Q:=Axu) pl.isList ξ BDa ξ (by rw[hj];simpa using ew) (FY fin)) hs
theorem yha:Ws X (QX X.K):=by
 intro value slice pins s σ H x y v u Q I rx ry h hs;obtain⟨p,xs,i,z,rfl,rfl,hq,he,q⟩:=h;cases rx;show LU ry;obtain⟨its,r,pl,hz⟩:=I.tuple hq;show Ap7;show AU w ew tD r.get h2;show Ael;show Ř;have fin:tJ w s:=⟨z,H,I,tD,q⟩;exact BEh w pl.typeIs slot_tuple_getitem.lookup
  (getItem_tuple (j:=j) (Q:=Axu) pl ξ ξ (Aek h1) (BH ew) (FY fin)) hs
theorem yfy:Ws X QZ:=by
 intro value slice pins s σ H x y v u Q I rx ry h hs;obtain⟨z,i,c,rfl,rfl,hz,he,q⟩:=h;show P9;show Ŏ;show Ap7;have hl:z.cps.toList.length=z.length:=A0 Str.length
 rw[hl] at h1 h4 h5;show Ř;exact tail_any (typeIs_str s z t) slot_str_getitem.lookup (getItem_str (c:=c) (by
  show da e1 (ω (i< -(AF (2^63)))) Aeb
  show da e2 (ω (i≥2^63)) Aeb
  rw[e1,e2,Bool.or_false]) (by rw[h1];simpa using h2) ⟨.str AEq,H,I.tok _,CO,q⟩) hs
def rIx(lf):R2:=OK (QV K x y H Q\/QX K x y H Q\/QZ x y H Q)
theorem z0d(its:Ζ)(n j:Nat)(u:Value):Obj.mapSeq (·.setIfInBounds j u) ACY=Ũ L4 (.seq (its.set j u).toArray n):=A0 Obj.mapSeq
theorem Inv.lst(AJW){p:Addr}{xs:Δ}(I:Η)(h:Afu):
  AoV (ABm/\Au2/\zo):=by
 show AZY (qi p h);exact⟨its,n,r,e,z⟩
theorem Inv.lstUpd(AJW){p:Addr}{xs ys:Δ}{its its' :Ζ}{n n' :Nat}{f:Obj ->Obj}(I:Η)(h:Afu)
  (ho:Au2) (hf:f ACY=Au7) (r:AqQ) (hz:Adt) (t:Nat):
  KB (xB p ys) (PR (s.heap.update p f) t):=by
 have e:ρ ((s.heap.update p f).get? p) Au7:=FF (Heap.get?_update_self f ho (by rw[hf]<;>rfl)) hf
 refine AMT p p (by rw[h];trivial) Pe (fc u q (AIV AHr trans q)) (C6 e) ?_
 exact⟨hz,its',n',r,e⟩
def Q5:A1X:=fun o i v H Q=>∃p xs k j,o= L_/\i= To/\Afu/\Ax7/\Q (xB p (xs.set j v))
theorem z8r:Qt X Q5:=by
 intro pins s σ H o i v ov iv u Q I ro ri rv h;obtain⟨p,xs,k,j,rfl,rfl,hp,hj,q⟩:=h;cases ro;show LU ri;obtain⟨its,n,r,ho,hz⟩:=I.lst hp;obtain⟨h1,h2,h3,h4⟩:=z1x hj;show Ael;show Ř;have I' :KB (xB p (xs.set j v)) (PH (s.heap.update p (Obj.mapSeq (·.setIfInBounds j u)))):=
  I.lstUpd hp ho (z0d its n j u) (r.set rv j) (B4 List.length_set hz) s.toks
 by_cases h0:0<=k
 ·have hk:k.toNat=j:=by
   rw[seqIndex_of h0 h4] at h1;exact zE h1
  exact W.ki_setAt ho h0 ξ (Aek h4) Atw
 ·have hk:(k+ AH5).toNat=j:=by
   rw[AgK h3] at h1
   show APl;exact zE h1
  exact W.ki_setBack ho ξ (Aek h3) ξ Atw
theorem ztw(Ayv):Apa.1=CY (HT.sIx n 0 lo)/\ Apa.2.1=CY (HT.sIx n n hi)/\ Apa.2.2=1:=by
 show uC ?_ rfl
 ·cases lo with
  | none=>show AwR
  | some i=>
   show A'_
 ·cases hi with
  | none=>show AwR
  | some i=>
   show A'_
theorem zrr(its:Ζ)(lo hi:Ic):slicePick its.toArray lo hi none=WF (its.drop (HT.sIx its.length 0 lo)).take (HT.sIx its.length its.length hi - HT.sIx its.length 0 lo):=by
 obtain⟨h1,h2,h3⟩:=ztw lo hi its.toArray.size;unfold slicePick;rw[h1,h2,h3];simp only [sliceRange_one,pick_run,List.size_toArray]<;>rfl
def aav(lf):AGO:=ApD (APj xs UT (Ag3 AV5))
theorem ybz:SlR X (aav X.K):=by
 intro pins s σ H x v vl vu lo hi sl Q I rx hs pl pu h;show Bn a xs hx q h;cases rx;obtain⟨its,r,ht,hz⟩:=I.list hx;have hlen:=r.length;refine⟨"list",_,slot_list_getitem.lookup,ht.isList.typeIs,?_⟩;refine wpAny_getItem_list_slice ht.isList hs pl pu Χ Μ ?_ BDa
 rw[zrr,<- hlen];refine FL iA (A3U (.lst AV5)) (q _ ACR);exact⟨A0J,_,0,Ac1 r.drop,LW⟩
def pB:jn V
 | Ρ=>true
 | Kx=>true
 | IR=>true
 | HZ=>true
 | _=>false
def HB:AuJ
 | Ρ,Ρ=>true
 | .bl a,UR=>Y1
 | .bl a,ACq=>Ay7
 | ACp,UR=>a==(AC b 1 0)
 | ACp,ACq=>Y1
 | AKD,AKE=>Y1
 | _,_=>false
theorem yge{A:Around}{s:Shared}{y x:V}{u v:Value}(ry:JY)(rx:Op)(fy:By pB y)(fx:AfJ):A1V (HB y x):=by
 cases y with
 | non=>
  cases ry;cases x with
  | non=>show tT Adp
  | bl b=>show tT (SeqAt.EqAt.none_bool b)
  | int b=>show P9;exact SeqAt.EqAt.none_int b t
  | str b=>show P9;exact SeqAt.EqAt.none_str b t
  | _=>show AEu fx
 | bl a=>
  cases ry;cases x with
  | non=>show tT (SeqAt.EqAt.bool_none a)
  | bl b=>show tT (SeqAt.EqAt.bool_bool a b)
  | int b=>show P9;exact SeqAt.EqAt.bool_int a b t
  | str b=>show P9;exact SeqAt.EqAt.bool_str a b t
  | _=>show AEu fx
 | int a=>
  show Ŏ;cases x with
  | non=>show tT (SeqAt.EqAt.int_none a t')
  | bl b=>show tT (SeqAt.EqAt.int_bool a t' b)
  | int b=>show AZD SeqAt.EqAt.int_int
  | str b=>show AZD SeqAt.EqAt.int_str
  | _=>show AEu fx
 | str a=>
  show Ŏ;cases x with
  | non=>show tT (SeqAt.EqAt.str_none a t')
  | bl b=>show tT (SeqAt.EqAt.str_bool a t' b)
  | int b=>show AZD SeqAt.EqAt.str_int
  | str b=>show AZD SeqAt.EqAt.str_str
  | _=>show AEu fx
 | _=>show AEu fy
def yR(x:V)(u:Value):Bool:=match u with
 | Χ=>HB Ρ x
 | .bool b=>HB (.bl b) x
 | AMK=>HB tq x
 | .str z _=>HB (HE z) x
 | _=>false
theorem yay(A4g)(r:JY)(f:By pB y):yR x u=HB y x:=by
 cases y with
 | non=>cases r;rfl
 | bl b=>cases r;rfl
 | int i=>show ADU
 | str z=>show ADU
 | _=>show AEu f
theorem Q6{x:V}:AoU (OV ->Ail ->us.any (yR x)=xs.any fun y=>HB y x)
 | _,_,B9,_=>rfl
 | y::xs,u::us,Ŀ,f=>by
  rw[List.all_cons,Bool.and_eq_true] at f;rw[List.any_cons,List.any_cons,yay r f.1,Q6 t f.2]
theorem Q7{A:Around}{s:Shared}{x:V}{v:Value}(rx:Op)(fx:AfJ):AoU (OV ->Ail ->∀u∈us,A1V (yR x u))
 | _,_,B9,_=>fun u hu=>by cases hu
 | y::xs,u::us,Ŀ,f=>fun u' hu=>by
  rw[List.all_cons,Bool.and_eq_true] at f;show N2 hu hu
  ·rw[yay r f.1];exact yge r rx f.1 fx
  ·exact Q7 rx fx t f.2 u' hu
def inV(x:V)(xs:Δ):Bool:=xs.any fun y=>HB y x
def rIn(K:W.Frag)(neg:Bool):R2:=OK (∃p xs,y= L_/\ (ALk\/AUn)/\AfJ/\Ail/\AS5 (AC neg (! inV x xs) (inV x xs)))
theorem zsw:AG0 In (rIn X.K false):=by
 intro pins s σ H x y v u Q I rx ry h;obtain⟨p,xs,rfl,hq,fx,fs,q⟩:=h;cases ry;show AYi
 ·show AxI SeqAt.in_listAt
 ·obtain⟨its,r,pl,hz⟩:=I.tuple hq;refine SeqAt.in_tupleAt (yR x) pl (fun w hw=>Q7 rx fx r fs w (BH hw)) (ACS ?_)
  rw[AQD (its.toArray.any (yR x)=its.any (yR x)),Q6 r fs]
  exact q
theorem zlb:AG0 NotIn (rIn X.K true):=by
 intro pins s σ H x y v u Q I rx ry h;obtain⟨p,xs,rfl,hq,fx,fs,q⟩:=h;cases ry;show AYi
 ·show AxI SeqAt.notIn_listAt
 ·obtain⟨its,r,pl,hz⟩:=I.tuple hq;refine SeqAt.notIn_tupleAt (yR x) pl (fun w hw=>Q7 rx fx r fs w (BH hw)) (ACS ?_)
  rw[AQD (its.toArray.any (yR x)=its.any (yR x)),Q6 r fs]
  exact q
theorem zk8:hV "len" (PD xs (A8r (APU ys.length))):=by
 intro pins s σ H xs us Q I r h;show Bn p ys hq q h;show NI;cases rx;show Ř;show AYi
 ·show AhP;show AMG;exact Calls.call_len_list pl.isList AJq (Aag ys.length (AxN hlen))
 ·show AhQ;show AMG;exact len_tuple pl AJq (Aag ys.length (AxN hlen))
theorem ztk:hV "len" (PD xs (∃z,xs= [kL]/\ARy/\APU z.length)):=by
 intro pins s σ H xs us Q I r h;show L7 z rfl hz q;obtain⟨u,rfl,t,rfl⟩:=vals1 r;show Ř;exact len_str ξ (AL8 z.length)
theorem zlc:va "list" (PD xs (A8r (y0 l l l (xL ys)))):=by
 intro pins s σ H xs us Q I r h;show Bn p ys hq q h;show NI;cases rx;have fin:∀(its:Ζ),Vals ys its ->Adt ->∀(h' :Heap) (c' :Nat),(∀b o',GG s.heap.get? o' ->GG h'.get? o') ->
   AQh {cls:= L4,dict:=none,data:= .seq its.toArray c',slots:= #[]} ->tJ MC LX:=fun its r' hz h' c' kp e=>
  (FL iA (Ae7 kp C1 (Bz (n9 _ h' _ Adf) ⟨hz,its,c',r',e⟩)) (q _ ACR))
 show AYi
 ·show AhP;show AMG;obtain⟨o,ho,hc,n,hd⟩:=pl.isList;exact call_list_seq p Pe ho hc hd (fun h' c' kp e=>fin its r' hz h' c' kp e) AJq
 ·show AhQ;show AMG;obtain⟨o,ho,hc,n,hd⟩:=pl;exact call_list_seq p (CA rfl) ho hc hd (fun h' c' kp e=>fin its r' hz h' c' kp e) AJq
theorem zi3:va "tuple" (PD xs (∃p ys,xs= [L_]/\ ((rS p ys/\y0 l l l (KG l ADS))\/ (AQw p/\HI p H)))):=by
 intro pins s σ H xs us Q I r h;show ALO p ys;show NI;cases rx;rcases h with ⟨hq,q⟩ | ⟨hq,q⟩
 ·show AhP;show AMG;refine call_tuple_list pl.isList (HQ h' kp) AJq
  have I1:AaZ:=ny I.kept kp;have I2:pV h'.objs.size ADS (PH (h'.push Abr)):=
   ny I1.laid (Th) C1 (Y3 ADS (Ajw hz its r'))
  exact A1Z (.ref h'.objs.size)
 ·show AhQ;exact call_tuple_same pl (AAh L_ q)
def Wt(K:W.Frag)(T:String)(x:V)(H:Hp):Prop:=match x with
 | HZ=>T= "str"
 | IR=>T= "int"
 | L_=>(T= "list" /\∃xs,ALk)\/ (T= "tuple" /\∃o,Z3 K.lookup p/\AU_ /\AeN)\/
   (T= "dict" /\ ((∃kvs,KL p GM)\/∃kvs,KL p ay))\/ (T= "set" /\∃S n,KL p (.set S n))
 | _=>False
theorem yhh(AJW){T:String}{x:V}{v:Value}(I:Η)(r:Op)(ty:Wt X.K T x H):
  Atr/\∀a,v= AR ->AtW (Adr ob):=by
 cases x with
 | str z=>
  show LU r;cases (Bz (T= "str") ty);exact⟨typeIs_str s z t,E4 e AJe⟩
 | int i=>
  show LU r;cases (Bz (T= "int") ty);exact⟨typeIs_int s i t,E4 e AJe⟩
 | ref p=>
  cases r;rcases ty with ⟨rfl,xs,hq⟩ | ⟨rfl,o,hk,hc,hd⟩ | ⟨rfl,hk⟩ | ⟨rfl,S,n,hk⟩
  ·obtain⟨its,_,pl,_⟩:=I.list hq;show YE pl.isList.typeIs a e;cases e;obtain⟨o,n,e,c,hd,_⟩:=pl;exact yo hd
  ·show YE (No (I.kIn p o hk) hc) a e;cases e;exact No (I.kIn _ o hk) hd
  ·have z:∃o,AGn p/\o.ExactDict:=by
    rcases hk with ⟨kvs,hk⟩ | ⟨kvs,hk⟩
    ·obtain⟨_,_,_,_,o,_,_,e,ex,_⟩:=Ai_;exact⟨o,e,ex⟩
    ·obtain⟨_,_,_,_,o,_,_,e,ex,_⟩:=Ai_;exact⟨o,e,ex⟩
   show T' e ex z;show YE (yo ex.1) a e2;cases e2;exact yo ex.2.1
  ·obtain⟨o,_,_,_,e,ex,_⟩:=Ai_;show YE (yo ex.1) a e2;cases e2;exact yo ex.2.1
 | _=>show IZ ty
def ac6(K:W.Frag)(T:String)(r:cz)(to:TE):TE:=A9y (r x [] H1 Q)
def tBM(eQ)(T:String)(r:cz)(to:TE)(t:TA):TE:=A9y (Mc t xs (r x xs H2 Q))
variable{o e:Expr}{es:AD}{to:TE}{t:TA}{name:Str}{apos cpos:Pos}{T id:String}{r:cz}
theorem yix(pa:PlainAttrs T)(slot:Slot T name id)(hty:Az6)(hm:MtR X id r)(ho:PE X o to)(ha:AUp)
  (hbase:ARF o name o=BF o:=by rfl)
  (hfew:My (AUY D6 all x x.1&&AZf all AW3) (AZk (Ps D6)):=by rfl)
  (hline:ib:=by rfl) (hs:Ct starEach D6 (FD (BF e) (FC es)):=by rfl) (hplain:BEy:=by rfl):
  PE X (xF (m4 o name) D6) (tBM X.K T r to t):=by
 show EC;refine wpAny_Call_method_late hbase hfew hline rfl (Pp AS3 v aaw);obtain⟨x,H1,I1,r1,ty,q1⟩:=aaw;show AFY (yhh I1 r1 ty);refine⟨T,id,pa,slot,hty,h1,h2,?_⟩;have hA:=ha cpos pins s1 σ H1 _ I1 q1;rw[hs] at hA⊢;refine Calls.callWith_builtin (by show(false || (backTo cpos (starEach es X.env)).any (·.1))=false;rw[hplain]<;>rfl) (Calls.evalArgs_plain ?_)
 exact cJ hA fun us s2 aax=>by obtain⟨vs,H2,I2,r2,q2⟩:=aax;exact AOX hm x vs v us Q I2 r1 r2 q2
#where
def MtM(A2i):Prop:=
 ∀(pins:dJ) (s:Shared) (σ:St) (H:Hp) (x:V) (xs:Δ) (v:Value) (us:Ζ) (Q:VK),AEg Op OV (r x xs H Q) (Ako v)
theorem Vals.one:∀{x:V} {us:Ζ},xC [x] ->A4X
 | _,_,.cons r B9=>Md r
theorem Vals.reverse{xs:Δ}{us:Ζ}(h:OV):Vals xs.reverse us.reverse:=by
 induction h with
 | nil=>exact B9
 | cons r t ih=>show Asx;exact Vals.append ih (ALf r)
section
variable{X:Cx}{pins:dJ}{σ:St}{H:Hp}{s:Shared}{l b:Addr}{xs ys zs:Δ}
theorem Inv.lset{its its' :Ζ}{n:Nat}{f:D3 ->D3}{t' :Nat}(I:Η)(hH:jS)
  (e:AbM ACY) (hf:f its.toArray=its'.toArray) (hv:AqQ) (hz:Υ ys.length):
  AJw ys (PR (s.heap.update l (Obj.mapSeq f)) t'):=by
 have q:=PySem.IsL.update e f;rw[hf] at q;refine AMT l l (B4 hH trivial) Pe (fun b' u hb hu=>(Heap.get?_update_other s.heap (Obj.mapSeq f) AHr).trans hu) (C6 q) ?_
 exact⟨hz,its',_,hv,q⟩
theorem Inv.lnew{its:Ζ}{t' :Nat}(I:Η)(hv:Vals ys its)(hz:Υ ys.length):
  AtN ys (PR (AGu (AGr its.toArray)) t'):=
 I.laid (FU q yT) C1 ⟨hz,its,0,hv,LW⟩
theorem Inv.fresh(NS):Sm s.heap.objs.size:=I.hok.fresh (zL _)
theorem Inv.lstM(I:Η)(hH:jS):AQN (AoV (ABm/\AJZ its.length/\AbM ACY)):=by
 show AZY (qi l hH);exact⟨z,its,n,r,r.length,e⟩
theorem z9m{n:Nat}(h:Υ n):Si Builtin.List.listTooLong n:=F_ Builtin.List.listTooLong Aeb
#where
section
variable{X:Cx}
def ycv:cz:=AIq (∃l xs y,x= FI/\vs= [y]/\jS/\BE_/\AQo (xs++ [y]))
theorem zts:MtM X "list.append" ycv:=by
 intro pins s σ H x vs v us Q I rx rv h;obtain⟨l,xs,y,rfl,rfl,hH,hz,q⟩:=h;cases rx;show ON u ru rv.one;obtain⟨z,its,n,r,hl,e⟩:=I.lstM hH;refine AVC F.slot_list_append e F.entry_list_append (F.args_list_append_2 _ _) (Alc PySem.list_append u AUK) (EJ e)
 refine FL Ρ (I.lset (its' :=its++ [u]) hH e Μ (r.append (ALf ru)) ?_) q
 show Ajx;omega
def yib:cz:=AIq (A9U (vs= [NH]/\jS/\BEp/\Aqz/\AQo (xs++zs)))
def ac7:cz:=AIq (∃l xs y,x= FI/\vs= []/\jS/\DA xs BBM y/\Q y (xL xs.dropLast))
def aay:cz:=AIq (∃l xs i k y,x= FI/\vs= [B8]/\jS/\ -(2^63)<=i/\i<2^63/\ρ (seqIndex? i xs.length) k/\DA xs k y/\Q y (xL (xs.eraseIdx k)))
def yh6:cz:=A1t xs.reverse
def aaz:cz:=A1t []
def ac8:R2:=OK (A9U (y= NH/\jS/\BEp/\Aqz/\Ag3 (xs++zs)))
def ac9:R2:=OK (∃l k xs,x= FI/\y= To/\jS/\ -(2^63)<=k/\k<2^63/\Υ ArO/\
 Ag3 Aoa)
#where
section
variable{prog:Program}{w:World}{A:Around}{E:dR}{s:Shared}
#where
section
variable{X:Cx}
#where
section
variable{κ:Type}[Tu]
def jt(kvs:P8)(k:κ):UM:=AH kvs.find? (fun kv=>(ω (S_=k))) (·.2)
def putK(A_9):P8:=
 Da AV2 (GS kvs.map kv (ARA (S_,v))) (kvs++ [(k,v)])
def Bh(kvs:P8)(k:κ):P8:=kvs.filter fun kv=>(ω (S_≠k))
theorem zqs{p:κ×V}{r:P8}{k:κ}(e:AK=k):ρ (jt (p::r) k) p.2:=ARc jt e
theorem zr9{p:κ×V}{r:P8}{k:κ}(e:¬AK=k):jt (p::r) k=jt r k:=ARc jt e
theorem zya(k:κ):∀kvs:P8,AV2=AWm
 | []=>rfl
 | p::r=>by
  rw[List.any_cons];show AMv
  ·simp only [zqs e,decide_eq_true e,Bool.true_or,Option.isSome_some]
  ·rw[zr9 e,BEG,Bool.false_or];exact zya k r
theorem znb(A_9):ApE<=kvs.length+1:=by
 unfold putK;split
 ·show EU;omega
 ·show Ac' List.length_cons List.length_nil;omega
theorem lX.lZ{o:UM}{u:LP}(r:lX o u):o.isSome=u.isSome:=by
 cases o with
 | none=>cases u with
  | none=>rfl
  | some _=>show AFZ
 | some _=>cases u with
  | none=>show AFZ
  | some _=>rfl
theorem lX.getD{o:UM}{u:LP}{d:V}{d' :Value}(r:lX o u)(rd:RelV d d'):RelV (o.getD d) (u.getD d'):=by
 cases o with
 | none=>cases u with
  | none=>exact rd
  | some _=>show AFZ
 | some _=>cases u with
  | none=>show AFZ
  | some _=>exact r
theorem KV.val(A4W):lX Agp (valueAt vs k):=by
 unfold KV at r;induction r with
 | nil=>exact True.intro
 | @cons p q ps qs h t ih=>
  show AFY h;show AMv
  ·have e' :q.1=k:=h1.symm.trans e;have b:ρ (valueAt AXG k) q.2:=by show Aai valueAt e'
   rw[zqs e,b];exact h2
  ·have e' :¬q.1=k:=Ξ Auu;have b:valueAt AXG k=valueAt qs k:=ARc valueAt e'
   rw[zr9 e,b];exact ih
theorem KV.any(A4W):AV2=vs.any fun kv=>(ω (S_=k)):=by
 unfold KV at r;induction r with
 | nil=>rfl
 | cons h t ih=>rw[List.any_cons,List.any_cons,ih,h.1]
theorem KV.repl(A7j):
  KV AvO (vs.map fun kv=>(ARA (S_,u))):=by
 unfold KV at r⊢;induction r with
 | nil=>exact B9
 | @cons p q ps qs h t ih=>
  show Ahv;refine .cons ?_ ih;show AFY h;show AMv
  ·rw[AZ e,bP h1.symm.trans e];exact⟨h1,ry⟩
  ·show A1s;exact⟨h1,h2⟩
theorem KV.put(A7j):KV A4I (stored vs k u):=by
 unfold putK stored;rw[r.any k];by_cases e:A2 (Aau vs.any)
 ·rw[AZ e,AZ e];exact r.repl k ry
 ·rw[Ω e,AJ'];exact Paired.snoc r (FY ry)
theorem KV.length{kvs:P8}{vs:ABj}(r:AHb):AGk kvs.length:=BEt
#where
theorem Nv{P:Program}{w:World}{k:Key}{u:Value}(r:AmE u):(pA P w).is k u=true:=by
 cases k with
 | inl i=>show K' t (Bz (re AWH) r);subst e;exact zuq P w i t
 | inr x=>show K' t (Bz (re AWL) r);subst e;exact zn4 P w x t
theorem zs7{P:Program}{w:World}:∀{ks:Be} {us:Ζ},Vals (ks.map kV) us ->ItemsAre ik ks us
 | [],_,r=>by rw[List.map_nil] at r;cases r;exact B9
 | į,_,r=>by
  rw[List.map_cons] at r;cases r with
  | cons h t=>exact .cons (Nv h) (zs7 t)
abbrev KT(H:Hp):BG WZ AIO:=Paired fun p q=>A5g
theorem KT.val{H:Hp}(A1R)(r:AJP)(k:Be):lX Agp ((atKey xs k).map (·.2)):=by
 induction r with
 | nil=>exact True.intro
 | @cons p q ps qs h t ih=>
  obtain⟨h1,_,h2⟩:=h;show AMv
  ·have e' :q.1=k:=h1.symm.trans e;have b:ρ (atKey AXG k) q.2:=by show Aai atKey e'
   rw[zqs e,b];exact h2
  ·have e' :¬q.1=k:=Ξ Auu;have b:atKey AXG k=atKey qs k:=ARc atKey e'
   rw[zr9 e,b];exact ih
theorem KT.repl(A6o)(k:Be){y:V}{u:Value}(ry:JY):
  KT H AvO (xs.map (putAt k u)):=by
 induction r with
 | nil=>exact B9
 | @cons p q ps qs h t ih=>
  show Ahv;refine .cons ?_ ih;show D' h1 h2 h3;unfold putAt;show AMv
  ·rw[AZ e,bP h1.symm.trans e];exact⟨h1,h2,ry⟩
  ·show A1s;exact⟨h1,h2,h3⟩
theorem KT.put(A6o)(k:Be){b:Addr}{y:V}{u:Value}(hb:Aeu)(ry:JY):
  KT H A4I (storedH xs k b u):=by
 have e:AV2=Avo:=by
  rw[zya,(r.val k).lZ,Option.isSome_map]
 unfold putK storedH;rw[e];show EZ (A2 Avo)
 ·rw[E6,E6];exact r.repl k ry
 ·rw[Ω q,JI];exact Paired.snoc r ⟨rfl,hb,ry⟩
theorem KT.keeps{H H' :Hp}(A1R)(r:AJP)(ht:∀b ys,Pc ADS ->AHi ADS):KT H' kvs xs:=
 Paired.mapP r (FU z Ay_)
section
variable{P:Program}{w:World}{H:Hp}{h:Heap}{a:Addr}
theorem yhc{u:HO}(ok:Os)(e:Rd H a u):YR a u:=e.ok ok
theorem GP{kvs:M'}(ok:Os)(e:AUG):AoD:=
 show YR a GM from yhc ok e
theorem Q8{kvs:M'}(ok:Os)(e:Ė):AoD:=GP ok (C5 e)
theorem Nx{ks:Be}(ok:Os)(e:E_ BFy):(tupleKind ik).is h ks a:=by
 obtain⟨_,its,r,o,h1,h2,n,h3⟩:=(Bz (YR a BFy) (ok a _ e));exact⟨o,its.toArray,n,h1,h2,h3,AN (zs7 r)⟩
theorem KN{kvs:WZ}(ok:Os)(e:Af_):APx (∃xs,AJP/\h.DictOfH (tupleKind ik) a xs):=by
 obtain⟨z,y,xs,r,o,es,ep,h1,h2,h3,h4,h5⟩:=(Bz (YR a ay) (yhc ok e));refine⟨z,y,xs,r,o,es,ep,h1,h2,h3,h4,Aii,h5⟩;have all:∀{l:WZ} {m:AIO},KT H l m ->∀x∈m,(tupleKind ik).is h x.1 x.2.1:=by
  intro l m q;induction q with
  | nil=>intro x hx;exact nomatch hx
  | @cons p q ps qs hq t ih=>
   intro x hx;show Alj
   ·subst e;exact Nx ok (A7 hq.1 hq.2.1)
   ·exact ih x hx
 exact all r x hx
theorem yi7{kvs:WZ}(ok:Os)(e:AeD):APx (∃xs,AJP/\h.DictOfH (tupleKind ik) a xs):=KN ok (C5 e)
#where
def oY(H:Hp)(a:Addr)(y:V)(r:UM):Prop:=
 (∃kvs k,AUG/\AL4/\r=jt kvs k)\/∃kvs k b,Af_/\y= NH/\Aeu/\r=jt kvs k
def vV(H:Hp)(a:Addr)(y v:V)(H' :Hp):Prop:=
 (∃kvs k,Ė/\AL4/\BE'/\ALo a (.dK An0))\/
 ∃kvs k b,AeD/\y= NH/\Aeu/\WE kvs.length/\ALo a (.dT An0)
theorem oY.k(AwH){k:Key}(e:Ė):oY H a (kV k) Agp:= .inl (Hm kvs k (.inl e) rfl)
theorem vV.k(AwH){k:Key}{v:V}(e:Ė)(hl:BE'):vV H a (kV k) v (KG a (.dK An0)):= .inl ⟨kvs,k,e,rfl,hl,rfl⟩
section
variable{X:Cx}{pins:dJ}{σ:St}{H:Hp}{s:Shared}{a:Addr}{y v:V}{u r:Value}{o:UM}{A:Around}{E:dR}
theorem Inv.big(NS):sysModules<s.heap.objs.size:=by
 show UQ h mainGlobals (I.mod.glob.keeps I.bk).lt;exact Nat.lt_trans χ h
theorem z2w{Q:dR}(hu:AKp)(I:Η)(g:oY H a y av)(ry:JY)(h:∀w' s',ABv ->RelV v w' ->Q w' s'):
  qq (getItem CB u):=by
 rcases g with ⟨kvs,k,e,ey,l⟩ | ⟨kvs,k,b,e,ey,eb,l⟩
 ·subst ey;show AMU;obtain⟨w',hw,tD⟩:=QU (AZF (valueAt vs k)) l (rel.val k)
  exact wpAny_getItem_of (Nv ry) dd.mapOf hw (h w' _ zD tD)
 ·subst ey;show ARJ;show AcH;obtain⟨w',hw,tD⟩:=QU (AZF ((atKey xs k).map (·.2))) l (rel.val k)
  show AU p hp hp2 Option.map_eq_some_iff.mp hw;refine wpAny_getItem_heap (tupleKind_room_in1 hu) Acp dd hp ?_;rw[hp2];exact h w' _ zD tD
theorem aaA{Q:dR}(hu:AKp)(I:Η)(g:oY H a y o)(ry:JY)(h:∀s',ABv ->Q (.bool o.isSome) s'):
  A2I .In:=by
 rcases g with ⟨kvs,k,e,ey,l⟩ | ⟨kvs,k,b,e,ey,eb,l⟩
 ·subst ey;show AMU;refine wpAny_in_of (Nv ry) hd dd.mapOf ?_;rw[<- AcK,<- l];exact AUQ
 ·show A'n wpAny_in_heap AUQ
theorem yde{Q:dR}(hu:AKp)(I:Η)(g:oY H a y o)(ry:JY)(h:∀s',ABv ->Q (.bool (! o.isSome)) s'):
  A2I ð:=by
 rcases g with ⟨kvs,k,e,ey,l⟩ | ⟨kvs,k,b,e,ey,eb,l⟩
 ·subst ey;show AMU;refine wpAny_notIn_of (Nv ry) hd dd.mapOf ?_;rw[<- AcK,<- l];exact AUQ
 ·show A'n wpAny_notIn_heap AUQ
theorem z4o{h' :Heap}{t' :Nat}{ob:HO}(I:Η)(mu:Qh (H a))(hs:AXn h')(he:A2W)(new:n9 (KG a ob) h' a ob):
  pV a ob ABd:=
 AMT a a mu Pe (fc q z (FE hs.2 b hb z)) he new
theorem yfs{P:Program}{w:World}{H' :Hp}{h' :Heap}{kvs:M'}{vs:ATy}(z:AAc)(hd:AHQ)(rel:AHb)(dd:h'.DictOf ik a vs):
  bN P w H' h' a GM:=⟨z,hd,vs,rel,dd⟩
theorem z5x{H' :Hp}{Q:ASz}(hu:AKp)(I:Η)(g:vV H a y v H')(ry:JY)(rv:RelV v r)(h:Ah4 k7):
  qq (setItem CB u r):=by
 rcases g with ⟨kvs,k,e,ey,l,eH⟩ | ⟨kvs,k,b,e,ey,eb,l,eH⟩
 ·subst ey eH;obtain⟨z,hd,vs,rel,dd⟩:=WB Q8;have hz:Υ vs.length:=A7 rel.length z
  have hl:Υ ApE:=Fr (znb kvs k v)
  refine wpAny_setItem_pairs (hsz:=hz) (Nv ry) dd AyD;have he:A2W:=let ⟨q,_,_,hq,_⟩:=Q9;⟨q,hq⟩;exact z4o I AWN hs he (yfs hl hd (rel.put k rv) Q9)
 ·subst ey eH;show ARJ;obtain⟨z,hd,xs,rel,dd⟩:=WB yi7;have hz:Υ xs.length:=A7 (Paired.length rel) z
  have hl:Υ ApE:=Fr (znb kvs k v)
  refine wpAny_setItem_heap (hsz:=hz) (tupleKind_room_in1 hu) Acp dd AyD;obtain⟨q,es,ep,hq,h2,h3,h4,_,h5⟩:=Q9;refine z4o I AWN hs ⟨q,hq⟩ ⟨hl,hd,_,(rel.put k eb rv).keeps (ψ c ys ec),q,es,ep,hq,h2,h3,h4,h5⟩
  rw[dI (yi5 ec e (NG (nomatch z)))];exact ec
#where
section
variable{X:Cx}{pins:dJ}{σ:St}{H:Hp}{s:Shared}{a:Addr}{kvs:M'}{k:Key}{u:Value}{A:Around}{E:dR}
theorem yiz{Q:dR}(I:Η)(e:AUG)(h:∀t s',ABv ->Q (.int kvs.length t) s'):qq (AIt "len" P1):=by
 show AMU;refine call_len_dict hd dd (by rw[<- rel.length];rw[sizeLine_eq] at z;omega) ?_
 rw[<- rel.length];exact h _ _ zD
#where
def HD(i:Expr):Prop:=∀ov iv,Acm (subscripted i false ov iv) [ov,iv] ov iv
theorem ydq(A0s)(BCg){env:Env}{value slice:Expr}{pos:Pos}{T id:String}{Q:dR}
  (hl:A3R) (hs:HD slice)
  (h:Alw value o (P5 (Ô slice) (N9 s₂ (s₂.TypeIs o T/\P5 (getItem o i) Q s₂)) s₁)):
  Ff (Ô (ASP value slice)):=by
 refine Subscript_ (wpAny_mono h (fun o s₁ h₁=>wpAny_mono h₁ (ψ i s₂ h₂) wo) wo);obtain⟨hT,h₂⟩:=h₂;unfold subscriptTail;show J_;rw[getitemInPython_of_ne hT.not_modules];show KW wpAny_specialOf hT hl;have fin:P5 (subscripted slice false o i) (fun r s₃=>(P5 (letTemporaryGo value o r>>=C4 (pure r)) Q s₃)) s₂:=AE (hs o i) (wpAny_operating (wpAny_mono h₂ (fun r s₃ h₃=>z9 (wpAny_letTemporaryGo (zZ h₃))) wo))
 first
  | exact zZ (z9 fin)
  | exact z9 (zZ (z9 fin))
  | exact z9 fin
theorem zwg(A_R){y:V}{o:UM}(I:Η)(g:oY H a y o):Ava :=by
 rcases g with ⟨kvs,k,e,_,_⟩ | ⟨kvs,k,b,e,_,_,_⟩
 ·obtain⟨_,_,vs,_,dd⟩:=WB GP;exact dd.typeIs
 ·obtain⟨_,_,xs,_,dd⟩:=WB KN;exact dd.typeIs
def Ra(AYL):TE:=nI td (A_M AT7)
def aaB(ty td:TE):TE:=Ayu (Q (.bl o.isSome) H2)
def ybk(ty td:TE):TE:=Ayu (Q (.bl (! o.isSome)) H2)
def Rb(td ty tv:TE):TS:=XN tv v (Mc td x (AMp ty y (APj H4 (vV H3 a y v H4) (WC H4))))
def abY(td ty tv:TE)(rd:kz):TS:=XN td x (A_M (AMp tv y2 (rd v y2 H3 fun z H4=>∃H5,vV H4 a y z H5/\WC H5)))
def abZ(AYL):TS:=XN td x (AOV (∃a kvs k,x= AR/\AJ5 GM/\AL4/\ A2 AWm/\WC (upd H2 a Ad4)))
section
variable{X:Cx}{o i e value:Expr}{pos pos' tpos:Pos}{td ty tv:TE}
theorem z2r(hu:hG)(ho:AQt)(hi:AcF)(hs:HD i):Afp o i (Ra td ty):=by
 show EC;refine ydq PySem.F.slot_dict_getitem.lookup hs (UE AS3 u (xt x rx) (cJ (eM hi) (ABP iv ⟨y,H2,I2,ry,a,v,ex,g,q2⟩)));subst ex;show la;exact⟨zwg I2 g,z2w hu I2 g ry fun w' s3 I3 tD =>⟨v,H2,I3,tD,q2⟩⟩
theorem yhj(A__):PC X .In i o (aaB ty td):=by
 show EC;refine cJ AS2 fun iv s1 (xt y ry)=>cJ (eM ho) (ABP u ⟨x,H2,I2,rx,a,ov,ex,g,q2⟩);subst ex;show la;exact aaA hu I2 g ry fun s3 I3=>(Hm (.bl ov.isSome) H2 I3 q2)
theorem ztp(A__):PC X ð i o (ybk ty td):=by
 show EC;refine cJ AS2 fun iv s1 (xt y ry)=>cJ (eM ho) (ABP u ⟨x,H2,I2,rx,a,ov,ex,g,q2⟩);subst ex;show la;exact yde hu I2 g ry fun s3 I3=>(Hm (.bl (! ov.isSome)) H2 I3 q2)
theorem Wu(AMh)(ho:AQt)(hi:AcF)(hv:AkR)(hs:ALn o i):
  AEb (ABM o i) value (Rb td ty tv):=by
 show SD;refine wpAny_Assign_Subscript (UE (aS hv) r (xt v rv) (cJ (eM ho) (ALW u x rx (cJ (AjX hi) (ABu iv ⟨y,H3,I3,ry,a,H4,ex,g,q3⟩))))) hs;subst ex;show la;exact z5x hu I3 g ry rv fun s4 I4=>⟨σ,H4,I4,q3⟩
#where
theorem z71{P:Program}{w:World}{H:Hp}(h:Heap)(hb:ARU sysModules):bN P w H (h.push T1) h.objs.size AKF:=
 ⟨G1,beq_eq_false_iff_ne.mpr (Ne.symm (zH hb)),[],B9,Heap.DictOf.new h⟩
def KQ:TE:=PD _ (AVZ AKF)
def aaC:TE:=PD _ (AVZ (.dT []))
section
variable{X:Cx}{pos:Pos}
theorem z7g:pz Dict [] [] KQ:=fun pins s σ H Q I h=>
 wpAny_Dict_empty (FL iA (ny (I.laid (a:=s.heap.objs.size) (o:= .dK [])) (FU q yT) C1 (z71 s.heap I.big)) (h _ ACR))
#where
def zc:AkJ ->St ->AHj (PM (wy V))
 | [],_,H,Q=>Q [] H
 | (tk,tv)::r,σ,H,Q=>ZT tk x (Mc tv y (zc r σ H2 fun ps H3=>Q ((x,y)::ps) H3))
abbrev VV:BG (wy V) (AZ5 Value):=Paired fun p q=>RelV AK q.1/\RelV p.2 q.2
def PPs(X:Cx)(pos:Pos)(keys:Ż Expr)(values:AD)(trs:AkJ):Prop:=
 ∀(pins:dJ) (s:Shared) (σ:St) (H:Hp) (Q:PM (wy V)),AQY (zc trs σ H Q) (evalPairs (pairTrees keys values X.env pos)) (IL vs (∃ps H',k7 /\VV ps vs/\Q ps H'))
def KR(kvs more:M'):M':=more.foldl (fun acc kv=>putK acc S_ kv.2) kvs
def ab0(trs:AkJ):TE:=fI (∀p,AS4 ->zc trs σ (KG p AKF) fun ps H2=>ρ (H2 p) AKF/\∃kvs:M',ps=kvs.map (AG kv (kV S_,kv.2))/\kvs.length<=15/\HI p (upd H2 p (.dK (KR [] kvs))))
structure M1 (A1h) (e:Expr) (cpos:Pos):Prop where
 base:A0i
 few:My (AUY [e] all x x.1&&AZf all AW3) (AZk ([e]:AD).length)
 line:ib
 trees:Azc [e] (AMs e)
structure M2 (A1h) (e f:Expr) (cpos:Pos):Prop where
 base:A0i
 few:My (AUY [e,f] all x x.1&&AZf all AW3) (AZk ([e,f]:AD).length)
 line:ib
 trees:Azc [e,f] (ApB e f)
def Ny(H:Hp)(a:Addr):Prop:=(∃kvs,AUG)\/∃kvs,Af_
theorem Wv(A_R)(I:Η)(d:Ny H a):
  Ava /\ (IY (Value.ref a= NH) (AtW Aao))/\ AHQ:=by
 rcases d with ⟨kvs,e⟩ | ⟨kvs,e⟩
 ·obtain⟨_,hd,vs,_,dd⟩:=WB GP;show DB dd.typeIs ATE hd;cases q;obtain⟨ob,_,_,h1,h2,_⟩:=dd;exact⟨ob,h1,h2.2.1⟩
 ·obtain⟨_,hd,xs,_,dd⟩:=WB KN;show DB dd.typeIs ATE hd;cases q;obtain⟨ob,_,_,h1,h2,_⟩:=dd;exact⟨ob,h1,h2.2.1⟩
section
variable{X:Cx}{pins:dJ}{σ:St}{H:Hp}{s:Shared}{a:Addr}{y d:V}{u r:Value}{o:UM}{A:Around}{E:dR}
theorem ye9{Q:dR}(hu:AKp)(I:Η)(g:oY H a y o)(ry:JY)(rd:RelV d r)(h:∀w' s',ABv ->RelV (o.getD d) w' ->Q w' s'):
  qq (AIt "dict.get" [AR,u,r]):=by
 rcases g with ⟨kvs,k,e,ey,l⟩ | ⟨kvs,k,b,e,ey,eb,l⟩
 ·subst ey;show AMU;refine call_meetsIn PySem.F.slot_dict_get dd.typeIs PySem.F.entry_dict_get (PySem.F.args_dict_get_3 _ _ _) (meets_dict_get_default AAd a (Nv ry) hd r) (BY dd.mapOf (h _ _ zD ?_));rw[l];exact A3I
 ·subst ey;show ARJ;show AcH;refine call_meetsIn PySem.F.slot_dict_get dd.typeIs PySem.F.entry_dict_get (PySem.F.args_dict_get_3 _ _ _) (meetsH_dict_get_default (tupleKind AAd) a b hd r) ⟨tupleKind_room_in1 hu,k,xs,Nx I.hok eb,dd,h _ _ zD ?_⟩;rw[l];exact A3I
#where
def aaD(AYL):TE:=ANR (∃o,oY H2 a y o/\Q (o.getD Ρ) H2)
def KY(td ty tx:TE):TE:=ANR (AMp tx z (∃o,oY H3 a y o/\Q (o.getD z) H3))
def aaE(AYL):TE:=ANR (∃kvs k v,AJ5 GM/\AL4/\AYZ/\Q v (upd H2 a Ad4))
def aaF(td ty tx:TE):TE:=ANR (AMp tx z (∃kvs k,BN H3 GM/\AL4/\
 (∀v,AYZ ->Q v (upd H3 a Ad4))/\ (jt kvs k=none ->Q z H3)))
section
variable{X:Cx}{o e f:Expr}{apos cpos:Pos}{td ty tx:TE}
theorem z85(AMh)(ho:AQt)(he:PE X e ty)(hf:PE X f tx)(m:M2 X o "get" apos e f cpos):PE X A0c (KY td ty tx):=by
 show EC;refine wpAny_Call_method m.base m.few m.line PySem.F.plainAttrs_dict PySem.F.slot_dict_get PySem.F.type_dict_get (Pp AS3 u aaG);obtain⟨x,H1,I1,rx,a,ex,d,q1⟩:=aaG;subst ex;show la;obtain⟨t1,t2,_⟩:=Wv I1 d;show BB t1 t2;rw[m.trees];refine Calls.callWith_builtin rfl (Calls.evalArgs_plain (Calls.spliced_cons (cJ (eM he) (ALW iv y ry (Calls.spliced_cons (cJ (AjX hf) fun fv s3 ⟨z,H3,I3,rz,ov,g,q3⟩=>Calls.spliced_nil ?_))))))
 exact ye9 hu I3 g ry rz fun w' s4 I4 tD =>⟨_,H3,I4,tD,q3⟩
#where
section
variable{X:Cx}{pins:dJ}{σ:St}{H:Hp}{s:Shared}{a:Addr}{kvs:M'}{A:Around}{E:dR}
#where
section
variable{X:Cx}{pins:dJ}{σ:St}{H:Hp}{s:Shared}{a:Addr}{y:V}{u:Value}{A:Around}{E:dR}
#where
#print L2
namespace Att
open PySem PySem.W PySem.Calls PyProof.Rows
theorem znc{P:Params}{h:Heap}:∀(ns:Φ) (vs:Ζ),WellAll P h vs (ns.map WData.int) ->AMu:=by
 intro ns;induction ns with
 | nil=>
  intro vs w;rw[List.map_nil] at w;cases w;exact B9
 | cons n ns ih=>
  intro vs w;rw[List.map_cons] at w;cases w with
  | cons a b=>
   cases a;exact AR5 (ih _ b)
theorem z5j{l:OpenLaw}{n:Nat}(hn:AkA){P:Params}{h:Heap}{args:List WData}{vals:Ζ}
  (hpre:By l.row.toRowW.claim.pre args) (hwl:WellAll P h vals args):
  ∃a vs ns,vals= [Aa']/\args= [WData.list (ns.map WData.int)]/\OB AQV/\AMu/\ASt:=by
 have hsh:A2 (WShape.hasAll [] args [.list T_]):=(pre_splitW hpre).1;have hc:l.pre.holds [] {args:=args}=true:=(pre_splitW hpre).2;show Bn d r h1 h2 (hasAllW_cons hsh);show N0 (hasAllW_nil h2);show AU xs rfl h3 hasW_list h1;show Cn ns rfl items_int h3;have hlen:ns.length<=n:=by
  unfold OpenLaw.pre at hc;have h4:(WTm.not (.lt (.lit (B5 E5)) (.len (.arg 0)))).holds [] {args:= [.list AN4]}=true:=by
   have h4:=(holds_andW hc).1;rw[hn] at h4;exact h4
  have h5:=condW_of h4 (w_not (w_lt w_lit (w_len_list (w_arg rfl))));show AG9 h5;refine Nat.le_of_not_lt (Jn q);have q' :E5< CY ns.length:=τ
  first
   | (rw[decide_eq_true q'] at h5;exact absurd h5 χ)
   | (simp at h5;omega)
 cases hwl with
 | cons w1 w2=>
  cases w2;cases w1 with
  | list ho hall=>exact⟨_,_,ns,rfl,rfl,ho,znc ns _ hall,hlen⟩
theorem z44(l:OpenLaw)(args:List WData):A2 (l.row.toRowW.claim.post args AIE args):=
 postW_of (r:=l.row.toRowW) (X:=AtY)
  (show A2 (WShape.has [] AIE .bool) by first | rfl | decide | simp [WShape.has,WShape.arms,WShape.armsAll])
  (Bz (ρ ((WTm.eq .res (.lit AIE)).value [] {args:=args,res:=some AIE,after:=args}) (.bool AtY)) (w_eq_bool (w_res rfl) w_lit)) rfl
theorem wR{l:OpenLaw}{n:Nat}{q:Program}{loose:ο}{XP:AwY}{YP:ArS}{d:DefRec}
  (hn:AkA) (hdf:BGO)
  (call:∀(w:World) (s₀ s₁:Shared) (mg mb:CD) (fa:Addr) (o:Obj) (pm cd doc:Value) (a:Addr) (vs:Ζ) (ns:Φ),
   Ground q loose [] XP w s₀ mg mb s₁.heap ->YP w s₁.heap ->
   Ο (Z3 s₁.heap.get? fa) (pS (.func (docDef d.name d.params d.body d.scope pm cd doc))) (s₁.heap.CodeRec cd d.name) (nX d.name fa) (Ο AtR AMu ASt AqG (æ (model l.prog w) callerA (AA fa) AQG BDG s₁))):
  Ay1:=by
 intro w s₀ s₁ mg mb G Y fa o pm cd doc dV kV ho hd hcd hD hmg hg args vals as hpre hlay hrd hwl hlo;obtain rfl:dV= Χ:=Dflts.none hD hdf;obtain rfl:kV= Χ:=Dflts.noKw hD;obtain⟨a,vs,ns,rfl,rfl,hobj,hints,hlen⟩:=z5j hn hpre hwl;refine enter_call (codeAny_mono (call w s₀ s₁ mg mb fa o pm cd doc a vs ns G Y ho (fd_plain hd) hcd hmg hobj hints hlen hg) AjG);obtain⟨rfl,h2,h3,h4⟩:=hq;exact⟨.inl ⟨Aeh,Aeh,[],rfl,AJ3,Aeh,z44 l _,C4 ⟨List.Pairwise.nil,E4 hm (nomatch hm)⟩⟩,h2,h3,h4⟩
section
variable{prog:Program}{w:World}{A:Around}{E:dR}{s:Shared}{K:Frag}
def aaH(h:Heap):Heap:={h with objs:= #[]}
def ledger(h:Heap)(L d:Addr):dJ:=A9K (a=d)
#where
#print Att
namespace L2
open PySem PySem.Spec PyProof.Rows
theorem Rf:∀{vs:Ζ} {ns:Φ},AMu ->Vals (ns.map V.int) vs
 | _,_,B9=> B9
 | _,_,.cons n t h=> .cons UF (Rf h)
def Only(H:Hp):Prop:=∀b,F8\/∃o xs,Pc (w9 f7)
theorem z8l(sR){mg mb:CD}{CX:Ca}{k:Nat}{fa a:Addr}(Awt){sp:Sp}{s₁:Shared}{vs:Ζ}{ns:Φ}
  (KX:K.In s₁.heap) (hns:AIM s₁.heap.Ns) (hb:s₁.heap.Ns builtinsNs mb) (hbb:A6J) (hlim:s₁.heap.NoLimit) (hg:AqG)
  (ha:AtR) (hi:AMu) (hl:BDp) (hr:fC k callerA)
  (F:∀base:Heap,AfY ->Agx ->PY base CX k fa fd [x] sp) (hbind:AyM)
  (hsp:∀H:Hp,Only H ->AWp ->sp P1 H AuL SK)
  (hCX:∀H e s',CX [] H s₁ (SK) e s' ->False):
  A_f:=by
 have rv:=Rf hi;have lenV:=hi.length
 
 have core:∀H:Hp,Only H ->Ο AWp (nW P w H s₁.heap) (IY (H b≠none) (b=a)) (H a≠none ->Sf K.lookup) A_f:=by
  intro H hO hS hok hA hK;have Bj:∀{b:Addr} {o:Obj},AtE F8 (Ame s₁.heap):=fun e n=>z7x e n;have QK:∀{b:Addr} {o:Obj} {es:ADP} {ep:Nat},AtE Afa F8:=fun{b o es ep} e d=>by
   cases q:H b with
   | none=>rfl
   | some u=>
    have e' :b=a:=hA b (by rw[q];simp)
    subst e';rw[ha] at e;cases e;have d' :Data.seq vs.toArray _=Data.dict es ep:=d;cases d'
  have Ww:∀{b:Addr} {m:CD},s₁.heap.Ns b m ->(vR s₁.heap H).Ns b m:=fun{b m} Rg=>by obtain⟨o,es,ep,e,d,r⟩:=Rg;exact⟨o,es,ep,Bj e (QK e d),d,r⟩
  have hKb:K.In (vR s₁.heap H):=HK (Bj (WU KX) (by
   cases q:H b with
   | none=>rfl
   | some u=>
    have e' :b=a:=hA b (by rw[q];simp)
    subst e';rw[hK (AKa q)] at e;cases e))
  have hM:Mod K mg Auq:=⟨hKb,Ww hns,⟨mb,Ww hb,hbb⟩,let ⟨mc,h1,h2⟩:=hlim;⟨mc,Ww h1,h2⟩⟩;have e0:MR wQ Auq callerA [] s₁ H:=⟨rfl,hM,HK (ydb e),Nat.le_of_eq (z1b _ _),trivial,EH (Al7 hb),hok,.of_eq hg⟩
  show ATU ((F _ hKb (Ww hns)).run callerA [] s₁ H AQG P1 P1 _ _ hr e0 (hbind s₁ CB) (ALf rfl) (hsp H hO hS)) r s' h;cases r with
  | error e=>exact(hCX H e s' h).elim
  | ok fl=>
   cases fl with
   | next=>show ALq
   | brk=>show ALq
   | cont=>show ALq
   | ret u=>
    obtain⟨v,H',os,bare,un,hok',r',q⟩:=h;have q' :v= i9:=q;subst q';obtain rfl:u=Value.bool true:=r';show DC rfl (OldK.of_keep AL3) os bare;cases q:H b with
    | none=>exact un.keep b o e q (by intro z;exact Al7 z) Μ
    | some u=>
     rcases hO b with z | ⟨ob,xs,z⟩
     ·rw[q] at z;cases z
     ·have z2:=un.oX b ob _ z;obtain⟨e1,_⟩:=hok b _ z;obtain⟨e2,_⟩:=hok' b _ z2;rw[e] at e1;cases e1;exact e2
 cases hk:ASS with
 | some o=>
  
  have e:=KX a o hk;rw[ha] at e;cases e;refine core (At none) (At AJ8) (CA ⟨_,vs.toArray,_,hk,rfl,rfl,rfl,QY List.size_toArray lenV hl,AN rv⟩) (fun b u z=>by have z' :N4 (none:Eg HO):=z;cases z') (fun b z=>(AIn z)) (Ξ (AIn z))
 | none=>
  refine core (APh (some (.frz AQV (BV AO8))) none) (pT ?_) (C5 (CA ⟨AQV,BU⟩)) (HH u z) (HQ b z) (C4 hk)
  ·show SL
   ·show DI (BY _ (AZ hb))
   ·show B3 (if_neg hb)
  ·show SL
   ·have z' :=(if_pos hb).symm.trans z;cases z';subst hb;exact⟨ha,AE List.length_map hl,vs,_,rv,ha⟩
   ·have z' :=(if_neg hb).symm.trans z;cases z'
  ·show SL
   ·exact hb
   ·exact dS if_neg hb z
abbrev KOf(D9){h:Heap}(_:MH):W.Frag:=K
abbrev CX0:Ca:=fun _ _ _ _ _ _=>False
abbrev E0:XK:=SK
structure gA (eQ) (x qual:Str) (st:Stmt) (f:Addr) (fd:FuncData):Prop where
 ex:∃(oc:Value) (od:JP) (kV doc pm:Value) (an:JP) (cdv ct:Value) (osl:í),
  A'u Χ
 kp:AAt
section
variable{P:Program}{w:World}{K:W.Frag}{mg:CD}{base:Heap}
theorem gA.binds{x qual:Str}(AFz){fd:FuncData}{ps:ο}(F:Ŕ)
  (h:∀(kV doc pm:Value) (an:JP) (cdv ct:Value) (us:Ζ),AuA (Arw (BCs Χ) AKV AXA)):ż:=by
 obtain⟨oc,od,kV,doc,pm,an,cdv,ct,osl,rfl,lk,hcd⟩:=F.ex;exact .all (A7L cdv ct)
#where
section
variable{X:Cx}
#where
def Same(H H' :Hp):Prop:=yy H (ER H')
theorem Same.refl(H:Hp):kG H:=AkT
theorem Same.trans{H H1 H2:Hp}(a:Aij)(b:Same H1 H2):Same H H2:=fun c o h=>b c o (a c o h)
theorem Same.free{H H' :Hp}(e:ALB){l:Addr}(h:H' l=Option.none):H l=Option.none:=by
 cases q:H l with
 | none=>rfl
 | some o=>
  show k8 (e l o q)
theorem Same.seq{K:W.Frag}{H H' :Hp}{a:Addr}{xs:Δ}(e:ALB)(h:UT):lA K H' a xs:=by
 show ARZ h h h h
 ·show B3 (C5 (e _ _ h))
 ·show B3 (CA (OR (e _ _ h)))
 ·show DI h
section
variable{X:Cx}
#where
section
variable{κ:Type}[Tu]
#where
#print L2
namespace L3
open PySem PySem.Spec PyProof.Rows L2
abbrev St:=L2.St
inductive D where
 | non | bl (b:Bool) | int (AFO) | str (x:Str) | tup (xs:Β) | lst (xs:Β) | exc (C:Addr) | ptr (a:Addr)
 | obj (C:Addr) (fs:ο) (xs:Β) | dic (ks:Be) (xs:Β) | jX (ks:Î) (xs:Β) | dik (ks:Be) (xs:Β)
def HF(a C:Addr):HO:= AWF (∃o vs,eD/\o.cls= GN/\AfZ/\AMZ)
def KZ(F:Hp)(a:Addr):Prop:=∃o C,AgE o
mutual
def Rep(K:W.Frag)(F:Hp):BG D V
 | Ρ,v=>v= Ρ
 | UR,v=>v= UR
 | B8,v=>v= B8
 | UD,v=>v= UD
 | uS,v=>Avy (pK K F a vs)
 | uB,v=>Avy AcO
 | .exc C,v=>∃a o,v= AR/\AgE o
 | .ptr a,v=>v= AR
 | ATe,v=>∃a dx vs,Å (BN F Aev) AKs C8
 | .dic ks ds,v=>AmJ (BN F VW) C8
 | .jX ks ds,v=>AmJ (BN F (.dT w_)) C8
 | .dik ks ds,v=>∃a o vs,Å Ab3 bc C8
def ao(K:W.Frag)(F:Hp):BG Β Δ
 | [],vs=>vs= []
 | SG,vs=>∃v r,vs=v::r/\IN/\HG ds r
end
theorem su{K:W.Frag}{H H' :Hp}{a:Addr}{xs:Δ}(e:ALB)(h:kr):pK K H' a xs:=by
 show ARZ h h h h
 ·show B3 (C5 (e _ _ h))
 ·show B3 (CA (OR (e _ _ h)))
 ·show DI h
mutual
theorem zqg(A9t):∀(d:D) (v:V),IN ->Q4
 | Ρ,_,h=>NO
 | Kx,_,h=>NO
 | IR,_,h=>NO
 | HZ,_,h=>NO
 | uS,_,h=>by
  show Su;show AYH;exact⟨a,vs,h0,su e h1,AO_ h2⟩
 | uB,_,h=>by
  show Su;show AYH;exact⟨a,vs,h0,e.seq h1,AO_ h2⟩
 | Ě,_,h=>NO
 | .exc C,_,h=>by
  show Su;show L7 a o h0 h1;exact⟨a,o,h0,AKn⟩
 | ATe,_,h=>by
  show Su;obtain⟨a,dx,vs,h0,h1,h3,h4⟩:=h;exact⟨a,dx,vs,h0,AKn,h3,AVW⟩
 | .dic ks ds,_,h=>by
  show Su;obtain⟨a,vs,h0,h1,h3,h4⟩:=h;exact⟨a,vs,h0,AKn,h3,AVW⟩
 | .jX ks ds,_,h=>by
  show Su;obtain⟨a,vs,h0,h1,h3,h4⟩:=h;exact⟨a,vs,h0,AKn,h3,AVW⟩
 | .dik ks ds,_,h=>by
  show Su;obtain⟨a,o,vs,h0,h1,h3,h4⟩:=h;exact⟨a,o,vs,h0,AKn,h3,AVW⟩
theorem Ju(A9t):∀(ds:Β) (vs:Δ),C8 ->ACU
 | [],_,h=>Ae5
 | SG,_,h=>by
  show MU ao;obtain⟨v,r,h0,h1,h2⟩:=h;exact⟨v,r,h0,zqg e d v h1,Ju e ds r h2⟩
end
theorem Rep.up{K:W.Frag}{F F' :Hp}(AGL)(h:IN)(e:Dx):Q4:=zqg e d v h
theorem ao.up{K:W.Frag}{F F' :Hp}(AM5)(h:C8)(e:Dx):ACU:=AO_ h
theorem lB(EM):Aoi (mh vs.length)
 | [],_,h=>by show LG;subst h;rfl
 | A8,_,h=>by
  show LG;obtain⟨v,r,rfl,_,h2⟩:=h;simp only [List.length_cons,lB h2]
theorem vd(EM):∀{ds:Β} {vs:Δ} {i:Nat} {d:D},C8 ->AkI ->AUT ADz
 | [],_,_,_,_,e=>AJk
 | A8,_,0,_,h,e=>by
  show LG;obtain⟨v,r,rfl,h1,_⟩:=h;simp at e;subst e;exact ĥ h1
 | A8,_,BQ,d,h,e=>by
  show LG;obtain⟨v,r,rfl,_,h2⟩:=h;show CM u e1 e2 (tz vd) h2 Ē
  exact AvI
theorem zue(EM):∀{ds:Β} {vs:Δ} {i:Nat} {v:V},C8 ->ADz ->∃d,AkI/\IN
 | [],_,_,_,h,e=>by show LG;subst h;simp at e
 | d::_,_,0,_,h,e=>by
  show LG;obtain⟨v,r,rfl,h1,_⟩:=h;simp at e;subst e;exact Ix d h1
 | A8,_,BQ,v,h,e=>by
  show LG;obtain⟨v',r,rfl,_,h2⟩:=h;show CM u e1 e2 (tz zue) h2 Ē
  exact AvI
theorem Jv(EM):∀{ds es:Β} {vs us:Δ},C8 ->Aio ->HG (ds++es) (vs++us)
 | [],_,_,_,h,k=>by show LG;subst h;exact k
 | A8,_,_,_,h,k=>by
  show LG;show Bn v r h1 h2 h;show HG (_::(_++_)) _;unfold ao;exact EG v _ h1 (Jv h2 k)
theorem Jw(AsV):HG [d] [v]:=F_ ao (EG v [] h ARu)
theorem sy(EM)(AGL)(AM5)(h:IN)(k:C8):HG ATD (v::vs):=F_ ao (OP v h k)
theorem zmi(EM):A_j ds.take vs.take
 | _,_,0,_=>A0 ao
 | [],_,_+1,h=>AjQ
 | A8,_,n+1,h=>by
  show LG;show Bn u r h1 h2 h;exact sy h1 (zmi n h2)
theorem zm7(EM):A_j ds.drop vs.drop
 | _,_,0,h=>h
 | [],_,_+1,h=>AjQ
 | A8,_,n+1,h=>by
  show LG;show Bn u r h1 h2 h;exact zm7 n h2
def wU(H:Hp)(b:Addr)(o:HO):Prop:=F8\/ (∃xs,o= MD)/\ER H
theorem wU.back(s:Aij)(h:wU H1 b o):wU H b o:=by
 show AJg h h e h
 ·show B3 (s.free h)
 ·cases q:H b with
  | none=>show B3 q
  | some u=>
   have:=s _ _ q;show Ap h;show DT;exact .inr (ABO ⟨xs,e⟩)
structure Gr (F H F' H' :Hp):Prop where
 f:Dx
 g:Same F' H'
 h:ALB
 n:gg (ER F') gc (wU H b o)
theorem Gr.refl(h:JE):Gr F H F H:=mE h oP
theorem Gr.trans(a:Gr F H F1 H1)(b:Gr F1 H1 F2 H2):Gr F H F2 H2:=by
 show DC (a.f.trans b.f) b.g (a.h.trans b.h) (Iy c o e n);cases q:F1 c with
 | none=>exact wU.back a.h (b.n c o e q)
 | some u=>have:=b.f _ _ q;show dq;show DT;exact a.n c _ q n
theorem Gr.laid(h:JE)(hp:AS4):Gr F H (L2.upd F p o) (L2.upd H p o):=by
 show DC FR FR FR Awq
 ·rw[ADh h hp];exact e
 ·show n5 p
  ·subst hb;rw[jW] at e⊢;exact e
  ·show bE eB e (h b u e)
 ·rw[LJ hp];exact e
 ·show n5 p
  ·subst hb;exact .inl hp
  ·rw[eB,n] at e;cases e
inductive T where
 | leaf (d:D) | lst (ts:Gc) | dic (ks:List L2.Key) (ts:Gc) | jX (ks:mr L2.Key) (ts:Gc) | ob (Ayi) | kt (k:List L2.Key)
def eN:Key ->D | ACz=> B8 | ic=> UD
def Ce(fs:ο):Bool:= !(ω (fs= [("points" :Str)]))
mutual
def TR(An4):T ->BG V AO
 | Q3,v,as=>as= []/\IN
 | kH,v,as=>∃a vs bs,v= AR/\as=qS/\ė/\AI5
 | vz,v,as=>A8_ (E_ VW)
 | Ĳ,v,as=>A8_ (E_ (.dT w_))
 | ŕ,v,as=>∃a dx vs bs,v= AR/\as=AKP/\E_ Aev/\AjD/\AKs/\By Ce fs/\AI5
 | .kt k,v,as=>as= []/\∃a,v= AR/\BN F (AHX k.map)
def fD(An4):Gc ->BG Δ AO
 | [],vs,as=>vs= []/\as= []
 | UY,vs,as=>∃v us bs cs,vs=v::us/\as=AOW/\pE v bs/\fD K F H ts us cs
end
section
variable{K:W.Frag}{F H F' H' :Hp}
mutual
theorem TR.move(f:Dx):Ajr AL_ AWW
 | Q3,v,as,k,h=>by show MU TR;exact⟨h.1,Akw⟩
 | kH,v,as,k,h=>by
  show MU TR;obtain⟨a,vs,bs,e1,rfl,e3,h⟩:=h;exact⟨a,vs,bs,e1,rfl,ŀ,AgR⟩
 | vz,v,as,k,h=>by
  show MU TR;obtain⟨a,vs,bs,e1,rfl,e3,e4,h⟩:=h;exact⟨a,vs,bs,e1,rfl,ŀ,e4,AgR⟩
 | Ĳ,v,as,k,h=>by
  show MU TR;obtain⟨a,vs,bs,e1,rfl,e3,e4,h⟩:=h;exact⟨a,vs,bs,e1,rfl,ŀ,e4,AgR⟩
 | ŕ,v,as,k,h=>by
  show MU TR;obtain⟨a,dx,vs,bs,e1,rfl,e3,e4,e5,e6,h⟩:=h;exact⟨a,dx,vs,bs,e1,rfl,ŀ,k dx (zU _ zV) _ e4,e5,e6,BCr fD.move⟩
 | .kt _,v,as,k,h=>by show MU TR;show L7 e a e1 e2;exact⟨e,a,e1,f _ _ e2⟩
theorem fD.move(f:Dx):AZb ((iO AL_) ->Ļ ->oz fD ts vs as)
 | [],vs,as,k,h=>by show MU fD;exact h
 | UY,vs,as,k,h=>by
  show MU fD;obtain⟨v,us,bs,cs,e1,rfl,h1,h2⟩:=h;exact⟨v,us,bs,cs,e1,rfl,Apj TR.move,Ao9 fD.move⟩
end
def LD(u:HO):Prop:=(∃vs,u= .lst vs)\/ (∃kvs,u= AQs)\/ (∃kvs,u= .dT kvs)\/ (∃C dx kvs,u= .ins C dx kvs/\Ce (kvs.map (·.1))=true)\/∃a,u= .own a
theorem Wx:APw fs ο (fs.length=vs.length ->AH fs.zip vs (·.1)=fs)
 | [],_,_=>rfl
 | A8,[],h=>BI
 | U2,AEP,h=>A1W Wx
theorem LD.tup(h:LD L9):False:=A's
theorem LD.frz(h:LD (.frz o u)):False:=A's
theorem LD.ins(h:LD (nL kvs)):By Ce (kvs.map (·.1)):=by
 rcases h with ⟨_,z⟩ | ⟨_,z⟩ | ⟨_,z⟩ | ⟨_,_,_,z,q⟩ | ⟨_,z⟩<;>cases z
 exact q
mutual
theorem TR.there:BBx (Ay4 Ð)
 | Q3,v,as,h,a,ha=>Ayk
 | kH,v,as,h,a,ha=>by
  show Fs;obtain⟨b,vs,bs,e1,rfl,e3,h⟩:=h;show AMN
  ·exact BY e3 (.inl CO)
  ·show AZd
 | vz,v,as,h,a,ha=>by
  show Fs;obtain⟨b,vs,bs,e1,rfl,e3,_,h⟩:=h;show AMN
  ·exact BY e3 (.inr (C5 CO))
  ·show AZd
 | Ĳ,v,as,h,a,ha=>by
  show Fs;obtain⟨b,vs,bs,e1,rfl,e3,_,h⟩:=h;show AMN
  ·exact BY e3 (iE (C5 CO))
  ·show AZd
 | ŕ,v,as,h,a,ha=>by
  show Fs;obtain⟨b,dx,vs,bs,e1,rfl,e3,e4,e5,e6,h⟩:=h;show AMN
  ·exact BY e3 (iE (CA (C5 (FL _ _ (Lv Wx e5 e6)))))
  ·show AMN
   ·exact BY e4 (iE (CA (CA CO)))
   ·show AZd
 | .kt _,v,as,h,a,ha=>Ayk
theorem fD.there:AZb (Ay4 Ļ)
 | [],vs,as,h,a,ha=>by show YI;rw[h.2] at ha;cases ha
 | UY,vs,as,h,a,ha=>by
  show YI;obtain⟨v,us,bs,cs,e1,rfl,h1,h2⟩:=h;show N3 ha ha ha
  ·exact TR.there t v bs h1 a ha
  ·exact fD.there ts us cs h2 a ha
end
#where
mutual
def toD:T ->D
 | Q3=>d
 | kH=> MZ lK ts
 | vz=> .dic ks (lK ts)
 | Ĳ=> .jX ks (lK ts)
 | ŕ=> .obj C fs (lK ts)
 | .kt k=> AMq
def lK:Gc ->Β
 | []=> []
 | UY=>toD t::lK ts
end
theorem Rh(EM):∀ks:Be,HG (ks.map eN) Afm
 | []=>by unfold List.map ao;rfl
 | ACz::ks=>A1n
 | ic::ks=>A1n
section
variable{K:W.Frag}{F H F' :Hp}
mutual
theorem TR.rep(f:Dx):Ajr (∀u,qA ->BN F' u) (ű (toD t) v)
 | Q3,v,as,k,h=>by show Fs;unfold toD;exact Akw
 | kH,v,as,k,h=>by
  show Fs;obtain⟨a,vs,bs,e1,rfl,e3,h⟩:=h;show RC toD;exact⟨a,vs,e1,oC (k a zV _ e3),AgS⟩
 | vz,v,as,k,h=>by
  show Fs;obtain⟨a,vs,bs,e1,rfl,e3,e4,h⟩:=h;show RC toD;exact⟨a,vs,e1,ŀ,e4,AgS⟩
 | Ĳ,v,as,k,h=>by
  show Fs;obtain⟨a,vs,bs,e1,rfl,e3,e4,h⟩:=h;show RC toD;exact⟨a,vs,e1,ŀ,e4,AgS⟩
 | ŕ,v,as,k,h=>by
  show Fs;obtain⟨a,dx,vs,bs,e1,rfl,e3,e4,e5,e6,h⟩:=h;show RC toD;exact A2m ŀ fD.rep
 | .kt k,v,as,_,h=>by
  show Fs;obtain⟨_,a,e1,e2⟩:=h;show RC toD;exact A7g
theorem fD.rep(f:Dx):AZb ((iO (∀u,qA ->BN F' u)) ->Ļ ->AHF (lK ts))
 | [],vs,as,k,h=>by show YI;unfold lK ao;exact h.1
 | UY,vs,as,k,h=>by
  show YI;obtain⟨v,us,bs,cs,e1,rfl,h1,h2⟩:=h;unfold lK ao;exact⟨v,us,e1,Apj TR.rep,Ao9 fD.rep⟩
end
#where
inductive Slot where
 | no | pu (d:D) | ow (ds:Β) | tr (as:AO) (t:T) | nt (as:AO) (c:Str) (t:T) | xe (as:AO) (C:Addr) (fs:ο) (ts:Gc)
def pC(K:W.Frag)(F H H0:Hp):BG Slot UM
 | υ,_=>True
 | .pu d,o=>AUT AgV
 | .ow ds,o=>∃a vs,AgW/\ė/\Ĝ/\d_/\C8
 | p_ t,o=>∃v,AgV/\as.Nodup/\ AWw/\Ð
 | .nt as c t,o=>∃p v,ρ o (AA p)/\AlI F/\as.Nodup/\ AWw/\Ð
 | .xe as C fs ts,o=>∃a oe dx vs,AgW/\AgE oe/\AqK/\ρ (F dx) (.xd AbE)/\AKs/\as.Nodup/\ AWw/\Ļ
def iQ:Slot ->BG UM Addr
 | .ow _,o,a=>AgW
 | p_ _,_,a=>AUi
 | .nt as _ _,_,a=>AUi
 | .xe as _ _ _,_,a=>AUi
 | _,_,_=>False
def pF(Γ:Rc)(σ:St)(i:Nat)(a:Addr):Prop:=∃s o,AKm/\vt/\Yf
structure SR (K:W.Frag) (F0 H0 F H:Hp) (σ:St) (Γ:Rc):Prop where
 gr:AVa
 len:σ.length=Γ.length
 sl:∀(i:Nat) s,AKm ->∃o,vt/\AM1
 ap:∀(i j:Nat) a,pF Γ σ i a ->pF Γ σ j a ->i=j
section
variable{K:W.Frag}{F0 H0 F H F' H' :Hp}{σ:St}{Γ:Rc}
theorem SR.g(R:DH):JE:=R.gr.g
theorem Dz(r:AM1)(h:Yf):Ĝ/\d_/\∃u,qA/\LD u:=by
 cases s with
 | no=>show EB
 | pu d=>show EB
 | ow ds=>obtain⟨b,vs,rfl,h1,h2,h3,_⟩:=r;cases h;exact⟨h2,h3,_,h1,.inl CO⟩
 | tr as t=>obtain⟨v,_,_,h2,h3⟩:=r;exact⟨(h2 a h).1,AlJ,TR.there t v as h3 a h⟩
 | nt as c t=>obtain⟨p,v,_,_,_,h2,h3⟩:=r;exact⟨(h2 a h).1,AlJ,TR.there t v as h3 a h⟩
 | xe as C fs ts=>obtain⟨_,_,_,vs,_,_,_,_,_,_,h2,h3⟩:=r;exact⟨(h2 a h).1,AlJ,fD.there ts vs as h3 a h⟩
theorem Ri(r:AM1)(f:Dx)(k:∀a,Yf ->sA/\AL_):Auj:=by
 cases s with
 | no=>trivial
 | pu d=>
  show OH e r r;exact⟨v,e,r.up f⟩
 | ow ds=>
  obtain⟨a,vs,e,e1,e2,e3,r⟩:=r;obtain⟨k1,k2⟩:=k a e;exact⟨a,vs,e,k2 _ e1,k1,e3,r.up f⟩
 | tr as t=>
  obtain⟨v,e,nd,h,r⟩:=r;exact⟨v,e,nd,Al8,A9I⟩
 | nt as c t=>
  obtain⟨p,v,e,e1,nd,h,r⟩:=r;exact⟨p,v,e,f _ _ e1,nd,Al8,A9I⟩
 | xe as C fs ts=>
  obtain⟨a,oe,dx,vs,e,e1,e2,e3,e4,nd,h,r⟩:=r;exact⟨a,oe,dx,vs,e,f _ _ e1,e2,f _ _ e3,e4,nd,Al8,ë (fD.move f ts vs as) (ACV k) r⟩
theorem zy9(r:AM1)(g:a_):Auj:=
 Ri r g.f fun a ha=>by
  obtain⟨h1,_,u,h3,ld⟩:=Dz r ha;show Đ (fun u e=>g.h _ _ e);cases q:F' a with
  | none=>rfl
  | some w=>
   show AJg (g.n a w q h1) z e z
   ·rw[h3] at z;cases z
   ·rw[h3] at z;cases z;subst e;exact ld.tup.elim
theorem SR.grow(R:DH)(g:a_):Aiq:=by
 show DC (R.gr.trans g) R.len (Tm i s) R.ap;show T' e1 r (R.sl i s e);exact No e1 (zy9 r g)
theorem Rj(h:pF (gN s) (pv o) j a):(j=i/\Yf)\/ (j≠i/\pF Γ σ j a):=by
 obtain⟨t,p,e1,e2,h⟩:=h;by_cases hj:i=j
 ·subst hj;show Afg (by
   show NR (AJy Γ.length)
   ·exact h
   ·rw[List.getElem?_eq_none ASB] at e1;cases e1)
  show On σ.length (by
   show NR (AJy σ.length)
   ·exact h
   ·rw[List.getElem?_eq_none ASB] at e2;cases e2)
  rw[List.getElem?_set_self hi] at e1;show ALw hi';cases e1;cases e2;exact .inl ASu
 ·rw[BFa] at e1 e2;exact .inr ⟨Ne.symm hj,t,p,e1,e2,h⟩
def Apart(σ:St)(Γ:Rc)(a:Addr):Prop:=∀j,¬pF Γ σ j a
theorem SR.apart(R:DH)(h:ABV):Ľ:=fun j hq1=>by
 obtain⟨s,o,e1,e2,q⟩:=hq1;obtain⟨o',e3,r⟩:=R.sl j s e1;rw[e2] at e3;cases e3;obtain⟨_,_,u,e,_⟩:=Dz r q;rw[h] at e;cases e
theorem SR.put(R:DH)(i:Nat)(r:AM1)(ha:∀a,Yf ->Ľ):Air (pv o) s:=by
 show DC R.gr (A0 R.len) (Tm j t) (fun j k a e1 e2=> ?_)
 ·by_cases hj:i=j
  ·subst hj;show Afg (by
    show NR (AJy Γ.length)
    ·exact h
    ·rw[List.getElem?_eq_none (BH h)] at e;cases e)
   rw[List.getElem?_set_self hi] at e;cases e;exact No (QU List.getElem?_set_self R.len hi) r
  ·rw[BFa] at e;rw[List.getElem?_set_ne hj];exact R.sl j t e
 ·rcases Rj e1 with ⟨rfl,q1⟩ | ⟨n1,q1⟩
  ·rcases Rj e2 with ⟨rfl,_⟩ | ⟨_,q2⟩
   ·rfl
   ·exact(ha a q1 _ q2).elim
  ·rcases Rj e2 with ⟨rfl,q2⟩ | ⟨_,q2⟩
   ·exact(ha a q2 _ q1).elim
   ·exact R.ap j k a q1 q2
theorem SR.set(R:DH)(i:Nat)(r:IN):Air AI4 ġ:=Axr (ĥ r)
theorem SR.drop(R:DH)(i:Nat)(o:UM):MS SR F H (pv o) ĭ:=Axr trivial
theorem SR.setOw(R:DH)(i:Nat)(h1:ė)(h2:Ĝ)(h3:d_)(r:C8)(ha:Ľ):
  Air (pv ox) cE:=R.put i ⟨a,vs,rfl,h1,h2,h3,r⟩ fun b h=>by cases h;exact ha
theorem Wy(g:JE)(h1:ė)(h2:Ĝ):ZN AXw/\kG AXw:=by
 show B6 FR FR
 ·rw[LJ h2];exact e
 ·show SL
  ·show AwX h1
  ·rw[eB] at e;exact g b u e
theorem SR.frzM(R:DH)(s1:Dx)(s2:kG F')(n:∀b u,LT F' ->gc ->LS H0/\AAe b):AbB:=by
 show DC ⟨R.gr.f.trans s1,s2,R.gr.h,AIo q⟩ R.len (Tm j s) R.ap
 ·cases z:F b with
  | none=>show B3 (n b o e z).1
  | some u=>have:=s1 _ _ z;show dq;show DT;exact R.gr.n b _ z q
 ·show T' e1 r (R.sl j s e);show DB o e1 (Ri r s1 (ABH ?_ (E4 q q)));obtain⟨h1,_,_⟩:=Dz r hb;cases q:F' b with
  | none=>rfl
  | some u=>exact((n b u q h1).2 j ⟨s,o,e,e1,hb⟩).elim
def ada(F H:Hp):Hp:=WP (ò (F b) uA uA (match H b with | some L9=>some L9 | _=>none))
theorem SR.frzA(R:DH)(h1:ė)(h2:Ĝ)(h3:d_)(ha:Ľ):fN AXw H:=by
 obtain⟨s1,s2⟩:=Wy R.g h1 h2;refine R.frzM s1 s2 Awq;show SL
 ·subst hb;exact⟨h3,ha⟩
 ·rw[eB,n] at e;cases e
theorem K1(e1:vt):σ.set i o=σ:=by
 show Cn hl e2 zT.mp e1;rw[<- e2];simp
theorem SR.less(R:DH)(e:AKm)(e1:vt)(h:Yf):Ŵ ĭ a:=fun j q=>by
 have q' :pF ĭ (pv o) j a:=A0W
 rcases Rj q' with ⟨_,z⟩ | ⟨n,z⟩
 ·exact z
 ·exact n (R.ap j i a z ⟨s,o,e,e1,h⟩)
theorem SR.dropAt(R:DH)(e1:vt):fF F H ĭ:=by
 have q:=R.drop i o;rw[K1 e1] at q;exact q
theorem SR.frz(R:DH)(e:KS cE):∃a F',AK4/\Dx /\fF F' H (gN AQL)/\ű AAk CB:=by
 obtain⟨o,e1,a,vs,rfl,h1,h2,h3,r⟩:=ALl;obtain⟨s1,_⟩:=Wy R.g h1 h2;have rp:Rep K AXw AAk CB:=by
  show EE;exact OP a AHs (r.up s1)
 have R2:=((R.dropAt e1).frzA h1 h2 h3 (R.less e e1 Apq)).set i rp;show AYj R2;exact⟨a,_,e1,s1,R2,rp⟩
theorem SR.wrO(R:DH)(e:AKm)(e1:vt)(h:Yf)(r:pC K F AJS H0 t o)(ht:IY (iQ t o b) (iQ s o b)):
  Ar2:=by
 obtain⟨o',e2,r0⟩:=ALl;rw[e1] at e2;cases e2;obtain⟨h2,h3,w,h1,_⟩:=Dz r0 h;show Afg (ID e);have R1:fF F AJS ĭ:=by
  have R0:=R.dropAt e1;show DC ⟨R0.gr.f,ģ,ģ,ŏ (R0.gr.n b o q n)⟩ R0.len (ψ j s' q) R0.ap
  ·rw[ABJ h2];exact R0.g b u q
  ·rw[ABJ h3];exact R0.gr.h b u q
  ·show Ape (R0.sl j s' q) (EH (pp (Dz p2 hb).1 u q')) Qr (R.less e e1 h j A8i) q'
 have R2:=R1.put i r (EH (R.less e e1 (ht b hb)));show AYj R2;exact R2
theorem SR.wr(R:DH)(e:KS cE)(e1:AK4)(r:Aio):
  fF F (L2.upd H a Ý) (gN (.ow es)):=by
 show T' e2 r0 ALl;rw[e1] at e2;cases e2;obtain⟨h2,h3,_⟩:=Dz r0 Apq;exact R.wrO e e1 Apq ⟨a,us,rfl,jW,h2,h3,r⟩ (EH hb)
theorem SR.base(R:DH):SR K F H0 F H σ Γ:=Ay6 (mE R.g R.gr.h)
theorem Gr.unbase(g:AVa)(g' :AXd H0):Gr F0 H0 F' H' :=by
 show DC (g.f.trans g'.f) g'.g g'.h (ai ?_);cases q:F b with
 | none=>exact g'.n b o e q
 | some u=>have:=g'.f _ _ q;show dq;show DT;exact g.n b _ q n
theorem SR.unbase(g:AVa)(R:SR K F H0 F' H' σ' Γ'):BCV :=Ay6 (g.unbase R.gr)
#where
def TrY(h B:Heap)(e:Addr)(cls:Value)(dd:JP)(fl:Value):Prop:=
 ∃oe vs T oT ts,Ê e oe/\ (oe.cls=cls/\oe.dict=dd/\AMZ)/\Ahr/\DA vs 1 (AA T)/\B.get? T=none/\T≠e/\Ê T oT/\oT.data= xI ts/\DA ts 3 fl
def Rk(B:Heap)(l:EX)(a:Addr)(cls:Value)(dx:JP)(h:Heap):Prop:=
 B.StaysIn h/\Sf B.get?/\h.FunFrames B l/\∃dd,AuQ/\
  (TrY h B a cls dd Χ\/∃oe vs,OB oe/\oe.cls=cls/\oe.dict=dd/\Ahr/\BAx 1/\AMZ)
def Bk(B:Heap)(l:EX)(e:Addr)(cls:Value)(dd:JP)(fl:Value)(h:Heap):Prop:=B.StaysIn h/\B.get? e=none/\h.FunFrames B l/\TrY h B e cls dd fl
section
variable{M:Model}{A:Around}{E:dR}{s:Shared}{B:Heap}{env:Env}{outer:EX}{L a:Addr}{cls fl:Value}{dd:JP}{Q:ASz}
theorem z4g(f:D3 ->D3)(o:Obj):(Obj.mapFields f o).dict=o.dict:=by
 unfold Obj.mapFields;split<;>rfl
theorem Nz{h:Heap}{T b:Addr}{oT o:Obj}{ts:D3}(hT:Ê T oT)(hd:oT.data= xI ts)(hb:P7)(hn:∀vs,o.data≠ xI vs):b≠T:=i4 (by
 rw[q,hT] at hb;injection hb with hb;subst hb;exact hn ts hd)
theorem Rm{l:EX}(x:Bk B l a cls dd fl s.heap)(hQ:vi (Bk B l a cls dd Χ h') AUH AUS):cn (setFlight CB none):=by
 obtain⟨f1,f2,f3,oe,vs,T,oT,ts,he,hk,hd,h1,hB,hne,hT,hdT,h3⟩:=x;show UZ far (gy (b≠T) (s.heap.update T (Obj.mapFields (·.setIfInBounds 3 ((none:Option Addr).elim Value.none fun f=>rawInt f)))).get? s.heap.get?) AXO;have hz:3<ts.size:=Ate;unfold setFlight;show AoP;show DU Μ
 refine wpAny_setField hT hdT hz (hQ _ ⟨HH o q,f2,f3.of_keeps (ŏ (No ?_ rfl)),oe,vs,T,_,_,AvQ he,hk,hd,h1,hB,hne,BBV hT hdT,Obj.data_mapFields hdT _,A0 hz⟩ (ŏ (EJ o.slots)))
 ·exact Av0 (f1 b o q)
 ·exact AZK q
 ·exact AZK q
theorem DG{oe:Obj}{vs:D3}{head:Value}{more:Bool}(hfr:ARe ly)(hl:s.heap.FunFrames B ly)(hf:AkB)(he:Adr oe)(hkb:B.StaysIn s.heap)(hen:Sf B.get?)
  (hd:Ahr) (hz:1<vs.size) (h2:AMZ) (hQ:vi (Bk B ly a oe.cls oe.dict (rawInt L) h') AUH AUS):
  cn (do let x<- frameOf env;let pl<- entryPlaceOf L more;let b<- EntryCells.newEntry head x Χ (rawInt L) Χ pl;setField CB 1 b):=by
 have nf:a∉ (ly).filterMap (·.frame):=fun hm=>by
  obtain⟨_,o,ho,hn⟩:=hl.mem hm;rw[he] at ho;injection ho with ho;subst ho;exact hn vs hd
 refine z9 (wpAny_frameOf_fun hfr hl hf (AM h1 k1));show EF wpAny_entryPlaceOf (AM pl hp);unfold EntryCells.newEntry newFields;show AVK (D5 hp.sizeOk5 _);have e1:BN h1.get? oe:=FE k1.2.1 a nf he;have b1:B.StaysIn h1:=OC o (FE k1.2.1 b (fun hm=>(BGf (hl.mem hm).1)) (hkb b o q))
 refine wpAny_setField Aer hd hz (hQ _ ?_ ?_)
 all_goals
  have ne:h1.objs.size≠a:=Nat.ne_of_gt (zF e1);have d3:=Obj.data_mapFields hd (·.setIfInBounds 1 (Value.ref h1.objs.size));have far:gg Qr (ER h1.get?) (ER ((h1.push {cls:= .type "traceback",dict:=none,data:= .fields ([head,.ref L,.none,rawInt L,.none]++ (if pl.isEmpty then List.replicate 6 Value.none else pl)).toArray}).update a (Obj.mapFields (·.setIfInBounds 1 (Value.ref h1.objs.size)))).get?):=
   Z_ hb q (AE AXO yT)
 ·show Fh (OC o (far b o (NG (Ab' hen)) (b1 b o q))) hen (hl.of_keeps (ŏ ?_))
  ·show AJd k (k1.2.2 b o q);exact Is A6K
  ·exact⟨_,_,h1.objs.size,_,_,AOa Aer (Obj.isFreed_of_fields d3),⟨Obj.cls_mapFields _ _,z4g _ _,Lv Array.getElem?_setIfInBounds_ne χ h2⟩,d3,A0 hz,b1.fresh,ne,
    AIV (n_ ne) trans (zX h1 rfl),rfl,by first | (simp;done) | (rcases hp with rfl | ⟨_,_,_,_,_,_,_,rfl⟩<;>simp)⟩
 ·intro b o q n;show AJd k (k1.2.2 b o q);exact⟨sl,A6K⟩
theorem z6c(hfr:ARe ly)(hf:AkB)(x:Rk B ly a cls dx s.heap)
  (hQ:∀h' dd,AuQ ->Bk B ly a cls dd (rawInt L) h' ->AUH ->AUS):cn (noteFrame CB env):=by
 obtain⟨f1,f2,f3,dd,hdd,⟨oe,vs,T,oT,ts,he,⟨rfl,rfl,h2⟩,hd,h1,hB,hne,hT,hdT,h3⟩ | ⟨oe,vs,he,rfl,rfl,hd,h1,h2⟩⟩:=x
 ·unfold noteFrame;simp only [hf];show AoP;show DU Μ
  refine z9 (wpAny_field hT hdT h3 ?_);show AV (FX rawInt)
  refine z9 (wpAny_setField hT hdT Ate ?_);show UZ far (gy (b≠T) (s.heap.update T (Obj.mapFields (·.setIfInBounds 3 Value.none))).get? s.heap.get?) AXO;refine AxR (DG (s:=PH (s.heap.update T (Obj.mapFields (·.setIfInBounds 3 Value.none)))) hfr (f3.of_keeps (ŏ (No (AZK q) rfl))) hf (AvQ he)) (OC o (Av0 (f1 b o q))) h2 (ψ h' w up)
  exact hQ h' _ hdd w (ŏ (up b o (AZK q) n))
 ·unfold noteFrame;simp only [hf];show AoP;show dl
  exact AxR (DG hfr f3 hf he) f1 h2 fun h' w up=>hQ h' _ hdd w up
theorem z3o(hfr:ARe ly)(hf:AkB)(x:Rk B ly a cls dx s.heap)
  (hQ:vi (Rk B outer a cls dx h') AUH AUS):cn (leaving env CB):=by
 unfold leaving;refine z9 (z6c hfr hf x fun h1 dd hdd w up=>Rm (s:=PH h1) w (ψ h2 w2 up2));obtain⟨k1,k2,⟨_,_,k3⟩,k4⟩:=w2;exact hQ h2 ⟨k1,k2,k3,dd,hdd,.inl k4⟩ (up.trans up2)
#where
def gD(P:Program)(w:World):Ca:=fun outer H s E e s' =>
 ∃a C H' B dx,e= AR/\Ag5/\AIH/\AsC/\Aze/\Rk B outer a C dx s'.heap/\
  (AVs M_ (b∉frs outer))/\ (Arj)/\AHV
theorem gD.imp(h:Aje E)(k:∀C dx H',AHV ->E' C dx H'):Aje E' :=by
 obtain⟨a,C,H',B,dx,h1,h2,h3,h4,h5,h6,h7,h8,h9⟩:=h;exact⟨a,C,H',B,dx,h1,h2,h3,h4,h5,h6,h7,h8,k _ _ _ h9⟩
section
variable{X:Cx}{pins:dJ}{σ:St}{H H' :Hp}{s s' :Shared}{B:Heap}{h' :Heap}
theorem ycb(hok:Ag2)(b1:Asm)(b2:BFd)(Dq:Arj):AVY :=IM (œ hok e (fun c v hc q=>by
  have:∃o',ρ (B.get? c) o' :=by
   show Û hc hc
   ·exact Dq _ _ e
   ·exact Dq _ _ hc
  obtain⟨o',e'⟩:=this;have z:=b1 c o' e';rw[q] at z;cases z;exact b2 c _ e') AMo ip)
theorem yf7(I:Η)(hex:X.ex= [])(os:Ag5)(bare:AIH)(un:AcL X.stack [])(hok:Ag2)(b1:Asm)(b2:BFd)
  (inB:AVs M_ (b∉Ł)) (up:s'.heap.UpToSlots h'):
  Un X.fs [] X.H₀ H' X.s₀.heap h' /\AVs ASG ADj :=by
 have I' :k7 :=A9g I.call'
 have hb:=I'.base;rw[hex] at hb;have hb0:=I.base;rw[hex] at hb0;have Rn:AVs ASG ADj :=ai (by
  show OQ o1 (hb0.there b o e Μ)
  refine inB b o1 e1 WJ;show JS (AmC z)
  ·show Lm (zK (zF e) I.ok.above) Alh
  ·exact n z)
 show B6 ⟨AaW hf,AaW hf,fun b o e n hx=>hb.free b o e n hx,AIo hx,hb.tups,hb.oX,hb.qp⟩ Rn
 ·have e1:=bb hb.keep hf Μ
  obtain⟨o',e'⟩:=Rn b o e hf;have z:=b1 b o' e';rw[e1] at z;cases z;exact b2 b _ e'
 ·show A_6 (bb hb.slot hf Μ) ⟨sl',e3⟩
 ·by_cases hf:Aee
  ·show A_6 (hb.slot b o e (I.ok.Ks b hf) hf Μ) (C6 e3)
  ·show vS o' e' (Rn b o e hf) o' (b2 b o' e')
theorem NK(I:Η)(hex:X.ex= [])(hst:X.stack=X.env::X.outer)(hfr:AtF)
  (h:Alo E):AAV (leaving X.env e) (E8 s'' (fR gD X.outer X.H₀ X.s₀ E e s'')) Eb s' :=by
 obtain⟨a,C,H',B,dx,rfl,os,bare,un,hok,Wz,inB,Dq,hE⟩:=h;refine z3o (i5 I.ok.frames hst) hfr (A7 hst Wz) (ACr K3 up)
 obtain⟨un',Rn⟩:=yf7 I hex os bare un hok Wz.1 K3.1 inB up;exact⟨a,C,H',B,dx,rfl,os.trans I.os,bare,un',ycb hok Wz.1 K3.1 Dq,K3,Rn,Dq,hE⟩
#where
def mj(wP):Prop:=BAs C
theorem z8t(D9){h:Heap}{C:Addr}(X:MH)(q:mj K C):
  ∃bm N nm qn bs hdct sn sub ab col dd k0 k1 k2 k3 k5 mN,Ê C (excClassObj nm qn C N bs bm hdct sn sub ab col dd k0 k1 k2 k3 k5 "ValueError.__new__")/\h.Ns N mN/\mN "__init__" =none/\
   OwnTail h AaM bm:=by
 unfold mj W.excIn at q;split at q
 ·rename_i dd cd sl ho;split at q
  ·rename_i C' bm k0 k1 k2 k3 n k5 hm hs;simp only [Bool.and_eq_true,beq_iff_eq,Bool.not_eq_true'] at q;obtain⟨⟨⟨⟨⟨rfl,rfl⟩,hdel⟩,ht⟩,hok⟩,hni⟩:=q;obtain⟨nm,bs,mro,ns,qn,hd,sn,sub,ab,col,del⟩:=cd;dsimp only at hm hdel hok hni;subst hm hdel;obtain rfl:sl= #[k0,k1,k2,k3,some (KI "ValueError.__new__"),k5]:=by
    cases sl;simp only at hs;rw[hs]
   exact⟨bm,ns,nm,qn,bs,hd,sn,sub,ab,col,dd,k0,k1,k2,k3,k5,_,X _ _ ho,.of_isNs (W.isNs_of_in X hok),W.nsMap_none_of_in X hok hni,At5⟩
  ·cases q
 ·cases q
theorem NP(D9){h:Heap}{C:Addr}(X:MH)(q:vx):
  ∃bm N nm qn bs hdct sn sub ab col dd k0 k1 k2 k3 k5,Ê C (excClassObj nm qn C N bs bm hdct sn sub ab col dd k0 k1 k2 k3 k5 "ValueError.__new__")/\OwnTail h Hr bm/\AuR bm/\
   ∃cd,ρ (W.clsIn K C) cd/\cd.mro= GN::bm:=by
 unfold uR at q;split at q
 ·rename_i dd cd sl ho;split at q
  ·rename_i C' bm k0 k1 k2 k3 n k5 hm hs;simp only [Bool.and_eq_true,beq_iff_eq,Bool.not_eq_true'] at q;obtain⟨⟨⟨rfl,rfl⟩,hdel⟩,ht⟩:=q;have hcl:ρ (W.clsIn K C') cd:=AKT W.clsIn ho
   have hm0:=hm;obtain⟨nm,bs,mro,ns,qn,hd,sn,sub,ab,col,del⟩:=cd;dsimp only at hm hdel;subst hm hdel;obtain rfl:sl= #[k0,k1,k2,k3,some (KI "ValueError.__new__"),k5]:=by
    cases sl;simp only at hs;rw[hs]
   exact⟨bm,ns,nm,qn,bs,hd,sn,sub,ab,col,dd,k0,k1,k2,k3,k5,X _ _ ho,At5,ht,_,hcl,hm0⟩
  ·cases q
 ·cases q
def zf(wP):Prop:=vx
section
variable{X:Cx}{pins:dJ}{σ:St}{H:Hp}{s:Shared}
theorem ycy(hl:h.FunFrames base l)(hm:Heap.MadeExcOf h h1 a E3 vs):Rk (W.hideAll h (frs l)) l a E3 none h1:=by
 obtain⟨t,he,_,_⟩:=hm.there;refine⟨OC o (hm.keeps b o (W.of_hideAll _ q)),?_,?_,_,AJ8,.inr ⟨_,_,he,rfl,rfl,rfl,rfl,rfl⟩⟩
 ·cases q:(W.hideAll h (frs l)).get? a with
  | none=>rfl
  | some o=>
   have z:=BFw;rw[hm.new] at z;cases z
 ·have k:=Asz (frs l) hl fun env he a ha=>(BFI env he ha);exact k.of_keeps (Z_ e _ (No (hm.keeps b o e) rfl))
theorem z9g{x:Str}{C:Addr}{np cpos pos:Pos}{e:Expr}{es:AD}{t:TA}{Q:DJ Flow}{E:XK}(hg:TM)(Ax4)(ha:AUp)(hh:C7)
  (I:Η) (h:ZT t vs (Υ vs.length/\A0w))
  (px:∀H1 s1 e s',Ć s1 ->fR gD X.stack H1 s1 (fun C' dx H' =>C' = GN/\dx=none/\H' =H1/\A0w) e s' ->AVR)
  (hd:B1 x "__debug__":=by decide) (he:Ct starEach D6 (FD (BF e) (FC es)):=by rfl) (hpl:ff cpos es:=by rfl):
  nB (ASl AcQ) Q:=by
 obtain⟨bm,N,nm,qn,bs,hdct,sn,sub,ab,col,dd,k0,k1,k2,k3,k5,mN,e1,e2,e3,e4⟩:=z8t I.mod.Jp hC;refine wpAny_Raise_call_subT (C:=C) (nm:=nm) (q:=qn) (N:=N) (bs:=bs) (bm:=bm) (hdct:=hdct) (sn:=sn) (sub:=sub) (ab:=ab) (col:=col) (dd:=dd) (k0:=k0) (k1:=k1) (k2:=k2) (k3:=k3) (k5:=k5)
  PySem.F.excBase_ValueError (mN:=mN) (e4.hasType PySem.F.excBase_ValueError.hasBase) (I.ok.hd hh) ?_ e3 (Kv I hg hm (FY ?_) hd)
 ·rw[he];show AtX
  rw[hpl];rfl
 ·have key:=fh ha cpos H _ I h;rw[he] at key⊢;refine Calls.evalArgs_plain (wpAny_mono key (fun us s2 (BCz vs)=>⟨rfl,BCS,I1.bk _ _ e1,e2.keeps I1.bk,e4.keeps I1.bk,ACr a hm⟩) AXT)
  refine px H1 s2 _ _ I1 ⟨a,GN,H1,W.hideAll s2.heap (frs X.stack),none,rfl,rfl,I1.bare,Un.kept hm.keeps,I1.hok.kept hm.keeps,ycy I1.stack hm,ai (OR (AJv e n)),FR,rfl,rfl,rfl,q⟩;obtain⟨o,eo⟩:∃o,BDu:=by
   have k:=I1.hok b u e;cases u with
   | lst xs=>show AdD k;exact C6 e
   | tup xs=>obtain⟨_,_,_,o,e,_⟩:=k;exact C6 e
   | dK kvs=>show AXo
   | dT kvs=>show AXo
   | set S n=>show AHg o k;exact C6 e
   | ins C dx fs=>show AdF k;exact C6 e
   | own y=>exact k
   | xd fs=>show AdG k;exact C6 e
   | rng lo hi=>show AdE k;exact C6 e
   | frz ob u=>obtain⟨e,_⟩:=k;exact C6 e
   | Hs ps=>show ArC
   | met f y=>show ArC
   | ext φ=>obtain⟨_,e,_⟩:=k;exact e
  show B6 o (AJv eo WJ);have:=I1.stkFree b z;show dq;show DT
#where
abbrev G2:=Rc
inductive XV where
 | ref (C:Addr) | pay (Ayi)
def XV.cls:XV ->Addr
 | GN=>C
 | .pay C _ _=>C
def Dh(eQ)(F H H' :Hp)(C:Value)(dx:JP)(x:XV):Prop:=C= .ref x.cls/\match x with
 | .ref _=>True
 | .pay _ fs ts=>∃p vs as,ρ dx p/\ρ (H' p) (.xd AbE)/\AKs/\F p=none/\AS4/\as.Nodup/\ (So as (gc/\F8))/\fD K F H' ts vs as
theorem Gr.low(s:Aij)(g:AXd H1):a_ :=⟨g.f,g.g,s.trans g.h,ai (wU.back s (g.n b o e n))⟩
def XV.bare:XV ->XV
 | GN=> GN
 | .pay C _ _=> GN
def zj(K:W.Frag)(F H:Hp)(Ex:Db XV)(E:XK):Prop:=∀x C dx F' H',Ex x ->a_ ->AvU H ->AHV
theorem Dh.back(D9)(s:kG H1)(h:Dh K F H H' C dx x):Dh K F H1 H' C dx x:=by
 show CI h.1;have h:=h.2;cases x with
 | ref _=>trivial
 | pay c fs ds=>
  obtain⟨p,vs,as,e1,e2,e3,e4,e5,nd,e6,e7⟩:=h;exact⟨p,vs,as,e1,e2,e3,e4,s.free e5,nd,ABH (OA e6) (s.free (y_ e6)),e7⟩
abbrev XW:=BG G2 XV
abbrev aX:=AGD D
abbrev bZ:=AGD Β
abbrev TT2:=AGD Bool
inductive TW where
 | one (t:T) | tp (c:Str) (t:T)
def TRR(An4):TW ->BG V AO
 | .one t,v,as=>Ð
 | .tp c t,v,as=>∃p u,v= L_/\ρ (F p) (FA [AA',u])/\pE u as
def HJ(Q:ARv):Db TW
 | .one t=>Q t
 | .tp _ _=>False
structure qR where
 nx:Þ
 rt:t6
 bk:Þ:=L8
 ct:Þ:=L8
 rf:t6:=L8
 rT:Db TW:=L8
 rm:BG D G2:=xx
abbrev aF:=qR ->BG G2 XW
open Classical in
noncomputable def jF (F0 F:Hp):Hp:=ATq Azq none (F b)
theorem ztt:Same (jF F0 F) F:=IM (by
 show LL jF;split at e
 ·cases e
 ·exact e)
theorem zoi(h:∀u,LD u ->F0 b≠uA):jF F0 F b=F b:=by
 unfold jF;show AV (xz w hw q (h w hw q))
theorem zwo(e:A9v):∀w,LD w ->F0 b≠some w:=AjV (by
 show LL jF;rw[AZ ⟨w,hw,q⟩] at e;cases e)
theorem zzf(s:Same F0 F1):Same (jF F1 F) (jF F0 F):=IM (Lv zoi (AjV (zwo e w hw (s _ _ q))) (ztt _ _ e))
theorem z2l(s:Same F0 F):Tk F (LD u\/A9v):=IM (by
 by_cases h:Azq
 ·show D' w hw q;have:=s _ _ q;show dq;show DT;exact .inl hw
 ·show DI (by rw[zoi (AjV (h ⟨w,hw,q⟩))];exact e))
section
variable(K:W.Frag)(F0 H0:Hp)
def DK(t:aX)(E:XW):TE:=A8X Q4
def Ro(t:TT2)(E:XW):TT:=ABS (∀b Γ' F' H',AgX (P b Γ') (Q b H'))
def NQ(ALG):TA:=A8Y ACU
def upF(ALG):TE:=ABS (∀ds Γ' F' H' a vs,Ο AG6 Dx (BN H' MY) sA (Ο d_ ACU AiE (P ds Γ') (Q CB H')))
structure vW (F:Hp) (D2:qR) (D:Ends):Prop where
 nx:Apv D2.nx jI
 bk:Apv D2.bk (D.bk σ H)
 ct:Apv D2.ct (D.ct σ H)
 rt:A7d Q4 D2.rt
 rf:A7d (Rep K AiL d v) D2.rf
 rT:∀t v as F' H,Gr F0 H0 F' H ->Ο as.Nodup (iO (sA/\d_)) (TRR K F' H t v as) (D2.rT t) AcG
 rm:∀d v Γ F' H σ,AbB ->Q4 ->D2.rm d Γ ->AcG
def WD(t:aF)(E:XW):TS:=ad (∃F Γ D2,DH/\t D2 Γ E/\AMY F)
#where
theorem vW.mono{K:W.Frag}{F0 H0 F F' :Hp}{D2:qR}{D:Ends}(k:AMY F)(s:Dx):AMY F':=
 Ŧ (fun Γ F1 H σ R s1 h=>(Ap2 k.nx)) (fun Γ F1 H σ R s1 h=>(Ap2 k.bk)) (fun Γ F1 H σ R s1 h=>(Ap2 k.ct))
structure WK where
 xe:dR
 pn:dJ
abbrev _root_.L2.Cx.wsh(X:Cx)(z:WK):Cx:={X with xe:=z.xe,pn:=z.pn}
structure Ctx (X:Cx) (F0 H0:Hp) (E:XW):Prop where
 pX:∀pins σ Γ F H s e s',Η ->AXv ->Alo (AcJ (∃Γ' F' x,VT F' H' Γ' /\Dx /\APE H C dx x/\ (x.bare=x\/ASn (Ŵ Γ' b))/\E Γ' x)) ->AVR
 po:ApF
theorem Ctx.px(cx:o_ Ctx E)(BCf)(Γ:G2)(F H:Hp)(s:Shared)(e:Value)(s' :Shared)(I:Η)(R:AXv)(hx:Alo A3f):AVR :=
 cx.pX pins σ Γ F H s e s' I R (hx.imp (Ō H' ⟨x,F',h1,h2,h3⟩ ⟨Γ,F',x,R.grow h2,h2.f,h3,.inr (EH (R.apart hb)),h1⟩))
def QE(ND)(e:Expr)(t:aX):Prop:=ALx DK
def QF(ND)(e:Expr)(t:bZ):Prop:=ALx upF
def QT(ND)(e:Expr)(t:TT2):Prop:=ia PT e Ro
def QW(ND)(e:Expr)(t:TT2):Prop:=ia PW e Ro
def QA(Axx):Prop:=ia PA es NQ
def QS(ND)(st:Stmt)(t:aF):Prop:=ia PS st WD
def vf(ND)(st:LM)(t:aF):Prop:=ia Dg st WD
section
variable{X:Cx}{e:Expr}{es:AD}{st:Stmt}{sts:LM}
theorem oU(h:PE X e t)(hi:∀σ H Q,t' σ H Q ->t σ H Q):PE X e t' :=fun pins s σ H Q I q=>(AGB Q)
theorem NT(h:PT X e t)(hi:∀σ H Q,t' σ H Q ->t σ H Q):PT X e t' :=fun pins s σ H Q I q=>(AGB Q)
theorem pwC(h:PW X e t)(hi:∀σ H Q,t' σ H Q ->t σ H Q):PW X e t' :=fun w pins s σ H Q I q=>fh h w H Q I AaU
theorem paC(h:AUo)(hi:∀σ H Q,t' σ H Q ->t σ H Q):PA X es t' :=fun p pins s σ H Q I q=>fh h p H Q I AaU
theorem tL(h:Akl)(hi:∀D σ H,t' D σ H ->t D σ H):PS X st t' :=fun pins s σ H D I q=>(AGB D)
theorem Rp(h:Dg X sts t)(hi:∀D σ H,t' D σ H ->t D σ H):Dg X sts t' :=fun pins s σ H D I q=>(AGB D)
#where
section
variable{X:Cx}{F0 H0:Hp}{a b c e:Expr}{es:AD}{pos:Pos}{ta tb tc te:aX}
def cC(d:D):aX:=Mn vj
theorem WL(h:∀z,PE fe e (tC v))(r:∀F,io d v):xD (cC d):=fun z E cx=>
 oU (h z) (AS1 (w4 P hq1 (JJ _ R Go (r F) h)))
theorem aZ{i j pos}:AX3 tq (ZH i):=AYk yfr
theorem ycz{i j pos}:AX3 (.bool i) (cC (.bl i)):=AYk yh9
theorem yap{j pos}:AX3 Χ Abh:=AYk yhp
theorem GQ{x j pos}:AX3 ABz (cC (HE x)):=AYk yg2
def cV(Ya):aX:=Mn (XE Γ[i]? (some ġ) vj Ady Ayl)
theorem yhb(ACf)(AFh):Atc:=fun z E cx=>
 oU U' (EI hq2 (by
  show Of hq2;show A_ cV;show DL
  ·rename_i d e;obtain⟨o,e1,v,rfl,r⟩:=ALl;exact⟨v,e1,k d Γ F H v R Go r h⟩
  ·rename_i ds e;obtain⟨a,F',e1,s1,R',r⟩:=R.frz e;exact⟨AR,e1,k _ _ F' H _ R' s1 r h⟩
  ·show EB))
def sE(K:W.Frag)(g:C_):R2:=OK (∃F d1 d2 P,JE/\fS d1 x/\fS d2 y/\g d1 d2 P/\A'R)
def cB(g:C_)(ta tb:aX):aX:=Sc ta d1 (P4 tb d2 (g d1 d2 fun d=>P d Γ2))
theorem WM(D9){g:C_}{E:XW}(bz){Q:VK}(h:di AYo E σ H Q):Qz (sE K g) (di ta E) (di tb E) σ H Q:=by
 show Of h;refine ES (fun d1 Γ1 F1 H1 v1 R1 s1 r1 h1=>(lb (fun d2 Γ2 F2 H2 v2 R2 s2 r2 h2=>⟨F2,d1,d2,_,R2.g,AgN,r2,h2,fun d z F' H' gr rz hp=> ?_⟩)));exact k d Γ2 F' H' z BFv (AOm gr.f) rz hp
theorem dg(ho:c8 lW BFu (nc g))(ha:OX)(hb:ja):B' AsS AYo:=fun z E cx=>
 oU (ygr (ho z) Cf HV) (ek WM)
theorem Cg(A3m):B' AMA AYo:=fun z E cx=>
 oU (yb8 (ho z) Cf HV hm) (ek WM)
def cT(t:aX):TT2:=mT (t Γ (fun d Γ' =>(Sk (.bl c) (P c Γ'))) E)
theorem yh4{K:W.Frag}{E:XW}(bz){Q:ue}(h:MS Ro (cT te) E σ H Q):di te E σ H fun x H' =>(AK5 (Q c H')) :=by
 show Of h;refine ES (fun d Γ' F' H' v R' s' r q=> ?_);cases d with
 | bl c=>
  show KU;exact⟨c,r,k c Γ' F' H' R' s' q⟩
 | _=>show IZ q
theorem tM(A3m):pr AMA (cT AYo):=fun z E cx=>
 NT (yc6 (ho z) Cf HV hm) fun σ H Q h=>WM (yh4 h)
theorem DN(h:ME)(he:∀whole,isTrue e X.env whole=(do let v<- whole;standAt e.pos;holding [v] (truthy v)):=by intro _;rfl):pr e (cT te):=fun z E cx=>
 NT (Bi yf4 R_ he) (ek yh4)
def gR(t u:TT2):TT2:=AWh (Da c (u Γ' P E) (P false Γ'))
def qd(t u:TT2):TT2:=AWh (Da c (P true Γ') (u Γ' P E))
def fW(t:TT2):TT2:=AWh (P (! c) Γ')
variable{rest:AD}{tA Qm :TT2}
theorem yc4(ha:AEW a):DM QW BFq tA:=ASK ycq Cf
theorem yhn(ha:AEW a)(hb:DM QW AUc Qm):DM QW AUd (gR tA Qm):=fun z E cx=>
 pwC (yhd Cf HV) (EI zp (K0 zp (fun c Γ1 F1 H1 R1 s1 q=>by
  cases c with
  | true=>
   simp only [if_true] at q⊢;exact AMC (fun b Γ2 F2 H2 R2 s2 p=>(AO' (k b Γ2 F2 H2) p))
  | false=>
   simp only [Bool.false_eq_true,if_false] at q⊢;exact JJ R1 s1 q)))
theorem aaI(h:DM QW e tA):AEW e:=fun z E cx=>(R_).pt
theorem NZ(ha:AEW a):pr AWx (fW tA):=fun z E cx=>
 NT (yg9 Cf) (ADg GR GR (fun c Γ1 F1 H1 R1 s1 q=>JJ R1 s1 q))
def cH(ALd):aX:=AlY (XE d i9 AhJ ADK (P AB_ Γ'))
def gU(ALd):aX:=AlY (XE d ADK AhJ i9 (P ASX Γ'))
def dF(ta:aX):aX:=AlY (Sk (.bl c) (P (.bl (! c)) Γ'))
theorem N5{op}(h:OX):B' (.BoolOp op [a] pos) ta:=ASK yff R_
theorem Rq(ha:OX)(hb:B' AUc tb):B' AUd (cH ta tb):=fun z E cx=>
 oU (yht Cf HV) (EI K4 (K0 K4 (fun d Γ1 F1 H1 v R1 s1 r q=>by
  cases d with
  | bl c=>
   show KU;show BB c r;cases c with
   | true=>show We;exact AMC (fun d Γ2 F2 H2 v R2 s2 r p=>AYg)
   | false=>show Aj_ AY4
  | _=>show IZ q)))
theorem yif(ha:OX)(hb:B' Aqt tb):B' Aqu (gU ta tb):=fun z E cx=>
 oU (yio Cf HV) (EI yP (K0 yP (fun d Γ1 F1 H1 v R1 s1 r q=>by
  cases d with
  | bl c=>
   show KU;show BB c r;cases c with
   | false=>show Aj_ (AMC (fun d Γ2 F2 H2 v R2 s2 r p=>AYg))
   | true=>show We;exact AY4
  | _=>show IZ q)))
theorem ygv(ha:OX):B' AWx (dF ta):=fun z E cx=>
 oU (yfq Cf) (ADg ZL ZL (fun d Γ1 F1 H1 v R1 s1 r q=>by
  cases d with
  | bl c=>
   show KU;exact⟨c,r,AY4⟩
  | _=>show IZ q))
def nP(t:TT2)(ta tb:aX):aX:=AWh (Da c (ta Γ' P E) AhJ)
theorem WQ(hc:AEW c)(ha:OX)(hb:ja):B' AsT (nP tA ta tb):=fun z E cx=>
 oU (z74 AR_ Cf HV) (EI Qp (K0 Qp (fun c Γ1 F1 H1 R1 s1 q=>by
  cases c with
  | true=>show bE BU q (AMC (fun d Γ2 F2 H2 v R2 s2 r p=>AYg))
  | false=>show bE UC q (AMC (fun d Γ2 F2 H2 v R2 s2 r p=>AYg)))))
def aq:bZ:=AKx []
def aj(t:aX)(u:bZ):bZ:=m3 t (P4 u ds (P ATD Γ2))
theorem aQ:DM QA [] aq:=fun z E cx=>paC Wq (EI K5 (w4 P K5 (JJ _ R Go ě h)))
theorem aD(ha:ME)(hr:DM QA es tr)(hs:Ct starEach D6 (FD (BF e) (FC es)):=by rfl):DM QA D6 (aj te tr):=fun z E cx=>
 paC (Bi QJ Cf (IT hr) hs) (EI ⟨F,Γ,P,R,h,k⟩ (ES (fun d Γ1 F1 H1 v1 R1 s1 r1 h1=>(lb (fun ds Γ2 F2 H2 vs R2 s2 r2 h2=>JJ _ R2 qf (sy (r1.up s2) r2) h2)))))
def cZ(YO):aX:=IS (AIB (Cb (FA ds)))
theorem vg{x1}(h:AGe es):B' (.Tuple es x1 pos) (cZ t):=fun z E cx=>
 oU (yg7 R_) (ADg Ds Ds (fun ds Γ1 F1 H1 vs R1 s1 r1 h1=>⟨AkX,P_ (by
  have gr:=Gr.laid (o:=HO.tup vs) R1.g hp;refine JJ _ AQk (xc gr.f) ?_ h1.2;show EE;exact OP p AHs (r1.up gr.f))⟩))
def dM(YO):bZ:=IS (AIB ASe)
theorem GX(AEn)(AXp){p:Addr}{vs:Δ}{ds:Β}(R:DH)(hp:AS4)(r:C8):
  fN F Aus/\ ρ (Aus p) MY/\F p=none/\H0 p=none/\AAe p:=by
 refine⟨?_,jW,R.g.free hp,R.gr.h.free hp,R.apart hp⟩;refine R.grow (mE FR FR)
 ·rw[ADh R.g hp];exact R.g b u e
 ·rw[LJ hp];exact e
theorem yI{t:bZ}(h:AGe es):om AvM (dM t):=fun z E cx=>
 oU (yh0 R_) (ADg Dt Dt (fun ds Γ1 F1 H1 vs R1 s1 r1 h1=>⟨AkX,P_ (by
  obtain⟨R2,e1,e2,e3,ap⟩:=GX R1 hp r1;exact al ds _ p vs R2 s1 e1 e2 e3 r1 ap h1.2)⟩))
def dN(YO):aX:=IS (Cb AAk)
theorem je(h:my QF e):xD (dN t):=fun z E cx=>
 oU R_ (EI Du (K0 Du (fun ds Γ1 F1 H1 a vs R1 s1 e1 e2 e3 r1 ap h1=>by
  obtain⟨s2,_⟩:=Wy R1.g e1 e2;refine JJ _ (R1.frzA e1 e2 e3 ap) qf ?_ h1;show EE;exact OP a AHs AgN)))
variable{st:Stmt}{sts:LM}{t u:aF}
def bw:aF:=Wp (D.nx Γ)
def aG(t u:aF):aF:=m_ (t {D with nx:=yi (u D Γ' E)} Γ E)
theorem uO:DM vf [] bw:=fun z E cx=>Rp yd8 (aI D aaJ (w4 D2 aaJ (Fu R Go h)))
theorem cL(h1:my QS st)(h2:DM vf sts u):DM vf (st::sts) (aG t u):=fun z E cx=>
 Rp (ZQ Ad1 (IT h2)) (Hc D aaK aaK (Ŧ (fun Γ' F' H' σ' R' s' q=>⟨F',Γ',D2,R',q,k.mono s'⟩) k.bk k.ct))
theorem cX(h1:my QS st):my vf [st]:=ASK ZR Ad1
def adb:aF:=Wp (D.bk Γ)
def ade:aF:=Wp (D.ct Γ)
def dh(HA):aF:=S4 te _ (D.nx Γ1)
theorem yb2(he:ME)(hs:Ī none pos.line X.env:=by rfl):KO (.Expr e pos) (dh te):=fun z E cx=>
 tL (Bi ZV LE hs) (Hc D aaL aaL (fun d Γ1 F1 H1 v R1 s1 r1 h1=>(AV1 R1)))
def aU(HA):aF:=Axq (D.rt d)
theorem iC(he:ME):Awg (aU te):=fun z E cx=>
 tL (yad LE) (Hc D aaM aaM (fun d Γ1 F1 H1 v R1 s1 r1 h1=>D5 k.rt R1.gr r1 h1))
def dW:aF:=fun D _ _=>D.rt Ρ
def cN(c:TT2)(t u:aF):aF:=S4 c b (Da b (t D Γ1 E) (u D Γ1 E))
theorem uP(hc:AEW c)(ha:my vf x)(hb:DM vf y u):KO (.If c x y pos) (cN tA t u):=fun z E cx=>
 tL (yit AR_ Cf HV) (Hc D aaN aaN (fun c Γ1 F1 H1 R1 s1 q=>by
  cases c with
  | true=>show bE BU q Avp
  | false=>show bE UC q Avp))
def aaO:aF:=SK
def aV(AjE):aF:=AEZ (k_ ġ)
theorem jo(mI)(hx:ko)(he:ME)(hs:Ī (BO (ED x pos')) pos.line X.env:=by rfl)
  (hf:lr:=by first | show d5 | show kg):AYW aV te:=fun z E cx=>
 tL (AX2 hi LE hs hf) (Hc D aaP aaP (fun d Γ1 F1 H1 v R1 s1 r1 h1=>(AV1 (R1.set i r1))))
def cg(i:Nat)(t:bZ):aF:=S4 t ds (k_ cE)
theorem K6(mI)(hx:ko)(he:Ai2)(hs:Ī (BO (ED x pos')) pos.line X.env:=by rfl)
  (hf:lr:=by first | show d5 | show kg):AYW cg tf:=fun z E cx=>
 tL (AX2 hi LE hs hf) (Hc D aaQ aaQ (fun ds Γ1 F1 H1 a vs R1 s1 e1 e2 e3 r1 ap h1=>(AV1 (R1.setOw i e1 e2 e3 r1 ap))))
#where
#print L3
namespace L3
open PySem PySem.Spec PyProof.Rows L2
abbrev qP:=AzV D
abbrev uU:=AzV Β
section
variable(K:W.Frag)(F0 H0:Hp)
def WR(g:qP)(E:XW):TG:=AI_ (∃F Γ P d,DH/\IN/\g d Γ P E/\A'c)
def aaR(g:uU)(E:XW):Hv:=aI vs Q (∃F Γ P ds,DH/\C8/\g ds Γ P E/\A'c)
#where
def QG(ND)(e:Expr)(g:qP):Prop:=ANu (PG fe e (Zs WR g E))
def Rr(ND)(es:AD)(g:uU):Prop:=ANu (Ky fe es (Zs aaR g E))
section
variable{X:Cx}{F0 H0:Hp}{e tg:Expr}{es:AD}{pos:Pos}{te:aX}{g:qP}{gs:uU}
theorem pgC(h:PG X e t)(hi:∀v σ H Q,t' v σ H Q ->t v σ H Q):PG X e t' :=fun pins s σ H v u Q I r q=>A7w
theorem Rt(h:Ky X es t)(hi:∀v σ H Q,t' v σ H Q ->t v σ H Q):Ky X es t' :=fun pins s σ H v u Q I r q=>A7w
def hName(Ya):qP:=fun d Γ Q _=>Q (Γ.set i ġ)
theorem gJ(mI)(hx:ko)(hf:lr:=by first | show d5 | show kg):DM QG ABT (B7 i):=fun z E cx=>
 pgC (ANt ydi hN hi hx hf) fun v σ H Q hq1=>by obtain⟨F,Γ,P,d,R,r,h,k⟩:=hq1;exact JJ (R.set i r) Go h
def d8:uU:=fun ds Γ Q _=>ds= []/\Q Γ
def aW(g:qP)(gs:uU):uU:=fun ds Γ Q E=>match ds with | d::r=>g d Γ (AG Γ' (gs r Γ' Q E)) E | []=>False
theorem Ci:DM Rr [] d8:=fun z E cx=>Rt ycp fun vs σ H Q hq2=>by
 obtain⟨F,Γ,P,ds,R,r,h,k⟩:=hq2;show sd h h;show Ts;exact⟨r,JJ R Go h⟩
theorem qt(h1:DM QG e g)(h2:Awa)(hs:AFo D6 (·.2)=AR8 e::AFo es (·.2):=by rfl):DM Rr D6 (aW g gs):=fun z E cx=>
 Rt (Bi z6d Ad1 (IT h2) hs) fun vs σ H Q zp=>by
  obtain⟨F,Γ,P,ds,R,r,h,k⟩:=zp;cases ds with
  | nil=>show ALq
  | cons d ds=>
   show Ts;show AMX;exact⟨v,us,rfl,F,Γ,_,d,R,r1,h,fun Γ1 F1 H1 σ1 R1 s1 q=>⟨F1,Γ1,P,ds,R1,r2.up s1,q,fun Γ2 F2 H2 σ2 R2 s2 p=>(AO' JJ p)⟩⟩
def d9(n:Nat)(gs:uU):qP:=fun d Γ Q E=>(Sk uS Azj)
theorem Cj(hc:C7)(h:Awa)(hn:MI assignEach es X.env=n:=by rfl)(hst:(assignEach es X.env).findIdx? (·.1)=none:=by rfl):DM QG Av9 (d9 n gs):=fun z E cx=>
 pgC (Sn ygo n n hc R_ hn hst) fun v σ H Q wV=>by
  obtain⟨F,Γ,P,d,R,r,h,k⟩:=wV;cases d with
  | tup ds=>
   show KU;show Bn a vs hq rs r;exact⟨a,vs,rfl,su R.g hq,A7 W' h.1,F,Γ,P,ds,R,rs,h.2,k⟩
  | _=>show ALq
def iD(te:aX)(g:qP):aF:=AEZ (g d Γ1 D.nx E)
def gW(i j:Nat)(t:bZ):aF:=S4 t ds (LV lc (D.nx ((Γ1.set i (.pu x)).set j (.pu y))))
theorem yh3{kt k2 Kz}(hc:C7)(hN:X.N.Nodup)(hi:Sr)(hj:AQ0)(hij:i≠j)
  (hx:AZ') (hy:AXy) (ha:Aem)
  (hw:AXY AGU AGN (BO lc)) (hs:ATw AGU AGN:=by rfl):
  AN6 AGU AGN (gW i j t):=fun z E cx=>
 tL (ANt yfg (j:=j) hc hN hi hj hij hx hy Cf hw hs) (Hc D K4 K4 (fun ds Γ1 F1 H1 vs R1 s1 r1 h1=>by
  match ds,r1,h1 with
  | [d1,d2],r1,h1=>
   unfold ao ao ao at r1;obtain⟨v1,_,rfl,q1,v2,_,rfl,q2,rfl⟩:=r1;exact IB v1 v2 (AV1 ((R1.set i q1).set j q2))
  | [],_,h1=>show u_
  | [_],_,h1=>show u_
  | _::_::A8,_,h1=>show u_))
def zu(c:TT2)(tb:aF):aF:=m_ (∃W:k9,(∃m,W m Γ)/\∀m Γ,W m Γ ->
 VC c b (Da b (tb (AHS Aun Aun) Γ1 E) (D.nx Γ1)))
theorem zxr(hc:pr c tc)(hb:AM4):KO A5n (zu tc tb):=fun z E cx=>
 tL (z7y cx.po AR_ HV) (aI D yP (by
  obtain⟨F,Γ,D2,R,⟨W,⟨m,w0⟩,turn⟩,k⟩:=yP;show DB (fun m σ H=>∃F1 Γ1,VT F1 H Γ1/\SA/\W m Γ1) ⟨m,F,Γ,R,oP,w0⟩ (aI m ⟨F1,Γ1,R1,s1,w1⟩ (AaA (turn m Γ1 w1) (fun b Γ2 F2 H2 R2 s2 q=> ?_)));cases b with
  | true=>
   rw[BU] at q⊢;refine⟨fun σ' H' =>(AHC (∃F3 Γ3,Zs SR F3 H' σ' Γ3/\ZN F3/\W m' Γ3)),fun σ' H' z=>z,F2,Γ2,_,R2,q,Ŧ (fun Γ3 F3 H3 σ3 R3 s3 AxJ=>A'o) (fun Γ3 F3 H3 σ3 R3 s3 p=>Fu R3 AU' p) (fun Γ3 F3 H3 σ3 R3 s3 AxJ=>A'o)⟩
  | false=>
   show bE UC q (Fu R2 qf q)))
def aaS(AXI):TI:=Aw' ((∃xs,AQr)/\Ĺ KD) ((∃xs,Age)/\Ĺ Js)
theorem yhe(hl:PE X l tl):c0 l (aaS X.K tl):=by
 show d6;refine cJ (aS hl) (PQ v Qp);show SV Qp;obtain⟨a,e,q⟩:=q1;subst e;cases r1;rcases q with ⟨⟨xs,hq⟩,q⟩ | ⟨⟨xs,hq⟩,q⟩
 ·show A3y ⟨s1.heap.objs.size,ó,_,_,H1,rfl,AFH,zte a _,RS,He,q⟩
 ·obtain⟨its,rv,p,hz⟩:=I1.tuple hq;refine wpAny_pyIter_tuple (Bz (s1.heap.IsTuple a its.toArray) p) ?_;refine⟨s1.heap.objs.size,ó,_,_,H1,rfl,AFH,zpz a _,RS,He,q⟩;show ACI
  exact ACd
def nZ(ds:Β)(g:qP)(ApR):Prop:=∃I:k9,AM0/\
 (A7S Am0)/\∀Γ,I ds.length Γ ->Af2
def sG(te:aX)(g:qP)(tb:aF):aF:=AL' (VC te d (XE d uB Apu uS Apu))
theorem DP(hc:C7)(hi:ADJ iter)(hg:AWk)(hb:AM4)(hs:e9 iter:=by intro _;rfl):
  AZg iter sG te:=fun z E cx=>
 tL (A9o yhe AKC HV hs) (Hc Dn K5 K5 (fun d Γ1 F1 H1 v R1 s1 r1 h1=>by
  have body:∀(ds:List L3.D) (vs:Δ),AF' ->∀I:k9,(A7S (AG Γ' (tb (APz D2 D2.nx) Γ' E))) ->
    ∀(i:Nat) x σ H,Zl vs ->(Ab_) ->Zs WR g E x σ H (AHO (Zs WD tb E (Aks Ams Ams) σ2 H2)):=by
   rintro ds vs rs I turn i x σ H hx ⟨F2,Γ2,R2,s2,hI⟩;obtain⟨d,hd,rd⟩:=zue rs hx;exact⟨F2,Γ2,_,d,R2,rd.up s2,turn i d Γ2 hd hI,fun Γ3 F3 H3 σ3 R3 s3 p=>⟨F3,Γ3,APz D2 D2.nx,R3,p,Ŧ (fun Γ4 F4 H4 σ4 R4 s4 q=>AZX) (fun Γ4 F4 H4 σ4 R4 s4 q=>Fu R4 (xc (AkE s4)) q) (fun Γ4 F4 H4 σ4 R4 s4 q=>AZX)⟩⟩
  cases d with
  | lst ds=>
   show ħ;show AU9;show ApH;show kK a (ċ ⟨vs,ABg⟩ (A'3 z68 (R2.g.seq (s2.seq hq))));rintro σ H ⟨F2,Γ2,R2,s2,hI⟩;exact Alp (by rw[lB rs];exact hI)
  | tup ds=>
   show ħ;show AU9;show ApH;show kK a (.inr ⟨⟨vs,Ags⟩,A'3 ydc (su R2.g (su s2 hq))⟩);rintro σ H ⟨F2,Γ2,R2,s2,hI⟩;exact Alp (by rw[lB rs];exact hI)
  | _=>show u_))
def DQ(lo:Int)(AmI)(ApR):Prop:=∃I:k9,AM0/\
 (∀(i:Nat) Γ,CH ->I i Γ ->g BDg Γ Am0 E)/\∀Γ,I n Γ ->Af2
theorem yaa(D9){F1 H1:Hp}{Γ1:G2}{σ:St}{lo:Int}{n:Nat}{tb:aF}{D2:qR}{D:Ends}{E:XW}(R1:fF F1 H1 Γ1)(h:DQ lo n g tb D2 E Γ1)(k:AMY F1):
  AFK Lo (W 0 m σ H1) (∀i m σ H,AL0 ->(AxF)\/ (ArG (ARH (GK lo n).yld (MS WR g E x σ H' (AHO (MS WD tb E (AHS N N) σ2 H2)))))):=by
 show L7 I i0 turn done;refine z3n (lo:=lo) (n:=n) (fun i σ H=>∃F2 Γ2,fF F2 H Γ2/\gu F2/\I i Γ2) BCn ?_ ?_
 ·rintro i σ H hi ⟨F2,Γ2,R2,s2,hI⟩;exact⟨F2,Γ2,_,Ada,R2,AZ4,turn i Γ2 hi hI,fun Γ3 F3 H3 σ3 R3 s3 p=>⟨F3,Γ3,_,R3,p,Ŧ (fun Γ4 F4 H4 σ4 R4 s4 q=>AZX) (fun Γ4 F4 H4 σ4 R4 s4 q=>Fu R4 (AkE s4) q) (fun Γ4 F4 H4 σ4 R4 s4 q=>AZX)⟩⟩
 ·rintro σ H ⟨F2,Γ2,R2,s2,hI⟩;exact Fu R2 s2 (done _ hI)
def vh(AjT):aF:=AL' (Æ (LV [gI] ((pf<=j/\APO)/\DQ 0 j.toNat g tb D0 E Γ1)))
theorem Ru(hc:C7)(hgl:Aex)(hm:Fm "range")(ha:ACG)(hg:AWk)(hb:AM4)
  (hst:Ct starEach [a] (AMs a):=by rfl) (hs:e9 AvD:=by intro _;rfl):AZg AvD vh t:=fun z E cx=>
 tL (A7b (z5k hgl hm Cf hst) HV hs) (Hc D Dt Dt (fun ds Γ1 F1 H1 vs R1 s1 r1 h1=>by
  show OY
  ·rename_i j;show ADv;show AH1 rfl r1;exact⟨j,rfl,h1.1.1,h1.1.2,A9l⟩
  ·show u_))
def Jx(AjT):aF:=AL' (Æ (LV ABo ((Apf)/\DQ i AX4 g tb D0 E Γ1)))
theorem ye0(hc:C7)(hgl:Aex)(hm:Fm "range")(ha:Aem)(hg:AWk)(hb:AM4)
  (hst:Ct starEach ae (ApB a b):=by rfl) (hst2:Ct starEach [b] (AMs b):=by rfl) (hs:e9 Az2:=by intro _;rfl):AZg Az2 Jx t:=fun z E cx=>
 tL (A9o (z5n hgl hm Cf hst) hst2 HV hs) (Hc D Du Du (fun ds Γ1 F1 H1 vs R1 s1 r1 h1=>by
  show OY
  ·rename_i i j;show ApY;obtain⟨v,_,rfl,rfl,v2,_,rfl,rfl,rfl⟩:=r1;exact EG i j h1.1 A9l
  ·show u_))
def aaT(lo st:Int)(n:Nat):It:=A7H (.int (lo+i*st))
def ab1(ta:TA):TI:=AJK (∃(i j k:Int) (n:Nat),vs= AzD/\A_s (R (aaT i k n) H1))
def aaU(lo st:Int)(AmI)(ApR):Prop:=∃I:k9,AM0/\
 (∀(i:Nat) Γ,CH ->I i Γ ->g (B5 (lo+i*st)) Γ Am0 E)/\∀Γ,I n Γ ->Af2
def ab2(AjT):aF:=AL' (Æ (LV AzD (∃n:Nat,A_s (aaU i k n g tb D0 E Γ1))))
#where
abbrev cP:=Akv t6
def pN(K:W.Frag)(sp:cP):Sp:=Aol (ANS Q4 (P d))
def aB(sp:cP)(t:bZ):aX:=IS (AFy ALX)
section
variable{X:Cx}{F0 H0:Hp}{e:Expr}{es:AD}{pos p:Pos}{x:Str}{f:Addr}{fd:FuncData}{ps:ο}{k:Nat}{sp:cP}{t:bZ}
theorem K7(AsQ)(hb:ANX)(cx:BAY)
  (I:AmT) (R:AXv) (r:ACH) (rs:bv ds vs) (h:sp ds P fun C=>E Γ C) (hQ:ANS (Rep X.K F' d v) (P d)):
  wpAny ZY X.A (call EQ us) (EP fe pins σ Q) z.xe s:=by
 have hs:pN X.K sp vs H Q A3f:=⟨F,ds,P,_,R.g,rs,h,hQ,fun x C dx F' H' hE gr xr=>Aw2⟩;show AM_ (us++ []) (AJr List.append_nil r.length AMR)
 have hbs:=hb s us I.kIn hl;show AMF;show Ain (Fn.run X.A X.stack s H AKV us vs Q _ hr I.env0 hbs r hs) AjG;cases r with
 | error e=>exact cx.px pins σ Γ F H s e s' I R hq
 | ok fl=>
  cases fl with
  | ret u=>exact I.after hq
  | next=>show ADc
  | brk=>show ADc
  | cont=>show ADc
theorem z0v(AsQ)(hg:TM)(hm:AOx EQ)(hk:W.keepIn X.K EQ=true)(hb:ANX)
  (AIW):
  B' XA (aB sp t):=by
 rintro z E cx pins s σ H Q I ⟨F,Γ,P,R,h,kk⟩;show AYq;refine W.callWith_K (h₀:=X.base) I.ok.mod.Jp hk (Pp (AKI pos (fun vs H1=>∃F1 Γ1 ds,wT/\SA/\AF'/\AFy ALX) I (ES (fun ds Γ1 F1 H1 vs R1 s1 r1 h1=>AV9))) us zy) he hpl;obtain⟨vs,H1,I1,r,F1,Γ1,ds,R1,sF,rs,q⟩:=zy;show CI I1.kIn;exact AoI K7 I1 R1 r rs q fun d v F' H' gr rv hp=>A4j
#where
def aH(n:Nat)(ds:Β):G2:=ds.map .pu++AJh (n - ds.length) υ
abbrev iR(N:ο)(ds:Β):G2:=aH N.length ds
theorem Rv(A3e)(AM5)(h:kG F0)(r:Azu):SR K F0 H F0 H (L2.start N vs) (iR N ds):=by
 have hl:=lB r;show DC (Gr.refl h) (by simp [L2.start,iR,aH,hl]) (Tm i s) (fun i j a e _=> ?_)
 ·unfold iR aH at e;unfold L2.start;show Agc
  ·show AHq List.getElem?_append_left List.getElem?_map
   cases q:ds[i]? with
   | none=>show eJ
   | some d=>
    show Pf;cases e;show OH e1 r1 (vd r q);refine Hm t_ ?_ v r1;show A5H e1;rfl
  ·show AU7 List.getElem?_append_right
   split at e
   ·cases e;rename_i hlt;show AdH hlt;show uC none trivial;show AxL (if_pos (by show AbG;exact hlt))
   ·cases e
 ·exfalso
  obtain⟨s,o,e,_,hs⟩:=e;unfold iR aH at e;show Agc
  ·show AHq List.getElem?_append_left List.getElem?_map
   cases q:ds[i]? with
   | none=>show eJ
   | some d=>show Pf;cases e;exact hs
  ·show AU7 List.getElem?_append_right
   split at e
   ·cases e;exact hs
   ·cases e
section
variable{P:Program}{w:World}{K:W.Frag}{mg:CD}{base:Heap}
theorem jA{x qual:Str}(AFz){fd:FuncData}{N ps:ο}{k:Nat}{sp:cP}(Fn:Ŕ)(S:AFj ps)(len:ANQ)
  (hbody:∀(cdv:Value) (A:Around) (outer:EX) (s:Shared) (H:Hp) (E:XK),AFW (∀F0:Hp,
   ∃t,AjL yY/\Amn AmN)):
  Afx pN:=by
 obtain⟨oc,od,kV,doc,pm,an,cdv,ct,osl,rfl,lk,hcd⟩:=Fn.ex;show ANe (fun A outer s H vs Q E hr hq2=> ?_)
 show AqA AM3
 obtain⟨F0,ds,Pd,Ex,sF,rs,hsp,hQ,hE⟩:=hq2;show Ajg;show ANd (by
  show AC' (fun pins σ Γ F H1 s1 e s' I R hx=> ?_);show AGX;obtain⟨Γ',F',x,R',_,xr,_,z1⟩:=z;exact ANg)
 exact⟨_,AVl,F0,iR N ds,A2n,AnD,ApJ,⟨fun Γ F' H' σ R' _ q=>A4P,fun _ _ _ _ _ _ q=>q,fun _ _ _ _ _ _ q=>q,fun d v F' H' gr rv q=>A5u,fun _ _ _ _ _ _ q=>q.elim,fun _ _ _ _ _ _ _ _ _ q=>q.elim,fun _ _ _ _ _ _ _ _ q=>q.elim⟩⟩
#where
def dU(AFO):Nat:=Builtin.Int.intBits i
theorem ybs(h:As0):BEd:=by
 show A_ dU;unfold IntMulOk;intro z;show Aie z;have z2:=z.2;unfold Builtin.Int.intTooBig at z2;have hb:bitsLine=134217728:=by rfl
 rw[hb] at z2;have:=of_decide_eq_true z2;omega
theorem oV(h:Aiv):Tb<=k:=by
 show As9;split
 ·exact G1
 ·show GW;show SE n0 i.natAbs (by
   have:i=0:=BDq;show XY;exact q rfl)
  have:=(Nat.log2_lt n0).mpr h;omega
theorem K8(h:Tb<=k):Aiv:=by
 unfold dU Builtin.Int.intBits at h;show DL
 ·show GW;have:i=0:=AN q
  show XY;exact Nat.two_pow_pos k
 ·show GW;show SE n0 i.natAbs (by
   have:i=0:=BDq;show XY;exact q rfl)
  exact(Nat.log2_lt n0).mp ξ
theorem Bl(lT):dU (i*j)<=Tb+bo:=by
 refine oV ?_;rw[Int.natAbs_mul,Nat.pow_add];exact Nat.mul_lt_mul'' (K8 (zL _)) (K8 C1)
theorem WT(lT):A_P (dU (i+j)):=by
 refine oV ?_;have h1:i.natAbs<A5l:=K8 (Nat.le_max_left _ _);have h2:j.natAbs<A5l:=K8 (Nat.le_max_right _ _);have h3:=Int.natAbs_add_le i j;rw[Nat.pow_succ];omega
theorem z3q(AFO):dU (-i)=dU i:=by show As9;simp
theorem zki(lT):A_P (dU (i - j)):=by
 have h:=WT i (-j);rw[z3q,<- Int.sub_eq_add_neg] at h;exact h
theorem Di(h:i.natAbs<=j.natAbs):Tb<=bo:=oV (zJ h (K8 (zL _)))
section
variable{X:Cx}
theorem WW{f:ţ}{C:AXH}{v:AT3}{d:AT2}{g:C_}(ho:lW X f (rI C v))(hg:∀x y P,g x y P ->Aog AFs)(hd:∀i j F,io (d i j) (v i j)):lW X f (nc g):=by
 rintro pins s σ H x y u w Q I rx ry ⟨F,d1,d2,P,sF,r1,r2,h,k⟩;show fz i j rfl hc hp (hg _ _ _ h);show wf;subst r1 r2;exact ArF ⟨i,j,rfl,rfl,hc,Awk⟩
theorem WX{f:ţ}{v:AT3}{d:AT2}{g:C_}(ho:lW X f (Jt v))(hg:∀x y P,g x y P ->AIa AFs)(hd:∀i j F,io (d i j) (v i j)):lW X f (nc g):=by
 rintro pins s σ H x y u w Q I rx ry ⟨F,d1,d2,P,sF,r1,r2,h,k⟩;show Bn i j rfl hp (hg _ _ _ h);show wf;subst r1 r2;exact ArF (Hm i j rfl Awk)
def wI(C:AXH)(d:AT2):C_:=NJ (match x,y with
 | B8,gI=>C i j/\AFs
 | _,_=>False)
theorem WY(h:wI C d x y P):Aog AFs:=by
 show A_ wI;show DL
 ·exact FL _ rfl h
 ·show EB
def nG(d:AT2):C_:=NJ (match x,y with
 | B8,gI=>AFs
 | _,_=>False)
theorem W0(h:nG d x y P):AIa AFs:=by
 show A_ nG;show DL
 ·exact FL _ rfl h
 ·show EB
def dw:C_:=NJ (match x,y with
 | B8,gI=>HR (i+j)
 | .str i,.str j=>Υ (i.length+j.length)/\P (HE (i++j))
 | _,_=>False)
theorem wL:AEh Add dw:=by
 rintro pins s σ H x y u w Q I rx ry ⟨F,d1,d2,P,sF,r1,r2,h,k⟩;show A_ dw;show DL
 ·show wf;subst r1 r2;exact tI (FS yfl _ _ u w) (FL _ rfl s_)
 ·show wf;subst r1 r2;exact tI (FS zz6 _ _ u w) ⟨_,_,rfl,rfl,h.1,ATu⟩
 ·show EB
def eY:C_:=nG fun i j=> .int AXJ
theorem G3:AEh Sub eY:=AYT yhx
def vX(lT):Prop:=Tb<=64\/bo<=64\/As0
theorem vX.ok(h:vX i j):BEd:=by
 rcases h with h | h | h
 ·exact .of_left h
 ·exact .of_right h
 ·exact ybs h
def bT:C_:=wI vX (ie (i*j))
theorem pG:AEh Mult bT:=WW (C:=vX) (v:=ie (i*j)) (Wo fun i j _ _ _ _ _ hc q=>mul_int q hc.ok) (Sb WY) AHp
def eO:C_:=wI (E8 j (j≠0/\bo<=9000)) Aqx
theorem Ck:AEh FloorDiv eO:=WW (C:=E4 j (j≠0/\bo<=9000)) (v:=Aqx) (Wo fun i j _ _ _ _ _ hc q=>floordiv_int hc.1 q (C5 (PyProof.noPylong_of_log2 (by
 have:=K8 hc.2;exact(Nat.log2_lt (NG (hc.1 (Int.natAbs_eq_zero.mp z)))).mpr this)))) (Sb WY) AHp
def cI:C_:=wI (E8 j (j≠0)) Aqw
theorem sI:AEh Mod cI:=WW (C:=E4 j (j≠0)) yeb (Sb WY) AHp
def gF:C_:=wI Dv A0'
theorem yco:AEh Pow gF:=WW yg0 (Sb WY) AHp
def n6:C_:=AWc (i<j)
theorem HN:wE Lt n6:=AYT yis
def oZ:C_:=AWc (i<=j)
theorem Rx:wE LtE oZ:=AYT yi1
def mZ:C_:=AWc (j<i)
theorem Cm:wE Gt mZ:=AYT yin
def qe:C_:=AWc (j<=i)
def dB:D ->Bool | Ρ=>true | _=>false
theorem ydw(D9){F:Hp}{d:D}{v:V}(r:IN):ω (v= Ρ)=dB d:=by
 cases d with
 | non=>show AEX
 | bl _=>show AEX
 | int _=>show AEX
 | str _=>show AEX
 | tup _=>show ANM
 | lst _=>show ANM
 | exc _=>show ANM
 | ptr _=>show AEX
 | obj _ _ _=>show KU;obtain⟨a,_,_,rfl,_⟩:=r;rfl
 | dic _ _=>show ANM
 | jX _ _=>show ANM
 | dik _ _=>show KU;obtain⟨a,_,_,rfl,_⟩:=r;rfl
def qg:C_:=A4o (GY (dB x)) (c==d)
def gO:C_:=A4o (GY (! dB x)) (c !=d)
theorem yig:wE IsNot gO:=by
 rintro pins s σ H x y u w Q I rx ry ⟨F,d1,d2,P,sF,r1,r2,h,k⟩;show A_ gO;show DL
 ·have e:=ydw r1;show Kt r2;subst r2;exact tI (FS yc2 x _ u w) (FY (AE e s_))
 ·show DL
  ·show wf;subst r1 r2;cases rx;cases ry;exact isnot_bool (ACS s_)
  ·show EB
 ·show EB
mutual
def kO:D ->D ->Bool
 | Ρ,Ρ=>true
 | .bl a,UR=>Y1
 | ACp,ACq=>Y1
 | AKD,AKE=>Y1
 | MD,ASR=>ir
 | Id,Ď=>ir
 | .exc a,.exc b=>Y1
 | .ptr a,.ptr b=>Y1
 | .obj C fs xs,.obj C' fs' ys=>ω (C=C')&&ω (fs=fs')&&ir
 | .dic ks xs,.dic ks' ys=>AmV
 | .jX ks xs,.jX ks' ys=>AmV
 | .dik ks xs,.dik ks' ys=>AmV
 | _,_=>false
def jj:Β ->Β ->Bool
 | [],[]=>true
 | FM,AEf=>kO x y&&ir
 | _,_=>false
end
@[simp] def kd:D ->Nat
 | Ρ=>0
 | Kx=>1
 | IR=>2
 | HZ=>3
 | AKK=>4
 | YA=>5
 | _=>6
@[simp] def Bm (d d' :D):Bool:=kd d<6&&kd d' <6&&(kd d !=kd d' || kd d<4)&&(kd d !=1 || kd d' !=2)&&(kd d !=2 || kd d' !=1)
def vY:GH (BG D D)
 | n+1,MD,ASR=>Alr
 | n+1,Id,Ď=>Alr
 | _,d,d' =>AV6
#where
mutual
theorem W3:∀d:D,kO d d=true
 | Ρ=>ua
 | Kx=>ua
 | IR=>ua
 | HZ=>ua
 | MD=>AuK
 | Id=>AuK
 | ę=>ua
 | Ě=>ua
 | .obj _ _ xs=>AX8
 | .dic _ xs=>AX8
 | .jX _ xs=>AX8
 | .dik _ xs=>AX8
theorem K9:∀ds:Β,jj ds ds=true
 | []=>AKM
 | SG=>ALD jj (W3 d) (K9 ds)
end
open Classical in
theorem zr2:AnB (xs.length=ys.length ->(∀e:GH Bool,(APH (e i=kO x y)) ->ALK xs.length e=ir))
 | [],[],_,_,_=>AKM
 | FM,AEf,hl,e,he=>by
  have ih:=zr2 (xs:=xs) (ys:=ys) (BH hl) (xw (e (BQ))) (A8c he)
  rw[List.length_cons,List.range_succ_eq_map,List.all_cons,List.all_map];unfold jj;rw[he 0 x y rfl rfl]
  congr 1
theorem zqh:AnB (xs.length≠ys.length ->jj xs ys=false)
 | [],[],h=>Akd
 | [],A8,_=>AKM
 | A8,[],_=>AKM
 | FM,AEf,h=>dr jj (zqh (AR4 h)) Bool.and_false
#print L3
namespace L3
open PySem PySem.Spec PyProof.Rows L2
theorem z3s:AnB (AJZ ys.length ->(APH (kO x y=true)) ->AYU)
 | [],[],_,_=>AKM
 | FM,AEf,hl,h=>ALD jj (h 0 x y rfl rfl) (z3s (BH hl) (A8c h))
section
variable{X:Cx}{pins:dJ}{σ:St}{F H:Hp}{s:Shared}
theorem zua(I:Η){a:Addr}{xs ys:Δ}(h:Ai')(h' :AQw a):False:=by
 obtain⟨its,_,⟨o,n,e,c,_,_⟩,_⟩:=AdU;obtain⟨its',_,⟨o',e',c',_⟩,_⟩:=I.tuple h';rw[e] at e';cases e';rw[c] at c';injection c' with c';exact AS8 c'
theorem W4{n:Nat}{d d' :D}(hc:Alk):AV6\/ (A7V MD ASR)\/
  A7V Id Ď:=by
 unfold vY at hc;split at hc
 ·show DI (C5 A_Y)
 ·show DI (CA A_Y)
 ·show B3 hc
theorem z94(I:Η)(sF:JE):∀(n:Nat) (d d' :D) (v:V),Az0 Alk:=by
 have flat:∀(d d' :D) (v:V),Az0 AV6:=by
  intro d d' v hf r r';cases d with
  | non=>simp only [Rep] at r;subst r;cases d' <;>simp only [Rep] at r' <;>first | rfl | (cases hf;done) | (cases r';done) | show BBr
  | bl=>show Aon
  | int=>show Aon
  | str=>show Aon
  | tup=>show A'Y (sF.seq h2) (su sF h1)
  | lst=>show A'Y (sF.seq h1) (su sF h2)
  | _=>cases hf
 intro n;induction n with
 | zero=>
  intro d d' v hc r r';rcases W4 hc with h | ⟨_,_,_,h,_⟩ | ⟨_,_,_,h,_⟩
  ·exact flat d d' v h r r'
  ·cases h
  ·cases h
 | succ n ih=>
  intro d d' v hc r r';have go:∀{xs ys:Β} {vs us:Δ},Ο (vs=us) (bv xs vs) (bv ys us) (Alr) AYU:=by
   intro xs ys vs us e r1 r2 hc;subst e;refine z3s (i5 (lB r1) (lB r2)) fun i x y h1 h2=> ?_
   show CM v1 e1 q1 vd r1 h1;show CM v2 e2 q2 vd r2 h2;rw[e1] at e2;cases e2;exact ih x y v1 (hc i x y h1 h2) q1 q2
  rcases W4 hc with h | ⟨_,xs,ys,h,rfl,rfl,hc⟩ | ⟨_,xs,ys,h,rfl,rfl,hc⟩
  ·exact flat d d' v h r r'
  ·cases h;simp only [Rep] at r r';show Bn a vs h1 q1 r;obtain⟨b,us,z,h2,q2⟩:=r';cases z;unfold kO;exact go (I.tuple_inj (su sF h1) (su sF h2)) q1 q2 hc
  ·cases h;simp only [Rep] at r r';show Bn a vs h1 q1 r;obtain⟨b,us,z,h2,q2⟩:=r';cases z;unfold kO;exact go (I.list_inj (sF.seq h1) (sF.seq h2)) q1 q2 hc
structure EqD (A:Around) (s:Shared) (v u:Value) (b:Bool):Prop where
 eq:SeqAt.EqAt A s v u b
 rc:SeqAt.RcAt A s v u b
 ne:SeqAt.RcNeAt A s v u (! b)
theorem z3x{n m:Nat}(e:GH Bool)(h:n=m):((List.range (min n m)).all e&&n==m)=ALK n e:=by
 subst h;simp
def Kn(s:Shared):BG D Value
 | Ρ,v=>v= Χ
 | UR,v=>v= .bool b
 | B8,v=>∃t,v= .int i t
 | UD,v=>∃t,v= .str x t
 | AKK,v=>A3N (IsTup s.heap l is)
 | YA,v=>A3N (ATF is)
 | _,_=>True
theorem kn(I:Η)(sF:JE){d:D}{x:V}{v:Value}(r:io d x)(rv:Op):Kn s d v:=by
 cases d<;>simp only [Rep] at r<;>unfold Kn<;>try trivial
 case non=>subst r;cases rv;rfl
 case bl=>subst r;cases rv;rfl
 show AzF int
 show AzF str
 case tup=>
  obtain⟨l,vs,rfl,h,_⟩:=r;cases rv;obtain⟨is,_,k,_⟩:=AnI h;exact⟨l,rfl,_,k⟩
 case lst=>
  obtain⟨l,vs,rfl,h,_⟩:=r;cases rv;obtain⟨is,_,k,_⟩:=I.list (sF.seq h);exact⟨l,rfl,_,k.isList⟩
theorem z06{A:Around}{d d' :D}{v u:Value}(hu0:Aj1)(hf:AV6)(a:Kn s d v)(b:Kn s d' u):A2t:=by
 cases d with
 | non=>
  show N0 a;cases d' with
  | non=>show Y' (.same _) .none_none .none_none
  | bl _=>show Y' AeH AeH AeH
  | int _=>show AHE AeV AeV AeV
  | str _=>show AHE AeW AeW AeW
  | tup _=>show È AhL AhL AhL
  | lst _=>show È AhM AhM AhM
  | _=>cases hf
 | bl _=>
  show N0 a;cases d' with
  | non=>show Y' AeI AeI AeI
  | bl _=>show Y' AeX AeX AeX
  | str _=>show AHE Af7 Af7 Af7
  | tup _=>show È AhR AhR AhR
  | lst _=>show È AhS AhS AhS
  | _=>cases hf
 | int _=>
  show ANo a;cases d' with
  | non=>show Y' AeY AeY AeY
  | int _=>show AY_ int_int int_int int_int
  | str _=>show AY_ int_str int_str int_str
  | tup _=>show AZB int_tuple int_tuple int_tuple
  | lst _=>show AZB int_list int_list int_list
  | _=>cases hf
 | str _=>
  show ANo a;cases d' with
  | non=>show Y' AeZ AeZ AeZ
  | bl _=>show Y' Af8 Af8 Af8
  | int _=>show AY_ str_int str_int str_int
  | str _=>show AY_ str_str str_str str_str
  | tup _=>show AZB str_tuple str_tuple str_tuple
  | lst _=>show AZB str_list str_list str_list
  | _=>cases hf
 | tup _=>
  show AZ6 k1 a;cases d' with
  | non=>show Y' AhN AhN AhN
  | bl _=>show Y' AhT AhT AhT
  | int _=>show AY' tuple_int tuple_int tuple_int
  | str _=>show AY' tuple_str tuple_str tuple_str
  | lst _=>show È Ahk Ahk Ahk
  | _=>cases hf
 | lst _=>
  show AZ6 k1 a;cases d' with
  | non=>show Y' AhO AhO AhO
  | bl _=>show Y' AhU AhU AhU
  | int _=>show AY' list_int list_int list_int
  | str _=>show AY' list_str list_str list_str
  | tup _=>show È Ahl Ahl Ahl
  | _=>cases hf
 | _=>cases hf
theorem Ry(I:Η)(sF:JE):∀(n:Nat) (A:Around) (d d' :D) (x y:V) (v u:Value),Ů (A.units+n) ->Alk ->Ο (io d x) (io d' y) Op JY A2t:=by
 intro n;induction n with
 | zero=>
  intro A d d' x y v u hu hc r r' rv ru;rcases W4 hc with h | ⟨_,_,_,h,_⟩ | ⟨_,_,_,h,_⟩
  ·exact A7X ξ
  ·cases h
  ·cases h
 | succ n ih=>
  intro A d d' x y v u hu hc0 r r' rv ru;have hu0:A.units<cLine:=τ
  rcases W4 hc0 with h | ⟨_,xs,ys,h,rfl,rfl,hc⟩ | ⟨_,xs,ys,h,rfl,rfl,hc⟩
  ·exact A7X hu0
  ·show A'w k1 (AnI h1);obtain⟨is2,p2,k2,_⟩:=AnI h2;have el1:is1.length=xs.length:=by rw[<- p1.length,lB q1]
   have el2:is2.length=ys.length:=by rw[<- p2.length,lB q2]
   have at_:∀j (g1:j<is1.toArray.size) (g2:j<is2.toArray.size),SeqAt.EqAt A.in1 s is1.toArray[j] is2.toArray[j] ((JA (match AK3,ATb with | AR0,ć=>ATk | _,_=>false)) j):=by
    intro j g1 g2;have g1' :j<xs.length:=AJj el1 g1
    have g2' :j<ys.length:=AJj el2 g2
    have e1:Fk xs xs[j]:=A0 g1'
    show A'9;show BAK (BAM eq)
   unfold kO;have same:l1=l2 ->AYU:=fun e=>by
    have z:=z94 I sF IE L9 ADS ARg (APV vY hc) A3Z A8a
    unfold kO at z;exact z
   have ev:(ALK (min is1.toArray.size is2.toArray.size) (C3 (match AK3,ATb with | AR0,ć=>ATk | _,_=>false))&&is1.toArray.size==is2.toArray.size)=ir:=by
    have s1:is1.toArray.size=xs.length:=A0 el1
    have s2:is2.toArray.size=ys.length:=A0 el2
    rw[s1,s2];show Azv
    ·rw[z3x _ hl];exact A5q
    ·rw[zqh hl,beq_false_of_ne hl,Bool.and_false]
   have rc:=SeqAt.RcAt.tuples k1 k2 hu0 at_;have rn:=SeqAt.RcNeAt.tuples k1 k2 hu0 at_;rw[ev] at rc rn;show DB ?_ rc rn;show IP l1 l2
   ·rw[same e];subst e;exact Adp
   ·exact SeqAt.EqAt.of_refs e rc
  ·show A'w k1' (I.list (sF.seq h1));obtain⟨is2,p2,k2',_⟩:=I.list (sF.seq h2);have k1:=k1'.isList;have k2:=k2'.isList;have el1:is1.length=xs.length:=by rw[<- p1.length,lB q1]
   have el2:is2.length=ys.length:=by rw[<- p2.length,lB q2]
   have at_:∀j (g1:j<is1.toArray.size) (g2:j<is2.toArray.size),SeqAt.EqAt A.in1 s is1.toArray[j] is2.toArray[j] ((JA (match AK3,ATb with | AR0,ć=>ATk | _,_=>false)) j):=by
    intro j g1 g2;have g1' :j<xs.length:=AJj el1 g1
    have g2' :j<ys.length:=AJj el2 g2
    have e1:Fk xs xs[j]:=A0 g1'
    show A'9;show BAK (BAM eq)
   unfold kO;have same:l1=l2 ->AYU:=fun e=>by
    have z:=z94 I sF IE f7 Adf ARg (APV vY hc) A3Z A8a
    unfold kO at z;exact z
   have rcn:SeqAt.RcAt A s ARg (AA l2) (jj xs ys)/\SeqAt.RcNeAt A s ARg (AA l2) (! ir):=by
    show Azv
    ·have ev:ALK is1.toArray.size (C3 (match AK3,ATb with | AR0,ć=>ATk | _,_=>false))=ir:=by
      have s1:is1.toArray.size=xs.length:=A0 el1
      rw[s1];exact A5q
     have hz:is1.toArray.size=is2.toArray.size:=by simp [el1,el2,hl]
     have rc:=SeqAt.RcAt.lists k1 k2 hz hu0 at_;have rn:=SeqAt.RcNeAt.lists k1 k2 hz hu0 at_;rw[ev] at rc rn;exact⟨rc,rn⟩
    ·have hz:A2 (is1.toArray.size !=is2.toArray.size):=by simp [el1,el2,hl]
     rw[zqh hl];exact⟨SeqAt.RcAt.lists_lengths k1 k2 hz hu0,SeqAt.RcNeAt.lists_lengths k1 k2 hz hu0⟩
   obtain⟨rc,rn⟩:=rcn;show DB ?_ rc rn;show IP l1 l2
   ·rw[same e];subst e;exact Adp
   ·exact SeqAt.EqAt.of_refs e rc
def jN:C_:=NJ (vY 20 x y/\GY (kO x y))
def nQ:C_:=NJ (vY 20 x y/\GY (! kO x y))
theorem o7(AkC):wE Eq jN:=by
 rintro pins s σ H x y u w Q I rx ry ⟨F,d1,d2,P,sF,r1,r2,h,k⟩;exact iX (Ry I sF 20 X.A d1 d2 x y u w hu h.1 r1 r2 rx ry).rc (ACS ATu)
theorem DR(AkC):wE NotEq nQ:=by
 rintro pins s σ H x y u w Q I rx ry ⟨F,d1,d2,P,sF,r1,r2,h,k⟩;exact iX (Ry I sF 20 X.A d1 d2 x y u w hu h.1 r1 r2 rx ry).ne (ACS ATu)
#where
section
variable{M:Model}{A:Around}{E:dR}{h:Heap}{g:kQ}{d:Drawn}{t:Nat}{os:OsState}
 {nm q nm' q' :Str} {C N C' N' :Addr} {bs bm bs' bm' :Ζ} {hdct ab3 :Bool} {sn sn' :ο} {sub sub' :Ζ} {ab ab' :Bool} {col col' :Eg Bool} {dd Q9 :JP} {k0 k1 k2 k3 k5 j0 j1 j2 j3 j5:LP} {newId newId' :String}
#where
abbrev _root_.L2.Cx.hand(X:Cx)(a:Addr):Cx:={X with A:=X.A.mark (some CB),calm:=false}
section
variable{X:Cx}{pins:dJ}{σ:St}{H:Hp}{s:Shared}{a:Addr}
theorem z9u(ok:X.Ok)(z:WK):(X.wsh z).Ok:=⟨ok.mod,ok.kind,ok.glob,ok.blt,ok.above,ok.inj,ok.has,ok.cab,ok.hd,ok.frames,ok.stk,ok.Zz,ok.bs,ok.Jq,ok.Ht,ok.Hu,ok.funs,ok.Ks⟩
theorem yfn(I:AmT):Inv AoH [] σ H s:=
 ⟨z9u I.ok _,I.os,I.bare,I.base,I.loc,I.cell,I.free,I.freeC,P_ (I.pin p (BH hp)),I.hok,I.len⟩
theorem W5(I:Inv AoH rN σ H s):AmT:=
 ⟨z9u I.ok _,I.os,I.bare,I.base,I.loc,I.cell,I.free,I.freeC,P_ (I.pin p (zN _ hp)),I.hok,I.len⟩
theorem yik{z:WK}{xe:dR}{D:Ends}{f:Flow}{rN :dJ}(h:SP AoH rN D f s):SP fe pins D f s:=by
 cases f with
 | next=>show L7 σ' H' I q;exact⟨σ',H',W5 I,q⟩
 | brk=>show L7 σ' H' I q;exact⟨σ',H',W5 I,q⟩
 | cont=>show L7 σ' H' I q;exact⟨σ',H',W5 I,q⟩
 | ret u=>obtain⟨v,σ',H',I,r,q⟩:=h;exact⟨v,σ',H',W5 I,r,q⟩
#where
def mR:XW:=xx
theorem vW.base(Aq4){D2:qR}{D:Ends}(k:AMY F)(g:AVa):vW K F H0 F D2 D:=
 ⟨fun Γ F' H' σ R s h=>(Ap5 k.nx),fun Γ F' H' σ R s h=>(Ap5 k.bk),fun Γ F' H' σ R s h=>(Ap5 k.ct),fun d v F' H' gr r h=>k.rt d v F' H' (g.unbase gr) r h,fun d v F' H' gr r h=>k.rf d v F' H' (g.unbase gr) (zqg (zzf g.f) d v r) h,fun t v as F' H' gr nd hn r h=>k.rT t v as F' H' (g.unbase gr) nd hn r h,fun d v Γ F' H' σ R r h=>k.rm d v Γ F' H' σ (R.unbase g) r h⟩
section
variable{X:Cx}{pins:dJ}{σ:St}{H:Hp}{s:Shared}
theorem HS:Ctx (X.wsh ⟨xx,pn⟩) F0 H0 mR:=
 ⟨fun _ _ _ _ _ _ _ _ _ _ h=>AxX,PassesOwn.never⟩
#where
def iG(eQ)(Cd:Addr)(tb th:aF):aF:=A4x (th D Γ1 mR)
def dY(A6H):aF:=A4x (th {nx:=Auo,rt:=D.rt,bk:=AXt D.bk,ct:=AXt D.ct} (Γ1.set i (.pu AXB)) mR)
section
variable{X:Cx}{F0 H0:Hp}{pos np hp:Pos}{x n:Str}{Cd:Addr}{body suite:LM}{b₀:Stmt}{tb th:aF}
#where
def cU(g:ANl)(ta:aX):aX:=m3 ta (g d fun d' =>(Cb d'))
def eZ:ANl:=fun x P=>(MT x B8 (HR (-i)))
def tO(K:W.Frag)(g:Hb):UX:=A1T A'R
def ig(g:Hb)(t:bZ):aX:=IS (g ds fun d=>AHZ)
def cM:C_:=NJ (match x,y with
 | Id,B8=>A1o
 | MD,B8=>A1o
 | kL,B8=>∃c,ARy/\Au'/\P (HE AEq)
 | _,_=>False)
theorem zro(EM)(AM5){i:Int}{d:D}(r:C8)(h:Ã ds d):AUT (Ã vs v):=by
 show MU nF;rw[<- lB r];cases q:uT ds.length i with
 | none=>show k8 q
 | some j=>
  rw[q] at h;exact vd r h
section
variable{X:Cx}{F0 H0:Hp}{a b e:Expr}{es:AD}{pos p:Pos}{ta tb te:aX}{t:bZ}{x:Str}
theorem DW(ha:OX):B' (.UnaryOp .USub a pos) (cU eZ ta):=fun z E cx=>
 oU (yie yhf Cf) (EI hq1 (K0 hq1 (fun d Γ1 F1 H1 v R1 s1 r q=>by
  cases d with
  | int i=>
   show KU;exact⟨i,r,AY4⟩
  | _=>show IZ q)))
theorem ya3(D9){g:Hb}{E:XW}(bz){Q:VK}(h:di Akp E σ H Q):A3h tO:=K0 h (fun ds Γ1 F1 H1 vs R1 s1 r1 h1=>(A_N (fun d z F' H' gr rz hp=>k d Γ1 F' H' z AQk (xc gr.f) rz hp)))
theorem rO{id:String}{g:Hb}(hc:c8 fB qE (tO X.K g))(Ŝ)(hv:ď qE)(ha:og)(hn:sw :=by decide)(hdb:B1 x "__debug__":=by decide)
  (yb):B' XA Akp:=fun z E cx=>
 oU (AY0 (Bi QL) hv Cf hn hdb he hpl) (ek ya3)
theorem fV(ha:OX)(hb:ja)(hs:zvj b):AUV a b (I_ ta tb):=fun z E cx=>
 oU (Sn ygk r (sE X.K cM) (by
  rintro value slice pins s σ H x y v u Q I rx ry ⟨F,d1,d2,P,sF,r1,r2,h,k⟩ hs;show A_ cM;show DL
  ·show wf;show Bn p vs hq rs r1;subst r2;show D' d e hp;obtain⟨w,ew,tD⟩:=zro rs e;exact z2e value slice pins s σ H _ _ v u Q I rx ry ⟨p,vs,_,w,rfl,rfl,sF.seq hq,ew,VX tD hp⟩ hs
  ·show wf;show Bn p vs hq rs r1;subst r2;show D' d e hp;obtain⟨w,ew,tD⟩:=zro rs e;exact yha value slice pins s σ H _ _ v u Q I rx ry ⟨p,vs,_,w,rfl,rfl,su sF hq,ew,VX tD hp⟩ hs
  ·show wf;subst r1 r2;show L7 c hz e hp;exact yfy value slice pins s σ H _ _ v u Q I rx ry ⟨_,_,c,rfl,rfl,hz,e,VX MX hp⟩ hs
  ·show EB) Cf HV hs) (ek WM)
#where
def n8:Hb:=gE B8 (HR ANP)
def jO:Hb:=AGh (match ds with | [Id]=>BEk | [MD]=>BEk | [kL]=>Υ z.length/\HR z.length | _=>False)
def qj:Hb:=AuG (j>i)
def ql:Hb:=AuG (j<i)
section
variable{X:Cx}
theorem yd2:AEO "abs" n8:=by
 rintro pins s σ H xs us Q I r ⟨F,ds,P,sF,rs,h,k⟩;show A_ n8;show DL
 ·show NN;show AWi;exact ï z58 r (Md s_)
 ·show EB
theorem yJ:AEO "len" jO:=by
 rintro pins s σ H xs us Q I r ⟨F,ds,P,sF,rs,h,k⟩;show A_ jO;show DL
 ·show NN;obtain⟨v,_,rfl,⟨p,vs,rfl,hq,rs⟩,rfl⟩:=rs;rw[W'] at h;exact Awy AXM
 ·show NN;obtain⟨v,_,rfl,⟨p,vs,rfl,hq,rs⟩,rfl⟩:=rs;rw[W'] at h;exact Awy AXN
 ·show NN;show AWi;exact ï ztk r (Tl rfl h.1 ATu)
 ·show EB
#where
def tyD:D ->Eg String
 | Ρ=>some "NoneType" | Kx=>some "bool" | IR=>some "int" | HZ=>some "str" | AKK=>some "tuple" | YA=>some "list" | ę=>none | Ě=>none | Lc .obj=>none | u7=>none | u8=>none | ADb=>some "dict"
def aaV(d:D)(T:String):Eg Bool:=(tyD d).bind fun S=>W.kitOne [] (KF S) sq
def iH(T:String)(ta:aX):aX:=m3 ta (ò (aaV d T) ć (AIi b) False)
section
variable{X:Cx}{pins:dJ}{σ:St}{F H:Hp}{s:Shared}
#where
section
variable{X:Cx}{F0 H0:Hp}{a:Expr}{pos p pt:Pos}{ta:aX}{x:Str}{T:String}
#where
def bH(C:Addr)(t:bZ):aF:=AnL AQR
section
variable{X:Cx}{F0 H0:Hp}{e:Expr}{es:AD}{pos np cpos:Pos}{t:bZ}{x:Str}{C:Addr}
theorem Rz(hh:C7)(hg:TM)(Ax4)(AlD):
  KO AcQ (bH C t):=by
 rintro z E cx pins s σ H D I ⟨F,Γ,D2,R,h,k⟩;refine Sn z9g E (fun C' dx H1=>∃F1 Γ1,wT/\AQR) hg hm hC Cf hh I (ES (fun ds Γ1 F1 H1 vs R1 s1 r1 h1=>⟨AkX,F1,Γ1,R1,h1.2⟩)) (fun H1 s1 e s' I1 hx=> ?_) hd he hpl
 obtain⟨a,C',H',B,dx,h1,h2,h3,h4,h5,h6,h7,h8,rfl,h9,rfl,F1,Γ1,R1,hE⟩:=hx;exact ANB _ s1 e s' I1 R1 ⟨a,_,_,B,dx,h1,h2,h3,h4,h5,h6,h7,h8,_,_,hE,Gr.refl R1.g,rfl,trivial⟩
#where
structure eE (XU) (x:Str) (k:Nat) (ps:ο) (sp:cP):Prop where
 ex:ANC pN
section
variable{X:Cx}{F0 H0:Hp}{e:Expr}{es:AD}{pos p:Pos}{x:Str}{ps:ο}{k:Nat}{sp:cP}{t:bZ}
theorem fK(Ap8 eE):
  B' XA (aB sp t):=by
 obtain⟨f,fd,h1,h2,h3,h4⟩:=G.ex;exact A2K h3 h4 ha hdb he hpl
#where
section
variable{X:Cx}{pins:dJ}{σ:St}{H:Hp}{s:Shared}{a:Addr}{o:HO}
#where
section
variable{X:Cx}{F0 H0:Hp}{pos np hp:Pos}{x n:Str}{Cd:Addr}{body suite:LM}{b₀:Stmt}{tb th:aF}{i:Nat}
#where
def W6:cP:=A8V Aeq
theorem W7(EM):∀ns:Φ,HG AN4 AO8
 | []=>ARu
 | n::ns=>sy MX (W7 ns)
theorem z4s{K:W.Frag}{H:Hp}{a:Addr}{ns:Φ}(hl:ABq)(hS:AWp):pN K W6 P1 H (fun v _=>v= i9) SK:=
 ⟨H,[r9],fun d=>d= i9,L8,oP,Jw (by show EE;exact EG a _ hS (W7 ns)),ñ ns rfl hl,fun d v F' H' gr r h=>by subst h;show KU;exact r,AiY h h.elim⟩
theorem z9d(h:gD P w [] H s (SK) e s'):False:=by
 obtain⟨_,_,_,_,_,_,_,_,_,_,_,_,_,h⟩:=h;exact h
structure Cls where
 fG:Addr:=0
 fO:Addr:=0
 aaW:Addr:=0
 aaX:Addr:=0
 ab4:Addr:=0
 Missing:Addr:=0
 ju:Addr:=0
 G4:Addr:=0
 Apart:Addr:=0
 jq:Addr:=0
 fj:Addr:=0
 Open:Addr:=0
 qT:Addr:=0
 N6:Addr:=0
 ab5:Addr:=0
 Scale:Addr:=0
 adf:Addr:=0
 ak:Addr:=0
 adg:Addr:=0
structure Cp (wP):Prop where
 ga:xl "__getattribute__" BEK
 gn:ATs "__getattr__"
 cl:AuW
 ob:Ar4
 be:APy W.mroIn C "BaseException"
def iI(K:W.Frag)(C:Addr)(ta:aX):aX:=A_u (mO K C0 C)
section
open PySem.W PySem.Builtin PySem.Builtin.ObjectAttr PySem.Builtin.Getset_descriptor
variable{prog:Program}{w:World}{A:Around}{E:dR}{K:W.Frag}{h:Heap}{g:kQ}{d:Drawn}{t:Nat}{os:OsState}{a C:Addr}{o:Obj}
theorem zrp(X:MH)(G:Cp K C)(hx:eD)(hc:AgA)(hq:Q () AHa):wpAny M A (checkBuiltinCall "BaseException.__getattribute__" (D7 [AR,nameV])) Q E AHa:=by
 have hk:ρ (builtinKind "BaseException.__getattribute__") .slot:=tS
 have hsp:ρ (splitId "BaseException.__getattribute__") ("BaseException","__getattribute__"):=tS
 have ha:=F.args_bexc_ga CB nameV;have L1:=looks_mroIn (M:=M) X G.be;simp only [checkBuiltinCall,hk,hsp];show J_;unfold isInstance
 repeat (first | (with_reducible refine wpAny_loadPart_at hx ?_;rw[hc]) | with_reducible refine L1.at ?_ | wp_step)
 exact hq
#where
section
variable{X:Cx}{F0 H0:Hp}{a:Expr}{pos p pt:Pos}{ta:aX}{x:Str}{C:Addr}
#where
theorem z4v:Ayz ((∀p∈names,Aur) ->Ag' n names acc x=acc.lookup x)
 | [],_,_,_=>rfl
 | Akr,n,acc,h=>by
  unfold cellsFrom;have hr:L6 r Aur:=fun p hp=>AlQ;split
  ·rename_i hk;have hy:y≠x:=h (y,k) zV ASE
   rw[Axv,List.lookup_cons];have:Hk (x==y):=Adm (Ne.symm hy)
   rw[this]
  ·exact Axv
theorem z5y:∀(names:bq) (h:Heap) (acc:zw),(x,c)∈cellsFrom h.objs.size names acc ->(x,c)∈acc\/ (h.objs.size<=c/\ (pushCells h names).IsCell c none/\ BFk names)
 | [],_,_,m=> .inl m
 | Akr,h,acc,m=>by
  unfold cellsFrom at m;unfold pushCells;split at m
  ·rename_i hk;show ADV;show AL2 sz (ų h.push (AGY "cell" cell none)) (h.objs.size+1);rw[<- sz] at m;show AoY (z5y r _ _ m)
   ·rcases AId with e | z
    ·cases e;have e2:k= nk:=AN hk
     subst e2;show RA ⟨GB,?_,zV⟩;exact Is (pushCells_keeps r _ _ _ AXR)
    ·show B3 z
   ·show DI ⟨by rw[sz] at z1;omega,z2,zU _ z3⟩
  ·rename_i hk;show ADN;show AoY (z5y r h acc m)
   ·show B3 z
   ·show DI ⟨z1,z2,zU _ z3⟩
theorem zqz:Ayz ((acc.Pairwise fun x y=>AW5) ->(∀p∈acc,p.2<n) ->(cellsFrom n names acc).Pairwise fun x y=>AW5)
 | [],_,_,h,_=>h
 | Akr,n,acc,h,hl=>by
  unfold cellsFrom;split
  ·refine zqz r _ _ (List.pairwise_cons.mpr ⟨Tm p hp,h⟩) li
   ·have e' :n=p.2:=e;exact yS _ (Nat.lt_of_lt_of_eq (hl p hp) e')
   ·show N2 hp hp
    ·exact Ado
    ·exact Nat.lt_succ_of_lt (hl p hp)
  ·exact zqz r n acc h hl
def qu(env:Env):bq ->zw ->zw
 | [],cs=>cs
 | AVP,cs=>qu env r (AC (k== Ll) ((n,(env.cells.lookup n).getD 0)::cs) cs)
theorem yes(h:L6 scope.names Aah):closureFor scope env=pure Aww:=by
 have key:∀(names:bq) (cs:zw),Ai6 ->
   (forIn names cs fun(x:Str×NameKind) (r:zw)=>(if x.2== Ll then do let a<- cellOf env x.1;AXD ((x.1,a)::r) else AXD r:Sem _))=pure (qu env names cs):=by
  intro names;induction names with
  | nil=>intro cs _;rfl
  | cons p r ih=>
   intro cs hh;obtain⟨n,k⟩:=p;show Amy;rw[List.forIn_cons];unfold qu;show Am7
   ·show K' c (hh sC zV ASE)
    have e' :cellOf env n=pure c:=by unfold cellOf;rw[e]
    simp only [hk,if_true,e',pure_bind,e,Option.getD_some];exact ih _ hr
   ·have hk' :(k==NameKind.free)=false:=AN hk
    simp only [hk',Bool.false_eq_true,if_false,pure_bind];exact ih _ hr
 unfold closureFor;have:=key scope.names [] h
 simpa using this
theorem zqf:AoX (Ai6 ->(x,c)∈qu env names cs ->(x,c)∈cs\/ ((x,NameKind.free)∈names/\AKf))
 | [],_,_,m=> .inl m
 | AVP,cs,hh,m=>by
  unfold qu at m;show Amy;rcases zqf r _ hr m with z | ⟨z1,z2⟩
  ·split at z
   ·rename_i hk;rcases AId with e | z
    ·cases e;have e2:k= Ll:=AN hk
     subst e2;show K' c (hh (_,Ll) zV rfl);show RA (EJ zV);have e' :AKf:=e;rw[e'];rfl
    ·show B3 z
   ·show B3 z
  ·show DI ⟨zU _ z1,z2⟩
theorem W8(e:AKf):AoX ((AgI names\/xA cs.lookup) ->(∀c',B_ cs.lookup c' ->c' =c) ->xA (qu env names cs).lookup)
 | [],cs,h,_=>by
  show NR h
  ·cases h
  ·exact h
 | AVP,cs,h,hu=>by
  unfold qu;show Am7
  ·show ADV;by_cases hn:x=n
   ·subst hn;refine W8 e r _ (CA ?_) (AM c' q)
    ·rw[List.lookup_cons];simp [e]
    ·rw[List.lookup_cons] at q;simp [e] at q;exact q.symm
   ·show da hb (x==n) (Adm hn)
    refine W8 e r _ ?_ (AM c' q)
    ·show NR h
     ·show A6n hn
     ·show RA ?_;rw[List.lookup_cons,hb];exact h
    ·rw[List.lookup_cons,hb] at q;exact hu c' q
  ·show ADN;refine W8 e r cs ?_ hu;show NR h
   ·show A6n hk
   ·show DI h
theorem zkt(inj:AoM AKf (ρ (env.cells.lookup y) c)):AoX (Ο (names.map (·.1)).Nodup Ai6 (cs.Pairwise fun x y=>AW5) (∀p∈cs,env.cells.lookup p.1=some p.2/\p.1∉names.map (·.1)) ((qu env names cs).Pairwise fun x y=>AW5))
 | [],_,_,_,h,_=>h
 | AVP,cs,nd,hh,h,hc=>by
  unfold qu;rw[List.map_cons,List.nodup_cons] at nd;show Amy;have hc' :L6 cs (ABK env.cells.lookup/\AK∉r.map (·.1)):=fun p hp=>⟨AJB hc,Ξ (QU (hc p hp).2 List.map_cons (zU _ z))⟩
  show Am7
  ·show ADV;show K' c (hh sC zV ASE)
   have e' :ρ (env.cells.lookup n) c:=e;rw[e'];refine zkt inj r _ nd.2 hr (List.pairwise_cons.mpr ⟨Azh,h⟩) li
   ·have z' :c=p.2:=z;have q:=AJB hc;rw[<- z'] at q;have:=inj _ _ _ e' q;exact(hc p hp).2 (by rw[List.map_cons,<- this];exact zV)
   ·show N2 hp hp
    ·exact⟨e',nd.1⟩
    ·exact hc' p hp
  ·show ADN;exact zkt inj r cs nd.2 hr h hc'
theorem zgv{scope:Scope}{env:Env}{x:Str}:∀(names:bq) {k:NameKind},B_ names.lookup k ->B_ A4r k\/
   (k= Ll/\ AHL A4r)
 | [],_,h=>AJl
 | (n,k0)::r,k,h=>by
  have ih:= @zgv scope env x r k;show A7v\/ (_/\A7v);cases hx:x==n with
  | true=>
   show AdM hx h;cases h;by_cases hc:Acs
   ·show DU hc;simp only [Bool.and_eq_true] at hc;exact .inr ⟨AN hc.1.1,by show AVh⟩
   ·show AV hc;exact .inl (by show AVh)
  | false=>
   show AdM hx h;by_cases hc:Acs
   ·show DU hc;show AVh;exact ih h
   ·show AV hc;show AVh;exact ih h
def lM(scope:Scope)(C:Addr)(env:Env):Env:=
 {scope:=relabel scope env,locals:=C,globals:=env.globals,cells:=cellsFrom (C+1) scope.names Aww,qual:=env.qual,func:=none,code:=env.code,frame:=env.frame,builtins:=env.builtins}
def blk(X:Cx)(scope:Scope)(N:ο)(C:Addr)(s₀:Shared)(H₀:Hp)(fp:AO):Cx:=
 {X with env:=lM scope C X.env,N:=N,s₀:=s₀,H₀:=H₀,outer:=X.stack,stack:=X.stack,ex:=fp,fn:=XX (scope.names.lookup x==AG_),pn:= [],xe:=xx}
def wM(own:Nat)(caps:AL)(σ:St):St:=AJh own none++caps.map fun j=>AmW
structure lC (A4e) (env:Env) (N' :ο):Prop where
 kind:Aib
 nd:N'.Nodup
 snd:BFT
 free:A4U env.kindOf env.kindOf
 names:Ay9
 caps:A9S
theorem z2t
  (hQ:Q (newEnv scope s.heap.objs.size g (cellsFrom X2 scope.names cl) q none Χ (BO env) builtinsNs) (Ats scope.names)):
  cn (newFunctionEnv scope g cl [] q none Χ (BO env)):=by
 simp only [newFunctionEnv,Option.isSome_some,if_true];show IF wpAny_alloc;refine z9 (wpAny_layCells _ (fun name kind cells=>by cases hkc:kind==NameKind.cell<;>simp [hkc]) _ _ _ _ ?_)
 rw[Mo (AHY T1:Shared).heap.objs.size i6 (Heap.size_push ..)];simp only [List.forIn_nil];exact z9 (zZ (zZ hQ))
section
variable{X:Cx}{pins:dJ}{σ:St}{H:Hp}{s:Shared}{sc:Scope}{own:ο}{caps:AL}{N' :ο}{fp:AO}
theorem W9(I:Η)(S:AH0):L6 sc.names (BAj X.env.cells.lookup):=fun p hp hk=>I.ok.has _ (S.free p hp hk)
theorem Xa(I:Η)(S:AH0)(e:Aej):
  (xi/\AgH/\sc.names.lookup x≠AG_)\/ (i6<=c/\ (pushCells Aqk sc.names).IsCell c none):=by
 have m:=mem_of_lookup e;show AL2 sz (ABa T1) i6;have m' :(x,c)∈cellsFrom (ABa T1) sc.names Awx:=AE sz m
 show AoY (z5y sc.names _ _ m')
 ·rcases zqf sc.names [] (W9 I S) z with z | ⟨z1,z2⟩
  ·cases z
  ·obtain⟨v,hc⟩:=I.cell x c z2;refine .inl ⟨z2,hc.lt,Jn q⟩;have q' :=mem_of_lookup q;have:=S.snd;show Aup;have d:∀(l:bq),AnE ->AgI l ->BFk l ->False:=by
    intro l;induction l with
    | nil=>show AMw
    | cons a r ih=>
     intro hp h1 h2;show AYs hp;rcases zR.mp h1 with e1 | h1<;>rcases zR.mp h2 with e2 | h2
     ·rw[<- e1] at e2;cases e2
     ·exact p1 _ h2 (by rw[<- e1])
     ·exact p1 _ h1 (by rw[<- e2])
     ·exact ih p2 h1 h2
   exact d _ this z1 q'
 ·show DI ⟨by rw[sz] at z1;exact z1,z2⟩
theorem zwc(AXm)(hk:AIm sc.names.lookup)(e:xi):Aej:=by
 show xA (cellsFrom _ sc.names Awx).lookup;rw[z4v]
 ·exact W8 e _ _ (C5 Ah0) fun c' q=>by cases q
 ·intro p hp hc z;have q:=mem_of_lookup hk;have:=S.snd;show Aup;have d:∀(l:bq),AnE ->AgI l ->p∈l ->False:=by
   intro l;induction l with
   | nil=>show AMw
   | cons a r ih=>
    intro hpw h1 h2;show AYs hpw;rcases zR.mp h1 with e1 | h1<;>rcases zR.mp h2 with e2 | h2
    ·rw[<- e1] at e2;subst e2;cases hc
    ·exact p1 _ h2 (A7 e1 z.symm)
    ·exact p1 _ h1 (A7 e2 z)
    ·exact ih p2 h1 h2
  exact d _ this q hp
theorem zxd(AXm)(RB:A7_ BGW)(i:Nat)(x:Str)(v:V)(h1:Zl N')(h2:CS AFL av):
  ∃u,JU/\Look (AnF s.heap.objs.size) h' m' x u:=by
 have h2' :CS AFL av:=h2;have h1' :Zl N':=h1;unfold wM at h2';rw[S.names] at h1';show ABh own.length
 ·rw[ATo,List.getElem?_replicate] at h2'
  split at h2' <;>cases h2'
 ·show AzG h2'
  show AJf (List.getElem?_append_right ξ) h1'
  cases hj:caps[i - own.length]? with
  | none=>show IQ hj h1' h1'
  | some j=>
   rw[hj] at h1' h2';obtain⟨j1,j2⟩:=S.caps j (yV hj);have hx:X.N.getD j "" =x:=AN h1'
   have hσ:Fk σ av:=by
    have:ρ AmW v:=AN h2'
    cases q:σ[j]? with
    | none=>show Ap q;show DT
    | some o=>show Ap q;have:AgV:=this;rw[this]
   rw[hx] at j2;have hN:Fk X.N x:=by
    rw[List.getD_eq_getElem?_getD,VM j1] at hx;rw[List.getElem?_eq_getElem j1]
    simpa using hx
   obtain⟨m,hn,hloc⟩:=I.loc;have kx:=S.free (x,Ll) (Aa9 j2) rfl;have vis:ax:=by
    rcases kx with k | k
    ·show DI (C5 k)
    ·show DI (CA k)
   show CM u ru l (hloc j x v hN) hσ vis;show DB u ru (.inr (EJ ?_))
   ·rcases A_4 j2 with h | ⟨_,h⟩
    ·show DI h
    ·show B3 h
   ·rcases l with ⟨k,_⟩ | ⟨_,c,ec,hc⟩
    ·have k' :AGo X.env.kindOf:=k;have kx' :BFl\/BGl:=kx;rw[k'] at kx';rcases kx' with z | z<;>cases z
    ·exact⟨c,zwc I S j2 ec,RB x c _ ec hc⟩
theorem z2a(AXm)(hf:AK1)(hl:Aqr):
  Inv Anf [] AFL H (Ats sc.names):=by
 have keep:ft M_ (ER (pushCells Aqk sc.names).get?):=HK A5_;have ok:=I.ok;have inj:AoM Aej (ρ (BBi y) c):=fun x y c e1 e2=>by
  refine name_of_addr (cs:=Aa4 cells) ?_ (Aa9 e1) (mem_of_lookup e2);refine zqz _ _ _ (zkt ok.inj _ _ S.snd (W9 I S) List.Pairwise.nil (fun p hp=>by cases hp)) li
  rcases zqf (x:=AK) (c:=p.2) sc.names [] (W9 I S) hp with z | ⟨_,z⟩
  ·cases z
  ·obtain⟨v,hc⟩:=I.cell _ _ z;exact Nat.lt_succ_of_lt hc.lt
 show UZ frC (IY (XZ b) F8) (I.hok.fresh hb);have aaY:Aa4 scope.kind= ſ:=S.kind;refine⟨⟨ok.mod,aaY,ok.glob,ok.blt,GB,inj,Aii,Iy x c hfn e,ok.hd,ok.frames,AJ8,ABH (zH (hl b hb)) A1Y,I.bs,zM ok.Jq I.sz,AIo hb,HH hb z,I.stack,I.stkFree⟩,
  rfl,I.bare,Un.kept keep,BY ((Heap.Ns.new s.heap (KF "dict")).keeps (pushCells_keeps _ _)) (fun i x v h1 h2 h3=> ?_),AWU,frC _ C1,AWU,Anm,I.hok.kept keep,?_⟩
 ·
  have hx' :AHL AoJ\/ AIm AoJ:=hx;have:∃k,B_ sc.names.lookup k:=by
   have key:∀(l:bq) (k' :NameKind),B_ (l.map fun sC=>if (BGL k&&BF_) then APY else sC).lookup k' ->∃k,B_ l.lookup k:=by
    intro l;induction l with
    | nil=>intro k' h;simp at h
    | cons a r ih=>
     intro k' h;obtain⟨n,k0⟩:=a;cases hb:x==n with
     | true=>exact⟨k0,RU List.lookup_cons hb⟩
     | false=>
      have h2:ρ (List.lookup x ((AC (My (BGL k0) BF_) APY (n,k0))::(r.map _))) k' :=h;obtain⟨k,hk⟩:=ih k' (by
       split at h2<;>(show AdM hb h2;exact h2))
      exact⟨k,by simp only [List.lookup_cons,hb];exact hk⟩
   show NR hx'
   ·exact key _ _ h
   ·exact key _ _ h
  obtain⟨k,hk⟩:=this;rcases A_4 hk with h | ⟨h1,h2⟩
  ·have hkk:k= nk\/k= Ll:=by
    have h' :B_ AoJ k:=h;rcases hx' with z | z<;>rw[z] at h' <;>cases h' <;>simp
   show Û hkk rfl
   ·exact Option.isSome_iff_exists.mp (W.cellsFrom_some sc.names _ _ (C5 hk))
   ·show K' c (ok.has x (S.free (x,Ll) Ah0 rfl));exact⟨c,AyK⟩
  ·subst h1;show K' c (ok.has x (S.free (x,Ll) Ah0 rfl));exact⟨c,AyK⟩
 ·
  have aaZ :ALZ:=by
   have:aa (sc.names.lookup x) (some NameKind.cell):=hfn
   simpa using this
  rcases AYv with ⟨_,_,z⟩ | ⟨z,_⟩
  ·show Lm aaZ z
  ·show XZ c;exact Nat.le_of_succ_le z
 ·rcases AYv with ⟨z1,_,_⟩ | ⟨z1,_⟩
  ·exact Aez.2.2.2.2.1 x c z1 z
  ·have:=hl b hb;rw[<- z] at this;exact yS _ (zK this (Nat.le_of_succ_le z1))
 ·have q:=(AKB hf).2.1;show AFM q
  ·exact ok.Ht b o e q
  ·have q2:b<X.base.objs.size:=G';exact yS _ (zK q2 (zM ok.Jq q))
 ·show JS (AmC z)
  ·exact AIb hf z
  ·exact(y_ hf).2.1 z
 ·exact A_V (fun x c v _ hc=>Aqe)
 ·rcases AYv with ⟨z1,_,_⟩ | ⟨_,z⟩
  ·show vS v hc (I.cell x c z1) v Aqe
  ·exact C6 z
 ·rcases AYv with ⟨z1,_,_⟩ | ⟨z,_⟩
  ·exact I.freeC x c z1
  ·exact frC c (Nat.le_of_succ_le z)
 ·show AsW=N'.length;rw[S.names];unfold wM;simp
theorem z2h(AXm)(hf:AK1)(B:Inv Anf rN σ5 H5 s5):
  Inv Anf rN AFL H5 s5:=by
 obtain⟨m,hn,_⟩:=B.loc;have kc:A7_ (s5.heap.IsCell c v):=fun x c v e (ADf hd)=>by
  have nx:c∉fp:=Ξ ((hf c z).2.2.2.2.1 x c e rfl);by_cases hc:c∈Ł
  ·obtain⟨sl,q⟩:=B.base.slot c o ho AQy hc nx;exact BY q hd
  ·exact No (B.base.keep c o ho AQy hc nx) hd
 exact⟨B.ok,B.os,B.bare,B.base,⟨m,hn,fun i x v h1 h2 h3=>(A_V kc)⟩,B.cell,B.free,B.freeC,B.pin,B.hok,by show AsW=N'.length;rw[S.names];unfold wM;simp⟩
#where
abbrev z4a(ifs:AD)(env:Env):ATW:=forIn ifs true fun c r=>if A2 r then do let ok<- isTrue c env (Ô c);AXD ok else AXD r
section
variable{prog:Program}{w:World}{A:Around}{R:Aec}{s:Shared}
theorem z2g(I:DJ Nat)
  (turn:∀n s,I n s ->wpAny E1 A (pyNext it) (fun r s₁=>match r with
   | none=>R (.ok dC) s₁
   | t_=>AKu (letOwnedTupleGo target it v) (E8 s₁' (AKu (assign target env v) (E8 s₂ (AKu (z4a ifs env) (fun ok s₃=>
      (Da ok (AKu (Ô elt) (fun x s₄=>
       (AKu (AIt "list.append" [acc,x]) (E8 s₅ (AWJ (I m s₅))) s₄)) s₃) (AWJ (I m s₃)))) s₂)) s₁')) s₁) AHK s)
  (n:Nat) (h:I n s):
  codeAny E1 A (.compLoop AuX 0 it acc env) R s:=by
 refine codeAny_loop rfl I (ψ n s hI) n h;show wpAny _ A ((compTurn AuX 0 it acc env).onRaise (fun x=>do noteFrame x env;theTreesLotGoes x)) _ _ s;refine wpAny_noted ?_;rw[compTurn_list];show EF wpAny_standAt (z9 (AJm (turn n s hI) (ψ r s₁ h₁) AFg));cases r with
 | none=>exact zZ h₁
 | some v=>
  show uu h₁ (ψ _ s₁' h₁') AFg;show uu h₁' (fun _ s₂ h₂=>z9 (wpAny_mono h₂ (ψ ok s₃ h₃) AFg)) AFg;cases ok with
  | false=>exact zZ (FY h₃)
  | true=>
   exact z9 (z9 (AJm h₃ (fun x s₄ h₄=>z9 (wpAny_mono h₄ (fun _ s₅ h₅=>zZ (zZ (FY h₅))) AFg)) AFg))
#where
def Xb(X:Cx)(ifs:AD)(t:TT):Prop:=
 ∀(pins:dJ) (s:Shared) (σ:St) (H:Hp) (Q:ue),ã (Ŷ (z4a ifs X.env) TP)
theorem yb0:Xb X [] (Agk true):=fun pins s σ H Q I h=>wpAny_tests_nil ⟨H,I,h⟩
theorem ybm(h:PT X c t):Xb X [c] t:=fun pins s σ H Q I q=>wpAny_tests_one (AOH Q I q)
structure RD (P:Program) (BAb) (tg:Expr) (J:It) (fp:AO) (it:Addr) (tn:AK2) (cm:Db Cx):Prop where
 mem:it∈fp
 obj:A0y
 keep:A_W
 item:AxH (∀(i:Nat) (pins:dJ) (s:Shared) (σ:St) (H:Hp) (E:dR),Ο Η ATt AIz (J.go i H) (AZA (∃u,N4 r/\
   wpAny pd X.A Ang (E8 s2 (∃x H',ATS/\im/\J.yld i H x H' /\AvK/\TZ AAl)) E s1)))
 done:AxH (∀(i:Nat) (pins:dJ) (s:Shared) (σ:St) (H:Hp) (E:dR),Ο Η ATt AIz (J.stop i H) (AZA AvN))
 self:∀(A:Around) (i:Nat) (s:Shared) (Q:dR) (E:dR),AzT
def aa0(A7P):Prop:=
 ∃(it:Addr) (fp:AO) (tn:AK2) (J:It) (H' :Hp) (cm:Db Cx),itv= .ref it/\ATS/\fR RD X.K tg J fp it tn cm/\Auf/\ (So fp ATf)/\AXf /\
  ∀Y:Cx,Y.A=X.A ->Y.calm=X.calm ->(∀b o u,AHi Ï ->GG Y.H₀ Ï) ->cm Y
def PIg(A7O):Prop:=
 ∀(pins:dJ) (s:Shared) (σ:St) (H:Hp) (R:AIh),AQY (wi σ H R) ADi (UA s1 (ABl (pyIter v) (aa0 X pins σ tg R) s1))
theorem pig(hc:C7)(hi:Auw):A5k:=fun pins s σ H R I h=>
 cJ (FS hi R I h) fun v s1 h1=>cJ h1 fun itv s2 hq1=>by obtain⟨it,fp,tn,J,H',e,I',T,st,f,r⟩:=hq1;exact⟨it,fp,tn,J,H',fun Y=>(A2 Y.calm),e,I',⟨T.mem,T.obj,T.keep,T.item,T.done,T.self⟩,st,f,r,fun Y _ q _=>q.trans hc⟩
def Jy(acc:Addr)(J:It)(σ' :St)(g:TG)(tc:TT)(te:TE)(Q:AKR)(H1:Hp):Prop:=
 AFK AKS (W 0 m [] H1) (∀i m vs H,W i m vs H ->KL acc MY/\vs.length<sizeLine+1/\
  ((J.stop i H/\HI acc H)\/ (J.go i H/\WE vs.length/\∀x H',J.yld i H x H' ->g x σ' H' (AHO (tc σ2 H2 fun b H3=>
   (Da b (te σ2 H3 fun v H4=>ρ (H4 acc) MY/\AHC (W B2 m' AHd (upd H4 acc (BV AHd)))) (AHC (W B2 m' vs H3))))))))
def RG(BCq)(wi:TI)(g:TG)(tc:TT)(te:TE):TE:=Se wi J (∀acc,ii acc ->Jy acc J BGN g tc te Q (Nw acc nE))
section
variable{X:Cx}{sc:Scope}{own:ο}{caps:AL}{N' :ο}{elt tg iter:Expr}{ifs:AD}{pos:Pos}{wi:TI}{g:TG}{tc:TT}{te:TE}
theorem znp(S:AH0)(hi:A5k)
  (hg:ApX PG tg g) (ht:ApX Xb ifs tc) (he:ApX PE elt te)
  (ee:e= .ListComp elt [⟨tg,iter,ifs,0⟩] sc pos) (hs:e9 iter)
  (I:Η) (h:RG own.length caps wi g tc te σ H Q)
  (fin:∀acc C H' s5,xh s5 ->Ο (AIj acc) (∃m,s5.heap.Ns C m) (H' C=none) (C≠X.env.locals) (Ο (AAy C) (ABn C) (∀p∈AII,AK≠C) (C∉X.fs) (A8M Qv dP C (.ok dC) s5))):
  nB (comprehension e sc X.env ps (newList []) false ADi use) Qv:=by
 subst ee;refine wpAny_comprehension_free (g:=⟨tg,iter,ifs,0⟩) (gs:= []) (cl:=qu X.env sc.names []) rfl hs (yes (W9 I S)) S.kind ?_ (cJ AS2 fun v s1 h1=>Awm)
 ·intro p hp hk;have nd:=S.snd;rw[List.Nodup,List.pairwise_map] at nd;have d:∀(l:bq),AnE ->p∈l ->ρ (l.lookup AK) AOt:=by
   intro l;induction l with
   | nil=>show AMw
   | cons a r ih=>
    intro hpw h1;show AYs hpw;show VI h1 e1 h1
    ·subst e1;rw[List.lookup_cons];simp [hk]
    ·show da hb (AK==a.1) (Adm (Ne.symm (p1 p h1)))
     rw[List.lookup_cons,hb];exact ih p2 h1
  exact d _ nd hp
 obtain⟨it,fp,tn,J,H2,cm,rfl,I2,T,st2,f2,R2,hcm⟩:=h2;have hp0:=I2.fresh;refine wpAny_newObj_type ?_;have I3:=I2.lnew (its:= []) (ys:= []) (t' :=s2.toks) B9 (Nat.zero_le _);generalize hacc:s2.heap.objs.size=acc at*;obtain⟨W,⟨m0,w0⟩,turn⟩:=R2 acc hp0;show UZ f3 (TZ (Ž AHG)) (by
  show Đ (y_ f2);show õ eo (AYy st2);rw[AqL (A7 hacc (Heap.lt_size eo))]
  exact OA f2)
 have hc:∀C s₀,cm (ŭ C s₀ AHG fp):=fun C s₀=>hcm _ rfl rfl (Z_ u e (QY (AKy (ŭ C s₀ AHG fp).H₀ (upd H2 acc nE)) (LJ hp0) e))
 show UZ hlt (TZ (b< Akq)) (by
  show õ eo (AYy st2);rw[Heap.size_push];exact Nat.lt_succ_of_lt (zF eo))
 have st3:tn 0 (s2.heap.push AHy):=AcV st2 VU;refine z2t ?_;show codeAny _ _ (.compStart pk 0 b9 dP (AnF Akq)) (compPost _ _ _ use Qv dP Akq) _;generalize hs3:(w8 s2 Asn s2.toks:Shared)=s3 at*;have hh3:s2.heap.push AHy=s3.heap:=by rw[<- hs3]
 have adh :(ZZ s2 Asn:Shared)=s3:=by rw[<- hs3]
 rw[hh3] at hlt st3⊢;have I4:=z2a I3 S f3 hlt;have st4:tn 0 (pushCells (s3.heap.push T1) sc.names):=AcV st3 A5_;have key:codeAny ZY X.A (.compLoop pk 0 b9 dP (AnF s3.heap.objs.size)) (A8M Qv dP s3.heap.objs.size)
   (ZZ s3 (pushCells (s3.heap.push T1) sc.names)):=by
  have stat:FG H' Hp AI2 (TZ (nY AIZ [] H' b)):=fun hn b hb=>
   ⟨hn b hb,OA I4.ok.Zz,I4.ok.Hu b hb,AJ9,y_ I4.ok.Zz,Anm⟩
  refine z2g (IL n (A9T (W i n vs H'))) ?_ m0
   ⟨0,[],Aj9 wM σ,_,I4,st4,ABW f3,w0⟩
  rintro n s5 ⟨i,vs,σ5,H5,I5,Nq,Wn,w5⟩;obtain⟨ha5,hz5,⟨stop,qn⟩ | ⟨go,hz,step⟩⟩:=turn i n vs H5 w5
  ·refine cJ (A9_ T.done σ5 H5 _ I5 (stat Wn) Nq stop) (ψ r s6 ⟨hr,I6⟩);subst hr;have IX:KB H5 s6:=I3.call' (ch:=fp) I6.os I6.base I6.hok I6.bare (EH ⟨(AKB f3).2.1,AIb f3,(f3 b hb).2.2.2.2.1,(AKB f3).2.2.2⟩);obtain⟨m6,hn6,_⟩:=I6.loc;refine fin acc s3.heap.objs.size H5 s6 IX qn ⟨m6,hn6⟩ I6.free (ú I3.lt) I3.sz (fun x c e z=> ?_) (ψ p hp z) (I3.nofs (zL _))
   ·obtain⟨v,q⟩:=I3.cell x c e;exact absurd q.lt Alh
   ·exact dS zF (AJB I3.pin) Alh
  ·
   have I5' :Inv AIZ [] AFL H5 s5:=z2h I3 S f3 I5;refine cJ (A9_ T.item _ H5 _ I5' (stat Wn) Nq go) (ψ r s6 ⟨u,hr,h6⟩);subst hr;refine cJ h6 (ψ _ s7 hq2);obtain⟨x,H7,I7,r7,y7,st7,fr7⟩:=hq2;have I7' :=I7.pinned (stat fr7) (T.obj _ _ st7);refine cJ (D5 hg _ s7 _ H7 x u _ I7' r7 (step x H7 y7)) (ψ _ s8 ⟨σ8,H8,I8,q8⟩);refine cJ (D5 ht _ s8 σ8 H8 _ I8 q8) (HH s9 ⟨H9,I9,q9⟩);have again:∀{vs' :Δ} {σ' :St} {H' :Hp} {s' :Shared},Inv AIZ ([]++tH fp s7.heap) σ' H' s' ->(∃m',m' <n/\W B2 m' vs' H') ->
     AWJ (A9T (W i m vs H')) :=fun{vs' σ' H' s'} I' ⟨m',hm,w'⟩=>by
    refine⟨m',hm,BQ,vs',σ',H',I'.unpinned,A3l st7 I'.pin,He,w'⟩;show T' e d (AYy st7);exact A5d I'.pin
   cases b with
   | false=>
    show bE UC q9 (again I9 q9)
   | true=>
    rw[BU] at q9⊢;refine cJ (D5 he _ s9 σ8 H9 _ I9 q9) (ψ y s10 zp);obtain⟨v,H10,I10,r10,La,q10⟩:=zp;refine cJ (zts (X:=ŭ s3.heap.objs.size s3 AHG fp) _ s10 σ8 H10 dP [v] dP [y] (E8 H' (H' =upd H10 acc (BV AHd))) I10 rfl (ALf r10) ⟨acc,vs,v,rfl,rfl,La,hz,rfl⟩) (ψ _ s11 wV);obtain⟨_,H11,I11,_,e11⟩:=wV;subst e11;exact again I11 q10
 exact codeAny_compStart_list key (D5 T.self _ st4 key)
#where
def G5(K:W.Frag)(F Hx:Hp)(J:It)(ds:Β):Prop:=AIB (∀(i:Nat) (H1 F1:Hp),SA ->gu H1 ->Same Hx H1 ->
 (i=ds.length ->J.stop i H1)/\∀d,AkI ->J.go i H1/\∀x H',J.yld i H1 x H' ->∃F2,Gr F1 H1 F2 H' /\Rep K F2 d x)
def HW:Hp:=ARw
theorem zxf:kG HW:=FU e AdO
def upI(AXj)(ALG):TI:=fun σ H R=>(AaF (∀ds Γ' F' H' J Hx,AG6 ->Ο Dx (Same Hx H') (G5 K F' Hx J ds) (P ds Γ') AXf))
def aa1(AXj)(ALG):TI:=fun σ H R=>(AaF (AP7 ds J (G5 K F' HW J ds) ds AXf))
def QI(Ao5):Prop:=Ani PI aa1
def RJ(Ao5):Prop:=Ani PI upI
theorem Jz(h:c0 e t)(hi:∀σ H R,t' σ H R ->t σ H R):c0 e t' :=fun pins s σ H R I q=>(AGB R)
theorem qQ(h:AEi e t):AUO e t:=AQF R_ (AHm hq1 (Aaj hq1 ⟨F,Γ,P,S,q,fun ds Γ' F' H' J S' s' hJ hp=>k ds Γ' F' H' J HW S' s' zxf hJ hp⟩))
def RK(AXI):TI:=Aw' (∃xs,AQr/\ (zo ->Ĺ KD)) (∃xs,Age/\ (zo ->Ĺ Js))
theorem ybo(hl:PE X l tl):c0 l (RK X.K tl):=by
 show d6;refine cJ (aS hl) (PQ v hq2);show SV hq2;obtain⟨a,e,q⟩:=q1;subst e;cases r1;rcases q with ⟨xs,hq,q⟩ | ⟨xs,hq,q⟩
 ·show A3y ⟨s1.heap.objs.size,ó,_,_,H1,rfl,AFH,zte a _,RS,He,q hz⟩
 ·obtain⟨its,rv,p,hz⟩:=I1.tuple hq;refine wpAny_pyIter_tuple (Bz (s1.heap.IsTuple a its.toArray) p) ?_;refine⟨s1.heap.objs.size,ó,_,_,H1,rfl,AFH,zpz a _,RS,He,q hz⟩;show ACI
  exact ACd
theorem ybr{K:W.Frag}{F Hx:Hp}{a:Addr}{vs:Δ}{ds:Β}(hq:AkG (pK K H1 a vs))(rs:C8)(hz:Υ vs.length):G5 K F Hx (Js K a) ds:=by
 show lL hl;show B6 τ (fun i H1 F1 s1 s2 s3=>(pp (QQ ⟨vs,A4L,τ⟩) d hd))
 show AL7 hd;show A_g A4L (y vs (hq _ qf)) ⟨F1,Gr.refl s2,Af1⟩
def iL(HA):bZ:=Ű (XE d uB ASe uS ASe)
section
variable{X:Cx}{F0 H0:Hp}{e tg:Expr}{es:AD}{pos:Pos}{te:aX}{g:qP}{gs:uU}{ti:bZ}{tb:aF}
theorem uV(h:ME):AEi e (iL te):=Ae1 ybo R_ (AHm zp (Aaj zp (APB (fun d Γ1 F1 H1 v R1 s1 r1 h1=>by
 cases d with
 | lst ds=>
  show ħ;show AU9;show kK a (.inl ⟨vs,ABg,fun hz=>al ds H1 _ R1 s1 ?_ h1⟩);show B6 (Lv lB rs hz) (fun i H2 F2 s2 s3 s4=>(pp (QQ ⟨vs,AMP,QY e W' GB⟩) d hd))
  show AL7 hd;show A_g AMP (A6I y) Ajj
 | tup ds=>
  show ħ;show AU9;exact Ix a (.inr ⟨vs,Ags,fun hz=>al ds H1 _ R1 s1 (ybr (fun H2 s=>su s hq) rs hz) h1⟩)
 | _=>show u_))))
def cG(ti:bZ)(g:qP)(tb:aF):aF:=AL' (VC ti ds Apu)
theorem Lb(hc:C7)(hi:AEi iter ti)(hg:AWk)(hb:AM4)(hs:e9 iter:=by intro _;rfl):
  AZg iter cG ti:=fun z E cx=>
 tL (A7b AKC HV hs) (Hc Dn wV wV (fun ds Γ1 F1 H1 J R1 s1 hJ h1=>by
  show ApH;show BB (fun i m σ H=>m=ds.length - i/\BEw/\Ab_) ⟨ds.length,An,G1,F1,Γ1,R1,oP,i0⟩
  rintro i m σ H ⟨rfl,hi,F2,Γ2,R2,s2,hI⟩;obtain⟨hstop,hgo⟩:=hJ.2 i H F2 s2 R2.g zxf;by_cases hlt:i<ds.length
  ·obtain⟨go,yl⟩:=hgo ds[i] (zW hlt);show RA ⟨go,Ams,fun σ' H' p' =>(EG Ag8 τ hlt p'),ψ x H' y⟩
   obtain⟨F3,gr,rx⟩:=yl x H' y;exact⟨F3,Γ2,_,ds[i],R2.grow gr,rx,turn i ds[i] Γ2 (zW hlt) hI,fun Γ4 F4 H4 σ4 R4 s4 p=>⟨F4,Γ4,APz D2 D2.nx,R4,p,Ŧ (fun Γ5 F5 H5 σ5 R5 s5 q=>A9z) (fun Γ5 F5 H5 σ5 R5 s5 q=>Fu R5 (AvS s5) q) (fun Γ5 F5 H5 σ5 R5 s5 q=>A9z)⟩⟩
  ·show MO i ds.length
   exact ċ (hstop rfl) (Alp hI)))
def DX(Γ:G2)(j:Nat):Slot:=match Γ[j]? with | some ġ=> .pu d | _=> υ
def sJ(own:Nat)(caps:AL)(Γ:G2):G2:=AJh own υ++caps.map (DX Γ)
theorem z7h(A3d){Γ:G2}(own:Nat)(caps:AL)(R:DH):SR K F H F H BGN (AVt Γ):=by
 have len:(wM own caps σ).length=(sJ own caps Γ).length:=by simp [wM,sJ]
 have DY:∀(i:Nat) s o a,CS (AVt Γ) s ->¬Yf:=fun i s o a e=>by
  show LL sJ;show ABh own
  ·show AU7 List.getElem?_append_left
   rw[AZ hi] at e;cases e;exact DZ h
  ·show AHq List.getElem?_append_right List.getElem?_map
   cases q:caps[i - MI List.replicate own Slot.no]? with
   | none=>show eJ
   | some j=>
    show Pf;have e' :DX Γ j=s:=AN e
    unfold DX at e';split at e' <;>(subst e';exact DZ h)
 show DC (Gr.refl R.g) len (Tm i s) (fun i j a GR=>by obtain⟨s,o,e,_,h⟩:=GR;exact BC')
 show ABh own
 ·show BB none ?_
  ·unfold wM;rw[ATo,List.getElem?_replicate,AZ hi]
  ·show LL sJ;rw[ATo,List.getElem?_replicate,AZ hi] at e
   cases e;trivial
 ·show LL sJ;show AzG e
  cases q:caps[i - own]? with
  | none=>show eJ
  | some j=>
   show Pf;have e' :DX Γ j=s:=AN e
   show BB AmW ?_
   ·unfold wM;rw[BCL,List.getElem?_map,List.length_replicate,q];rfl
   ·unfold DX at e';split at e'
    ·rename_i d hd;subst e';obtain⟨o,e1,v,rfl,rv⟩:=R.sl j _ hd;exact⟨v,GV e1,rv⟩
    ·subst e';trivial
def Ea(g:qP)(tc:TT2)(te:aX)(Γ0:G2)(x:D)(P:Mm):Prop:=g x Γ0 (AG Γ1 (tc Γ1 (fun b Γ2=>(Da b (te Γ2 (K2 d (P [d])) mR) X_)) mR)) mR
def bR(one:AAq):Kk
 | [],P=>X_
 | FM,P=>Axh bR
def dG(Ayy)(tc:TT2)(te:aX):bZ:=Sc ti ds (bR (Ea g tc te (AVt Γ1)) ds fun ys=>(Cb ys))
theorem zoj(f:D ->Β):∀{xs:Β} {P:Mm},(∀x∈xs,∀P,P (f x) ->one x P) ->P (xs.flatMap f) ->bR one xs P
 | [],_,_,h=>h
 | FM,P,k,h=>k x zV _ (zoj f Azb (by simpa [List.flatMap_cons] using h))
def cQ:TT2:=AKx true
def Ld(ND)(ifs:AD)(t:TT2):Prop:=ia Xb ifs Ro
theorem vm:DM Ld [] cQ:=fun z E cx pins s σ H Q I K4=>(w4 P K4 (FS yb0 Q I (JJ R Go h)))
theorem JB(h:my QT c):my Ld [c]:=ASK ybm R_
#where
section
variable{X:Cx}{F0 H0:Hp}{elt tg iter:Expr}{ifs:AD}{sc:Scope}{own:ο}{caps:AL}{N' :ο}{pos:Pos}{te:aX}{g:qP}{tc:TT2}{ti:bZ}
def gX(K:W.Frag)(g:qP):TG:=AI_ (∃F0 H0,MS WR g mR v σ H Q)
def tX(K:W.Frag)(t:TT2):TT:=AkW (MS Ro t)
def eX(K:W.Frag)(t:aX):TE:=AkW (di t)
theorem z4y(gr:a_)(h:Ĝ)(e:ė):sA:=by
 cases q:F' a with
 | none=>rfl
 | some u=>
  show AJg (gr.n a u q h) z e' z
  ·rw[e] at z;cases z
  ·rw[e] at z;cases z;cases e'
theorem znd(AEn)(AXp){J:It}{Hx:Hp}{ds:Β}{acc:Addr}{P:Mm}{Q:AKR}(R:DH)(hJ:G5 K F Hx J ds)(hx:kG Hx)(ha:Sm acc)
  (h:bR (Ea g tc te Avx) ds P)
  (fin:∀ys F' H' vs,Ο Aiq Dx (ρ (H' acc) MY) (F' acc=none) (Ο (H0 acc=none) (AHF ys) (AAe acc) (P ys) (AIj acc))):
  Jy acc J AFL (gX K g) (tX K tc) (eX K te) Q AuC:=by
 obtain⟨R1,e1,e2,e3,ap⟩:=GX (ds:= []) (vs:= []) R ha ě
 have hx1:Same Hx AuC:=IM (AE (ADh hx ha) (hx b u e))
 have xa:∀u,Hx acc≠uA:=fun u e=>by rw[hx acc u e] at ha;cases ha
 show BB (fun i m vs H' =>m=ds.length - i/\BEw/\∃F' ys,Aiq/\Dx /\Same Hx H' /\ρ (H' acc) MY/\F' acc=none/\AHF ys/\BEW/\bR (Ea g tc te Avx) (ds.drop i) (AG zs (P (ys++zs)))) ⟨ds.length,An,G1,F,[],R1,oP,hx1,e1,e2,ARu,GB,AN h⟩
 rintro i m vs H' ⟨rfl,hi,F',ys,R',sF,hx',ha',fa',rs,lv,hc⟩;have hz:=hJ.1;show BB ha' τ
 obtain⟨hstop,hgo⟩:=hJ.2 i H' F' sF R'.g hx';by_cases hlt:i<ds.length
 ·obtain⟨go,yl⟩:=hgo ds[i] (zW hlt);show RA ⟨go,τ,ψ x H2 y⟩
  obtain⟨F2,gr,rx⟩:=yl x H2 y;rw[List.drop_eq_getElem_cons hlt] at hc;have R2:=R'.grow gr;refine⟨F2,H2,F2,Aj9 sJ Γ,_,ds[i],Aj9 z7h R2,rx,hc,fun Γ3 F3 H3 σ3 R3 s3 q3=> ?_⟩;refine⟨F2,H2,F3,Γ3,_,R3,q3,fun b Γ4 F4 H4 R4 s4 q4=> ?_⟩;have HX:Gr F' H' F4 H4:=gr.trans R4.gr;cases b with
  | false=>
   rw[UC] at q4;show∃m',m' <ds.length - i/\_;refine⟨Ag8,τ,rfl,hlt,F4,ys,R'.grow HX,sF.trans HX.f,IM (HX.h b u (hx' b u e)),HX.h _ _ ha',z4y HX fa' ha',rs.up HX.f,τ,?_⟩
   simpa using q4
  | true=>
   rw[BU] at q4;show eX K te σ3 H4 _;refine⟨F2,H2,F4,Γ4,_,R4,q4,fun d Γ5 F5 H5 v R5 s5 rv q5=> ?_⟩;have N7:Gr F' H' F5 H5:=gr.trans R5.gr;have a5:=N7.h _ _ ha';have f5:=z4y N7 fa' ha';refine⟨a5,Ag8,τ,rfl,hlt,F5,ys++ [d],?_,sF.trans N7.f,FR,jW,f5,Jv (rs.up N7.f) (Jw rv),Adv,?_⟩
   ·have R6:=R'.grow N7;show DC ⟨R6.gr.f,FR,FR,R6.gr.n⟩ R6.len (Tm j sl) R6.ap
    ·rw[LJ f5];exact R6.g b u e
    ·rw[LJ e3];exact R6.gr.h b u e
    ·show Ape (R6.sl j sl e) (AEv (pp (Dz p2 hc).1 u q)) (c≠acc) (ap j ⟨sl,o,e,p1,hc⟩) q
   ·rw[dI (Ξ (xa u (A7 z e)))];exact N7.h b u (hx' b u e)
   ·simpa [List.append_assoc] using q5
 ·show MO i ds.length
  refine ċ (hstop rfl) (fin ys F' H' vs R' sF ha' fa' e3 rs ap ?_);rw[List.drop_length] at hc
  simpa [bR] using hc
structure fY (A4e) (RL:Scope) (N' :ο):Prop where
 kind:Aib
 nd:N'.Nodup
 snd:BFT
 free:A4U RL.names.lookup RL.names.lookup
 names:Ay9
 caps:A9S
theorem fY.cs(h:AM2):AH0 :=⟨h.kind,h.nd,h.snd,h.free,h.names,h.caps⟩
def QIg(Ao5):Prop:=Ani PIg upI
theorem z8s(S:AM2)(hi:o_ QIg tg iter ti)
  (hg:AY8) (ht:AY9) (he:AY7)
  (hn:ATO:=by rfl) (hs:e9 iter:=by intro _;rfl):AuV:=by
 subst hn;rintro z E cx pins s σ H Q I ⟨F,Γ,P,R,h,k⟩;rw[show eval pk (X.wsh z).env=Ao7 (newList []) false ADi from eval_ListComp ..];refine Sn znp g (gX X.K g) (tc:=tX X.K tc) (te:=eX X.K te) (Q:=Q) (Bi fY.cs S) AKC ?_ ?_ ?_ rfl hs I ?_ ?_
 ·rintro C s₀ H₀ fp pins s σ H v u Q I r ⟨wW,wX,q⟩;exact mP hg v u Q I r q
 ·rintro C s₀ H₀ fp pins s σ H Q I ⟨wW,wX,q⟩;exact mP ht Q I q
 ·rintro C s₀ H₀ fp pins s σ H Q I ⟨wW,wX,q⟩;exact mP he Q I q
 ·exact ES (fun ds Γ1 F1 H1 J Hx R1 s1 hx hJ h1 acc ha=>(Asf (fun ys F' H' vs R' sF a1 a2 a3 rs ap hp=>k ys Γ1 F' H' acc vs R' (s1.trans sF) a1 a2 a3 rs ap hp)))
 ·rintro acc C H' s5 I5 q5 ⟨m,hn⟩ c1 c2 c3 c4 c5 c6;exact⟨m,hn,Afb (Hm AdX H' (I5.turned (t' :=s5.toks) (it:=C) (oS (AOk hs')) c1 c2 (CA c3) c4 c5) q5)⟩
theorem vo(S:AM2)(hc:C7)(hi:AUO iter ti)
  (hg:AY8) (ht:AY9) (he:AY7)
  (hn:ATO:=by rfl) (hs:e9 iter:=by intro _;rfl):AuV:=z8s S (fun z E cx=>pig hc AKC) hg ht he hn hs
theorem Le(hN:X.N.Nodup)(hi' :CS X.N y)(hy:AXy)(S:AM2)(hc:C7)(hi:AUO iter ti)
  (hg:AY8) (ht:AY9) (he:AY7)
  (hn:ATO:=by rfl) (hsw:swapsWith pk (BO vv) spos.line X.env=pure true:=by rfl) (hs:e9 iter:=by intro _;rfl):
  KO AZV (cg i (Ac0 tc te)):=by
 subst hn;rintro z E cx pins s σ H Dn I ⟨F,Γ,D2,R,h,k⟩;show FB (ASl AZV);rw[iX exec_Assign_Name_used hsw];show qo wpAny_standAt z9;show fg (do let _<- Ao7 (newList []) false ADi (BO (assign vv X.env)));show uu (Sn znp use (some (assign vv X.env)) (Qv:=E4 s' (SP fe pins Dn dC s')) (g:=gX X.K g) (tc:=tX X.K tc) (te:=eX X.K te) (Q:=fun v H' =>Dn.nx AI4 H') (Bi fY.cs S) (pig hc AKC) ?_ ?_ ?_ rfl hs I ?_ ?_) (fun _ s' hq=>zZ (zZ hq)) AEz
 ·rintro C s₀ H₀ fp pins s σ H v u Q I r ⟨wW,wX,q⟩;exact mP hg v u Q I r q
 ·rintro C s₀ H₀ fp pins s σ H Q I ⟨wW,wX,q⟩;exact mP ht Q I q
 ·rintro C s₀ H₀ fp pins s σ H Q I ⟨wW,wX,q⟩;exact mP he Q I q
 ·exact ES (fun ds Γ1 F1 H1 J Hx R1 s1 hx hJ h1 acc ha=>(Asf (fun ys F' H' vs R' sF a1 a2 a3 rs ap hp=>Fu (R'.setOw i a1 a2 a3 rs ap) (s1.trans sF) hp)))
 ·rintro acc C H' s5 I5 q5 ⟨m,hn⟩ c1 c2 c3 c4 c5 c6;show FB (assign vv X.env dP);refine wpAny_assign_Name (Bi ZC I5 hN hi' Ad7 (v:= AdX) rfl A0d AeC);have ha' :Af3\/AgC a:=ha;have hac:C≠a:=by
   show Û ha' ha'
   ·exact c2
   ·exact Ξ (c4 y a ha' z.symm)
  show DB m (hn.sameBut hsb hac) (Afb (Tl H' (I6.turned (t' :=s6.toks) (it:=C) (oS (AOk hs')) c1 c2 (CA c3) c4 c5) q5))
#where
def Cq(K:W.Frag)(g:Kk):UX:=A1T (∀es us l,Aio ->APT ->P es ->APq us)
section
variable{X:Cx}{F0 H0:Hp}{a b e:Expr}{es:AD}{pos p p2:Pos}{ta tb te:aX}{t:bZ}{x:Str}
def jP(g:Kk)(t:bZ):bZ:=IS (g ds fun es=>(Cb es))
theorem yas(D9){g:Kk}{E:XW}(bz){Q:VK}(h:MS upF (jP g t) E σ H Q):A3h Cq:=by
 show Of h;refine ES (fun ds Γ1 F1 H1 vs R1 s1 r1 h1=>(A_N (fun es us l r hl hp=> ?_)));obtain⟨R2,e1,e2,e3,ap⟩:=GX R1 hl r;exact al es _ l us R2 s1 e1 e2 e3 r ap hp
theorem z9f{id:String}{g:Kk}(hc:c8 fB qE (Cq X.K g))(Ŝ)(hv:ď qE)(ha:og)(hn:sw :=by decide)(hdb:B1 x "__debug__":=by decide)
  (yb):AIy XA g:=fun z E cx=>
 oU (AY0 (Bi QL) hv Cf hn hdb he hpl) (ek yas)
theorem RM{T:String}{g:Kk}(hc:c8 fB sq (Cq X.K g))(Ŝ)(hv:ď sq)(ha:og)(hn:sw :=by decide)(hdb:B1 x "__debug__":=by decide)
  (yb):AIy XA g:=fun z E cx=>
 oU (AY0 ASf hv Cf hn hdb he hpl) (ek yas)
theorem zq9{T:String}{g:Hb}(hc:c8 fB sq (tO X.K g))(Ŝ)(hv:ď sq)(ha:og)(hn:sw :=by decide)(hdb:B1 x "__debug__":=by decide)
  (yb):B' XA Akp:=fun z E cx=>
 oU (AY0 ASf hv Cf hn hdb he hpl) (ek ya3)
#where
def nR:Kk:=Ayd (P xs) (P xs)
theorem Xc:va "list" (Cq X.K nR):=by
 rintro pins s σ H xs us Q I r ⟨F,ds,P,sF,rs,h,k⟩;show A_ nR;show DL
 ·show NN;obtain⟨v,_,rfl,⟨p,vs,rfl,hq,rs⟩,rfl⟩:=rs;exact ï zlc r (OP p AXM A2y)
 ·show NN;obtain⟨v,_,rfl,⟨p,vs,rfl,hq,rs⟩,rfl⟩:=rs;exact ï zlc r (OP p AXN A2y)
 ·show EB
def o8:Hb:=Ayd (P L9) (P L9)
theorem yci:va "tuple" (tO X.K o8):=by
 rintro pins s σ H xs us Q I r ⟨F,ds,P,sF,rs,h,k⟩;show A_ o8;show DL
 ·show NN;obtain⟨v,_,rfl,⟨p,vs,rfl,hq,rs⟩,rfl⟩:=rs;refine ï zi3 r (IB p vs (.inl (pp (sF.seq hq) l hl)));have gr:=Gr.laid (o:=HO.tup vs) sF hl;refine JJ gr ?_ h;show EE;exact OP l AHs (rs.up gr.f)
 ·have rs0:=rs;show NN;obtain⟨v,_,rfl,⟨p,vs,rfl,hq,rs⟩,rfl⟩:=rs;refine ï zi3 r (IB p vs (.inr ⟨su sF hq,VX ?_ h⟩));show EE;exact OP p hq rs
 ·show EB
def cutD(xs:Β)(lo hi:Ic):Β:=ArJ
theorem zyx(EM)(AM5)(r:C8)(lo hi:Ic):HG (cutD ds lo hi) (vU vs lo hi):=by
 unfold cutD vU;rw[lB r];exact zmi _ (zm7 _ r)
abbrev G6:=AGD Ic
def upO(AXj)(t:G6)(E:XW):TO:=ABS (∀o Γ' F' H',AgX (P o Γ') (Q o H'))
def QO(ND)(e:ACu)(t:G6):Prop:=ia PO e upO
theorem poC(h:PO X e t)(hi:∀σ H Q,t' σ H Q ->t σ H Q):PO X e t' :=fun pins s σ H Q I q=>(AGB Q)
def mK:G6:=AKx none
def mL(HA):G6:=Ty B8 (P (some i) Γ1)
section
variable{X:Cx}{F0 H0:Hp}{a b e:Expr}{es:AD}{pos p p2:Pos}{ta tb te:aX}{t:bZ}{x:Str}{lo hi:ACu}{tl th:G6}
theorem HY:DM QO none mK:=fun z E cx=>poC yck (EI hq1 (w4 P hq1 (JJ R Go h)))
theorem Ia(h:ME):DM QO AQA (mL te):=fun z E cx=>poC (ybx R_) (ADg hq2 hq2 (fun d Γ1 F1 H1 v R1 s1 r q=>by
 cases d with
 | int i=>show KU;exact⟨i,r,JJ R1 s1 q⟩
 | _=>show IZ q))
def mU(Amw):bZ:=Ap3 Id (P A0V Γ3)
theorem JC(A'A):om (ASP e AZj) (mU te tl th):=fun z E cx=>
 oU (A5V ybz) (EI zp (K0 zp (fun d Γ1 F1 H1 v R1 s1 r1 h1=>(lb (fun l Γ2 F2 H2 R2 s2 h2=>(Aob (fun u Γ3 F3 H3 R3 s3 h3=>by
  cases d with
  | lst xs=>
   have r3:=r1.up (s2.trans s3);show Kt r3;show Bn a vs hq rs r3;refine OP a (R3.g.seq hq) li;have rc:=zyx rs l u;obtain⟨R4,e1,e2,e3,ap⟩:=GX R3 hp rc;exact k _ Γ3 F3 _ p _ R4 AU' e1 e2 e3 rc ap h3
  | _=>show IZ h3)))))))
def iJ(HA):bZ:=Ty Id BEM
theorem Xd(EM):Aoi (HG ds.reverse vs.reverse)
 | [],_,h=>by show LG;subst h;unfold ao;rfl
 | SG,_,h=>by
  show LG;show Bn v r h1 h2 h;show Asx;exact Jv (Xd h2) (Jw h1)
#where
section
variable{X:Cx}
theorem toI{A:Around}(h:NB):ASk:=h
theorem Xe(I:Η)(k:AiC)(r:JU)(q:Q v H):tJ u OW:=⟨v,H,I.kept k,r,q⟩
def lD:ATa Int
 | []=>Č
 | B8::r=>Agq lD
 | A8=>none
def sO:ATa Bool
 | []=>Č
 | .bl i::r=>Agq sO
 | A8=>none
theorem Xf(EM):∀{ds:Β} {vs:Δ} {ns:Φ},C8 ->ρ (lD ds) ns ->vs=ns.map T_
 | [],vs,ns,r,h=>Amh
 | B8::ds,vs,ns,r,h=>by
  unfold ao Rep at r;show Bn v us rfl r r;show A_ lD;cases q:lD ds with
  | none=>show k8 q
  | some ms=>
   show An_ Xf
 | Ρ::_,_,_,_,h=>BI
 | Kx::_,_,_,_,h=>BI
 | HZ::_,_,_,_,h=>BI
 | AKK::_,_,_,_,h=>BI
 | YA::_,_,_,_,h=>BI
 | ę::_,_,_,_,h=>BI
 | Ě::_,_,_,_,h=>BI
 | Lc .obj::_,_,_,_,h=>BI
 | u7::_,_,_,_,h=>BI
 | u8::_,_,_,_,h=>BI
 | ADb::_,_,_,_,h=>BI
theorem zrn(EM):∀{ds:Β} {vs:Δ} {ns:tj},C8 ->ρ (sO ds) ns ->vs=ns.map .bl
 | [],vs,ns,r,h=>Amh
 | .bl i::ds,vs,ns,r,h=>by
  unfold ao Rep at r;show Bn v us rfl r r;show A_ sO;cases q:sO ds with
  | none=>show k8 q
  | some ms=>
   show An_ zrn
 | Ρ::_,_,_,_,h=>BI
 | IR::_,_,_,_,h=>BI
 | HZ::_,_,_,_,h=>BI
 | AKK::_,_,_,_,h=>BI
 | YA::_,_,_,_,h=>BI
 | ę::_,_,_,_,h=>BI
 | Ě::_,_,_,_,h=>BI
 | Lc .obj::_,_,_,_,h=>BI
 | u7::_,_,_,_,h=>BI
 | u8::_,_,_,_,h=>BI
 | ADb::_,_,_,_,h=>BI
theorem z5p(ns:Φ)(f:dk)(h:İ ns.length (f i=ye)):PySem.preSum f ns.length=ns.sum:=by
 have key:∀k,k<=ns.length ->PySem.preSum f k=(ns.take k).sum:=by
  intro k;induction k with
  | zero=>intro _;rfl
  | succ k ih=>
   intro hk;show PySem.preSum f k+f k=_;rw[ih ξ,h k ξ,List.take_add_one,List.sum_append,List.getD_eq_getElem?_getD,ASq]
   simp
 rw[key _ Adz,List.take_length]
def yjg:Hb:=iq (∃ns,AJE/\HR ns.sum)
theorem zqv(pl:PlainL h p its):A2Z IsListIter h.objs.size p 0/\ A2Z IsList p its:=by
 show CI RS;obtain⟨o,n,e,hcl,_,hd⟩:=pl;exact⟨o,VU,hcl,n,hd⟩
theorem z08(bs:tj):AAj bs.length any (TU bs.getD false)=bs.any id:=by
 rw[Bool.eq_iff_iff];simp only [List.any_eq_true,List.mem_range,id];constructor
 ·show ø i hi;show BEz W_;exact BY (yU hi) e
 ·show ø b hb;show ve i hi hb;exact⟨i,hi,QY List.getD_eq_getElem?_getD W_ e⟩
theorem z3e(bs:tj):ALK bs.length (TU bs.getD false)=bs.all id:=by
 rw[Bool.eq_iff_iff];simp only [List.all_eq_true,List.mem_range,id];constructor
 ·intro h b hb;show ve i hi hb;have:=h i hi;show XG List.getD_eq_getElem?_getD W_;exact this
 ·intro h i hi;show AJa W_;exact h _ (yU hi)
def Xg:Hb:=A3O bs.any
def ydd:Hb:=A3O bs.all
theorem yan{bs:tj}{its:Ζ}(rv:Vals (bs.map .bl) its){i:Nat}{v:Value}(hv:oq its.toArray):v= .bool ArU:=by
 show RO;show ľ;have hv' :AfP:=AN hv
 have hi:i<bs.length:=Fr (ID hv')
 show AFR (A4t (.bl ArU))
 rw[hv'] at hu;cases hu;exact ru
theorem z3i{ns:Φ}{its:Ζ}(rv:Amj){i:Nat}{v:Value}(hv:oq its.toArray):Adj/\∃t,v= .int Ah5 t:=by
 show RO;show ľ;have hv' :AfP:=AN hv
 have hi:i<ns.length:=Fr (ID hv')
 show AFR (A4t (.int Ah5))
 rw[hv'] at hu;cases hu;exact⟨hi,ru⟩
theorem yfj(wc):AEO "any" Xg:=by
 rintro pins s σ H xs us Q I r ⟨F,ds,P,sF,rs,h,k⟩;show A_ Xg;show DL
 ·show NN;obtain⟨v,_,rfl,⟨p,vs,rfl,hq,rs⟩,rfl⟩:=rs;show D' bs hbs h;show N0 (zrn rs hbs);show AsY;show ľ;show Ak_ call_any_walk;show UQ N8 p (by show AoG;exact G')
  refine⟨s.heap.objs.size,_,_,_,_,_,AuT,rfl,Ap4,zqv pl,fun i v s' Q' E' hv hQ=> ?_,ACr tk kp⟩
  ·show A3J hQ
  ·show A'1 z08 bs.any
 ·show EB
theorem yil(wc):AEO "all" ydd:=by
 rintro pins s σ H xs us Q I r ⟨F,ds,P,sF,rs,h,k⟩;show A_ ydd;show DL
 ·show NN;obtain⟨v,_,rfl,⟨p,vs,rfl,hq,rs⟩,rfl⟩:=rs;show D' bs hbs h;show N0 (zrn rs hbs);show AsY;show ľ;show Ak_ call_all_walk;show UQ N8 p (by show AoG;exact G')
  refine⟨s.heap.objs.size,_,_,_,_,_,AuT,rfl,Ap4,zqv pl,fun i v s' Q' E' hv hQ=> ?_,ACr tk kp⟩
  ·show A3J hQ
  ·show A'1 z3e bs.all
 ·show EB
theorem zxu(ns:Φ):∀k,Aey ->∃i,i<=k/\PySem.argBest A0T k=i/\∀j,j<=k ->AQc<=ye
 | 0,_=>IB 0 GB (sD (by obtain rfl:j=0:=ξ;exact Adq))
 | k+1,hk=>by
  obtain⟨i,h1,h2,h3⟩:=zxu ns k ξ
  unfold PySem.argBest;rw[h2];by_cases hg:ns.getD Fc 0>ye
  ·show uk hg
   show DC (k+1) GB rfl AkK;by_cases hjk:j=k+1
   ·subst hjk;exact Adq
   ·have:=h3 j ξ;omega
  ·show Ĕ hg
   show DC i τ rfl AkK
   by_cases hjk:j=k+1
   ·subst hjk;omega
   ·exact h3 j ξ
def z0m:Hb:=A'P (i<=m)
def yjd:Hb:=A'P (m<=i)
theorem z9c{ns:Φ}{i:Nat}(h:i<ns.length):ye∈ns:=QY List.getD_eq_getElem?_getD si (yU h)
theorem z8z{ns:Φ}{m:Int}(h:m∈ns):∃i,Adj/\ns.getD i 0=m:=by
 obtain⟨i,hi,rfl⟩:=AdV;exact⟨i,hi,Ae' W_⟩
theorem yf2(wc):AEO "max" z0m:=by
 rintro pins s σ H xs us Q I r ⟨F,ds,P,sF,rs,h,k⟩;show A_ z0m;show DL
 ·show NN;obtain⟨v,_,rfl,⟨p,vs,rfl,hq,rs⟩,rfl⟩:=rs;obtain⟨ns,m,hns,hm,hmx,h⟩:=h;show AjJ;show NI;cases rx;show ARG;show RO;show ľ;have pos:0<ns.length:=List.length_pos_of_mem hm;show Ak_ call_max_walk;show UQ N8 p (by show AoG;exact G')
  refine⟨s.heap.objs.size,_,_,_,_,_,_,rfl,Ap4,zqv pl,?_,Adv,CmpOf.ints_gt AD' (fun i v hv=>(z3i rv hv).2),fun v h' tk hv kp=> ?_⟩
  ·intro b hb;rw[Heap.size_push];show eg
   ·exact Nat.lt_succ_self _
   ·show eg
    ·exact Nat.lt_succ_of_lt N8
    ·cases hb
  ·show CM hi t rfl z3i rv hv;obtain⟨i,b1,b2,b3⟩:=zxu ns BEY i_
   have e:ns.getD (PySem.argBest A0T BEY) 0=m:=by
    rw[b2];show AU j hj ej z8z hm;have q1:=b3 j i_
    have q2:=hmx _ (z9c (ns:=ns) (i:=i) (by simp at b1;omega))
    omega
   rw[e];refine Xe (s:=s) (v:= .int m) I (HK (kp b o (NG ?_) OI)) UF (AZu (Gr.refl sF) MX h)
   rcases AId with rfl | z
   ·exact BCw
   ·cases z
 ·show EB
#where
def iu:Slot ->Slot | .ow ds=> OE ds | .tr _ t=> .pu (toD t) | .nt _ c t=> BDd toD | .xe _ C _ _=> .pu AXB | s=>s
def fu(Γ:G2):G2:=Γ.map iu
def gG(Γ:G2)(σ:St)(b:Addr):Prop:=∃j,pF Γ σ j b
open Classical in
theorem zxp(A9s):∃F1,SA/\A3i/\ A3P/\AQ9 (∃u,AIg/\LD u):=by
 let F1:Hp:=ATq AOl (F b) (AOi (H b))
 have s1:SA:=IM (by show(AHM _)=_;rw[if_pos (by rw[e];rfl)];exact e)
 have s2:gu H:=IM (by
  show lS Ahi;split at e'
  ·exact R.g b u e'
  ·split at e'
   ·exact e'
   ·cases e')
 have at1:∀b u,gc ->Sl ->â ->AIg:=fun b u h1 h2 h3=>by
  show Ahi=_;rw[D_ (AJ4 h1),AZ h2]
  exact h3
 have DY:∀(i:Nat) s o a,CS (fu Γ) s ->¬Yf:=fun i s o a e=>by
  show LL fu;show ASN;cases q:Γ[i]? with
  | none=>show eJ
  | some t=>
   show AtC
 show UZ own (AQ9 (∃u,AIg/\LD u)) (by
  obtain⟨j,s,o,e1,e2,hs⟩:=id hb;obtain⟨o',e3,r⟩:=R.sl j _ e1;rw[e2] at e3;cases e3;obtain⟨h1,_,u,h2,ld⟩:=Dz r hs;exact⟨h1,u,at1 _ _ h1 hb h2,ld⟩)
 refine⟨F1,s1,A9O fu,HH hb hn,own⟩
 ·show LL fu;show ASN;cases q:Γ[i]? with
  | none=>show eJ
  | some sl=>
   show Pf;show T' e1 r (R.sl i sl q);show BB o e1;have mine:∀b u,iQ sl o b ->â ->AIg:=RH hb hu (at1 b u (Dz r hb).1 A_p hu);cases sl with
   | no=>cases e;trivial
   | pu d=>cases e;show OH rfl rv r;exact ĥ Af1
   | ow ds=>
    cases e;obtain⟨a,vs,rfl,h1,h2,h3,rs⟩:=r;show SB AR;show EE;exact OP a (oC (mine a _ rfl h1)) (rs.up s1)
   | tr as t=>
    cases e;obtain⟨v,rfl,nd,h1,rv⟩:=r;exact ĥ (AiW A9N rv)
   | nt as c t=>
    cases e;obtain⟨p,v,rfl,e2,nd,h1,rv⟩:=r;show SB L_;show EE;exact EG p [AA',v] (Abu s1) (sy MX (Jw (AiW A9N rv)))
   | xe as C fs ts=>
    cases e;obtain⟨a,oe,dx,vs,rfl,e2,_⟩:=r;show SB AR;show EE;exact IB a oe (s1 _ _ e2)
 ·show Ahi=none;rw[D_ (AJ4 hb),Ω hn]
theorem ydx(A9s):∃F1,SA/\A3i:=by
 obtain⟨F1,s1,R1,_⟩:=zxp R;exact⟨F1,s1,R1⟩
theorem z2m{K:W.Frag}{F0 H0 F H H' :Hp}(AXp)(R:DH)(s:ALB):fN F H':=by
 refine R.grow (mE (IM (s b u (R.g b u e))) s)
def scD:t6 | Ρ=>True | Kx=>True | IR=>True | HZ=>True | _=>False
theorem ygl{K:W.Frag}{F F' :Hp}(AGL)(h:scD d)(r:IN):Q4:=by
 cases d with
 | non=>show AWG
 | bl=>show AWG
 | int=>show AWG
 | str=>show AWG
 | _=>show EB
def cR(HA):aX:=AmQ (scD d/\vj)
def bW(t:TT2):TT2:=Mn (t (fu Γ) (K2 b (P b Γ)) mR)
section
variable{X:Cx}{F0 H0:Hp}{e:Expr}{te:aX}{tt:TT2}
theorem Xh{E:XW}{F1 H1:Hp}(cx:o_ Ctx E):Ctx X F1 H1 mR:=
 ⟨fun _ _ _ _ _ _ _ _ _ _ h=>AxX,cx.po⟩
theorem Xi(h:∀F0 H0,ME):xD (cR te):=fun z E cx=>by
 rintro pins s σ H Q I ⟨F,Γ,P,R,q,k⟩;show AU F1 s1 R1 ydx R;exact Ap0 H H Q I ⟨F1,fu Γ,_,R1,q,fun d Γ' F' H' v R' s' r hp=>k d Γ F H' v (z2m R R'.gr.h) Go (ygl hp.1 r) hp.2⟩
def gY(AjE):aX:=mT ((∃xs,KS AIr)/\VC te k (match k,Γ1[i]? with | To,Ady=>∃d,ρ (nF ds k) d/\AHZ | _,_=>False))
theorem yf8(AYx){b:Expr}{pos pos' :Pos}(ACf)(hb:ADJ b)(hs:zvj b)(AFh):
  AUV (ED x pos') b (gY i te):=fun z E cx=>
 oU (ygk z2e U' HV hs) (EI hq2 (by
  obtain⟨F,Γ,P,R,⟨⟨xs,e0⟩,h⟩,k⟩:=hq2;obtain⟨o,e1,a,vs,rfl,h1,h2,h3,r⟩:=AUq;refine⟨AR,e1,F,Γ,_,R,h,fun d Γ1 F1 H1 v R1 s1 r1 q1=> ?_⟩;cases d with
  | int m=>
   show ħ;subst r1;split at q1
   ·rename_i m' ds hm e2;cases hm;obtain⟨d,ed,hp⟩:=q1;obtain⟨o,e3,a',vs',ea,g1,g2,g3,r'⟩:=AUr;rw[e1] at e3;cases e3;cases ea;show CM w ew tD zro r' ed;exact⟨a,vs',m,w,rfl,rfl,oC g1,ew,al d H1 w R1 s1 tD hp⟩
   ·exact q1.elim
  | _=>show IZ q1))
#where
def Xj(X:Cx)(id:String)(g:vn):Prop:=
 ∀(pins:dJ) (s:Shared) (σ:St) (F H:Hp) (l:Addr) (vs args:Δ) (xs ds:Β) (us:Ζ) (P:Mm) (Q:VK),Ο Η (KL l MY) JE (bv xs vs) (Ο (bv ds args) (xC args) (g xs ds P) (∀ys ws,bv ys ws ->P ys ->AQo ws) (yz (Ako FI)))
def nT:vn:=AM9 (LV [d] (WE xs.length/\P (xs++ [d])))
def Lf(xs:Β)(k:Nat)(d:D):Β:=xs.take k++d::xs.drop k
def o9:vn:=AM9 (LV [To,d] (0<=k/\k<=xs.length/\BE_/\P (Lf xs k.toNat d)))
def zr1:vn:=AM9 (LV [Ď] (Axt (P (xs++ys))))
def yfe:vn:=AM9 (LV [] BDr)
def yi3:vn:=AM9 (LV [] X_)
section
variable{X:Cx}
theorem Xk:Xj X "list.append" nT:=by
 intro pins s σ F H l vs args xs ds us P Q I hl sF rs ra rv h k;show A_ nT;show DL
 ·show AVg ra;show AH1 rd ra;exact FS zts ARf [v] ARf us Q I rfl rv ⟨l,vs,v,rfl,rfl,hl,A7 W' h.1,k _ _ (Jv rs (Jw rd)) h.2⟩
 ·show EB
theorem z1d:Xj X "list.insert" o9:=by
 intro pins s σ F H l vs args xs ds us P Q I hl sF rs ra rv h k;show A_ o9;show DL
 ·rename_i j d;unfold ao ao ao at ra;obtain⟨v,_,rfl,rj,w,_,rfl,rd,rfl⟩:=ra;show Kt rj;subst rj;show L7 h0 h1 h2 hp;obtain⟨u1,u2,rfl,⟨t,rfl⟩,r2⟩:=vals2 rv;obtain⟨z,its,n,r,hlen,e⟩:=I.lstM hl;show lL hxl;have hfit:¬(ACs (Builtin.List.listFitsIndex j)):=by
   show Ř;unfold Builtin.List.listFitsIndex;simp;omega
  refine AVC PySem.F.slot_list_insert e PySem.F.entry_list_insert (PySem.F.args_list_insert_3 _ _ _) (Alc AutoSeq1.list_insert_list_int_val_1 j t u2 hfit AUK) (EJ e)
  have hk:(AC (j<0) (j+ AH5).toNat (min j.toNat its.toArray.size))=j.toNat:=by
   rw[Ω ξ,List.size_toArray]
   omega
  refine FL Ρ (I.lset (its' :=its.take j.toNat++u2::its.drop j.toNat) (ys:=vs.take j.toNat++w::vs.drop j.toNat) hl e ?_ ?_ ?_) (k _ _ ?_ hp)
  ·dsimp only;rw[hk];show BDT;simp;exact List.take_of_length_le Μ
  ·exact(r.take _).append (.cons r2 (r.drop _))
  ·simp;omega
  ·exact Jv (zmi _ rs) (sy rd (zm7 _ rs))
 ·show EB
#where
section
variable{X:Cx}{F0 H0:Hp}{x name:Str}{apos cpos npos pos:Pos}{e:Expr}{es:AD}{id:String}{i:Nat}{t:bZ}{g:vn}
def nJ(i:Nat)(g:vn)(t:bZ):aF:=m_ ((∃xs,KS AIr)/\Æ (Awv (k_ (.ow ys))))
theorem z6a{z:WK}{σ:St}{F Fa H Ha:Hp}{Γ Γ1:G2}{xs:Β}{a:Addr}{D2:qR}{Dn:Ends}{vs args:Δ}{ds:Β}(_R:AXv)(R1:VT Fa Ha Γ1)(s1:ZN Fa)(k:Zs vW F D2 Dn)(e1:AK4)
  (q:Awv (Ah_ (.ow ys))):
  ∃vs xs P,BN Ha MY/\ao X.K Fa xs vs/\g xs ds P/\∀ys ws,ao X.K Fa ys ws ->P ys ->Dn.nx σ (upd Ha a (BV ws)):=by
 split at q
 ·rename_i xs e;obtain⟨o,e2,a',vs,rfl,g1,g2,g3,r⟩:=R1.sl i _ e;rw[e1] at e2;cases e2;exact⟨vs,xs,_,g1,r,q,fun ys ws tD hp=>Fu (R1.wr e e1 tD) s1 hp⟩
 ·exact q.elim
theorem Oa(hr:c8 Xj id g)(slot:PySem.Slot "list" name id)(hty:Az6)(hN:Sr)(hv:ax)(ha:og)
  (hd:B1 x "__debug__":=by decide) (hcd:B1 x "__classdict__":=by decide)
  (hbase:ARF HL name HL=BF HL:=by rfl)
  (hfew:My (AUY D6 all x x.1&&AZf all AW3) (AZk (Ps D6)):=by rfl)
  (hline:ib:=by rfl) (hs:Ct starEach D6 (FD (BF e) (FC es)):=by rfl) (hplain:BEy:=by rfl)
  (hsw:AZ3 swapsWith Avi none:=by rfl):
  KO (.Expr Avi pos) (nJ i g t):=by
 intro z E cx;refine tL (Sn ZV te (fI (Ku i σ H fun v H1=>Wt X.K "list" v H1/\AfE E σ H1 fun vs H2=>A'4)) ?_ hsw) ?_
 ·refine Sn yix T "list" (id:=id) (r:=fun v vs H2 Q=>A'4)
   PySem.F.plainAttrs_list slot hty ?_ U' Cf hbase hfew hline hs hplain
  rintro pins s σ H x xs v us Q I rx rs ⟨l,ys,ws,Fz,Pd,ds,e1,h1,h2,h3,h4,h5,h6⟩;subst e1;cases rx;exact fh hr z Fz H l ws xs ys ds us Pd Q I h1 h2 h3 h4 rs h5 h6
 ·rintro Dn σ H ⟨F,Γ,D2,R,⟨⟨xs,e0⟩,h⟩,k⟩;obtain⟨o,e1,a,vs,rfl,h1,h2,h3,r⟩:=AUq;refine⟨AR,e1,.inl ⟨rfl,vs,oC h1⟩,F,Γ,_,R,h,fun ds Γ1 F1 H1 us R1 s1 r1 q1=> ?_⟩;obtain⟨ws,ys,P,g1,g2,g3,g4⟩:=z6a (z:=z) (vs:=vs) (args:=us) (xs:=xs) R R1 s1 k e1 q1;exact⟨a,ys,ws,F1,P,ds,rfl,g1,R1.g,g2,r1,g3,g4⟩
#where
#print L3
namespace L3
open PySem PySem.Spec PyProof.Rows L2
section
variable{X:Cx}{F0 H0:Hp}{st:Stmt}{i:Nat}{t:bZ}
theorem Lg(h:KO st (cg i t)):KO st (aV i (dN t)):=fun z E cx=>
 tL R_ (aI Dn hq1 (by
  obtain⟨F,Γ,D2,R,q,k⟩:=hq1;have key:(fun(ds:Β) (Γ1:G2)=>(match (Γ1.set i cE)[i]? with | some (.ow ds')=>D2.nx ((Γ1.set i cE).set i (.pu (BV ds'))) | _=>Ah_ cE))=fun ds Γ1=>(Ah_ AQL):=by
   funext ds Γ1
   show ABh Γ1.length
   ·rw[List.getElem?_set_self hi];dsimp only;rw[List.set_set]
   ·rw[List.getElem?_eq_none (BH hi)]
    dsimp only;rw[List.set_eq_of_length_le ξ,List.set_eq_of_length_le ξ]
  refine⟨F,Γ,{D2 with nx:=yi (match Γ'[i]? with | some cE=>D2.nx (Γ'.set i AQL) | _=>D2.nx Γ')},R,?_,Ŧ (fun Γ' F' H' σ' R' s' q' => ?_) k.bk k.ct⟩
  ·show t Γ _ E;dsimp only;rw[key];exact q
  ·dsimp only at q';split at q'
   ·rename_i ds e;obtain⟨a,F2,_,s2,R2,_⟩:=R'.frz e;exact Fu R2 (s'.trans s2) q'
   ·exact Fu R' s' q'))
#where
def fZ(t u:aX):bZ:=m3 t (P4 u d' (match d,d' with | Id,Ď=>Axt (P AVj Γ2) | _,_=>False))
section
variable{X:Cx}{F0 H0:Hp}{a b c:Expr}{pos:Pos}{ta tb tc:aX}
theorem z35{M:Program}{w:World}(AYD){s:Shared}{l b:Addr}{vs ws:Ζ}{Q:dR}(hl:ATF vs.toArray)(hb:s.heap.IsList b ws.toArray)
  (h:ALu (AGr (vs++ws).toArray)) (hsz:Υ (vs.length+ws.length)):AGa (model M w) (binaryOp .Add ARf (AA b)):=by
 obtain⟨⟨cls,dd,data,sl⟩,ho,hc,n,hd⟩:=id hl;obtain⟨⟨cls2,dd2,data2,sl2⟩,ho2,hc2,n2,hd2⟩:=id hb;simp only at hc hd hc2 hd2;subst hc hd hc2 hd2;have e:vs.toArray++ws.toArray=(vs++ws).toArray:=An
 refine concat_meets (Is ho) (Is ho2) noFill_list_add seq_list_add PySem.F.slot_list_add PySem.F.entry_list_add (PySem.F.args_list_add_2 _ _) (list_addW l b vs.toArray ws.toArray n n2 dd dd2 sl sl2 (BH hsz)) ⟨ho,ho2,?_⟩
 rw[e];exact h
theorem Ob(ha:OX)(hb:ja):om (.BinOp a .Add b pos) (fZ ta tb):=fun z E cx=>
 oU (Sn ygr r (OK (∃p q xs ys,x= L_/\y= .ref q/\rS p xs/\rS q ys/\Aqy/\y0 l l l (xL AVj))) (by
  rintro pins s σ H x y v u Q I rx ry ⟨p,q,xs,ys,e1,e2,h1,h2,hz,k⟩;subst e1 e2;cases rx;cases ry;obtain⟨its,r,pl,_⟩:=I.list h1;obtain⟨its2,r2,pl2,_⟩:=I.list h2;have l1:=r.length;have l2:=r2.length;refine z35 pl.isList pl2.isList ?_ ξ
  exact FL (.ref _) (ny I.lnew (r.append r2) (AAm List.length_append)) (k _ I.fresh)) Cf HV) (EI hq2 (K0 hq2 (fun d1 Γ1 F1 H1 v1 R1 s1 r1 h1=>(lb (fun d2 Γ2 F2 H2 v2 R2 s2 r2 h2=>by
   cases d1 with
   | lst xs=>
    cases d2 with
    | lst ys=>
     have r1' :=r1.up s2;unfold Rep at r1' r2;show Bn p vs hq rs r1';show Bn q ws hq2 JD r2;refine⟨p,q,vs,ws,rfl,rfl,R2.g.seq hq,R2.g.seq hq2,by rw[<- W',<- lB JD];exact h2.1,AM l hl⟩
     have ra:=Jv rs JD;obtain⟨R3,e1,e2,e3,ap⟩:=GX R2 hl ra;exact k _ Γ2 F2 _ l _ R3 qf e1 e2 e3 ra ap h2.2
    | _=>show IZ h2
   | _=>show IZ h2)))))
def Dj:D ->Bool | Ρ=>true | Kx=>true | IR=>true | HZ=>true | _=>false
def Xl:D ->D ->Bool
 | Ρ,Ρ=>true
 | .bl a,UR=>Y1
 | .bl a,ACq=>Ay7
 | ACp,UR=>a==(AC b 1 0)
 | ACp,ACq=>Y1
 | AKD,AKE=>Y1
 | _,_=>false
def inD(x:D)(xs:Β):Bool:=xs.any fun y=>Xl y x
def m5(neg:Bool):C_:=NJ (XE y Id A9H MD A9H)
theorem Ec(EM)(AGL)(h:By Dj d)(r:IN):By pB v:=by
 cases d<;>first | (show AEX) | (show Lm h zG)
theorem aa2(EM){d e:D}{v u:V}(h:By Dj d)(h' :By Dj e)(r:IN)(r' :fS e u):HB v u=Xl d e:=by
 cases d<;>first | (show Lm h zG) | (show KU;subst r;cases e<;>first | (show Lm h' zG) | (show Kt r';subst r';rfl))
theorem RP(EM):A2O (By vs.all pB)
 | [],vs,r,_=>AuM
 | SG,vs,r,h=>by
  show Ts;show AMX;rw[List.all_cons,Bool.and_eq_true] at h⊢;exact⟨Ec h.1 r1,RP r2 h.2⟩
theorem Ed(EM){x:D}{u:V}(hx:By Dj x)(rx:fS x u):A2O (inV u vs=inD x ds)
 | [],vs,r,_=>AuM
 | SG,vs,r,h=>by
  show Ts;show AMX;rw[List.all_cons,Bool.and_eq_true] at h;unfold inV inD;rw[List.any_cons,List.any_cons,aa2 h.1 hx r1 rx];have:=Ed hx rx r2 h.2;unfold inV inD at this;rw[this]
theorem Lh:wE In (m5 false):=by
 rintro pins s σ H x y v u Q I rx ry ⟨F,d1,d2,P,sF,r1,r2,h,k⟩;show A_ m5;show DL
 ·show Kt r2;show Bn p vs hq rs r2;show D' h1 h2 h3;exact tI (FS zsw x _ v u) ⟨p,vs,rfl,AXM,Ec h1 r1,RP rs h2,VX (by rw[Ed h1 r1 rs h2];show EE;rfl) h3⟩
 ·show Kt r2;show Bn p vs hq rs r2;show D' h1 h2 h3;exact tI (FS zsw x _ v u) ⟨p,vs,rfl,AXN,Ec h1 r1,RP rs h2,VX (by rw[Ed h1 r1 rs h2];show EE;rfl) h3⟩
 ·show EB
theorem yi8:wE NotIn (m5 true):=by
 rintro pins s σ H x y v u Q I rx ry ⟨F,d1,d2,P,sF,r1,r2,h,k⟩;show A_ m5;show DL
 ·show Kt r2;show Bn p vs hq rs r2;show D' h1 h2 h3;exact tI (FS zlb x _ v u) ⟨p,vs,rfl,AXM,Ec h1 r1,RP rs h2,VX (by rw[Ed h1 r1 rs h2];show EE;rfl) h3⟩
 ·show Kt r2;show Bn p vs hq rs r2;show D' h1 h2 h3;exact tI (FS zlb x _ v u) ⟨p,vs,rfl,AXN,Ec h1 r1,RP rs h2,VX (by rw[Ed h1 r1 rs h2];show EE;rfl) h3⟩
 ·show EB
def bM(g g' :C_)(ta tb tc:aX):aX:=Sc ta x (P4 tb y (g x y (IG (MT r (.bl k) (Da k A2Q (P AB_ Γ2))))))
theorem z24(D9){g g' :C_}{E:XW}(bz){Q:VK}(h:di A4y E σ H Q):Dw (sE K g) (sE K g') (di ta E) (di tb E) (di tc E) σ H Q:=by
 show Of h;refine ES (fun x Γ1 F1 H1 v1 R1 s1 r1 h1=>(lb (fun y Γ2 F2 H2 v2 R2 s2 r2 h2=>⟨F2,x,y,_,R2.g,AgN,r2,h2,fun d z F' H' gr rz hp=> ?_⟩)));cases d with
 | bl b=>
  show Kt rz;show BB b rz;have R3:=R2.grow gr;cases b with
  | true=>
   show We;have hp' :A2Q:=hp;exact⟨F',Γ2,_,R3,hp',fun w Γ3 F3 H3 v3 R4 s4 r4 h4=>⟨F3,y,w,_,R4.g,r2.up (gr.f.trans s4),r4,h4,fun d z F5 H5 gr5 rz5 hp5=>k d Γ3 F5 H5 z (R4.grow gr5) (AvS gr5.f) rz5 hp5⟩⟩
  | false=>
   show AV Bool.false_ne_true;have hp' :P AB_ Γ2:=hp;exact k _ Γ2 F' H' _ R3 (AOm gr.f) MX hp'
 | _=>show IZ hp
theorem z8h(ho:c8 lW APp (nc g))(ho' :c8 lW AtB (nc g'))(ha:OX)(hb:ja)(hc:B' c tc)
  (hm:lastMarks [op,op'] [b,c]=false:=by show AOD):B' A5z A4y:=fun z E cx=>
 oU (z7b (ho z) (ho' z) Cf HV AR_ hm) (ek z24)
#where
section
variable{X:Cx}{F0 H0:Hp}{tg a b:Expr}{t:bZ}{p pc:Pos}
def adi(YO):bZ:=IS (LV [gI] ((pf<=j/\APO)/\Υ j.toNat/\P (KE j.toNat (AHf k (.int (0+k)))) Γ1))
def adk(YO):bZ:=IS (LV ABo ((Apf)/\ Υ AX4/\P (KE AX4 (AHf k (.int (i+k)))) Γ1))
#where
def z6t(sc RL:Scope):Scope:={sc with names:=sc.names.map fun sC=>if (k== Ll&&RL.kind== ſ&&RL.names.lookup n==AG_) then(n,nk) else sC}
section
variable{X:Cx}{F0 H0:Hp}{x:Str}{pos:Pos}{d:D}
def Glb(K:W.Frag)(mg:CD)(x:Str)(d:D):Prop:=∃v u,B_ mg u/\JU/\∀F,IN
#where
structure Ef (K:W.Frag) (x qual:Str) (st:Stmt) (f:Addr) (fd:FuncData) (dV:Value):Prop where
 ex:∃(oc:Value) (od:JP) (kV doc pm:Value) (an:JP) (cdv ct:Value) (osl:í),
  A'u dV
 kp:AAt
section
variable{P:Program}{w:World}{K:W.Frag}{mg:CD}{base:Heap}
theorem aa3(A7x)(AYQ){dV:Value}{N ps:ο}{k:Nat}{sp:cP}(Fn:Ef K x qual st f fd dV)(S:AFj ps)(len:ANQ)
  (hbody:∀(cdv:Value) (A:Around) (outer:EX) (s:Shared) (H:Hp) (E:XK),AFW (∀F0:Hp,
   ∃t,AjL yY/\Amn AmN)):
  Afx pN:=by
 obtain⟨oc,od,kV,doc,pm,an,cdv,ct,osl,rfl,lk,hcd⟩:=Fn.ex;show ANe (fun A outer s H vs Q E hr hq2=> ?_)
 show AqA AM3
 obtain⟨F0,ds,Pd,Ex,sF,rs,hsp,hQ,hE⟩:=hq2;show Ajg;show ANd (by
  show AC' (fun pins σ Γ F H1 s1 e s' I R hx=> ?_);show AGX;obtain⟨Γ',F',x,R',_,xr,_,z1⟩:=z;exact ANg)
 exact⟨_,AVl,F0,iR N ds,A2n,AnD,ApJ,⟨fun Γ F' H' σ R' _ q=>A4P,fun _ _ _ _ _ _ q=>q,fun _ _ _ _ _ _ q=>q,fun d v F' H' gr rv q=>A5u,fun _ _ _ _ _ _ q=>q.elim,fun _ _ _ _ _ _ _ _ _ q=>q.elim,fun _ _ _ _ _ _ _ _ q=>q.elim⟩⟩
structure Li (XU) (x:Str) (k:Nat) (ps:ο) (sp:cP):Prop where
 ex:∃f fd,AOK pN/\Aae/\AAt/\ż/\Binds K fd ps [Χ]
#where
def bY(sp:cP)(t:bZ):aX:=IS (sp (ds++ [Ρ]) ALX (AAR C C))
section
variable{X:Cx}{F0 H0:Hp}{e:Expr}{es:AD}{pos p:Pos}{x:Str}{ps:ο}{k:Nat}{sp:cP}{t:bZ}
theorem z9i(Ap8 Li):
  B' XA (aB sp t):=by
 obtain⟨f,fd,h1,h2,h3,h4,_⟩:=G.ex;exact A2K h3 h4 ha hdb he hpl
#where
def VE(wP):Prop:=APy W.kitOne E3 "ValueError"
def iK(K:W.Frag)(ta:aX):aX:=APr (.exc C0) ((zf K C0/\Cp K C0/\VE K C0)/\AIi true)
def iM(K:W.Frag)(Cs:AO)(ta:aX):aX:=A_u (Cs.any fun C=>mO K C0 C)
def PCl(X:Cx)(es:AD)(Cs:AO):Prop:=c8 PA es (PD _ (Q (Cs.map V.ref) H))
section
variable{X:Cx}{F0 H0:Hp}{a:Expr}{pos p pt:Pos}{ta:aX}{x:Str}{C:Addr}{es:AD}{Cs:AO}
#where
theorem Xm(AqY){fp:AO}(I:Η)(k:AVr (b∉fp))(hf:AK1):Adw:=by
 have Qk:Tk H (b∉fp):=RH e z (Aaq (hf b z).1)
 refine Apb fp AWO (fun b o _ _ hc e _=>k b o hc e) (fun b o _ _ hc e _=>⟨o.slots,k b o hc e⟩) (ww _ n n) (fun b o hc e=>(OR (k b o hc e))) (AEz) (AGZ e e) (md ps (AP_ (by rw[e];simp))) (HQ m hm) (FR) I.bare
 ·obtain⟨f0,f1,f2,f3,f4,f5⟩:=hf b hb;exact⟨f3,f1,f4,f5⟩
 ·obtain⟨o,es,ep,ho,r⟩:=hm;exact A8J (NG (Ak5 hf))
 ·refine œ I.hok e (fun c v hc q=>k c v ?_ q) AMo ip;show JS hc
  ·rw[z];exact Qk b u e
  ·exact Qk c _ z
theorem Xn(h:Ž H)(hb:Qr):Ž ALt:=⟨Lv dI hb h.1,h.2⟩
theorem zvp(AqY){fp:AO}{xs:Δ}{its:Ζ}(I:Η)(k:AVr (b∉fp))
  (hlt:Aqr) (ht:AQh Abr) (hv:ABm) (hz:zo) (hf:AK1):
  ĵ L9 ABd:=by
 have I1:ĵ L9 AwA:=
  Ae7 (Th) C1 (Y3 L9 (Ajw hz its hv))
 refine Xm (s:=AwA) (fp:=fp) I1 (oS ?_) (EH (Xn Aez (zH (hlt b hb))));rcases Heap.get?_push_cases e with ⟨rfl,rfl⟩ | e
 ·exact ht
 ·exact k b o hb e
def Ite(K:W.Frag)(a:Addr):It:=
 AOM (Anl UT) (∃b v,x= NH/\F8/\ALo b (FA [B8,v])/\∀xs,UT ->oq xs) (Aku UT)
theorem z2d{P:Program}{w:World}{K:W.Frag}{elts:AD}{x1}{pos:Pos}(a e it:Addr)(hne:e≠it):AOP AmF (Ite K a) [e,it] e (N9 h ((∃old,IsEnum h e it K_ old)/\h.IsListIter it a i)) where
 mem:=An
 obj:=fun i h q b hb=>by
  show ANV;show eg
  ·exact BY q ANJ
  ·show ĳ
   show ANb;exact AEe
 keep:=fun i h h' q k=>by
  show ANV;exact⟨⟨old,vT e q⟩,st.at fun o z=>k it Μ o z⟩
 item:=by
  intro X hP hw hK hc i pins s σ H E I hf q hg;show ANV;show KA;show ApW;show ALP;show Aoe;show UQ el e (zF q);show UQ il it (by show õ z st;exact zF z)
  refine wpAny_pyNext_enum_item q st p.isList (x:=u) ASD hne fun h1 eo st1 ht hs1 k1=> ?_
  show kK _ (wpAny_letOwnedTupleGo_enum eo (ψ h2 e2 sb));show Apl e;have I2:ĵ (FA [B8,x]) (PR h2 AN8):=
   AnH [e,it] [.int i s.toks,u] I (fc o z (Cr.extBut b o QP (k1 b o QP QP z)))
    (iS (by
     show eg
     ·exact el
     ·show ĳ
      exact il))
    (Aiw (ú el) ht) (Ane CO ru) Aiu hf
  refine AmL ⟨_,x,rfl,I.fresh,rfl,BCd I.list_inj⟩ ⟨EJ u,(st1.extBut Cr.extBut (Ne.symm hne))⟩ He
  ·have:CY BQ=K_+1:=τ
   rw[this];exact e2
  ·refine(Xn Aez ?_).1;show eg
   ·exact zH el
   ·show ĳ
    exact zH il
 done:=by
  intro X hP hw hK hc i pins s σ H E I hf q hg;show ANV;show KA;show Aop;show ALP;show RO;exact wpAny_pyNext_enum_end (I.ok.hd hc) q st p.isList i_ (BGK [e,it] (fc o z (eb b o QP z)))
 self:=fun _ _ _ _ _ q h=>by
  show ANV;exact wpAny_pyIter_enum q h
theorem zo3:AEk "enumerate" "enumerate":=tS
def RQ(Aig):TI:=A_T (Ĺ Ite)
theorem ydt{X:Cx}{a:Expr}{ta:TA}{p pos:Pos}{elts:AD}{x1}{pt:Pos}(hg:Gl X "enumerate")(hm:Fm "enumerate")(ha:AVT)(hs:Ct starEach [a] (FD (BF a) (FC [])):=by rfl):
  PI X AGM BGp (RQ X.K ta):=by
 show d6;show AjU zo3;show AoL;show AfF;cases rx;show AiF;refine call_enumerate_list pl.isList fun h' e1 st hsz kp=> ?_;refine wpAny_pyIter_enum (i:=0) e1 ⟨LZ,As7,_,_,H1,rfl,AaS kp,z2d l _ _ (Nat.ne_of_gt (Nat.lt_succ_self _)),⟨C6 e1,st⟩,He,q hz⟩;have hb2:s1.heap.objs.size<=b:=by
  show eg
  ·exact Nat.le_succ _
  ·show ACI
   exact GB
 exact A5Z
def G7:mi Β Β
 | _,[]=> []
 | k,x::r=> RF To x::G7 Fc r
theorem Xo:∀(k:Nat) (xs:Β),ARS (MI G7 k xs)
 | _,[]=>rfl
 | k,x::r=>by show MI G7 Fc r+1=r.length+1;rw[Xo]
theorem Xp:∀(k:Nat) (xs:Β) (i:Nat),(G7 k xs)[i]?=(xs[i]?).map fun d=> (RF (.int (De (k+i))) d)
 | _,[],_=>rfl
 | k,x::r,0=>rfl
 | k,x::r,BQ=>by
  show(G7 Fc r)[i]?=_;rw[Xp Fc r i,O0 (k+1+i) (k+ B2)]
  rfl
def ou(YO):bZ:=IS (LV [Id] (Cb (G7 0 xs)))
theorem z8d(A8s):G5 K F HW (Ite K a) (G7 0 xs):=by
 show lL hl;show AGW (ABQ Xo) (QQ ⟨vs,AMP,by rw[e,Xo];omega⟩)
 rw[Xp] at hd;cases hx:xs[i]? with
 | none=>show IQ hx hd hd
 | some x=>
  rw[hx] at hd;cases hd;show AL7 hx;show B6 ⟨vs,v,AMP,hv⟩ (ψ y H' z);show fz b v2 hb rfl z z;have:=A6I z;show Ap hv;show DT;have gr:=Gr.laid (o:=HO.tup [B8,v]) s3 hb;show kP gr;show EE;refine AT' b (sy ?_ (sy (AjP gr.f) ě))
  show EE;simp
section
variable{X:Cx}{F0 H0:Hp}{a b e tg:Expr}{es:AD}{pos p pt:Pos}{te:aX}{t:bZ}{g:qP}{tb:aF}{elts:AD}
theorem zg4{x1}(hc:C7)(hg:Gl X "enumerate")(hm:Fm "enumerate")(ha:ACG)(hs:Ct starEach [a] (FD (BF a) (FC [])):=by rfl):
  o_ QI AGM BGp (ou t):=A4f ydt (fun ds Γ1 F1 H1 vs R1 s1 r1 h1=>by
  unfold ou at*;show OY
  ·show ADv;obtain⟨v,_,rfl,⟨l,us,rfl,hq,rs⟩,rfl⟩:=r1;exact AnU (fun hz=>(Ŋ (z8d hq rs hz)))
  ·show ü)
#where
def oW:Hb:=AGh (XE ds [UR] (HR (AC b 1 0)) [B8] (HR i))
theorem ye7:va "int" (tO X.K oW):=by
 rintro pins s σ H xs us Q I r ⟨F,ds,P,sF,rs,h,k⟩;show A_ oW;show DL
 ·show NN;show AWi;show NI;cases rx;exact call_int_bool (AjF IR s_)
 ·show NN;show AWi;show NI;show P9;exact call_int_int ⟨IR,H,I,CO,s_⟩
 ·show EB
theorem zpf:A3L Amj AxP
 | [],_,B9=> B9
 | n::ns,_,.cons h r=>by
  show LU h;exact AR5 (zpf r)
theorem Rf:A3L AxP Amj
 | _,_,B9=> B9
 | _,_,AR5 r=> .cons CO (Rf r)
def qm:Kk:=iq (∃ns,AJE/\ATc/\Ő Φ Ag4 AQm T_)
section
variable{prog:Program}{w:World}{A:Around}{E:dR}{s:Shared}
def iT(AsM)(it l:Addr)(i:Nat):Prop:=Am4 (h.IsListIter it l i) (h.IsTupleIter it l i)
def jk(AsM)(l:Addr)(xs:D3):Prop:=Am4 (h.IsList l xs) (h.IsTuple l xs)
theorem JF(x:Ö h)(k:∀o,ut it ->qV it):Ö h':=by
 cases t<;>exact Aj6 k
theorem zvk(x:jk t h l xs)(k:∀o,ut l ->qV l):jk t h' l xs:=by
 cases t<;>exact Aj6 k
theorem Xq(x:Ö h):AcW (ut it):=by
 cases t<;>exact let ⟨o,ho,_,d⟩:=x;ADf BAq
theorem RT(hl:AX6)
  (hQ:ALu (Mb (AC t "tuple_iterator" "list_iterator") #[FI,s0])):ATm l:=by
 cases t
 ·exact wpAny_pyIter_list hl hQ
 ·exact wpAny_pyIter_tuple hl hQ
theorem zko(hit:Ö s.heap)(hl:AX6)(hx:WG)
  (hQ:vi (iT t h' it l B2) (AlH it) (Q x LX)):Auc:=by
 cases t
 ·exact wpAny_nextOf_list_item hit hl hx hQ
 ·have hit2:s.heap.IsTupleIter it l i:=hit;show Aym;obtain⟨ol,hol,_,nl,hdl⟩:=(Bz (s.heap.IsTuple l xs) hl);unfold Builtin.SmallTypes.nextOf;show A9r;show i' (field b9 0);show L' (bS ho hd FI) rfl;show ADt AU2;show AXx AU2;show i' (field b9 1);show L' (bS ho hd (ah i)) rfl;show Au9;show KW wpAny_seqItems hol hdl;show BGe;refine z9 (wpAny_setField ho hd Μ (zZ (Ix x (zZ (hQ _ ?_ Ab1)))))
  exact Am3
theorem zsf(AMI)(hit:Ö s.heap)(hl:AX6)(hx:KK xs[i]?)
  (hE:A5t Avz):Auc:=by
 cases t
 ·exact wpAny_nextOf_list_end hh hit hl hx hE
 ·have hit2:s.heap.IsTupleIter it l i:=hit;show Aym;obtain⟨ol,hol,_,nl,hdl⟩:=(Bz (s.heap.IsTuple l xs) hl);unfold Builtin.SmallTypes.nextOf;show A9r;show i' (field b9 0);show L' (bS ho hd FI) rfl;show ADt AU2;show AXx AU2;show i' (field b9 1);show L' (bS ho hd (ah i)) rfl;show Au9;show KW wpAny_seqItems hol hdl;show BGe;show EF wpAny_rule (z9 (wpAny_setField ho hd Μ ?_))
  show Pl ARB;show J_;show Aj4;show AVK ACn
  show ApA
  show AVm ACn
  show AdL;show IF wpAny_handled
  first | rw[show ASk from hh] | rw[hh]
  show qo zZ wpAny_throw;exact hE _ _ Aya AOz
structure vZ (z TI TO i1 i2 l1 l2:Addr):Prop where
 p:TI≠z/\TO≠z/\i1≠z/\i2≠z/\TI≠TO/\TI≠i1/\TI≠i2/\TO≠i1/\TO≠i2/\i1≠i2
 q:l1≠z/\l1≠TO/\l1≠i1/\l1≠i2/\l2≠z/\l2≠TO/\l2≠i1/\l2≠i2
theorem vZ.k{z TI TO i1 i2 l1 l2:Addr}(D:vZ z TI TO i1 i2 l1 l2):AMd:=by
 obtain⟨⟨a1,a2,a3,a4,a5,a6,a7,a8,a9,a10⟩,b1,b2,b3,b4,b5,b6,b7,b8⟩:=D;exact⟨a1,a2,a3,a4,a5,a6,a7,a8,a9,a10,b1,b2,b3,b4,b5,b6,b7,b8⟩
theorem z1f(AYu){z TI TO i1 i2 l1 l2:Addr}{k1 k2:Nat}{xs ys:D3}{x y a b:Value}{Q:dR}(D:AMd)(hz:AWY)(hTI:ARK s.heap)(hTO:AJD s.heap)
  (h1:Acd) (h2:Ace) (hl1:AJN) (hl2:AJT) (hx:DA xs k1 x) (hy:DA ys k2 y)
  (hQ:∀h',AAH h' (rawInt s.heap.objs.size) ->AzU (Ο (Agy h') (Axw y) Asw (AW1) (AOc LX))):APP AxQ (IL fin (∃v,fin= Ab2 v/\Q v s')):=by
 have kI:∀{t:Bool} {h h' :Heap} {it l c:Addr} {i:Nat},A3w:=fun x e n=>JF x (AK7 (e _ o n ho));have kS:∀{t:Bool} {h h' :Heap} {l c:Addr} {ws:D3},A3x:=fun x e n=>zvk x (AK7 (e _ o n ho));show Pl (field ý 2);show L' (bS hz rfl AGg) rfl;show Pl (field ý 3);show AV8 TI;show AEm hTI;show Á Builtin.SmallTypes.ownedTupleIsFree z;show J_;unfold Builtin.SmallTypes.ownedTupleIsFree;refine z9 (bS hz rfl Χ rfl AO0);show AdK;show IF wpAny_rule;show AV8 TO;refine z9 (wpAny_setField_rec hz Μ (ψ g1 hz1 hs1))
 replace hz1:AEJ g1:=hz1;show J_;show A5M;show AXz;show AUb i1;refine z9 (zko Ant AmM hx fun g2 q1 hs2=>zZ ?_);have RV :AJD g2:=hs2.extBut _ _ D.TOi1 (hs1.extBut _ _ D.TOz hTO);show AEm RV;refine z9 (wpAny_updateSeq_pair RV (ψ g3 t3 hs3));replace t3:IsPair g3 TO x b:=t3;show qo wpAny_letGo zZ;show AXz;show AUb i2;refine z9 (zko A'x A'z hy fun g4 q2 JG=>zZ ?_);have t4:IsPair g4 TO x b:=JG.extBut _ _ D.TOi2 t3;show AEm t4;refine z9 (wpAny_updateSeq_pair t4 (ψ g5 t5 JH));replace t5:IsPair g5 TO x y:=t5;show EF wpAny_letGo (zZ (zZ ?_));show AEm t5;show IF wpAny_newTuple;have hsz:g5.objs.size=s.heap.objs.size:=by rw[JH.1,JG.1,hs3.1,hs2.1,hs1.1]
 have hz5:AEJ g5:=JH.extBut _ _ D.TOz.symm (JG.extBut _ _ D.i2z.symm A_J);have hk5:BBa ArY:=fun c o c1 c2 c3 c4 e=>(A8n c2 JG.extBut e);have r1:BCQ g5:=kI (kI (kI q1 hs3.extBut D.TOi1.symm) JG.extBut D.i12) JH.extBut D.TOi1.symm;have r2:Agy g5:=kI q2 JH.extBut D.TOi2.symm;have zlt:z<g5.objs.size:=zF hz5;show Pl (Builtin.SmallTypes.ownedTupleHandOut ý (AA g5.objs.size));show J_;unfold Builtin.SmallTypes.ownedTupleHandOut;have hz6:AEJ (g5.push (ac #[x,y])):=zY _ hz5;refine z9 (wpAny_setField_rec hz6 Μ (ψ g7 hz7 hs7))
 show As' hz7 g7 hz7;refine wpAny_setField_rec hz7 Μ (ψ g8 hz8 hs8)
 show As' hz8 g8 hz8;have up:∀c o,c≠z ->ArY ->Z3 g8.get? c:=fun c o c1 e=>hs8.extBut _ _ c1 (hs7.extBut _ _ c1 OI);have hT8:IsPair g8 g5.objs.size x y:=hs8.extBut _ _ (ú zlt) (hs7.extBut _ _ (ú zlt) AXR);have sz8:g8.objs.size=g5.objs.size+1:=by rw[hs8.1,hs7.1,Heap.size_push]
 rw[hsz] at hz8 hT8 sz8;refine zZ ADp;show HI g5.objs.size _;rw[hsz];exact hQ g8 hz8 (up _ _ D.TOz t5) (JF r1 (ä (up _ o D.i1z e))) (JF r2 (ä (up _ o D.i2z e))) hT8 sz8 fun c o c1 c2 c3 c4 e=>up c o c1 (hk5 c o c1 c2 c3 c4 e)
theorem z6g(AYu){z TI TO i1 i2 l1 l2:Addr}{k1 k2:Nat}{xs ys:D3}{a b:Value}{Q:DJ Fin}(hh:NB)(D:AMd)(hz:AWY)(A9e) (hend:AzA)
  (hE:A5t (AW1)):Ff AxQ:=by
 have kI:∀{t:Bool} {h h' :Heap} {it l c:Addr} {i:Nat},A3w:=fun x e n=>JF x (AK7 (e _ o n ho));have kS:∀{t:Bool} {h h' :Heap} {l c:Addr} {ws:D3},A3x:=fun x e n=>zvk x (AK7 (e _ o n ho));show Pl (field ý 2);show L' (bS hz rfl AGg) rfl;show Pl (field ý 3);show AV8 TI;show AEm hTI;show Á Builtin.SmallTypes.ownedTupleIsFree z;show J_;unfold Builtin.SmallTypes.ownedTupleIsFree;refine z9 (bS hz rfl Χ rfl AO0);show AdK;show IF wpAny_rule;show AV8 TO;refine z9 (wpAny_setField_rec hz Μ (ψ g1 hz1 hs1))
 replace hz1:AEJ g1:=hz1;show J_;show A5M;show AXz;show AUb i1;cases hx:xs[k1]? with
 | none=>
  show EF (zsf hh Ant AmM hx) (Iy g2 e hs2 he);obtain⟨oe,hoe,hce⟩:=he;have hz2:AEJ g2:=hs2 _ _ D.i1z.symm hz1;show A8R hz2
  exact wpAny_setField_rec hz2 Μ fun g3 _ hs3=>hE g3 e (fun c o c1 _ c3 _ x=>hs3.extBut _ _ c1 (hs2 _ _ c3 (hs1.extBut _ _ c1 x))) ⟨oe,hs3.extBut _ _ hez hoe,hce⟩
 | some x=>
  have hy:ys[k2]?=none:=by show NR hend;rw[hx] at h;cases h;exact h
  refine z9 (zko Ant AmM hx fun g2 q1 hs2=>zZ ?_);have RV :AJD g2:=hs2.extBut _ _ D.TOi1 (hs1.extBut _ _ D.TOz hTO);show AEm RV;refine z9 (wpAny_updateSeq_pair RV (ψ g3 t3 hs3));show qo wpAny_letGo zZ;show AXz;show AUb i2;show EF (zsf hh A'x A'z hy) (Iy g4 e JG he);obtain⟨oe,hoe,hce⟩:=he;have hz4:AEJ g4:=JG _ _ D.i2z.symm A_J;show A8R hz4
  exact wpAny_setField_rec hz4 Μ fun g5 _ JH=>hE g5 e (fun c o c1 c2 c3 c4 x=>(A8n c1 JG x)) ⟨oe,JH.extBut _ _ hez hoe,hce⟩
theorem zzp(AYu){z TI TO i1 i2 l1 l2:Addr}{k1 k2:Nat}{xs ys:D3}{x y a b:Value}{Q:DJ LP}(D:AMd)(hz:AWY)(hTI:ARK s.heap)(hTO:AJD s.heap)
  (h1:Acd) (h2:Ace) (hl1:AJN) (hl2:AJT) (hx:DA xs k1 x) (hy:DA ys k2 y)
  (hQ:∀h',AAH h' (rawInt s.heap.objs.size) ->AzU (Ο (Agy h') (Axw y) Asw (AW1) (Q (some MC) LX))):ı z:=by
 have hT:s.TypeIs ý "zip" :=Is hz;show AJb;exact z9 (wpAny_attempt (A'a (z1f D hz hTI hTO h1 h2 hl1 hl2) hx hy (fun h' a1 a2 a3 a4 a5 a6 a7=>zZ (hQ h' a1 a2 a3 a4 a5 a6 a7))))
theorem z1a(AYu){z TI TO i1 i2 l1 l2:Addr}{k1 k2:Nat}{xs ys:D3}{a b:Value}{Q:DJ LP}(hh:NB)(D:AMd)(hz:AWY)(A9e) (hend:AzA)
  (hQ:∀h',(AW1) ->AUR):ı z:=by
 have hT:s.TypeIs ý "zip" :=Is hz;show AJb;show ASU (A'a (z6g hh D hz hTI hTO h1 h2 hl1) hl2 hend (Iy h' e hk he));show T' ho hc he;show KW ApC (ADf hc) isSubtype_stop;exact zZ (hQ _ hk)
def RW(t:Bool):String:=if t then "tuple_iterator" else "list_iterator"
abbrev Xr(t1:Bool)(h:Heap)(l1:Addr):Heap:=Ayh h.push
abbrev Xu(AYe):Heap:=(Xr t1 h l1).push (Mb (RW t2) #[.ref l2,s0])
abbrev Xv(AYe):Heap:=(AQU Xu l2).push (ac #[.ref h.objs.size,.ref (Aji h)])
abbrev Xw(AYe):Heap:=(AQU Xv l2).push (ac #[Χ,Χ])
abbrev Oc(AYe):Heap:=(AQU Xw l2).push (Mb "zip" #[Χ,AGg,AGg,AtI Xu,AtI Xv])
theorem z3y(x:jk t h l xs)(o:Obj):jk t (h.push o) l xs:=zvk x (E4 e VU)
theorem Eh(hl:AX6)
  (hQ:ALu (Mb (RW t) #[FI,s0])):ATm l:=RT hl hQ
theorem Lj(t1 t2:Bool)(l1 l2:Addr)(xs ys:D3):Meets (Builtin.«zip.__new__» (D7 [.type "zip",.ref l1,.ref l2])) (fun _ R s=>AJN/\AJT/\AbS (AA (AIK Xw)) (PH (Oc t1 t2 s.heap l1 l2))):=
 A_5 (by
  show ei s;show D' hl1 hl2 h;have hsub:=sub_zip;have hL1:jk t1 (Shared.heap (nN hp tk)) l1 xs:=hl1;have hL2:jk t2 (Shared.heap (nN (Ayh hp.push) tk)) l2 ys:=z3y hl2 _
  wp_walk using Eh hL1,Eh hL2
  exact Md h)
theorem zyr(e:OB (Mb (RW t) #[FI,s0])):iT t h a l 0:=by
 cases t<;>exact IB _ e rfl
theorem z0k(hl1:AJN)(hl2:AJT)
  (h:vi (IsZip h' (AC_ 4) (AC_ 2) (AC_ 3) Χ) (IsPair h' (AC_ 2) MC (AA X2)) (Ο (IsPair h' (AC_ 3) Χ Χ) (iT t1 h' s.heap.objs.size l1 0) (iT t2 h' X2 l2 0) (∀c o,AGn c ->qV c) (HI (AC_ 4) LX))):Akb "zip" [.ref l1,.ref l2]:=by
 refine callType_new F.called_zip χ (F.typeCall_zip_2 _ _) (F.newCall_zip_2 _ _) (AG obj (F.args_object_init_3 obj _ _)) F.entry_zip_new (Lj t1 t2 l1 l2 xs ys) ⟨hl1,hl2,?_⟩
 show AL2 z1 (Aji s.heap) i6;show AnW z2 Xu 2 z1
 show AnW z3 Xv 3 z2
 show AnW z4 Xw 4 z3
 show À g5 (AZ8 Oc) l2 (AIK Xw) _ LW;show AWz g4 (AIK Xv) AXR;show AWz g3 (AIK Xu) AlX;show AWz g2 (Aji s.heap) (zY _ AlX);show AWz g1 s.heap.objs.size (ALy AlX);show _/\_;rw[z2,z3,z4] at g5;rw[z1,z2] at g3;rw[z3] at g4;rw[z1] at g2;rw[z4];exact⟨Is g5,h _ g5 g3 g4 (zyr g1) (zyr g2) fun c o x=>zY _ (ALy (ALy x))⟩
#where
def Sq(t:Bool)(Ajb):Prop:=Am4 UT kr
theorem Od(I:Η)(h:Ao' xs):Ao6 (jk t s.heap a its.toArray):=by
 cases t
 ·obtain⟨its,rv,p,hz⟩:=AdU;exact⟨its,rv,p.isList,hz⟩
 ·obtain⟨its,rv,p,hz⟩:=I.tuple h;exact⟨its,rv,p,hz⟩
theorem yal(I:Η)(h:Ao' xs)(h' :Ao' ys):AW4:=by
 cases t
 ·exact I.list_inj h h'
 ·exact I.tuple_inj h h'
def Itz(eQ)(t1 t2:Bool)(a b:Addr):It:=
 ⟨gT (∃xs ys x y,An'/\AoA/\WG/\AaI),fun i H v H' =>∃c x y,v= ARn/\Sm c/\ALo c (FA lc)/\ (∀xs,An' ->WG)/\∀ys,AoA ->AaI,
  gT (∃xs ys,An'/\AoA/\ (AbC\/ys.length<=i))⟩
theorem zap{n l1 l2:Nat}(h1:l1<n)(h2:l2<n):vZ (n+4) (n+2) (n+3) n IE l1 l2:=by
 have e:∀a b:Nat,a≠b ->(a:Addr)≠b:=AkT;refine⟨⟨J',J',J',J',J',J',J',J',J',J'⟩,J',J',J',J',J',J',J',J'⟩<;>omega
theorem z79(sR)(AYl){pos:Pos}(t1 t2:Bool)(a b z TI TO i1 i2:Addr)(D:vZ z TI TO i1 i2 a b):AOP AmF (Aou b) AZi z
  (N9 h (AAH h Χ/\ARK h/\ (∃u v,IsPair h TO u v)/\iT t1 h i1 a i/\iT t2 h i2 b i)) where
 mem:=An
 obj:=fun i h q c hc=>by
  obtain⟨q1,q2,⟨u,v,q3⟩,q4,q5⟩:=q;show Aos;show Apz
  ·exact BY q1 ANJ
  ·exact BY q2 ANJ
  ·exact BY q3 ANJ
  ·exact Xq q4
  ·exact Xq q5
 keep:=fun i h h' q k=>by
  obtain⟨q1,q2,⟨u,v,q3⟩,q4,q5⟩:=q;exact⟨vT z q1,vT TI q2,⟨u,v,vT TO q3⟩,JF q4 (ä (APD i1)),JF q5 (ä (APD i2))⟩
 item:=by
  intro X hP hw hK hc i pins s σ H E I hf q hg;obtain⟨q1,q2,⟨u,v,q3⟩,q4,q5⟩:=q;show KA;obtain⟨xs,ys,x,y,hq1,hq2,hx,hy⟩:=hg;obtain⟨its,rv,p,_⟩:=Od I hq1;obtain⟨jts,Xx,p2,_⟩:=Od I hq2;show AU ux hux rux rv.get hx;show AU uy huy ruy Xx.get hy;have lt:∀c∈ AZi,AgH:=fun c hc=>by
   show Aos;show Apz
   ·exact zF q1
   ·exact zF q2
   ·exact zF q3
   ·show õ e (Xq q4);exact G'
   ·show õ e (Xq q5);exact G'
  have Dk:=D.k;refine zzp Dk q1 q2 q3 q4 q5 p p2 (x:=ux) (y:=uy) (BH hux) (BH huy) fun h1 a1 a2 a3 a4 a5 a6 k1=> ?_
  show kK _ (wpAny_letOwnedTupleGo_zip a1 (ψ h2 e2 sb));show Apl z;have zl:=lt z Μ
  have I2:ĵ (FA lc) (PR h2 s.toks):=
   AnH AZi [ux,uy] I (Asd (Awu QP QP e))
    lt (Aiw (ú zl) a5) (Ane rux ruy) Aiu hf
  refine AmL ⟨_,x,y,rfl,I.fresh,rfl,fun zs hz=>(AE (yal I hz hq1) hx),fun zs hz=>(AE (yal I hz hq2) hy)⟩ ⟨e2,?_,⟨ux,uy,Cr.extBut _ _ Dk.TOz a2⟩,JF a3 (ä (Cr.extBut _ o Dk.i1z e)),JF a4 (ä (Cr.extBut _ o Dk.i2z e))⟩ (AM c hc)
  ·exact Cr.extBut _ _ Dk.TIz (k1 _ _ Dk.TIz Dk.TITO Dk.TIi1 Dk.TIi2 q2)
  ·exact A4N lt
 done:=by
  intro X hP hw hK hc i pins s σ H E I hf q hg;obtain⟨q1,q2,⟨u,v,q3⟩,q4,q5⟩:=q;show KA;obtain⟨xs,ys,hq1,hq2,hx⟩:=hg;obtain⟨its,rv,p,_⟩:=Od I hq1;obtain⟨jts,Xx,p2,_⟩:=Od I hq2;have l1:=rv.length;have l2:=Xx.length;refine z1a (I.ok.hd hc) D.k q1 q2 q3 q4 q5 p p2 ?_ fun h' k1=>(FY (AbL Xm fp AZi I (fun c o hb e=>Awu QP QP e) hf))
  rcases hx with hx | hx
  ·show B3 i_
  ·show DI i_
 self:=fun _ _ _ _ _ q h=>wpAny_pyIter_zip q.1 h
theorem z8g:AEk "zip" "zip":=tS
def aa4(Aig):TI:=AJK (∃t1 t2 a b xs ys,vs= [AR,NH]/\Sq t1 K H1 a xs/\Sq t2 K H1 b ys/\ (zo ->Adt ->R (Aou b) H1))
theorem yfu{X:Cx}{a b:Expr}(ApN)(AYl){pt:Pos}(hg:Gl X "zip")(hm:Fm "zip")(ha:Agu)(hs:Ct starEach ae (FD (BF a) (FC [b])):=by rfl)(hpl:ff pos [b]:=by rfl):
  PI X AGM Ari (aa4 X.K ta):=by
 show d6;refine Call_ (AAx z8g (PyProof.Rows.callWith_type1 (APn AIY) hs hpl));obtain⟨t1,t2,l1,l2,xs,ys,rfl,hq1,hq2,q⟩:=q1;cases r1 with
 | cons r rr=>
  cases rr with
  | cons r' rr=>
   cases rr;cases r;cases r';obtain⟨its,rv,p1,hz1⟩:=Od I1 hq1;obtain⟨jts,Xx,p2,hz2⟩:=Od I1 hq2;have n1:l1<s1.heap.objs.size:=by cases t1<;>exact let ⟨o,e,_⟩:=p1;G'
   have n2:l2<s1.heap.objs.size:=by cases t2<;>exact let ⟨o,e,_⟩:=p2;G'
   refine z0k p1 p2 fun h' e1 e2 e3 e4 e5 kp=> ?_;refine wpAny_pyIter_zip e1 ⟨ARR 4,[ARR 4,ARR 2,ARR 3,s1.heap.objs.size,LZ],_,_,H1,rfl,AaS kp,
    D5 (z79 t1 t2 l1 l2) _ (zap n1 n2),⟨e1,e2,BY _ e3,e4,e5⟩,AM c hc,q hz1 hz2⟩
   have hb2:s1.heap.objs.size<=c:=by
    show Aos;show Apz
    ·show AXC
    ·show AXC
    ·show AXC
    ·exact GB
    ·show AXC
   exact A5Z
def kY(xs ys:Β):Β:=List.zipWith (fun x y=> (RF x y)) xs ys
theorem z01(D9){F:Hp}{t1 t2:Bool}{a b:Addr}{vs us:Δ}{xs ys:Β}(hq1:AkG (Sq t1 K H1 a vs))(hq2:AkG (Sq t2 K H1 b us))(r1:r_)(r2:HG ys us)(hz:Υ vs.length):G5 K F HW (Aou b) (kY xs ys):=by
 have l1:=lB r1;have l2:=lB r2;have lz:MI kY xs ys=min xs.length ys.length:=List.length_zipWith;show AGW τ (QQ ⟨vs,us,AYn hq1,AYn hq2,τ⟩)
 unfold kY at hd;show BGA;cases e1:xs[i]? with
 | none=>show IQ e1 hd hd
 | some x=>
  cases e2:ys[i]? with
  | none=>show AWn;cases hd
  | some y=>
   show AWn;cases hd;show CM v hv rv vd r1 e1;show CM u hu ru vd r2 e2;show B6 ⟨vs,us,v,u,AYn hq1,AYn hq2,hv,hu⟩ (ψ w H' z);obtain⟨c,v2,u2,rfl,hc,rfl,z1,z2⟩:=z;have:=z1 vs (hq1 H2 (s2.trans s3));show Ap hv;show DT;have:=z2 us (hq2 H2 (s2.trans s3));show Ap hu;show DT;have gr:=Gr.laid (o:=HO.tup [v,u]) s3 hc;show kP gr;show EE;exact AT' c (sy (AjP gr.f) (sy ((ru.up s2).up gr.f) ě))
def sqD:At1 Bool | Id=>some (false,xs) | MD=>some (true,xs) | _=>none
def JK(YO):bZ:=IS (LV lc (match x,y with | Id,Ď=>AeE | MD,ASR=>AeE | _,_=>False))
section
variable{X:Cx}{F0 H0:Hp}{a b e tg:Expr}{es:AD}{pos p pt:Pos}{te:aX}{t:bZ}{elts:AD}
theorem Oe{x1}(hc:C7)(hg:Gl X "zip")(hm:Fm "zip")(ha:Aem)(hs:Ct starEach ae (FD (BF a) (FC [b])):=by rfl)(hpl:ff pos [b]:=by rfl):
  o_ QI AGM Ari (JK t):=Ae1 (Bi yfu hg hm Cf hs) hpl (Acg (fun ds Γ1 F1 H1 vs R1 s1 r1 h1=>by
  unfold JK at*;show OY
  ·show OY
   ·show ApY;obtain⟨v,_,rfl,⟨l,us,rfl,hq,rs⟩,⟨v2,_,rfl,⟨l2,us2,rfl,hq2,JD⟩,rfl⟩⟩:=r1;exact⟨false,false,l,l2,us,us2,rfl,ABg,R1.g.seq hq2,fun hz _=>(Ŋ (z01 (t1:=false) (t2:=false) (AXF (s.seq hq)) (AXF (s.seq hq2)) rs JD hz))⟩
   ·show ApY;obtain⟨v,_,rfl,⟨l,us,rfl,hq,rs⟩,⟨v2,_,rfl,⟨l2,us2,rfl,hq2,JD⟩,rfl⟩⟩:=r1;exact⟨true,true,l,l2,us,us2,rfl,Ags,su R1.g hq2,fun hz _=>(Ŋ (z01 (t1:=true) (t2:=true) (AXF (su s hq)) (AXF (su s hq2)) rs JD hz))⟩
   ·show ü
  ·show ü))
#where
def m7:ο ->Β ->Str ->tw
 | U2,SG,g=>AMr (some d) (m7 fs ds g)
 | _,_,_=>none
theorem zto(EM){g:Str}{x:D}:∀{fs:ο} {ds:Β} {vs:Δ},ρ (m7 fs ds g) x ->C8 ->∃v,AwT/\fS x v
 | [],_,_,h,_=>BI
 | A8,[],_,h,_=>BI
 | U2,SG,vs,h,r=>by
  show Ts;show AMX;show A_ m7;show Ahw;show IP g f
  ·show ADT e;cases h;subst e;exact⟨v,An,r1⟩
  ·rw[AJ'] at h;show CM u hu ru zto h r2;exact⟨u,BEr e hu,ru⟩
theorem zk4:∀{fs:ο} {vs:Δ},g∉fs ->Acb g=none
 | [],_,_=>rfl
 | A8,[],_=>rfl
 | U2,AEP,h=>by
  show Ahw;have h1:g≠f:=fun e=>h (FX e)
  rw[beq_false_of_ne h1];exact GS (zk4 (vs:=vs)) e (h (zU _ e))
def kZ(C:Addr)(f:Str)(te:aX):aX:=ATn (C' =C/\∃x,ρ (m7 fs ds f) x/\Cb x)
def jf(sQ)(m:Str)(sp:cP)(te:aX)(t:bZ):aX:=ATn (ANI A0h)
section
variable{X:Cx}{F0 H0:Hp}{e o:Expr}{es:AD}{pos p apos:Pos}{f m:Str}{C fa:Addr}{fd:FuncData}{ps:ο}{k:Nat}{sp:cP}{te:aX}{t:bZ}
theorem wY(hc:Į)(hn:sP)(he:ME)(hb:cc f=BF e:=by rfl):B' (.Attribute e f pos) (kZ C f te):=fun z E cx=>
 oU (Bi z92 LE hb) (EI hq1 (K0 hq1 (fun d Γ1 F1 H1 v R1 s1 r1 h1=>by
  cases d with
  | obj C' fs ds=>
   obtain⟨rfl,x,hx,hp⟩:=h1;show ħ;obtain⟨a,dx,vs,rfl,ea,hl,rs⟩:=r1;show CM u hu ru zto hx rs;exact⟨a,C',dx,_,u,rfl,AkN,hc,hn,hu,al x H1 u R1 s1 ru hp⟩
  | _=>show u_)))
theorem yd1(hc:Į)(hm:Meth X.K C m fa)(Fn:x_ gq X.base (ANi gD) k fa fd ps (pN X.K sp))(hr:AHu)(hb:ANX)(ho:ADJ o)(BFb) (hpl:ff pos es:=by rfl)
  (ht:Ct eval Abv (do
   let ov<- BF o
   ALe
   let (f,first)<- AM' m pl
   ANW (AM6 D6) AZC):=by rfl):
  A'E:=by
 rintro z E cx pins s σ H Q I ⟨F,Γ,P,R,h,kk⟩;refine Am6 (Pp (AUe ho s σ H (UA H1 (∃F1 Γ1 d,wT/\SA/\Rep X.K F1 d v/\ (Sk AAf (ANI A0h)))) I (ES (fun d Γ1 F1 H1 v R1 s1 r1 h1=>(Aa6 d)))) u ⟨x,H1,I1,rx,F1,Γ1,d,R1,sF,rd,q⟩) ht
 cases d with
 | obj C' fs ds=>
  obtain⟨rfl,hmf,q⟩:=q;have rd0:=rd;show Kt rd;obtain⟨a,dx,vs,rfl,ea,hl,rs⟩:=rd;show la;refine zpk I1 (R1.g _ _ ea) hc hm (zk4 hmf) ?_;refine W.callWith_K (first:= P1) (h₀:=X.base) I.ok.mod.Jp hm.kp (cJ (Pi (ha z E cx pos) (fun vs H2=>∃F2 Γ2 es,VT F2 H2 Γ2/\gu F2/\ao X.K F2 es vs/\BCy) I1 (AaA q (fun es Γ2 F2 H2 vs R2 s2 r2 h2=>⟨F2,Γ2,es,R2,s2,r2,h2⟩)))
   fun us s2 ⟨ws,H2,I2,r,F2,Γ2,es,R2,sF2,JD,q2⟩=>(EJ I2.kIn)) hst hpl
  exact AoI (K7 (us:= AR::us) (vs:= AR::ws)) I2 R2 (.cons rfl r) (sy (rd0.up sF2) JD) q2 fun d v F' H' gr rv hp=>kk d Γ2 F' H' v BFv (sF.trans (sF2.trans gr.f)) rv hp
 | _=>show IZ q
#where
def tQ(AXs)(f:Str)(sp:cP):Sp:=AOq (∃x dx rest F ds Pd Ex,vs= .ref x::rest/\B_ H (nL [])/\AOd dx x/\AQn/\JE/\Ag_/\APv (F dx=none) AWM Pd (∀d F' H' H3 v,Azs (H' =upd H3 x (nL AQi)) Abm))
theorem zk2(h:gD P w outer H2 s2 E e s')(os:s2.os=s.os)(un:Un (frs outer) [] H H2 s.heap s2.heap)(kp:ft M_ BDu):Aje E :=by
 obtain⟨a,C,H',B,dx,h1,h2,h3,h4,h5,h6,h7,h8,h9⟩:=h;exact⟨a,C,H',B,dx,h1,h2.trans os,h3,un.trans h4,h5,h6,ai (h7 b o (WU kp) n),h8,h9⟩
def Bo(C:Addr)(f:Str)(sp:cP):cP:=kM (sp ds (AG d (P (.obj C [f] [d]))) E)
section
variable{P:Program}{w:World}{K:W.Frag}{mg:CD}{base:Heap}
theorem ye1{x qual:Str}{st st1:Stmt}(AYQ){N ps:ο}{k:Nat}{sp:cP}{C:Addr}{fl:Str}{value:Expr}{px pos' pos:Pos}(Fn:Ŕ)(hbd:wJ st= [st1,.Assign (AQa (ABx px) fl) value pos])(S:AFj Ab6)
  (hc:L2.Cls K C) (hn:aN K C fl) (hN:Aub) (Lk:A0M) (len:ANQ)
  (hbody:∀(cdv:Value) (A:Around) (outer:EX) (s:Shared) (H:Hp) (E:XK),AFW (∀F0:Hp,
   ANp (swapsWith value (BO (ū (ABx px) fl pos')) pos.line AfX)/\
   ∃t te,QS (gi AGj) F0 H st1 t/\A2L/\
    A7n (t (AHx (fun Γ=>te Γ AZS SZ) L8) (iR N AIp) SZ))):
  AwN tQ:=by
 obtain⟨oc,od,kV,doc,pm,an,cdv,ct,osl,rfl,lk,hcd⟩:=Fn.ex;show ANe (fun A outer s H vs Q E hr hq2=> ?_)
 ·obtain⟨x,dx,rest,F,ds,Pd,Ex,e,_,_,_,_,_,_,rs,hs,_⟩:=hq1;rw[e,List.length_cons,List.length_cons,<- W',AM3]
 obtain⟨a,dx,rest,F0,ds,Pd,Ex,ev,hx,hdx,hne,sF,fx,fdx,rs,hsp,hQ,hE⟩:=hq2;subst ev;obtain⟨hsw,t,te,ht,hte,hq⟩:=Abe;show ANd (by
  show AC' (fun pins σ Γ F H1 s1 e s' I R hx=> ?_);show AGX;obtain⟨Γ',F',x,R',_,xr,_,z1⟩:=z;exact ANg)
 rw[hbd];show kP (ZQ (ht _ _ cx) (ZR (z38 (wK (i:=0) hN Lk) ArZ hsw)));refine A'C ⟨fun Γ F' H' σ R' s' q=> ?_,fun _ _ _ _ _ _ q=>q.elim,fun _ _ _ _ _ _ q=>q.elim,fun _ _ _ _ _ _ q=>q.elim,fun _ _ _ _ _ _ q=>q.elim,fun _ _ _ _ _ _ _ _ _ q=>q.elim,fun _ _ _ _ _ _ _ _ q=>q.elim⟩
 refine⟨F',Γ,_,R',q,fun d Γ1 F1 H1 v R1 s1 rv hp=> ?_⟩;obtain⟨h0,hp⟩:=hp;show T' eo ro (R1.sl 0 _ h0);show ON u ru ro;show Kt ru;subst ru;exact⟨AR,eo,a,C,dx,[],rfl,AtU,hc,hn,AB,hQ d F1 _ H1 v R1.gr rv hp rfl⟩
#where
section
variable{X:Cx}{F0 H0:Hp}{e:Expr}{es:AD}{pos p:Pos}{x fl:Str}{C f:Addr}{fd:FuncData}{ps:ο}{k:Nat}{sp:cP}{t:bZ}
theorem yeg(M:Mk X.K C f)(Fn:A8f tQ)(hr:AL9)(hg:TM)(hm:Ab7)(hb:ANX)
  (AIW):
  A2o:=by
 rintro z E cx pins s σ H Q I ⟨F,Γ,P,R,h,kk⟩;show AYq;refine W.callWith_K (h₀:=X.base) I.ok.mod.Jp M.kp (UE (AKI pos (fun vs H1=>∃F1 Γ1 ds,wT/\SA/\AF'/\AFy (AG d (Cb (.obj C [fl] [d])))) I (ES (fun ds Γ1 F1 H1 vs R1 s1 r1 h1=>AV9))) us ⟨vs,H1,I1,r,F1,Γ1,ds,R1,sF,rs,q⟩ (EJ I1.kIn)) he hpl;have I2:=Inv.made (C:=C) I1;show Alv (H1 (LZ));have n2:ii s1.heap.objs.size:=AIC zL;have ne:s1.heap.objs.size≠LZ:=AXh;show AjK (ER (AJL AUw).get?) ASa;show Ak' ACc Aw1
 have f1:F1 (LZ)=none:=by
  cases q:F1 (LZ) with
  | none=>rfl
  | some o=>show IQ (R1.g _ _ q) n1 n1
 have f2:F1 s1.heap.objs.size=none:=by
  cases q:BDM F1 with
  | none=>rfl
  | some o=>show IQ (R1.g _ _ q) n2 n2
 have hs:tQ X.K C fl sp Avb ACc (UA H' Arx) (fun C' Dy H' =>(AoS Ao0)):=by
  refine⟨Sj,s1.heap.objs.size,vs,F1,ds,_,_,rfl,jW,AiA,ne,Agg,f1,f2,rs,q,?_,fun x C' Dy F' H' hE gr xr=>Aw3⟩
  rintro d F' H' H3 v gr rv hp rfl;show CI rfl;have g1:F' (LZ)=none:=by
   cases q:F' (LZ) with
   | none=>rfl
   | some o=>
    show AJg (gr.n _ _ q f1) z e' z
    ·rw[jW] at z;cases z
    ·rw[jW] at z;cases z;cases e'
  have g2:F' s1.heap.objs.size=none:=by
   cases q:BDM F' with
   | none=>rfl
   | some o=>
    show AJg (gr.n _ _ q f2) z e' z
    ·rw[dI ne,jW] at z;cases z
    ·rw[dI ne,jW] at z;cases z;cases e'
  have aa5:ρ (H3 s1.heap.objs.size) AZ2:=gr.h _ _ (i5 (dI ne) jW)
  have HX:Gr F1 H1 A4Y (AaG H3 [(fl,v)]):=by
   show DC AL3 AL3 AL3 (ai ?_)
   ·rw[LJ f1,LJ f2];exact gr.f _ _ e
   ·show n5 Sj
    ·subst hb;rw[jW] at e⊢;exact e
    ·rw[eB] at e⊢;show Akm
     ·subst hb2;rw[jW] at e;cases e;exact aa5
     ·rw[ATh] at e;exact gr.g _ _ e
   ·rw[LJ n1];exact gr.h _ _ (sH _ _ e)
   ·show n5 Sj
    ·subst hb;exact .inl n1
    ·rw[eB] at e;show Akm
     ·subst hb2;exact .inl n2
     ·rw[ATh] at e;have:=gr.n _ _ e n;unfold wU at this⊢;show XG eB ATh;exact this
  refine kk _ Γ1 _ _ _ (R1.grow HX) (sF.trans HX.f) ?_ hp;have s2:Same F' A4Y:=HK (QY (LJ g1) (LJ g2) e)
  show EE;exact⟨Sj,s1.heap.objs.size,[v],rfl,jW,rfl,sy (rv.up s2) ě⟩
 show AM_ AEV (by
  have e:=AMR;show AnC ATR e)
 show A4u AEV
 show AMF;show AUk (zyy (f:=f) I1.kIn M.makes M.init (beq_iff_eq.mp M.fn));show ATU (Fn.run _ X.stack _ _ (D7 (AaO::us)) AEV _ _ _ (hr.make C us []) (I2.env0.make C us []) hbs (.cons (Bz (RelV (AA Sj) (Value.ref Sj)) rfl) r) hs) r s' hq';cases r with
 | error e=>
  refine ANB H1 s1 e s' I1 R1 Asc;have u1:AiZ AOB s1.heap (s1.heap.push W.emptyDict):=Un.laid AFJ C1 n2;have u2:A9u AJL AUw:=Un.laid AFJ Aml (B4 (dI (Ne.symm ne)) n1)
  exact u1.trans u2
 | ok RX =>
  cases RX with
  | ret u=>
   obtain⟨v,H',I3,rv,ev,q3⟩:=I2.after hq';subst ev;exact⟨rv,Hm ATR H' I3 q3⟩
  | next=>show ki
  | brk=>show ki
  | cont=>show ki
#where
structure yK (AoB cP):Prop where
 ex:Api pN
structure Mk2 (Ash):Prop where
 ex:AOr (BCi tQ) (Mk K C f) Aby
def RZ(Amw):aX:=Ap3 MD (¬(HT.sIx xs.length 0 l=0/\HT.sIx xs.length xs.length u=xs.length)/\P (FA A0V) Γ3)
section
variable{X:Cx}{F0 H0:Hp}{e o:Expr}{lo hi:ACu}{es:AD}{pos p p2 apos:Pos}{x m fl:Str}{C:Addr}{ps:ο}{k:Nat}{sp:cP}{te:aX}{tl th:G6}{t:bZ}
theorem Ei(G:A8W)(hc:Į)(hr:AHu)(ho:ADJ o)(BFb) (hpl:ff pos es:=by rfl)
  (ht:Ct eval Abv (do
   let ov<- BF o
   ALe
   let (f,first)<- AM' m pl
   ANW (AM6 D6) AZC):=by rfl):A'E:=by
 obtain⟨f,fd,h1,h2,h3⟩:=G.ex;exact yd1 hc h2 h1 hr h3 ho ha hst hpl ht
theorem zxk(G:A4b Mk2)(hr:AL9)(hg:TM)(AIW):
  A2o:=by
 obtain⟨f,fd,h1,h2,h3,h4⟩:=G.ex;exact yeg h2 h1 hr hg h3 h4 ha hdb he hpl
theorem z1k(A'A):AUV e AZj (RZ te tl th):=fun z E cx=>
 oU (A5V ygh) (EI yP (K0 yP (fun d Γ1 F1 H1 v R1 s1 r1 h1=>(lb (fun l Γ2 F2 H2 R2 s2 h2=>(Aob (fun u Γ3 F3 H3 R3 s3 h3=>by
  cases d with
  | tup xs=>
   have r3:=r1.up (s2.trans s3);show Kt r3;show Bn a vs hq rs r3;show lL hlen;refine⟨a,vs,rfl,su R3.g hq,A7 hlen h3.1,li⟩
   have gr:=Gr.laid (o:=HO.tup (vU vs l u)) R3.g hp;refine k _ Γ3 _ _ _ (R3.grow gr) (xc (AkE gr.f)) ?_ h3.2;show EE;exact AT' p ((zyx rs l u).up gr.f)
  | _=>show IZ h3)))))))
def adl:cP:=SK
#where
mutual
def jw:t6
 | YA=>False
 | ę=>False
 | u7=>False
 | u8=>False
 | ADb=>False
 | MD=>gb xs
 | .obj _ fs xs=>Si Ce fs/\gb xs
 | _=>True
def gb:Mm
 | []=>True
 | SG=>jw d/\ACJ
end
section
variable{K:W.Frag}{F F' :Hp}{A:Adk}
mutual
theorem ye3(hA:Tk F (LD u\/LT F')):A9V
 | Ρ,_,_,h=>NO
 | Kx,_,_,h=>NO
 | IR,_,_,h=>NO
 | HZ,_,_,h=>NO
 | Ě,_,_,h=>NO
 | uS,_,n,h=>by
  show AG2;show Su;show AYH;refine⟨a,vs,h0,?_,Xy hA ds vs n h2⟩;show ARZ h1 h1 h1 h1
  ·show JS AFf
   ·exact z.tup.elim
   ·show B3 (C5 z)
  ·show JS AFf
   ·exact z.frz.elim
   ·show B3 (CA (OR z))
  ·show DI h1
 | ATe,_,n,h=>by
  show AG2;show Su;obtain⟨a,dx,vs,h0,h1,h3,h4⟩:=h;refine⟨a,dx,vs,h0,?_,h3,Xy hA ds vs n.2 h4⟩;show JS AFf
  ·have:=z.ins;show XG (Wx h3) n.1;show DT
  ·exact z
 | YA,_,n,_=>eR
 | ę,_,n,_=>eR
 | u7,_,n,_=>eR
 | u8,_,n,_=>eR
 | ADb,_,n,_=>eR
theorem Xy(hA:Tk F (LD u\/LT F')):A9W
 | [],_,_,h=>Ae5
 | SG,_,n,h=>by
  unfold gb at n;show MU ao;obtain⟨v,r,h0,h1,h2⟩:=h;exact⟨v,r,h0,ye3 hA d v n.1 h1,Xy hA ds r n.2 h2⟩
end
#where
def ab6(HA):aX:=AmQ (jw d/\vj)
section
variable{X:Cx}{F0 H0:Hp}{e:Expr}{te:aX}
open Classical in
end
theorem zwx(AsV):∀{ds:Β} {vs:Δ} (j:Nat),C8 ->HG (ds.set j d) (vs.set j v)
 | [],vs,j,r=>by show Ts;subst r;unfold ao;rfl
 | x::ds,vs,j,r=>by
  show Ts;show Bn u us r1 r2 r;cases j with
  | zero=>exact sy h r2
  | succ j=>exact sy r1 (zwx h j r2)
def Ln(i:Nat)(ti te:aX):aF:=AEZ ((∃xs,V' AIr)/\P4 ti k (match k,Γ2[i]? with
 | To,some AIr=>∃j,Ax7/\Ÿ Γ2.set (.ow (xs.set j d))
 | _,_=>False))
section
variable{X:Cx}{F0 H0:Hp}{x:Str}{pos pos' npos:Pos}{e k:Expr}{i:Nat}{te ti:aX}
theorem z9x(ACf)(hk:B' k ti)(he:ME)(hd:B1 x "__debug__":=by decide)(hcd:B1 x "__classdict__":=by decide)
  (ha:∀v,assign Avm X.env v=(do
   let ov<- AYC [v] HL
   let iv<- AYC [v,ov] k
   standAt pos'
   A7e
   Aut):=by intro _;rfl)
  (hs:ATw AVz e:=by rfl) (hw:AXY AVz e none:=by rfl)
  (h1:AFo AVz (·.2)= [AR8 Avm]:=by rfl):
  AN6 AVz e (Ln i ti te):=fun z E cx=>
 tL (Bi yg8 LE (Bi ygg U' Ad2 z8r ha) hs hw h1) (aI Dn hq1 (by obtain⟨F,Γ,D2,R,h,kk⟩:=hq1;exact ES (fun d Γ1 F1 H1 v R1 s1 r1 h1=>by
  obtain⟨⟨xs,e0⟩,h2⟩:=h1;obtain⟨o,e1,a,vs,rfl,g1,g2,g3,r⟩:=AUs;refine⟨AR,e1,F1,Γ1,_,R1,h2,fun k Γ2 F2 H2 kv R2 s2 rk q=> ?_⟩;split at q
  ·rename_i k' xs' e2;obtain⟨j,hj,q⟩:=q;obtain⟨o,e3,a',ws,rfl,w1,w2,w3,tD⟩:=AuO;rw[e1] at e3;cases e3;show Kt rk;subst rk;have hl:=lB tD;refine⟨a,ws,k',j,rfl,rfl,w1,A7 hl hj,?_⟩
   exact D5 kk.nx (R2.wr e2 e1 (zwx (r1.up s2) j tD)) qf q
  ·exact q.elim)))
#where
section
variable(K:W.Frag)(F0 H0:Hp)
def upR(t:aX)(E:XW):TE:=A8X (Rep K AiL d v)
def aa6(ALG):TA:=A8Y (ao K AiL ds vs)
#where
def QR(ND)(e:Expr)(t:aX):Prop:=ALx upR
def QRA(Axx):Prop:=ia PA es aa6
section
variable{X:Cx}{F0 H0:Hp}{e:Expr}{es:AD}{pos:Pos}{te:aX}
def cNl(HA):aX:=Ű (jw d/\AHZ)
def adn(Ya):aX:=Mn (MT Γ[i]? Ady (ACJ/\Ayl))
theorem z49(EM){a:Addr}{vs:Δ}(h0:Sf F0)(h:AcO):lA K (jF F0 F) a vs:=by
 have e:jF F0 F a=F a:=zoi (FU q (BGf h0))
 show NR h
 ·left;show MU Rd;rw[e];exact h
 ·show DI h
def R7(YO):aX:=IS (ACJ/\Cb AAk)
def ab7(HA):aF:=Axq (D.rf d)
#where
def R8(K:W.Frag)(sp:cP):Sp:=Aol (ANS (Rep K (jF F F') d v) (P d))
structure ado (XU) (x:Str) (k:Nat) (ps:ο) (sp:cP):Prop where
 ex:ANC R8
section
variable{P:Program}{w:World}{K:W.Frag}{mg:CD}{base:Heap}
#where
section
variable{X:Cx}{F0 H0:Hp}{e:Expr}{es:AD}{pos p:Pos}{x:Str}{f:Addr}{fd:FuncData}{ps:ο}{k:Nat}{sp:cP}{t:bZ}{te:aX}
def Ej(HA):aX:=AmQ vj
open Classical in
end
def adp(tf:bZ)(tb:aX):bZ:=Sc tf xs (P4 tb d (Sk To ((-(2^63)<=k/\k<2^63/\Υ ArO)/\P Aoa Γ2)))
section
variable{X:Cx}{F0 H0:Hp}{a b:Expr}{pos:Pos}{tf:bZ}{tb:aX}
#where
def Og{α:Type}(lt:cr):Aho ->α
 | .ret a=>a
 | AZW=>Og lt (k ATG)
def Lq(G_)(lt:cr)(n:Nat):jn Aho
 | .ret _=>true
 | AZW=>ω CH&&(ω (j<n)&&(ω (i≠j)&&Lq lt n (k ATG)))
theorem z91(hc:∀i j (C:DJ Bool),Ο CH (j<n) (i≠j) (C ATG s) (cmp i j C s)):
  ∀(t:Aho) (Q:DJ α),A2 (Lq lt n t) ->Q (Og lt t) s ->t.kasWp cmp Q s
 | .ret _,_,_,h=>h
 | AZW,Q,ok,h=>by
  unfold Lq at ok;show Aie ok;exact hc i j _ ok.1 ok.2.1 ok.2.2.1 (z91 hc A5f Q ok.2.2.2 h)
def aa7(An8 i Int):Prop:=∃(x:Addr) (o:Obj) (xs:D3) (m:Nat) (t:Tok),v= .ref x/\AgQ/\AU_ /\pS (.seq xs m)/\DA xs 0 AIQ
inductive Ek (h:Heap):BG Ζ Φ
 | nil:Ek h [] []
 | cons {v i vs is}:aa7 h v i ->Ek h vs is ->Ek h (v::vs) (i::is)
def ltI(ns:Φ)(i j:Nat):Bool:=ω (ye<AQc)
def El(ns:Φ):AL:=if ns.length<2 then List.range ns.length else(Og (ltI ns) (W.kas_sort ns.length)).toList
def R9(ns:Φ):Prop:=ns.length<2\/ (ATc/\ns.Nodup/\A2 (Lq (ltI ns) ns.length (W.kas_sort ns.length)))
section
variable{prog:Program}{w:World}{A:Around}{E:dR}{s:Shared}
theorem z3d{vs:Ζ}{p:XL}(hp:AGk p.size):AGk (List.toArray (p.toList.map fun i=>vs.getD i Value.none)).size:=A0 hp
#where
def z4p:ATa Int
 | []=>Č
 | .tup (B8::_)::r=>Agq z4p
 | A8=>none
def ygy:Kk:=iq (∃ns,AaT z4p/\R9 ns/\ (∀i∈El ns,Adj)/\ Υ (BE El ns)/\P (AH El ns (TU xs.getD Ρ)))
theorem zt5(h:OV):Avg kA (Vals (Ami xs.getD) (is.map (TU us.getD Value.none)))
 | [],_=> B9
 | i::is,k=>by
  have hi:=k i zV;show AFR (h.get (zW hi));refine .cons ?_ (zt5 h Au_);show RelV (AOy Ρ) (us.getD i Value.none);show Ar7 hu;exact ru
theorem ztr(D9){F:Hp}{ds:Β}{vs:Δ}(h:C8):Avg (i<ds.length) (HG (Ami ds.getD) (Ami vs.getD))
 | [],_=>A0 ao
 | i::is,k=>by
  have hi:=k i zV;show OH hv rv (vd h (zW hi));refine sy ?_ (ztr h Au_);show fS (ds.getD i Ρ) (vs.getD i Ρ);show Ar7 hv;exact rv
def Cu(xs:AL):Prop:=ARQ xs.Pairwise
theorem Sd(h:Cu xs)(hij:i<j)(hj:Ad8):xs[i]'(Nat.lt_trans hij hj)<xs[j]:=List.pairwise_iff_getElem.mp h i j _ hj hij
structure Xz (xs:AL) (j b:Nat):Prop where
 le:b<=xs.length
 lo:ArH (k<b) (xs[k]<j)
 hi:ArH (b<=k) (j<=xs[k])
theorem zp3(hr:AUh):∀(f lo hi:Nat),lo<=hi ->Ο (hi<=xs.toList.length) (hi - lo<=f) (ArI (k<lo) (BGT<j)) (ArI (hi<=k) (j<=BGT)) (Xz xs.toList j (SetTable.below.go xs j f lo hi))
 | 0,lo,hi,h1,h2,h3,h4,h5=>by
  unfold SetTable.below.go;show MO lo hi
  exact⟨h2,h4,h5⟩
 | f+1,lo,hi,h1,h2,h3,h4,h5=>by
  unfold SetTable.below.go;by_cases hl:lo<hi
  ·show DU hl;have hm1:lo<=ZA:=τ
   have hm2:ZA<hi:=τ
   have hm:ZA<xs.toList.length:=τ
   have hg:xs.getD (ZA) j=xs.toList[ZA]:=by
    have:ZA<xs.size:=AN hm
    simp [Array.getD,this]
   dsimp only;rw[hg];by_cases hc:xs.toList[ZA]<j
   ·show DU hc;refine zp3 hr f _ hi ξ h2 ξ (ψ k hk hlt) h5
    show IP k ZA
    ·subst e;exact hc
    ·exact Nat.lt_trans (Sd hr (τ:k< ZA) hm) hc
   ·show AV hc;refine zp3 hr f lo _ ξ ξ ξ h4 (ψ k hk hle)
    show IP k ZA
    ·subst e;omega
    ·have:=Sd hr (τ:ZA<k) hk
     omega
  ·show AV hl;show MO lo hi
   exact⟨h2,h4,h5⟩
theorem zyo(hr:AUh)(j:Nat):Xz xs.toList j Auz:=F_ SetTable.below (zp3 hr _ 0 _ dc Μ ξ (fun k _ h=>τ) fun k hk h=>by simp at hk;omega)
theorem ygm(h:Xz xs j b)(k:Xz xs j c):b=c:=by
 rcases Nat.lt_trichotomy b c with q | q | q
 ·have hb:b<xs.length:=zK q k.le;have:=k.lo b hb q;have:=h.hi b hb (zL _);omega
 ·exact q
 ·have hc:c<xs.length:=zK q h.le;have:=h.lo c hc q;have:=k.hi c hc (zL _);omega
theorem ya8(hr:AUh)(hn:xs[AuY]?≠some j):Cu (SetTable.insertAt xs Auz j).toList:=by
 rw[SetTable.toList_insertAt];have hb:=zyo hr j;generalize AuY=b at*;have hn' :∀(h:b<xs.toList.length),xs.toList[b]≠j:=fun h e=>hn (by rw[<- Array.getElem?_toList,si,e])
 unfold Cu;rw[List.pairwise_append];show uC hr.take (Iy a ha c hc)
 ·rw[List.pairwise_cons];show B6 (AM c hc) hr.drop;show ve k hk hc;rw[List.length_drop] at hk;rw[List.getElem_drop];have h1:=hb.hi (b+k) ξ ξ
  show IP k 0
  ·subst e;have:=hn' ξ
   simp only [Nat.add_zero] at h1⊢;omega
  ·have:=Sd hr (τ:b<b+k) ξ
   have:=hb.hi b ξ (zL _)
   omega
 ·show ve k hk ha;rw[List.length_take] at hk;rw[List.getElem_take];have h1:=hb.lo k ξ ξ
  show N2 hc hc
  ·exact h1
  ·show ve m hm hc;rw[List.length_drop] at hm;rw[List.getElem_drop];have:=hb.hi (b+m) ξ ξ
   omega
theorem zz8(hr:AUh)(hi:i<=xs.toList.length):SetTable.below xs (ARa (0<i) (xs.toList[i - 1]' ξ+1) 0)=i:=by
 refine ygm (zyo hr _) ⟨hi,ψ k hk hlt,ψ k hk hle⟩
 ·rw[dif_pos ξ]
  show IP k (i - 1)
  ·subst e;exact Ado
  ·have:=Sd hr (τ:k<i - 1) ξ
   omega
 ·split
  ·rename_i h0;have:=Sd hr (τ:i - 1<k) hk
   omega
  ·exact G1
structure Cw (led:Bool) (t:SetTable):Prop where
 XC:BFt
 XD:Ahs
 led:t.led=led
theorem z0l:Cw led (.fresh 0 0 led):=Ix (RU SetTable.fresh Cu) rfl
theorem z4l(n:Nat):Cu (Array.range n).toList:=by
 unfold Cu;rw[Array.toList_range];exact List.pairwise_lt_range
theorem XF(h:ALU)(n:Nat):Cw led (t.standIn n):=Ix (z4l n) h.led
theorem z53(h:ALU):Cw led {t with plain:=false}:=⟨h.XC,h.XD,h.led⟩
theorem z3b(j:Nat):SetTable.has #[] j=false:=A0 SetTable.has
theorem zpb{t:SetTable}(hd:Ahs){j:Nat}:(Axa ->t.place[SetTable.below t.place j]?≠some j)/\t.slot j≠ .dummy:=by
 unfold SetTable.slot;rw[hd,z3b];dsimp only;split
 ·exact⟨Ξ AJp,Ξ AJp⟩
 ·show GW;show ArP;exact⟨C4 (BH q),Ξ AJp⟩
theorem zy1{t:SetTable}(hd:Ahs){ha:dk}{h:Int}:∀(f:Nat) (p:SetTable.Probe) {j:Nat} {dm:Eg Nat},KK p.dummy ->ρ (SetTable.probe.go t ha h f p) (.empty j dm) ->dm=none/\Axa
 | 0,p,j,dm,_,e=>by show BFH;cases e
 | f+1,p,j,dm,hp,e=>by
  have adv:(t.advance p).dummy=none:=by
   unfold SetTable.advance;split<;>exact hp
  show BFH;split at e
  ·show GW;cases e;exact⟨hp,q⟩
  ·show GW;exact absurd q (zpb hd).2
  ·rename_i i q;split at e
   ·cases e
   ·exact zy1 hd f _ adv e
theorem yc5{led:Bool}{t:SetTable}(h:ALU)(es:lx)(k:Int)(x:Value):Cw led (layNew t es k x).2.1:=by
 unfold layNew;split
 ·rename_i slot wd q;unfold SetTable.freeSlot at q;split at q
  ·rename_i j dm e;cases q;show sd hs (zy1 h.XD _ _ rfl e);have hn:=(zpb h.XD).1 hs;dsimp only [Option.getD_none];have hp:Cw led (t.put j).1:=⟨ya8 h.XC hn,by show(AC (SetTable.has t.dummies j=true) _ t.dummies)= #[];rw[h.XD,z3b];rfl,h.led⟩
   unfold SetTable.orStandIn;split
   ·exact hp
   ·exact XF hp _
  ·cases q
 ·exact XF h _
theorem z40(h:ALU)(es:lx)(n:Nat):Cw led (relayAll t es n).2.1:=by
 unfold relayAll;split
 ·rename_i t' order q;dsimp only;split
  ·unfold SetTable.relaid SetTable.laid at q;cases e:SetTable.layClean (SetTable.sizeAbove n - 1) (es.map (·.1)) with
   | none=>rw[e] at q;cases q
   | some owner=>
    rw[e] at q;cases q;show kK ?_ h.led;show Cu (((List.range (SetTable.sizeAbove n - 1+1)).filterMap fun j=>(owner.getD j none).map (j, ·)).map (·.1));have sub:∀l:AL,((l.filterMap fun j=>(owner.getD j none).map (j, ·)).map (·.1)).Sublist l:=by
     intro l;induction l with
     | nil=>exact List.Sublist.refl _
     | cons a r ih=>
      rw[List.filterMap_cons];cases owner.getD a none with
      | none=>exact ih.cons _
      | some v=>exact ih.cons₂ _
    exact List.Pairwise.sublist (sub _) List.pairwise_lt_range
  ·exact XF h _
 ·exact XF h _
section
variable{prog:Program}{w:World}{κ:Type}[Tu](knd:lj)(kf:v4)
structure pO (led:Bool) (o:Obj) (ks:Xs) (es:lx) (ep:Nat) (t:SetTable):Prop where
 ex:o.ExactSet
 dat:A6j
 el:AW' es.toList
 fit:By t.fits es.size
 tok:ALU
 key:(es.toList.map AfS).Perm ks
def sU(led:Bool)(h:Heap)(a:Addr)(ks:Xs):Prop:=∃o es ep t,eD/\wb
def qU(ks:Xs)(k:κ):Xs:=An6 AWA
variable{knd kf}(hkf:AmU)
include hkf
theorem ydj(el:AW' es):k∈GS es.map e (kf e.2)↔∃e∈es,knd.is k e.2=true:=by
 rw[List.mem_map];constructor
 ·show ACl e he;obtain⟨⟨k',hk',_⟩,_⟩:=el e he;exact⟨e,he,AE (hkf k' _ hk') hk'⟩
 ·rintro⟨e,he,hk⟩;exact⟨e,he,hkf k _ hk⟩
variable{A:Around}{E:dR}{s:Shared}{a:Addr}{ks:Xs}{led:Bool}
theorem z1c{h:Heap}{o:Obj}{es:lx}{ep:Nat}{t:SetTable}(hg:eD)(hd:A6j)(es' :lx)(t' :SetTable):
  BN (h.update a (Obj.putSet es' t')).get? A6y:=by
 have z:=Heap.get?_update_self (Obj.putSet es' t') hg (ul A5R)
 rwa [A5R] at z
omit hkf in
theorem pO.put(S:wb)(el:AW' es'.toList)(fit:By t'.fits es'.size)(tok:Cw led t')(key:(es'.toList.map AfS).Perm ks'):
  AJR pO A6y ks' es' (ep+1) t' :=⟨S.ex,rfl,el,fit,tok,key⟩
theorem yfo{k:κ}{x:Value}{Q:DJ Bool}(hx:knd.is k x=true)(hsc:A2 x.scannable)(S:AqW a ks)(hb:AKb ks.length)
  (h:∀b h',AXn h' ->AJR sU h' a (qU ks k) ->Q b LX):Ff (setAddHashed a x (knd.hash k)):=by
 obtain⟨o,es,ep,t,hg,S⟩:=S;have hsz:es.size=ks.length:=qr S.key.length_eq this
 have hmem:=ydj hkf S.el (k:=k);unfold setAddHashed setAddHashedIn;refine AO4 [x] (CU (setState a) (wpAny_setState_of hg S.dat S.fit ?_));dsimp only;rw[byScan_of hsc (τ:es.size<scanBound) S.el]
 simp only [↓reduceIte];unfold setAddByScan;show EF (M3 rule) (wpAny_rule (CU (setScan a x _ _ _) (wpAny_setScan_of hx hg S.dat S.fit S.el ?_)));cases hr:List.findIdx? (AG e (knd.is k e.2)) es.toList with
 | some j=>
  dsimp only;obtain⟨hj,hpj,_⟩:=List.findIdx?_eq_some_iff_getElem.mp hr;have hk:AWA:=S.key.mem_iff.mp (hmem.mpr (BY (yU hj) hpj));refine A3 (A3 ?_);have z:=h false s.heap (Heap.SameBut.refl a s.heap) ⟨o,es,ep,t,hg,by unfold qU;show ADV;exact S⟩
  exact z
 | none=>
  dsimp only;have hk:k∉ks:=fun q=>by
   obtain⟨e,he,hp⟩:=hmem.mp (S.key.mem_iff.mpr q);have:=List.findIdx?_eq_none_iff.mp hr e he;show Ap hp;show DT
  have hperm:=Ajk layNew_perm;have hfits:=Ajk layNew_fits;have Em:=yc5 S.tok es (knd.hash k) x;generalize Ajk layNew=lay at hperm hfits Em⊢;obtain⟨es1,t1,wd,gave⟩:=lay;dsimp only at hperm hfits Em⊢;rw[Array.toList_push] at hperm;have el1:AW' es1.toList:=(S.el.push hx hsc).perm hperm;have key1:(es1.toList.map AfS).Perm (qU ks k):=by
   unfold qU;show ADN;refine AKz hperm.map ?_;rw[List.map_append];refine List.Perm.append S.key ?_;show [kf x].Perm [k];rw[hkf k x hx]
  have sz1:es1.size=es.size+1:=qr hperm.length_eq this
  have Sg:Υ es1.size:=fits_of_scanBound ξ
  have gw:∀(b:Bool) {s₁:Shared} {Q' :ASz},Q' () s₁ ->P5 (A2v b) Q' s₁:=
   fun b s₁ Q' q=>by
    cases b with
    | true=>exact wpAny_rule q
    | false=>exact A3 q
  have tail:∀t2:SetTable,By t2.fits es1.size ->Cw led t2 ->APP (do
    ATP es1 t2
    if My (! wd) t2.tooFull then do
      (A2v AoZ.2.2)
      ATP AoZ.1 AoZ.2.1
      AvB
     else AvB) (IL r (P5 (ò r (some added) (pure added) (setAddHashedIn a x (knd.hash k) 99999)) Q s')):=by
   intro t2 f2 k2;refine CU (ATP es1 t2) (wpAny_storeSet_of hg S.dat ?_ Sg);have g1:=z1c (hkf:=hkf) hg S.dat es1 t2;have S1:=S.put (ks' :=qU ks k) el1 f2 k2 key1;have sb1:=Heap.SameBut.update s.heap a (Obj.putSet es1 t2);split
   ·have hp2:=AYp relayAll_perm t2;have hf2:=AYp relayAll_fits t2;have ht2:=AYp z40 k2;generalize AYp relayAll t2=rl at hp2 hf2 ht2⊢;obtain⟨es2,t3,gave2⟩:=rl;dsimp only at hp2 hf2 ht2⊢;have sz2:es2.size=es1.size:=qr hp2.length_eq this
    show L' gw gave2;refine CU (ATP es2 t3) (wpAny_storeSet_of g1 rfl ?_ ξ)
    have S2:=S1.put (ks' :=qU ks k) (el1.perm hp2) hf2 ht2 (AKz hp2.map key1);refine A3 (A3 ?_);exact h true _ (sb1.trans (Heap.SameBut.update _ a _)) (Amd (z1c (hkf:=hkf) g1 rfl es2 t3) S2)
   ·exact A3 (A3 (h true _ sb1 (Amd g1 S1)))
  show L' gw gave;split
  ·show J_;rw[hashByValue_scannable 8 hsc];show ĕ;refine tail _ ?_ ?_
   ·split
    ·exact hfits
    ·exact SetTable.fits_plain_off hfits
   ·split
    ·exact Em
    ·exact z53 Em
  ·show IF A3;simp only [↓reduceIte];exact tail _ hfits Em
#where
abbrev mq(AMi):Bool:= !(w.params.followText "set-order")
abbrev Ib(AMi):Obj:={cls:= ARx,dict:=none,data:= .set #[] 0 Asa}
def lN{κ:Type}(AYm):GH Xs
 | 0=> []
 | BQ=>A0O
theorem zrt (AYm):∀i,MI lN val i<=i
 | 0=>GB
 | BQ=>by
  have ih:=zrt val i;show A6O length<=BQ;unfold qU;split
  ·omega
  ·show Ajx;omega
theorem XH (AYm):∀{i},k∈lN val i↔∃j,j<i/\val j=k
 | 0=>A0 lN
 | BQ=>by
  have ih:=XH val (k:=k) (i:=i);have e:k∈lN val B2↔k∈lN val i\/k=val i:=by
   show k∈A0O↔_;unfold qU;split
   ·show GW;constructor
    ·exact .inl
    ·rintro(z | rfl)
     ·exact z
     ·exact q
   ·show Au0
  rw[e,ih];constructor
  ·show AgZ j hj rfl rfl (F9 j τ) (F9 i τ)
  ·show ACl j hj;show OM j i
   ·subst q;exact .inr rfl
   ·show B3 (F9 j τ)
theorem zj9 (AYm):∀i,(lN val i).Nodup
 | 0=>List.nodup_nil
 | BQ=>by
  have ih:=zj9 val i;show A6O Nodup;unfold qU;split
  ·exact ih
  ·show GW;rw[List.nodup_append];show DB ih An AyT
   rw[List.mem_singleton] at hb;subst hb;exact č q ha
theorem z6v{prog:Program}{w:World}{κ:Type}[Tu]{knd:lj}{kf:v4}:pO knd kf (mq w) AEa [] #[] 0 Asa:=
 ⟨Ix rfl rfl,rfl,Abn e he he,by rfl,z0l,An⟩
section
variable{prog:Program}{w:World}{κ:Type}[Tu]{knd:lj}{kf:v4}(hkf:AmU)
theorem sU.stay(S:sU knd kf led h a ks)(e:∀o,eD ->BN h'.get? o):AJR sU h' a ks:=by
 obtain⟨o,es,ep,t,hg,S⟩:=S;exact⟨o,es,ep,t,e o hg,S⟩
include hkf
theorem z83{A:Around}{R:Aec}{I:Addr}{fp wr:AO}{G:BG kQ kQ}{n:Nat}{P:AGm Value}{St:DJ Nat}
  (W:WalksS prog w A.in1 I fp wr G n P St) {S:Addr} (hS:S∉fp) {val:GH κ} (hv:A_G (P i v)) (hb:AKb n) {led:Bool}:
  ∀(j i:Nat) (s:Shared),Ο (i+j=n) (St i s) (AqW S (lN val i)) (∀s',Moved (S::wr) G s s' ->AJR sU s'.heap S (lN val n) ->AbS Χ s') (AsE "set.update.loop" (D7 [ARm,.ref I]) R):=by
 have hw:S∉wr:=fun q=>hS (W.sub _ q);have grow:MV wr (b∈S::wr):=fun b q=>zU _ q;intro j;induction j with
 | zero=>
  intro i s hij st hs hR;show MO i n
  show Arb;show BGQ;show Á pyNext I;refine CU AuE (W.done s _ _ st (AM s' hm));show Ave;exact A3 (hR s' (hm.mono grow) (hs.stay A_O))
 | succ j ih=>
  intro i s hij st hs hR;show Arb;show BGQ;show Á pyNext I;refine CU AuE (A1r ξ st fun v s1 hP st1 hm=> ?_)
  obtain⟨hk,hc⟩:=hv i v hP;have hs1:=hs.stay (h' :=s1.heap) A_O;show Pl A9k;show NA A9k (AO4 [v]);unfold setAdd;refine AO4 [v] (CU (pyHash v) (knd.pyHash hk ?_));refine yfo hkf (s:={s1 with toks:=s1.toks+1}) hk hc hs1 (by have:=zrt val i;omega) (Iy _ h2 sb S2)
  refine A3 ⟨Aac PyProof.Rows.F.plain_set_update_loop,ih B2 _ ξ (W.frame _ s1 h2 _ st1 BDs fun b hb o e=> ?_) S2 (ψ s3 hm3 S3)⟩
  ·exact FE sb.2 b (č hS hb) e
  ·refine hR s3 (Moved.trans W.gtrans ((hm.mono grow).then_heap BDs (AQv ?_)) hm3) S3;exact FE sb.2 b (č hb zV) e
#where
section
variable{prog:Program}{w:World}{A:Around}{E:dR}{s:Shared}
theorem zu3(v:Value)(h:Q₁ MC AnQ):
  æ E1 A (KI "set.__new__") (D7 [ARx,v]) (wants Q₁ E) s:=by
 refine codeAny_of_tree ?_;show wpAny _ A.in1 (checkBuiltinCall "set.__new__" (D7 [ARx,v])>>=C4 (Aki "set.__new__" (D7 [ARx,v]))) _ _ s;refine z9 (wpAny_of_eq (PySem.F.newCall_set_1 v) (A3 (AcI PySem.F.plain_set_new PySem.F.entry_set_new ?_)));rw[AHn PySem.F.plain_set_new];unfold Builtin.«set.__new__» Builtin.Frozenset.newClass;have hsub:=sub_set_self;show ei s;dsimp only
 wp_walk
 refine wpAny_askSetting (A3 ?_);dsimp only;simp only [newObj];exact z9 (wpAny_alloc Azm)
#where
section
variable{prog:Program}{w:World}{κ:Type}[Tu]{knd:lj}{kf:v4}(hkf:AmU){A:Around}{E:dR}{s:Shared}
include hkf
set_option maxHeartbeats 3200000 in
theorem zmm{l:Addr}{items:D3}{val:GH κ}{Q:dR}(hh:NB)(hl:ATF items)(hv:A_G (oq items))(hb:AKb items.size)
  (h:∀(h' :Heap) (tk:Nat),A_l ->(AiC) ->AOc OW):
  Akb "set" [FI]:=by
 obtain⟨c,tl,hmro⟩:=PySem.F.called_set.mro;have hmade:=PySem.F.called_set.made;have hsub:=PySem.F.called_set.sub;show AUk codeAny_of_tree;show FB (callAny (KF "set") _);refine A3 ⟨Code.quiet_builtin _ Lu,codeAny_builtin PySem.F.entry_type_call ?_⟩
 rw[Around.under_plain (weight_type_call_type "set" [FI] []) rfl];have q1:=PySem.F.called_set.notType;have q2:=PySem.F.called_set.canCreate;have q3:=PySem.F.typeCall_set_1 ARf
 show AnA;skip
 refine codeAny_mono (zu3 (AA l) (E:=E) (Q₁:=A5J AnQ) ka) (ψ r s₁ hr);cases r with
 | error e=>exact hr
 | ok fl=>
  cases fl with
  | ret obj=>
   show Zp rfl hr;show AWR hS AEa AEa LW;have hT:Shared.TypeIs AnQ MC "set" :=Is hS;have q4:=PySem.F.called_set.init.lookup;have q5:=PySem.F.called_set.init.bind MC
   show AnA;skip
   show ATU (codeAny_call_builtin (R:=wants (fun r s₂=>r= Χ/\∃h' tk,s₂=OW/\A_l/\
     AiC) E) PySem.F.called_set.init.plain PySem.F.entry_set_init (check_set_init_1 hT ?_)) r₂ s₂ hr₂
   ·obtain⟨ol,hol,hcl,nl,hdl⟩:=hl;obtain⟨oc,od,ot,os⟩:=ol;simp only at hcl hdl;subst hcl;subst hdl;have hol' :ρ (AAr AEa l) {cls:= L4,dict:=od,data:= .seq items nl,slots:=os}:=zY _ hol;have q6:=PySem.F.sub_list_set;have q7:=PySem.F.sub_list_frozenset;show da q8 (Value.type "list" ==Value.type "dict") AB
    have hl1:AGf AEa IsList l items:=EG _ hol' nl rfl;unfold Builtin.«set.__init__» noKeywords Builtin.Frozenset.updateFrom;generalize hPI:pyIter=PI
    wp_walk
    subst hPI;refine wpAny_pyIter_list hl1 (z9 (wpAny_runValue ?_));show UQ hlS l (zF hol);have hh3:A.in1.in1.in1.handled=none:=A0 hh
    show AL2 Oh (ABa AEa) i6;refine z83 hkf (led:=mq w) ((Walks.list hh3 _ l (B4 Oh (AVi hlS)) items).toS) (S:=s.heap.objs.size) ?_ hv hb items.size 0 _ (Nat.zero_add _)
     ⟨RS,hl1.push _⟩ (Amd (zY _ hS) z6v) (ψ s' hm hS')
    ·rw[Oh];show ANU;exact⟨AXh,AJX hlS⟩
    ·show Am1;show AnT;show AkZ s.drawn;show AjY;show ĕ;show Ave;refine A3 ⟨rfl,h',tk',rfl,hS',AL3⟩;show AWv;refine hm.heap b o ?_ (ALy e);rw[Oh];show ANU;exact⟨zH hlt,AVi hlt⟩
   ·cases r₂ with
    | error e=>exact hr₂
    | ok fl₂=>
     cases fl₂ with
     | ret r=>
      obtain⟨rfl,h',tk,rfl,hS',hk'⟩:=hr₂
      show AnA;skip
      exact h _ _ hS' hk'
     | _=>exact hr₂.elim
  | _=>exact hr.elim
#where
theorem qW:ArR "__next__" "set_iterator.__next__" := A'8 "__next__"
theorem ye6:AcS "set_iterator.__next__" Builtin.«set_iterator.__next__»:=entryFor_of_tree (by kernel_rfl)
theorem yhg(v:Value):argsOk "set_iterator.__next__" (D7 [v]):=Atv
theorem z8c:AcS "set.__iter__" Builtin.«frozenset.__iter__»:=BDH "frozenset.__iter__"
def yL(h:Heap)(I:Addr)(fst:Value)(i:Nat)(S:Addr)(n ep:Nat):Prop:=∃o,ut I/\AOh "set_iterator" /\pS (xI #[fst,ah i,ARm,ah n,ah ep])
theorem yL.ty{s:Shared}{I S:Addr}{fst:Value}{i n ep:Nat}(x:AqC):s.TypeIs r6 "set_iterator" :=let ⟨o,ho,hc,_⟩:=x;ADf hc
theorem yL.at(x:Ahf)(e:∀o,ut I ->qV I):APG h' i:=Aj6 e
theorem zwt(hi:kA):(xs[i]::xs.eraseIdx i).Perm xs:=by
 rw[List.eraseIdx_eq_take_drop_succ];refine List.perm_middle.symm.trans ?_;rw[<- List.drop_eq_getElem_cons hi,List.take_append_drop]
section
variable{prog:Program}{w:World}{A:Around}{E:dR}{s:Shared}
theorem z2j(hn:n≠0)(h:∀i d,CH ->Q i AlE):Ff (choose src n):=fun Γ p _=>by
 unfold choose;rw[Sem.wp_choose];exact⟨hn,h _ _ (Nat.mod_lt _ (BDV hn))⟩
theorem zso(n:Nat):∀(xs:AI) {s:Shared} {Q:DJ AI},BCI ->(∀ys d,ys.Perm xs ->Q ys AlE) ->Ff (drawOrder n xs):=by
 induction n with
 | zero=>
  intro xs s Q hn h;have:xs= []:=List.length_eq_zero_iff.mp hn;show XY;unfold drawOrder;exact A3 (h [] s.drawn Go)
 | succ n ih=>
  intro xs s Q hn h;cases xs with
  | nil=>cases hn
  | cons x xs=>
  unfold drawOrder;refine iF choose (z2j Μ (ψ i d hi))
  show AqM;dsimp only;refine z9 (ih ((AEt).eraseIdx i) ?_ fun ys d' hp=>A3 (h _ d' ?_))
  ·show AqN;omega
  ·refine AKz hp.cons ?_;exact zwt hi
section
variable{S I:Addr}{fst:Value}{i n ep:Nat}{o:Obj}{es:lx}{t:SetTable}
theorem zuf(hh:NB)(hQ:∀h',AfM h0 h' ->AUR)(hk:AfM h0 s.heap):
  wpAny E1 A.in1 (ARB>>=QQ (raiseNew e:Sem PySem.Fin)) AHK
   (IL e (P5 (do if<- isInstance e Aab then AvA else throw e) Q s')) s:=by
 show J_;show Aj4;show AVK ACn
 show ApA
 show AVm ACn
 show AdL;show NA _ wpAny_handled;rw[show ASk by simp [hh]]
 show qo A3 (wpAny_throw (α:=_));refine iF isInstance (ApC AOz isSubtype_stop ?_);exact A3 (hQ _ ((hk.push _).push _))
#where
#where
section
variable{prog:Program}{w:World}{κ:Type}[Tu]{knd:lj}{kf:v4}{A:Around}{E:dR}{s:Shared}{S I:Addr}{fst:Value}{i n ep:Nat}{o:Obj}{es:lx}{t:SetTable}{led:Bool}{ks:Xs}
theorem Oi(hit:AqC)(hg:lI)(O:wb)(hn:es.size=n)
  (h:wpAny E1 A.in1 (if let .int slot _:=fst then do
    match<- setNext S slot.toNat i ep with
    | some (x,next)=>
     AQ6 r6 0 next
     Aw4
     ret x
    | none=>A4H;Aso
   else do
    let some places<- seqItems? fst | Asp
    match places[i]? with
    | some (.int place _)=>
     let x<- setNextDrawn S place.toNat ep
     Aw4
     ret x
    | some _=>Asp
    | none=>AQ6 r6 0 0;A4H;Aso)
   (IL fin (∃r,fin= Ab2 r/\Q (some r) s'))
   (IL e (P5 (do if<- isInstance e Aab then AvA else throw e) Q s')) s):
  ı I:=by
 show Ki oi ho hc hd hit;show AJb;refine CU _ (wpAny_attempt (AIU hit.ty qW (sv qW hit.ty ye6 yhg)));unfold Builtin.«set_iterator.__next__»;show NA BEj A3;refine M3 fieldsOf (wpAny_fieldsOf ho hd ?_);dsimp only;refine CU (setEntries S) (wpAny_setEntries_of hg O.dat O.fit ?_);rw[D_ (AKa hn)]
 refine wpAny_mono h (fun fin s' ⟨r,hr,hq⟩=>⟨r,hr,A3 hq⟩) fun e s' he=>he
theorem XJ(h:Q (w.params.followText "set-order") s):Ff setsByText:=F_ setsByText (CU ask (wpAny_askSetting (A3 h)))
theorem zsq(hbt:At6)(hg:lI)(O:AaH true)(hdr:Hk AM7)
  (h:Q (match es[AzJ]?,t.place[AzJ]? with | some (_,x),some j=>some (x,j+1) | _,_=>none) s):A5w e0:=by
 unfold setNext;show AM8;dsimp only;show AXl;rw[hbt,UC,D_ (Ξ (by have z' :My (! t.plain) BBG:=z;rw[hdr] at z';cases z'))]
 refine CU _ ?_;show FB (AC (My (! t.led) (! es.isEmpty)) _ (pure PUnit.unit));rw[O.tok.led,Ω Μ]
 exact A3 (A3 h)
theorem zsr(hbt:Atf)(hg:lI)(O:wb)
  (h:Q (((pickOrder AMx es)[given]?).map (QQ (e.2,slot))) s):A5w ep:=by
 unfold setNext;show AM8;dsimp only;show AXl;rw[hbt,BU,Ω Μ]
 refine CU (setWalk S) ?_;unfold setWalk;show AM8;dsimp only;show AXl;rw[hbt,BU];exact CU ask (wpAny_askSetting Azm)
theorem z3t(hg:lI)(O:wb)(hx:DA es p x)(h:Q x.2 s):Ff (setNextDrawn S p ep):=by
 unfold setNextDrawn;show AM8;dsimp only;rw[Ω Μ,hx]
 exact A3 h
theorem zvt(hg:lI)(O:wb)(h:Q (! Asl &&AM7) s):Ff (setDrawn S):=by
 unfold setDrawn;show AM8;dsimp only;show AXl;exact A3 h
theorem z26(nx:WA):∀(f k:Nat) (l:AI) (out:Array α),l.length=f ->(pickOrder.go nx f k l out).toList.Perm (out.toList++l)
 | 0,k,l,out,hl=>by
  unfold pickOrder.go;rw[List.length_eq_zero_iff.mp hl];simp
 | f+1,k,l,out,hl=>by
  unfold pickOrder.go;have hi:AzH<l.length:=Nat.mod_lt _ ξ
  show AqM;dsimp only;refine FE (z26 nx f Fc (l.eraseIdx (AzH))) _ (by show AqN;omega) ?_
  rw[Array.toList_push,List.append_assoc];exact List.Perm.append_left _ (zwt hi)
theorem znj(nx:WA)(xs:Array α):(pickOrder nx xs).toList.Perm xs.toList:=F_ pickOrder (z26 nx _ 0 _ #[] Μ)
#where
theorem yao:ArR "__iter__" "set_iterator.__iter__" := A'8 "__iter__"
theorem ygj:Aq6 "set_iterator.__iter__":=Asi
theorem ygu(v:Value):argsOk "set_iterator.__iter__" (D7 [v]):=Atv
theorem yL.Lr(x:Ahf)(v:Value):yL (h.update I (Obj.mapFields (·.setIfInBounds 0 v))) I v i S n ep:=by
 obtain⟨o,ho,hc,hd⟩:=x;exact BBw (by rw[Obj.data_mapFields hd];simp)
theorem yL.Ls(x:Ahf):APG (h.update I (Obj.mapFields (·.setIfInBounds 1 (rawInt ((i:Int)+1))))) B2:=by
 obtain⟨o,ho,hc,hd⟩:=x;exact Am3
section
variable{prog:Program}{w:World}{κ:Type}[Tu]{knd:lj}{kf:v4}
structure Steps (prog:Program) (w:World) (A:Around) (I S:Addr) (n ep:Nat) (o:Obj) (ex:dJ) (vals:Ζ) (fst:GH Value):Prop where
 item:∀i (s:Shared) (Q:DJ LP) (E:dR),CH ->Ο (AY6 s.heap i i) lI Arn (∀v h',oq vals ->AY6 h' B2 B2 ->Heap.SameBut I s.heap h' ->Q (some v) LX) (ı I)
 done:∀(s:Shared) (Q:DJ LP) (E:dR),Ο (AY6 s.heap n n) lI Arn (∀h',AfM s.heap h' ->AUR) (ı I)
theorem z5f(T:AVx S n ep o ex vals fst)(hS:S≠I)(hX:L6 ex (AK≠I)):
  Walks prog w A I (I::S::ex.map (·.1)) [I] n BGn (N9 h (AY6 h i i/\ut S/\L6 ex (ABK h.get?))) where
 sub:=Atz
 frame:=fun i h h' st hk=>⟨A6m,hk S Μ o ARq,P_ (hk AK (by simp only [List.mem_cons,List.mem_map];exact iE (F9 p hp)) p.2 (AR7 p hp))⟩
 item:=fun i s Q E hi st hQ=>T.item i s Q E hi ce ARq AR7 fun v h' hv st' sb=>hQ v h' s.toks hv ⟨st',FE sb.2 S hS ARq,P_ ((sb.2 AK (hX p hp)).trans (AR7 p hp))⟩ (AQv (FE sb.2 b (AR4 hb) e))
 done:=fun s Q E st hQ=>T.done s Q E ce ARq AR7 fun h' eb=>(A5Q (eb b o (ANs z z) e))
 self:=fun i s Q E st hQ=>by
  refine wpAny_pyIter_slot (ce).ty yao (sv yao (ce).ty ygj ygu);show FB (ret (AA I));exact A3 ⟨_,rfl,"set_iterator",_,(ce).ty,qW.lookup,hQ⟩
variable{A:Around}{I S:Addr}{n ep:Nat}{o:Obj}{es:lx}{t:SetTable}{ks:Xs}
def pH(t:SetTable)(i:Nat):Nat:=ARa (0<i/\BEx) (t.place.toList[i - 1]' ξ+1) 0
theorem zn6(hr:BFt)(hi:BEx):SetTable.below t.place AlU=i:=by
 have:=zz8 hr hi;unfold pH;by_cases h0:0<i
 ·rw[dif_pos ⟨h0,hi⟩];show Ap (dif_pos h0);exact this
 ·rw[dif_neg (Ξ (h0 z.1))];show Ap (dif_neg h0);exact this
theorem zx9(h:By t.fits n):t.place.toList.length=n:=by
 simp only [SetTable.fits,Bool.and_eq_true,beq_iff_eq] at h
 simpa using h.1
theorem yef(hh:NB)(hbt:At6)(O:AaH true)(hdr:Hk AM7):
  AY2 AVx [] (es.toList.map (·.2)) (ET (ah AlU)) where
 item:=fun i s Q E hi hit hg _ hQ=>by
  have hl:=zx9 O.fit;have hb:=tz Asq ξ
  have hp:i<t.place.size:=AN (τ:i<t.place.toList.length)
  show AGV;show NA ASI A3Q;rw[A0f i i,hb,Af0,Array.getElem?_eq_getElem hp];dsimp only;show AJV;show AJO
  have hit2:=hit.Lr (rawInt AtS);show BC_;refine CU (Lc setField) (wpAny_setField g1 g3 Μ ?_)
  refine A3 (Md (hQ _ _ (FX hi) ?_ (ARO trans Aka)))
  have e:(Value.int (pH t B2) 0)=rawInt AtS:=by
   unfold pH;rw[dif_pos (yB τ)]
   simp [rawInt]
  rw[e];exact hit2.Ls
 done:=fun s Q E hit hg _ hQ=>by
  have hl:=zx9 O.fit;have hb:=Asq (i:=es.size) ξ
  show AGV;show NA ASI A3Q;rw[A0f es.size es.size,hb,Array.getElem?_eq_none (Nat.le_refl _)];dsimp only;show AJV;show AJO
  exact Asj
theorem ycc(hh:NB)(hbt:Atf)(O:wb):
  AY2 AVx [] ((pickOrder (w.params.setOrder S ep) es).toList.map (·.2)) (C4 s0) where
 item:=fun i s Q E hi hit hg _ hQ=>by
  have hp:=(znj AMx es).length_eq;show ARW hp;show AGV;refine CU ASI (zsr hbt hg O ?_);show On (pickOrder AMx es).size τ
  rw[Array.getElem?_eq_getElem hi'];dsimp only [Option.map_some];show A_7 Ę (A3 (Md (hQ _ _ (FX hi') hit2.Ls (ARO trans Aka))))
 done:=fun s Q E hit hg _ hQ=>by
  have hp:=(znj AMx es).length_eq;show ARW hp;show AGV;refine CU ASI (zsr hbt hg O ?_);rw[Array.getElem?_eq_none ξ]
  dsimp only [Option.map_none];show AJV;show AJO
  exact Asj
theorem yd9{led:Bool}(hh:NB)(O:wb){Tp:Addr}{ot:Obj}{ps:AL}(hps:AP' ps.Perm es.size)(hot:∃m,ot.data= .seq AmR m):
  AY2 AVx [(Tp,ot)] Azw (C4 (.ref Tp)) where
 item:=fun i s Q E hi hit hg hx hQ=>by
  obtain⟨m,hm⟩:=hot;show Anh hl
  show On ps.length τ
  have hlt:LN<es.size:=List.mem_range.mp (hps.mem_iff.mp (yU hi'));show AGV;show Á seqItems? Tp;refine M3 seqItems? (wpAny_seqItems (hx (Tp,ot) Μ) hm ?_)
  dsimp only;have e:CS AmR (.int (De LN) 0):=RU hi' rawInt
  rw[e];dsimp only;refine CU (Lc setNextDrawn) (z3t (x:=es[LN]) hg O (B4 Int.toNat_natCast BFj) ?_)
  show AJV;show AJO
  exact A3 (Md (hQ _ _ (by simp [hi',hlt]) hit.Ls (Heap.SameBut.update s.heap I _)))
 done:=fun s Q E hit hg hx hQ=>by
  obtain⟨m,hm⟩:=hot;show Anh hl
  show AGV;show Á seqItems? Tp;refine M3 seqItems? (wpAny_seqItems (hx (Tp,ot) Μ) hm ?_)
  dsimp only;have e:AmR[es.size]?=none:=A0 hl
  rw[e];dsimp only;show A_7 0 (BDK (ARO trans Aka).extBut)
#where
section
variable{prog:Program}{w:World}{κ:Type}[Tu]{knd:lj}{kf:v4}{A:Around}{E:dR}{s:Shared}{S:Addr}{ep:Nat}{o:Obj}{es:lx}{t:SetTable}{ks:Xs}
structure Laid (knd:lj) (kf:v4) (s:Shared) (S:Addr) (o:Obj) (ks:Xs) (I:Addr) (h' :Heap) (n:Nat) (vals:Ζ) (St:AK2) (fp:AO):Prop where
 wk:A0Y (Walks prog w A' I fp [I] n BGn St)
 st:St 0 h'
 len:vals.length=n
 lem:n=ks.length
 key:Amm
 mem:∀v∈vals,AcC
 new:XZ I
 inF:I∈fp
 fpl:TZ (b<h'.objs.size)
 fpn:TZ (b=S\/XZ b)
 kep:AWu
 siz:XZ h'.objs.size
theorem z6l(hg:lI)(O:pO knd kf (mq w) o ks es ep t)(hb:Υ es.size)
  (h:∀(I:Addr) (h' :Heap) d n vals St fp,Laid knd kf s S o ks I h' n vals St fp ->HI I (AnV h')):ATm S:=by
 have hT:s.TypeIs AJs "set" :=Aeg hg;show UQ hSl S (zF hg);show Amg ks.length
 have scn:∀v∈es.toList.map (·.2),AcC:=fun v hv=>by
  show ku e he hv;obtain⟨⟨k,hk,_⟩,hs⟩:=O.el e he;exact⟨⟨k,hk⟩,hs⟩
 have fin:∀(h1:Heap) d (vals:Ζ) (ex:dJ) (fst:GH Value),XZ h1.objs.size ->(∀b ob,Aao ->oo h1.get?) ->(∀p∈ex,ABK h1.get?/\XZ AK) ->
   Ο (A0Y (AY2 (Steps prog w A' h1.objs.size) ex vals fst)) (vals.length=es.size) Amm Awc (HI h1.objs.size (AnV (h1.push (Mb "set_iterator" #[fst 0,AQX,ARm,rawInt es.size,rawInt ep])))):=by
  intro h1 d vals ex fst hsz hk hx' hs hl hp hm;have hx:L6 ex (ABK h1.get?):=fun p q=>(hx' p q).1;refine h _ _ d es.size vals _ _ ⟨fun A' hh=>z5f (hs A' hh) (zH (zK hSl hsz)) (fun p q=>zH (zF (hx p q))),⟨RS,zY _ (hk S o hg),fun p q=>zY _ (hx p q)⟩,hl,hlk,hp,hm,hsz,An,ATE,ATE,md ob (zY _ (hk b ob e)),?_⟩
  ·rw[Heap.size_push];simp only [List.mem_cons,List.mem_map] at q;rcases q with rfl | rfl | ⟨p,hp',rfl⟩
   ·exact Nat.lt_succ_self _
   ·exact Nat.lt_succ_of_lt (zK hSl hsz)
   ·exact Nat.lt_succ_of_lt (zF (hx p hp'))
  ·simp only [List.mem_cons,List.mem_map] at q;rcases q with rfl | rfl | ⟨p,hp',rfl⟩
   ·show DI hsz
   ·show d5
   ·show DI (hx' p hp').2
  ·rw[Heap.size_push];exact Nat.le_succ_of_le hsz
 refine wpAny_pyIter_slot hT PySem.F.slot_set_iter (sv PySem.F.slot_set_iter hT z8c PySem.F.args_set_iter_1);unfold Builtin.«frozenset.__iter__»;refine iF Builtin.Frozenset.slot0 ?_;unfold Builtin.Frozenset.slot0;show NA BEj A3;show FB (pure S);show ĕ;refine CU (Builtin.Frozenset.sizeOf S) ?_;unfold Builtin.Frozenset.sizeOf;refine CU (setEntries S) (wpAny_setEntries_of hg O.dat O.fit (A3 ?_));refine CU (setDrawn S) (zvt hg O ?_);dsimp only;cases hbt:Asl with
 | true=>
  show AzN (! true&&AM7);show BGM wpAny_setEpoch_of;show ApK;have hp:=znj AMx es;refine A2X ((pickOrder (w.params.setOrder S ep) es).toList.map (·.2)) (At s0) C1 (AEz) Ar1 (fun A' hh=>ycc hh hbt O) (BH hp.length_eq) ?_ (A0o (hp.map _).mem_iff.mp)
  rw[List.map_map];exact(hp.map _).trans O.key
 | false=>
  have aa8:By mq w:=AUW mq hbt
  cases hdr:AM7 with
  | false=>
   show AzN (! false&&false);show BGM wpAny_setEpoch_of;show ApK;rw[aa8] at O;refine A2X (es.toList.map (·.2)) (xw (ah AlU)) C1 (AEz) Ar1 (fun A' hh=>yef hh hbt O hdr) Μ ?_ scn
   rw[List.map_map];exact O.key
  | true=>
   rw[AP9 (My (! false) true),BU];refine iF drawOrder (zso es.size (List.range es.size) Μ (ψ ps d hps))
   show Anh hpl
   refine M3 newTuple (wpAny_newTuple ?_ (by show x0 hpl;exact hb))
   have hgt:Z3 (AAr A0Z) S:=zY _ hg;refine CU (setEpoch S) (wpAny_setEpoch_of hgt O.dat O.fit ?_);show ApK;have hpm:(ps.map fun p=>AcY).Perm (es.toList.map (·.2)):=by
    refine AKz hps.map ?_;have:GS (KE es.size) p AcY=es.toList.map (·.2):=by
     show UI
     ·simp
     ·show wS;have:Aak:=AN h1
      simp [this]
    rw[this]
   refine fin _ d Azw [(s.heap.objs.size,A0Z)] (At iA) (Agm Heap.size_push) (md ob VU) (HQ p q) (fun A' hh=>yd9 hh O hps CO) (FX hpl) ?_ (A0o hpm.mem_iff.mp)
   ·obtain rfl:p=_:=AN q
    exact⟨LW,GB⟩
   ·refine(hpm.map kf).trans ?_;rw[List.map_map];exact O.key
abbrev jY:Obj:=AHy
theorem zm1(AMI)(hg:lI)(O:pO knd kf (mq w) o ks es ep t)(hb:Υ es.size)
  (h:∀(vals:Ζ) (h' :Heap) d tk,Ο Amm Awc As1 (AWu) (Q vals A'p)):
  AGw collect S:=by
 show UQ hSl S (zF hg);unfold collect;show Axp (codeAny_builtin PySem.F.entry_proto_collect ?_);show BGR;show FB (Ab4>>=fun l=>(Aki "list.__iadd__" (D7 [l,ARm])));show AuP;show A0x;show BGS;have hg1:Z3 (AAr jY) S:=zY _ hg;have hT1:Shared.TypeIs (AHY jY) AJs "set" :=Aeg hg1;show FB (Builtin.List.listExtendWith MC AJs MC);unfold Builtin.List.listExtendWith;show Al5 hT1;have n1:Builtin.List.listSameRef MC AJs=false:=RU Builtin.List.listSameRef (AJX hSl)
 rw[D_ (ADd n1)]
 refine M3 pyIter (z6l hg1 O hb fun I h1 d n vals St fp L=> ?_);show NA (holding _ _) Ab9;unfold Builtin.List.listLengthHint;have hg2:Z3 h1.get? S:=L.kep S o hg1;have hT2:Shared.TypeIs (AnV h1) AJs "set" :=Aeg hg2;show AmP PySem.F.slot_set_len.lookup;dsimp only;rw[Ad9 (ρ (splitId "set.__len__") ("set","__len__"))]
 dsimp only;refine iF isInstance (wpAny_isInstance hT2 sub_set_self ?_);rw[Ω χ,AZ Lu]
 show Al5 hT2;dsimp only;show ĕ;show DU Lu
 show NA (rule _) wpAny_rule;have hS1:ρ (h1.get? s.heap.objs.size) jY:=L.kep _ _ AXR;have hNI:s.heap.objs.size≠I:=zH (zK (B4 Heap.size_push (Nat.lt_succ_self _)) L.new)
 refine M3 Builtin.List.listTouch ?_;show FB (updateSeq s.heap.objs.size (·.push .none)>>=fun _=>updateSeq s.heap.objs.size (·.pop));refine iF updateSeq (wpAny_updateSeq hS1 rfl ?_);show Ad5 hS2 (Obj.mapSeq (·.push Value.none)) hS1;refine wpAny_updateSeq hS2 rfl ?_;show Ad5 hS3 (Obj.mapSeq (·.pop)) hS2;have oth:∀b ob,AQH ->oo h1.get? ->oo ((h1.update s.heap.objs.size (Obj.mapSeq (·.push Value.none))).update s.heap.objs.size (Obj.mapSeq (·.pop))).get?:=
  fun b ob q e=>AjM (AjM e)
 have hNf:s.heap.objs.size∉fp:=fun q=>by
  show JS (L.fpn _ q)
  ·exact TC z Nat.ne_of_gt hSl
  ·have z' :ABa jY<=s.heap.objs.size:=z;rw[Heap.size_push] at z';exact TC z' Nat.not_succ_le_self _
 have En:Υ n:=by
  have e1:=L.lem;have e2:es.size=ks.length:=AN O.key.length_eq
  omega
 have W:=L.wk A.in1 AeL
 refine A3 ⟨BGZ,codeAny_extend_loopS W.toS En _ hNf _ n 0 _ _ _ rfl dc (W.frame 0 h1 _ L.st fun b q ob e=>oth b ob (NG (hNf (z ▸ q))) e) hS3 BDt A'I⟩;show Pl (load s.heap.objs.size);refine M3 load (wpAny_load hS' ?_);show ĕ;have ev:acc.toList=vals:=by
  apply List.ext_getElem?;intro i;show EZ CH
  ·have hi:i<acc.size:=gS AJY
   have:=hacc.2 i acc[i] (Array.getElem?_eq_getElem hi);rw[Array.getElem?_toList,Af0,this]
  ·exact(List.getElem?_eq_none (by rw[Array.length_toList,AJY];omega)).trans (List.getElem?_eq_none (AAm L.len)).symm
 rw[ev];show Am1;show AnT;show AkZ d;show AjY;refine h vals h' d' tk' L.key L.mem (zF hS') (HH ob e);show AWv;have hbN:AQH:=zH hlt;refine hm.heap b ob ?_ (oth b ob hbN (L.kep b ob OI));show ANU;exact⟨hbN,Ξ (hbN (by
  subst z;have z2:ABa jY<=b:=L.new;rw[Heap.size_push] at z2;exact absurd hlt (Nat.not_lt_of_ge (Nat.le_of_succ_le z2))))⟩
#where
def Cy:xy Int | AMK=>i | _=>0
theorem ybf:Abb (AJG PySem.intKind k v=true) Cy:=fun k v h=>by
 show LU (Value.isInt_shape h)
 rfl
theorem z1z:FG vs Ζ (Awb PySem.intKind) (IntsAre vs (vs.map Cy))
 | [],_=> B9
 | AEP,h=>by
  obtain⟨⟨k,hk⟩,_⟩:=AXV;show Cn t rfl Value.isInt_shape hk;exact AR5 (z1z fun u hu=>AvG)
theorem yg3(hob:OB (WI xs n)):∃e,BN A'G (WI out e):=by
 have hal:a<h.objs.size:=zF hob;have h1:=get?_update_seq hob APM;have h2:BN (AuU (AN' h.update a (C4 #[]) push)) (WI #[] _):=zY _ (zY _ h1);exact BDx h2 (At out)
theorem z95(hb:P7)(hne:Qr):ER A'G:=by
 have h1:ER (AN' h.update a (C4 (#[]:D3)) get?):=(ADL hne).trans hb;exact(ADL hne).trans (ALy h1)
section
variable{prog:Program}{w:World}{A:Around}{E:dR}{s:Shared}{S:Addr}{ks:Φ}
theorem z0b(hh:NB)(hS:sU (PySem.intKind prog w) Cy (mq w) s.heap S ks)(h64:ks.length<64)
  (h:∀(l:Addr) (h' :Heap) d tk (out:Ζ) (ms:Φ) e,XZ l ->IntsAre out ms ->Ο (ms.Perm ks) AQm (AOF l (WI out.toArray e)) (AWu) (HI l A'p)):
  At0 [.ref S]:=by
 obtain⟨o,es,ep,t,hg,O⟩:=hS;show Amg ks.length
 show š 64
 refine Calls.call_function_entry kind_sorted plain_sorted entry_sorted (args_sorted1 _) (Bz (ANj (Builtin.«sorted» _) _ _) ?_);unfold Builtin.«sorted»;show NA A7u A3;refine CU (collect _) (zm1 AeL hg O ξ fun vals h1 d tk hk hm hlt hold=> ?_)
 have En:vals.length=ks.length:=AN hk.length_eq
 refine M3 newList (wpAny_newList ?_ ξ)
 show À hoL h1.push BFp h1.objs.size BFp LW;have hI:=z1z hm;show A'X (list_sort_tree (ns:=vals.map Cy) hoL hI ξ fun out ms a1 a2 a3=>ADp)
 refine A3 ADp;show Cn e he (yg3 (vs:=vals) (out:=out)) hoL;have hle:s.heap.objs.size<=h1.objs.size:=Nat.le_of_lt hlt;refine h h1.objs.size _ d tk out.toList ms e hle a1 (a2.trans hk) a3 (B4 Array.toArray_toList he) (HH ob eb)
 have e1:=hold b ob eb;exact z95 Aer (zH (zF e1))
#where
def Eo(P:Program)(w:World)(a:Addr)(ns:Φ):HO:= AWF (sU (PySem.intKind P w) Cy (mq w) h a (lN AD' ns.length))
theorem yam(I:Η)(d):fA AlE:=⟨I.ok,I.os,I.bare,I.base,I.loc,I.cell,I.free,I.freeC,I.pin,I.hok,I.len⟩
def Sh(Y_):UX:=so (∃(p:Addr) (ns:Φ),vs= [L_]/\rS p AN4/\AKb ns.length/\y0 q q q (KG q AjN))
def aa9(Y_):UX:=so (∃(q:Addr) (ns:Φ),vs= ALH/\KL q AjN/\ MI lN AD' ns.length<64/\
 A3t (ms.Perm (lN AD' ns.length)))
theorem z8b(wc):va "set" (Sh X):=by
 rintro pins s σ H xs us Q I r ⟨p,ns,e0,hq,hb,k⟩;subst e0;show NI;cases rx;show AqR;show RO;show ľ;have hI:=zpf rv;show A0b hl.symm
 refine zmm (κ:=Int) (knd:=PySem.intKind X.prog X.w) (kf:=Cy) ybf (val:=AuS) eL pl.isList (ψ i v hv) (B4 hsz hb) A4R
 ·show LU (IntsAre.int_at hI i v (BH hv))
  exact⟨D5 intKind_is,rfl⟩
 ·rw[hsz] at hS;have I2:ĵ (AZT Eo) OW:=
   kX I.laid hold C1 (Y3 (AZT Eo) (A9Q q.stay st))
  exact AwM
theorem z7f(wc):hV "sorted" (aa9 X):=by
 rintro pins s σ H xs us Q I r ⟨q,ns,e0,hq,h64,k⟩;subst e0;show NI;cases rx;obtain⟨hS,_,_⟩:=qi q hq;refine z0b (I.ok.hd hc) hS h64 fun l h' d tk out ms e hle a1 a2 a3 hl hold=> ?_;have hlen:Υ (BE ms.map V.int):=by
  show x0 a2.length_eq;have:aE 64:=AB
  omega
 have I2:AJw Abt OW:=
  kX I.laid hold hle (Y3 (BV Abt) ⟨hlen,out,e,Rf a1,hl⟩)
 exact Awj (k l ms (Abg hle) a2 a3)
def z42:Kk:=iq (∃ns,AJE/\ns.length<63/\Ő Φ (ARQ ms.Pairwise) AsD T_)
theorem zw6:AEk "set" "set":=tS
section
variable{X:Cx}{F0 H0:Hp}{a e:Expr}{pos p pos2 p2:Pos}{t:bZ}
theorem ye4(ns:Φ)(k:Int):k∈lN AD' ns.length↔k∈ns:=by
 rw[XH];constructor
 ·show ACl j hj;show AQc∈ns;rw[List.getD_eq_getElem?_getD,ASp];exact yU hj
 ·intro h;show b0 j hj AdV;exact⟨j,hj,by show ns.getD j 0=k;show AJa ASp;exact e⟩
theorem yb5(A_y):
  A7m z42:=fun z E cx=>by
 have inner:Aum (Nu (Sh (X.wsh z)) (AfE E)):=ASf (z8b hc) hg2 hm2 zw6 Cf χ χ he rfl
 refine oU (ApG z7f (QJ inner Wq he2) χ χ he2 rfl) (AS1 ?_)
 show Of hq1;refine ES (fun ds Γ1 F1 H1 vs R1 s1 r1 h1=> ?_);show tP z42;show OY
 ·show ADv;obtain⟨v,_,rfl,⟨l,us,rfl,hq,rs⟩,rfl⟩:=r1;obtain⟨ns,hns,hlt,h1⟩:=h1;show AjJ;refine⟨l,ns,rfl,ABg,by unfold scanBound;omega,AUj⟩
  have hml:=zrt AD' ns.length;refine⟨q,ns,rfl,jW,τ,Anb hp hs⟩
  have R2:VT F1 (Nw q AjN) Γ1:=R1.grow (mE (ADr (ADh R1.g hq0) (R1.g b u e)) (ADr (LJ hq0) e))
  obtain⟨R3,q1,q2,q3,ap⟩:=GX R2 hl2 (W7 (K:=X.K) (F:=F1) ms);refine Aom W7 ap (h1 ms ?_ (ET (hp.mem_iff.trans (ye4 ns i))));have nd:ms.Nodup:=hp.nodup_iff.mpr (zj9 _ _);have:=List.Pairwise.and hs nd;exact this.imp fun{a b} ⟨q1,q2⟩=>τ
 ·exact h1.elim
#where
def Itv(K:W.Frag)(a:Addr)(xs:Δ):It:=AEo (gT (UT/\kA)) (Zl xs.reverse) (AH8 AbC)
theorem z8f{P:Program}{w:World}{K:W.Frag}{tg:Expr}(a it:Addr)(xs:Δ):AFV AsI (AKw/\h.IsRevIter it a (Ă - 1 - K_)) where
 mem:=An
 obj:=Ŗ (by
  show ĳ
  obtain⟨_,o,e,c,d⟩:=st;exact AEe)
 keep:=AO7 ⟨ce,bi (st.2).at (APD it)⟩
 item:=by
  intro X hP hw hK hc i pins s σ H E I hf st hg;show KA;show Ş;show ALP;show RO;show U_
  have hj:AT5<xs.length:=τ
  show AFR (rv.get (zW hj));have hit:=st.2;rw[O0 (Ă - 1 - K_) (CY AT5)] at hit
  refine wpAny_pyNext_rev_item hit p.isList (x:=u) ASD (ψ h' hit' sb)
  show ANE;show Ki o e c d hit';show kK u (Np (s:=LX) e c d χ ⟨xs[AT5],H,I1,ru,FY ?_,EJ hx,ABW hf⟩)
  ·rw[List.getElem?_reverse hx,ASp]
  ·rw[O0 (CY AT5 - 1) (Ă - 1 - CY BQ)] at hit'
   exact hit'
 done:=by
  intro X hP hw hK hc i pins s σ H E I hf st hg;show KA;show U_
  have hle:xs.length<=i:=hg;have hit:=st.2;rw[show Ă - 1 - K_= -1 by have:=st.1;omega] at hit
  exact wpAny_pyNext_rev_end (I.ok.hd hc) hit AGS
 self:=fun _ _ _ _ _ st h=>wpAny_pyIter_revIter st.2 h
theorem zj4:AEk "reversed" "reversed":=tS
def Sv(Aig):TI:=A_T (R AsI H1)
theorem yh5{X:Cx}{a tg:Expr}(ApN)(hg:Gl X "reversed")(hm:Fm "reversed")(ha:AVT)(hs:Ct starEach [a] (FD (BF a) (FC [])):=by rfl):
  c0 (AIx "reversed") (Sv X.K ta):=by
 show d6;show AjU zj4;show AoL;show AfF;cases rx;show AiF;show RO;show AuD;have hit:(s1.heap.push Al').IsRevIter s1.heap.objs.size l (Ă - 1 - Ę):=IB _ LW (by show Data.fields _=_;show APl;simp [rawInt])
 refine wpAny_pyIter_revIter hit ⟨s1.heap.objs.size,ó,_,_,H1,rfl,AFH,z8f l _ xs,⟨G1,hit⟩,He,q hz⟩;show ACI
 exact ACd
def zky(YO):bZ:=IS (LV [Id] BEM)
theorem ybc(A8s):G5 K F HW (Itv K a vs) xs.reverse:=by
 show lL hl;show AGW BGI (QQ (by show BEW;rw[e,List.length_reverse];omega))
 show OH hv rv (vd (Xd rs) hd);show Afe (fw (ID hv) List.length_reverse)
 show B6 ⟨AMP,hi⟩ (ψ y H' z);show sd z z;rw[hv] at z;cases z;exact Ajj
section
variable{X:Cx}{F0 H0:Hp}{a e tg:Expr}{pos p pos2 p2:Pos}{t:bZ}
theorem zvg(hc:C7)(hg:Gl X "reversed")(hm:Fm "reversed")(ha:ACG)(hs:Ct starEach [a] (FD (BF a) (FC [])):=by rfl):
  AEi (AIx "reversed") (zky t):=A4f yh5 (fun ds Γ1 F1 H1 vs R1 s1 r1 h1=>by
  unfold zky at*;show OY
  ·show ADv;obtain⟨v,_,rfl,⟨l,us,rfl,hq,rs⟩,rfl⟩:=r1;exact AnU (fun hz=>(Ŋ (ybc hq rs hz)))
  ·show ü)
#where
theorem z4j:Aq0 "__len__" none:=Acj
theorem z77:Aq0 "__length_hint__" (BO (KI "list_reverseiterator.__length_hint__")):=Acj
section
variable{prog:Program}{w:World}{A:Around}{E:dR}{s:Shared}
abbrev oA:Obj:=AGr #[]
theorem zuu(AMI)(hit:s.heap.IsRevIter I l (ARl - 1))(hl:ATF items)(hz:Ads)
  (h:∀h' c tk,(AVr (b≠I)) ->AQh {cls:= L4,dict:=none,data:= .seq items.reverse c,slots:= #[]} ->AOc OW):
  Akb "list" [.ref I]:=by
 show UQ hIl I (by show õ e hit;exact G')
 show UQ hll l (by show õ e hl;exact G')
 have hne:l≠I:=by
  obtain⟨o,e,c,_⟩:=hit;obtain⟨o',e',c',_⟩:=hl;rintro rfl;rw[e] at e';cases e';rw[c] at c';exact dS Value.type.inj c' χ
 refine callType_codes (Q₁:=A5J (AHY oA)) PySem.F.called_list (PySem.F.typeCall_list_1 _) PySem.F.entry_list_init (code_list_new _ ka) (ψ obj s₁ h₁);show Zp rfl h₁;show AWR hS oA oA LW;show BB (Is hS) (PySem.F.args_list_init_2 _ _);show FB (Builtin.List.listItems (AA s.heap.objs.size)>>=fun old=>Builtin.List.listUpdate MC (At #[])>>=C4 (letGo old.toList.reverse>>=C4 (Builtin.List.listExtendWith MC r6 Χ)));refine M3 Builtin.List.listItems (listItems_at hS rfl ?_);refine CU (Builtin.List.listUpdate _ _) (listUpdate_at hS rfl ?_ dc dc);show Ad5 hS2 (Obj.mapSeq APM) hS;show NA (letGo _) wpAny_letGo;have oth:gg AQH (ER (AAr oA)) (ER (Anv get?)):=
  Z_ q e (AjM e)
 have hit2:Anv IsRevIter I l (ARl - 1):=bi hit.at (oth I o (zH hIl) OI);have hl2:Anv IsList l items:=bi hl.at (oth l o (zH hll) OI);generalize BBm s.heap.objs.size (Obj.mapSeq APM)=h2 at*;have hT2:Shared.TypeIs (PH h2) r6 "list_reverseiterator" :=hit2.typeIs;unfold Builtin.List.listExtendWith;show Al5 hT2;have n1:Builtin.List.listSameRef MC r6=false:=RU Builtin.List.listSameRef (AJX hIl)
 rw[D_ (ADd n1)]
 refine M3 pyIter (wpAny_pyIter_revIter hit2 ?_);show NA (holding _ _) Ab9;unfold Builtin.List.listLengthHint;show AmP z4j;show Pl (specialOf (Value.ref I) (Str.ofString "__length_hint__"));show AmP z77;dsimp only;rw[Ad9 (ρ (splitId "list_reverseiterator.__length_hint__") ("list_reverseiterator","__length_hint__"))]
 dsimp only;refine iF isInstance (wpAny_isInstance (b:=true) hT2 BCb ?_)
 rw[Ω χ,AZ Lu]
 show AV Lu
 show ĕ;show AV Lu
 have hSf:s.heap.objs.size∉ [I,l]:=by
  show ANU;exact⟨AJX hIl,AJX hll⟩
 have W:=Walks.listRev (prog:=prog) (w:=w) (A:=A.in1.in1) AeL I l hne items
 refine A3 ⟨BGZ,codeAny_extend_loopS W.toS hz _ hSf _ items.size 0 _ _ _ rfl dc ⟨G1,AE (O0 (ARl - 1 - Ę) (ARl - 1)) hit2,hl2⟩ hS2 BDt A'I⟩
 have ev:acc=items.reverse:=by
  apply Array.ext_getElem?;intro i;show EZ (i<items.size)
  ·have hi:i<acc.size:=gS AJY
   have:=hacc.2 i acc[i] (Array.getElem?_eq_getElem hi);rw[Af0,Array.getElem?_reverse q,this]
  ·rw[Array.getElem?_eq_none (by rw[AJY];omega),Array.getElem?_eq_none (by simp;omega)]
 subst ev;show Am1;show AnT;show AkZ s.drawn;show AjY;show B6 rfl (h h' c' tk' (oS ?_) hS');show AWv;exact hm.heap b o (by show ANU;exact⟨zH hlt,hb⟩) (oth b o (zH hlt) OI)
#where
theorem yeu(hc:C7)(hg:Gl X "list")(hm:Fm "list")(hg2:Gl X "reversed")(hm2:Fm "reversed")(ha:AVT)(hb:AEk "list" "list":=by show PF)
  (he:Ct starEach [a] (FD (BF a) (FC [])):=by rfl) (he2:Ct starEach (o6 AO1 [a] pos2) (FD (BF Agw) (FC [])):=by rfl):
  PE X A3T (Se ta vs (∃l xs,vs= [FI]/\lA X.K H1 l xs/\A8T Adg)):=by
 show EC;show AoQ
 show Aim ?_ he2;rw[he2];show FB (spliced (AZa Agw []));show BDy;refine wpAny_Call_Name_kw (Dr I hg2 hm2 zj4 ?_ χ χ)
 show Aim (APn (fh ha pos2 H _ I h)) he;show AoL;show AfF;cases rx;show AiF;show RO;show AuD;show AeA;have I2:Ć (w8 s1 (s1.heap.push (revObj l (AH5 - 1))) s1.toks):=I1.kept Th;refine zuu (I:=s1.heap.objs.size) (items:=its.toArray) (I2.ok.hd hc) RS (pl.isList.push _) AUK fun h' c tk hold hS=> ?_
 show AL2 Oh (AQS Al') LZ;show AjK pM (hold b o AMc OI);have I3:Axe (Nw (AQS Al') Adg):=
  kX I1.laid kp (Agm Oh) (Y3 Adg ⟨BGI,its.reverse,c,rv.reverse,AKa hS⟩)
 exact FL (.ref _) I3 (q _ (I1.hok.fresh (Agm Oh)))
def XM:Kk:=iq BDr
theorem z3h(hc:C7)(hg:Gl X "list")(hm:Fm "list")(hg2:Gl X "reversed")(hm2:Fm "reversed")(ha:ACG)
  (he:Ct starEach [a] (FD (BF a) (FC [])):=by rfl) (he2:Ct starEach (o6 AO1 [a] pos2) (FD (BF Agw) (FC [])):=by rfl):
  AIy A3T XM:=fun z E cx=>by
 refine oU (Bi yeu hc hg hm hg2 hm2 Cf Lu he he2) (EI wV ?_)
 show Of wV;refine ES (fun ds Γ1 F1 H1 vs R1 s1 r1 h1=> ?_);show tP XM;show OY
 ·show ADv;obtain⟨v,_,rfl,⟨l,us,rfl,hq,rs⟩,rfl⟩:=r1;refine AnU AUj;obtain⟨R2,q1,q2,q3,ap⟩:=GX R1 hq0 (Xd rs);exact al _ _ q _ R2 s1 q1 q2 q3 (Xd rs) ap h1
 ·exact h1.elim
theorem zmh{K:W.Frag}(self:Value):FG l Ζ (AuR l) (refuseLoop self "__setattr__" l=pure ())
 | [],e=>by show LL W.tailIn;cases e
 | v::r,e=>by
  show LL W.tailIn;rcases Bool.or_eq_true_iff.mp e with q | q
  ·rw[beq_iff_eq.mp q];exact PySem.F.store_ValueError.passes self
  ·split at q
   ·split at q
    ·show BBb beq_iff_eq q;rw[refuseLoop_ref];exact zmh self q.2
    ·cases q
   ·cases q
structure qw (wP):Prop where
 cls:vx
 g:Cp K C
 sa:Akx
 hd:ATd
section
variable{prog:Program}{w:World}{A:Around}{E:dR}{K:W.Frag}{h:Heap}{g:kQ}{d:Drawn}{t:Nat}{os:OsState}{x C:Addr}{o:Obj}{name:Str}{v:Value}
theorem z1g{Q:ASz}(X:MH)(c:AQT)(hn:aN K C name)(hx:AgQ)(hc:AgA)(hnc:Atg)(hd:AeN)
  (hq:∀h' tk',h'.Ns1 h.objs.size (AG y (GL y name t_ none)) ->Ad0 (BAp h.objs.size) ->(AMa (b≠x)) ->Q () (nN h' tk')):
  ALQ Ax_:=by
 have SF:=PySem.F.store_ValueError;have J:W.InstAt h x o C none:=⟨hx,hc,hnc,by rw[hd];trivial⟩
 refine W.set_plain (s:=AHa) X J c.sa ?_;obtain⟨bm,N,nm,qn,bs,hdct,sn,sub,ab,col,dd,k0,k1,k2,k3,k5,e1,T,ht,cd,hcd,hmro⟩:=NP X c.cls;have sub:W.Looks E1 h (isInstance XI (KF "object")) true:=J.type.andThen (W.looks_mroIn X c.g.ob);refine codeAny_call_builtin SF.slot.plain SF.entry (@W.check_slot E1 _ _ AOf "object.__setattr__" "object" "__setattr__" XI [.str name t,v] [] _ SF.kind SF.split sub (SF.args XI BCN v) ?_);have hm:W.Looks E1 h (mroOf E3) cd.mro:=(W.looks_clsIn X hcd).andThen .now;rw[W.osa_eq,refuse_eq];show EF z9 (AyE hm ?_);rw[hmro,refuseLoop_ref,zmh _ ht];refine zZ (z9 (AyE (W.looks_findIn X hn) Arv));dsimp only;show AU cd' hc' hd' W.any_some c.hd;obtain⟨oc,od,oda,osl⟩:=o;dsimp only at hc hd hnc;subst hc hd;show EF zZ (z9 (z9 (wpAny_loadPart hx (z9 (AbT (W.looks_clsIn X hc') ?_)))));rw[hd'];show dl
 dsimp only;show AV (FX typeHasDict)
 have body:wpAny E1 A.in1 (alloc T1>>=fun d=>(update x (AI9 d))>>=C4 (dictMade E3 x d)) (IL a (∃dx,ρ a dx/\A'7)) AHK AOf:=by
  have hx₁:B_ (h.push T1).get? (zC none oda osl):=zY _ hx;have hxs:x≠h.objs.size:=zH (zF hx);show EF wpAny_alloc' (z9 (wpAny_update' hx₁ ?_));refine zZ ADp;have hgd:ρ ((AzW x (AI9 h.objs.size)).get? h.objs.size) T1:=
   (ADL (n_ hxs)).trans (Heap.get?_push_at rfl rfl)
  have hnd:(AzW x (AI9 h.objs.size)).Ns h.objs.size Ade:=
   ⟨_,#[],_,hgd,rfl,fun e he=>(AHA he),AJ3⟩
  unfold Builtin.ObjectAttr.storeInDict Builtin.ObjectAttr.newKeyGuard;show EF zZ (z9 (wpAny_nsSet1 (Heap.Ns1.of_empty hnd) (ACr hn' hs)));obtain⟨oD,esD,epD,hoD,hdD,hcD⟩:=hn'.count (Within.cons name v Within.nil);show KW wpAny_lookBehind hoD (B4 hdD (pastItsLine_dict (zM hcD (by show AxK;omega))))
  have hx' :Ad0 (zC (some h.objs.size) oda osl):=by
   refine FE hs.2 x hxs (Heap.get?_update_self _ hx₁ ?_);have hfr:=(Heap.get?_some_iff.mp hx).2;cases oda<;>first | rfl | exact hfr
  refine A3 (FY (hq h' _ ?_ hx' fun b ob hbx hb=> ?_))
  ·exact hn'
  ·exact FE hs.2 b (zH (zF hb)) ((ADL hbx).trans (zY _ hb))
 have fin:∀a s',(∃dx,ρ a dx/\A'7) ->wpAny E1 A.in1 (ò a (some d) (Builtin.ObjectAttr.storeInDict d (Value.str name t) name v) (Builtin.ObjectAttr.noDictFor (Value.ref x) (Value.ref C) name false)) (IL fin (match fin with
     | Fin.done f=>
      match Except.ok f with
      | Aza=>ABL
      | Except.ok a=>False
      | BEJ=>E e s'
     | Fin.again c' =>
      A2 c'.quiet/\
       codeAny E1 A c'
        (IL r (match r with
         | Aza=>ABL
         | Except.ok a=>False
         | BEJ=>E e s'))
        s')) (IL e (E e s')) s' :=by
  rintro a s' ⟨dx,rfl,z⟩;exact wpAny_mono z (fun f s2 (ABO e)=>by subst e;exact q) BFG
 cases oda with
 | cls c=>cases hnc
 | _=>exact wpAny_mono body fin BFG
#where
section
variable{prog:Program}{w:World}{A:Around}{E:dR}{K:W.Frag}{h:Heap}{g:kQ}{d:Drawn}{t:Nat}{os:OsState}{x C dx:Addr}{o:Obj}{name:Str}{v:Value}{mA:CD}
theorem ybb(X:MH)(c:AQT)(hn:aN K C name)(hx:AgQ)(hc:AgA)(hnc:Atg)(hd:ρ o.dict dx)(hA:AX')(hv:AwS)(hv' :Ad6 v)
  (hq:Q v AOf):ALQ (getAttr XI name expr):=by
 show AU od ho hl zsm hA;have J:W.InstAt h x o C (BO od):=⟨hx,hc,hnc,AE hd ho⟩
 have LF:W.Looks E1 h (Builtin.ObjectAttr.find XI E3 name) (.value v):=W.looks_find X J (W.findObj_own c.hd hn rfl (i5 hl hv))
 have L0:W.Looks E1 h (typeOf XI) E3:=J.type;have L1:=W.looks_findIn (M:=model prog w) X c.g.ga;have L2' :=W.looks_findIn (M:=model prog w) X c.g.gn;have b3:=PySem.F.excAttr_ValueError.ga.bind XI;unfold getAttr getAttrBy;show EF wpAny_mkText (wpAny_holding (z9 (L0.at (z9 (L1.at ?_)))));have hx2:(AxY&&Aqc ==Aqd)=false:=by
  rw[Ad9 (Hk (Aqc ==Aqd)),Bool.and_false]
 show AQ3 hx2;unfold getAttrByItsOwn hookBefore callGetattribute;simp only [AP9 (A2 AxY),if_true];show IF L2'.at;simp only [AP9 (Hk (onTheHeap (Value.builtin "BaseException.__getattribute__"))),Bool.and_false,Bool.false_eq_true,if_false];unfold boundAndCalled;show ASU (wpAny_holding (z9 (wpAny_of_eq b3 ?_)));show Ato PySem.F.excAttr_ValueError.ga.plain F.entry_bexc_ga (zrp X c.g hx hc ?_);unfold Builtin.«object.__getattribute__»;show IF A3;show IF A3;show EF L0.at (z9 (LF.at ?_));exact A3 (W.handed_on hv' hq)
theorem z04{f:Addr}{rest:Ζ}{Q:DJ Fin}(X:MH)(hC:vx)(hi:ACX)(hf:AZH)
  (hq:P5 AwD (AgM (Q (.done (.ret (AA AIc))) s')) A4S) (hrest:Υ rest.length):
  ALQ (Builtin.«type.__call__» (D7 (GN::rest))):=by
 obtain⟨bm,N,nm,qn,bs,hdct,sn,sub,ab,col,dd,k0,k1,k2,k3,k5,hC,T,ht,cd,hcd,hmro⟩:=AML;have Fv:=PySem.F.excBase_ValueError
 repeat (first | show ALp hC | with_reducible refine wpAny_madeBy_exc hC ?_ | wp_step)
 refine codeAny_call_builtin_code (BDw Fv.quiet) (wpAny_check_new_subU Fv Fv.hasB T hC ?_);refine codeAny_exc_new_subU Fv Fv.hasB Fv T hC ?_ hrest;show D5 wpAny _ _;have X1:K.In (Auk AI8):=X.keeps (HK ASa);have hC₁:=zY AI8
  (zY APX hC)
 show À hget Auk AI8 AIc AI8 (by heap_get)
 have hcC:By (Value.ref C::bm).contains E3:=An
 have LI:=W.looks_findIn (M:=model prog w) X1 hi;unfold isInstance
 repeat (first | show ALp hget | show Arf hC₁ hcC | wp_step)
 show FB (typeLookup E3 _);refine LI.at ?_;refine wpAny_holding (z9 ?_);refine(W.bind_fn X1 (AA AIc) hf).at ?_;show uu hq (ψ r s' hr) (FU z z);show sd hQ hr
 wp_walk
 exact hQ
theorem z8k{f:Addr}{rest:Ζ}{Q:dR}(X:MH)(hC:vx)(hi:ACX)(hf:AZH)
  (hq:wpAny E1 (A.under (AO6 (D7 (GN::rest)))) AwD (AgM (HI AIc s')) E
   A4S) (hrest:Υ rest.length):
  ALQ (call E3 rest):=by
 obtain⟨bm,N,nm,qn,bs,hdct,sn,sub,ab,col,dd,k0,k1,k2,k3,k5,hC',T,ht,cd,hcd,hmro⟩:=AML;have f1:=tc_lookup;have f2:=tc_bind E3;have hT:(AHa:Shared).TypeIs E3 "type" :=Is hC';show AUk codeAny_of_tree;show FB (callAny E3 _)
 repeat (any_goals (first | assumption | show ALp hC' | wp_step))
 show CI rfl;exact codeAny_call_builtin_at (BDw Lu) entry_typeCall (wpAny_check_type_call_sub hC' (z04 X hC hi hf hq hrest))
theorem z39{t0:Addr}{od:JP}{sl:í}{rest:Ζ}{Q:dR}(X:MH)(hC:vx)(hx:B_ h.get? (Ahb t0))(hrest:Υ rest.length)
  (hq:vi (AMa (b≠x)) (Ad0 (Ahb h.objs.size)) (Q Χ (nN h' t))):
  ALQ (AIt "ValueError.__init__" (.ref x::rest)):=by
 obtain⟨bm,N,nm,qn,bs,hdct,sn,sub,ab,col,dd,k0,k1,k2,k3,k5,hC,T,ht,cd,hcd,hmro⟩:=AML;have Fv:=PySem.F.excBase_ValueError;show Ato Fv.init.plain Fv.initEntry (wpAny_check_init_subU Fv T hC hx rfl ?_);have hx1:B_ (h.push APX).get? (Ahb t0):=zY _ hx
 wp_walk
 refine hq _ (fc u e ?_) ?_
 ·rw[AXO];exact VU
 ·rw[AOa hx1 rfl]
  rfl
theorem z5o(hC:vx)(hh:NB)
  (hm:wpAny M A m (UA s₁ (∃e oe fv,v= .ref e/\K.In s₁.heap/\ρ (s₁.heap.get? e) oe/\oe.cls= GN/\oe.data= AAs fv/\E (AA e) s₁)) E s):cn (raiseStmt env (BO m) none):=by
 unfold raiseStmt;show uu hm (ψ v s₁ h₁) wo;obtain⟨e,oe,fv,rfl,X,he,hc,hda,hE⟩:=h₁;obtain⟨bm,N,nm,qn,bs,hdct,sn,sub,ab,col,dd,k0,k1,k2,k3,k5,hC,T,ht,cd,hcd,hmro⟩:=AML;have hcB:By (Value.ref C::bm).contains (KF "BaseException"):=by rw[List.contains_cons,T.hasType PySem.F.excBase_ValueError.hasBase,Bool.or_true]
 show ei s₁;obtain⟨oc,od,oda,osl⟩:=oe;dsimp only at hc hda;subst hc hda
 repeat (first | show ALp he | show ALp hC | show Arf hC hcB | wp_step)
 exact wpAny_raiseNew_none hh hE
theorem z30{env:Env}{s:Shared}{f:Addr}{y:Str}{np cpos pos:Pos}{args:AD}{Q:DJ Flow}(hC:vx)(hh:NB)(hplain:Si (backTo cpos (starEach args env)).any (·.1))
  (hi:ACX) (hf:AZH)
  (h:Alw (ED y np) fv (fv= GN/\P5 (evalArgs E3 true (backTo cpos (starEach args env)) []) (fun a s₂=>a.kw= []/\Υ a.pos.length/\K.In s₂.heap/\
    wpAny E1 (A.under (AO6 (D7 (GN::a.pos)))) (call EQ (.ref Adb::a.pos)) (AgM (∃oe fv,K.In s'.heap/\ρ (s'.heap.get? Adb) oe/\oe.cls= GN/\oe.data= AAs fv/\E (AA Adb) s')) E
     (ZZ s₂ ((s₂.heap.push (ac a.pos.toArray)).push (AaC s₂.heap.objs.size)))) s₁)):
  Ff (exec (BBX (xF (ED y np) args)) env):=by
 rw[arm_exec_Raise];show EF wpAny_standAt (z5o hC hh ?_);show uu (wpAny_Call_ofName (AJm h (ψ fv s₁ h₁) wo)) (fun v s₃ h₃=>z9 (wpAny_standAt (zZ h₃))) wo;show sd h₁ h₁;unfold callWith;show AeB (AJm h₁ (fun a s₂ h₂=>z9 (wpAny_standAt ?_)) wo);obtain⟨apos,akw⟩:=a;obtain⟨hkw,hlen,X,h₂⟩:=h₂;obtain rfl:akw= []:=hkw;show ei s₂;obtain⟨bm,N,nm,qn,bs,hdct,sn,sub,ab,col,dd,k0,k1,k2,k3,k5,hC',T,ht,cd,hcd,hmro⟩:=AML;simp only [hplain];show L' wpAny_keeperOf_exc hC';refine z9 (z8k X hC hi hf (AJm h₂ (fun r s' hr=>⟨hr.1,z9 (wpAny_holding (wpAny_point (zZ ?_)))⟩) (FU z z)) hlen);obtain⟨_,oe,fv,X',he,hc,hda,hE⟩:=hr;exact⟨_,oe,fv,rfl,X',he,hc,hda,hE⟩
#where
def XO(e C:Addr)(od:JP):HO:= AWF (∃t,Amk)
theorem XQ(hok:Os)(q:KL e (XO e C od)):∃t,Amk:=(hok e _ q).1
theorem yei(q:Amk):YR e (XO e C od):=
 ⟨ABO t,C6 q,Ō ⟨u,z⟩ st ⟨u,st _ z⟩⟩
theorem z19(k:YR b u):∃o,P7:=by
 cases u with
 | lst xs=>show AdD k;exact C6 e
 | tup xs=>obtain⟨_,_,_,o,e,_⟩:=k;exact C6 e
 | dK kvs=>show AXo
 | dT kvs=>show AXo
 | set S n=>show AHg o k;exact C6 e
 | ins C dx fs=>show AdF k;exact C6 e
 | own y=>exact k
 | xd fs=>show AdG k;exact C6 e
 | rng lo hi=>show AdE k;exact C6 e
 | frz ob u=>obtain⟨e,_⟩:=k;exact C6 e
 | Hs ps=>show ArB
 | met f y=>show ArB
 | ext φ=>obtain⟨_,e,_⟩:=k;exact e
section
variable{X:Cx}{pins:dJ}{σ:St}{H:Hp}{s:Shared}{A:Around}{E:dR}{a C dx:Addr}{f:Str}{y v:V}{u:Value}{fs:US}
theorem ydy(I:Η)(e:E_ Aap)(Ajd)(ry:JY)
  (h:∀dx s',Sm dx ->dx≠a ->KB (AtT (KG a ATv)) s' ->ABL):A1I:=by
 obtain⟨t,hx⟩:=WB XQ;show ei s;have hlt:a<hp.objs.size:=zF hx;refine A9' z1g (fun h' tk' ns hx' kp=>h hp.objs.size _ ACR (ú hlt) ?_);have gs:BN (Ax6 a) (zC (some hp.objs.size) (AAs t) #[]):=AOa hx rfl;have I1:pV a (XO a C (BO hp.objs.size)) (w8 (nN hp tk:Shared) (hp.update a (AI9 hp.objs.size)) tk):=
  AMT a a AWN Pe (fc u z (AIV AHr trans z)) (C6 gs) (yei gs)
 refine I1.laid (t' :=tk') (HH u z) (Nat.le_of_eq (Heap.size_update ..)) (BY ns (Jn g))
 ·show SL
  ·subst hb;rw[show Ax6 b b=_ from gs] at z;cases z;exact hx'
  ·exact kp b u hb (AIV AHr symm.trans z)
 ·show lX (List.lookup g [(f,y)]) (AC (g=f) uA none);show OM g f
  ·have hb:aa g f:=beq_iff_eq.mpr q;show ř E6;exact ry
  ·show da hb (g==f) (beq_eq_false_iff_ne.mpr q);show ř JI;trivial
theorem yej(I:Η)(e:E_ ATv)(ed:KL dx (.xd fs))(Ajd)(A_t):A3a:=by
 obtain⟨t,hx⟩:=WB XQ;obtain⟨mA,ns,r⟩:=qi dx ed;show AFR (AZF (mA f) (A7 l (r f)))
 show ei s;exact A9' ybb ns hu (ztg ru) AyS
#where
def Sw(C:Addr)(f:Str)(ta:TE):TE:=RR (∃a dx fs v,x= AR/\qB ATv/\AxU/\APu/\ATi)
def Sx(sQ)(f:Str)(ta tv:TE):TS:=Ax3 (AOj (AJ5 Aap) (∀dx,H2 dx=none ->dx≠a ->WC (AtT (upd H2 a ATv))))
structure Ep (K:W.Frag) (B:Addr):Prop where
 sp:AyR (AA B)
 rd:A2 (W.readsIn K B ASV)
 fi:ρ (W.findCls K (AA B) ASV "__init__") (Aj' "ValueError.__init__")
section
variable{X:Cx}{o e value:Expr}{f:Str}{pos pos' apos p:Pos}{ta tv:TE}{C B:Addr}{x:Str}
theorem ya5(Ajd)(A0j):A0v (Sw C f ta):=by
 show EC;refine z2f hb (cJ z0 (PQ u hq1));obtain⟨x,H1,I1,rx,a,dx,fs,v,ex,ea,ed,l,q⟩:=hq1;subst ex;show la;exact yej I1 ea ed c n l A9R
theorem yba(c:APb)(n:sP)(ha:PE X o ta)(hv:AkR)(hs:AX_ o):AEb (AQa o f) value (Sx C f ta tv):=by
 show SD;show AsR u AyL (A6k ⟨x,H2,I2,rx,a,ex,ea,q2⟩);subst ex;show ŷ ov rx;exact ydy I2 ea c n ry fun dx s3 h1 h2 I3=>⟨σ,_,I3,q2 dx h1 h2⟩
theorem z6e(c:APb)(cb:Ep X.K B)(hg:TM)(hm:AOx (AA B))(ha:PA X AQb t)(hd:B1 x "__debug__":=by decide)
  (hst:Ct starEach AQb (FD (BF e) (FC [e2])):=by rfl) (hpl:ff pos [e2]:=by rfl)
  (ht:Ct eval Ayc (do
   let ov<- BF AZ0
   ALe
   let (f,first)<- AM' "__init__" pl
   ANW (AM6 AQb) AZC):=by rfl):
  PE X Ayc (ALN (∃a od v,vs= [AR,v]/\qB Afj/\Q Ρ (Nw a Afj))):=by
 show EC;refine Am6 (Kv I hg hm ?_ hd) ht;refine W.method_cls I.kIn cb.sp (W.cls_value I.kIn cb.rd cb.fi rfl ?_);have I0:=I.tok (AN8);refine PyProof.Rows.callWith_builtin1 (Pp (ha pos pins _ σ H _ I0 h) us ⟨vs,H1,I1,r,a,od,v,ev,ea,q⟩) hst hpl;subst ev;show Bn u u2 ru ru2 (vals2 r);show ŷ u ru;obtain⟨t0,hx⟩:=AWD XQ;show ei s1;refine z39 I1.kIn c.cls hx (by show AxK;omega) fun h' kp hx' =>(FL Ρ (I1.write (x:=a) (e:=a) (B4 ea True.intro) Pe (fc u z (kp b u hb z)) (C6 hx') (yei hx')) q)
#where
def z6b(bn:Str)(p apos pos:Pos)(args:AD)(env:Env)(pl:ATW):Prop:=eval (BCX (ED bn p) args) env=(do
   let ov<- eval (ED bn p) env
   ALe
   let (f,first)<- AM' "__init__" pl
   ANW (backTo pos (starEach args env)) (backToKw pos (keywordEach [] env)))
def Sy(AXs)(f:Str)(sp:cP):Sp:=A'U (A7T (APv Ag_ AWM Pd (∀d F' H3 v dx H',Azs (H3 dx=none) A'k)))
section
variable{P:Program}{w:World}{K:W.Frag}{mg:CD}{base:Heap}
theorem z87{x qual:Str}(AFz){fd:FuncData}{N ps:ο}{k:Nat}{sp:cP}{C B:Addr}{fl bn:Str}{value:Expr}{p1 p2 p3 p4 p5 p6 p7 p8 p9 p10:Pos}(Fn:Ŕ)
  (hbd:wJ st= [.Assign [.Attribute (ABx p1) fl p2] value p3,.Expr (ma (ū (ED bn p4) "__init__" p5) A'i p9) p10]) (S:AFj Ab6)
  (hc:AQT) (hB:Ep K B) (hmB:nX bn B) (hn:aN K C fl) (hN:Aub) (Lk:A0M) (len:ANQ)
  (hdb:B1 bn "__debug__")
  (hbody:∀(cdv:Value) (A:Around) (outer:EX) (s:Shared) (H:Hp) (E:XK),AFW (∀F0:Hp,
   Gl AfQ bn/\
   ANp (swapsWith value (BO (ū (ABx p1) fl p2)) p3.line AfX)/\
   (∃pl,z6b bn p4 p5 p9 A'i AfX pl)/\
   ∃te,A2L/\
    A7n (te (iR N AIp) AZS SZ))):
  AwN Sy:=by
 obtain⟨oc,od,kV,doc,pm,an,cdv,ct,osl,rfl,lk,hcd⟩:=Fn.ex;show ANe (fun A outer s H vs Q E hr hq2=> ?_)
 ·obtain⟨x,rest,F,ds,Pd,Ex,e,_,_,_,rs,hs,_⟩:=hq1;rw[e,List.length_cons,List.length_cons,<- W',AM3]
 obtain⟨a,rest,F0,ds,Pd,Ex,ev,hx,sF,fx,rs,hsp,hQ,hE⟩:=hq2;subst ev;obtain⟨hgB,hsw,⟨pl,hpl⟩,te,hte,hq⟩:=Abe;show ANd (by
  show AC' (fun pins σ Γ F H1 s1 e s' I R hx=> ?_);show AGX;obtain⟨Γ',F',x,R',_,xr,_,z1⟩:=z;exact ANg)
 rw[hbd];have Er:∀q,PE AfQ (ABx q) (Ku 0):=fun q=>wK (i:=0) hN Lk;show kP (ZQ (yba hc hn (Er p1) ArZ hsw) (ZR (ZV (z6e hc hB hgB hmB (QJ (Er p6) (QJ (ya5 hc hn (Er p7) rfl) Wq)) hdb rfl rfl hpl))));refine A'C (fun d Γ1 F1 H1 v R1 s1 rv hp=> ?_)
 obtain⟨h0,hp⟩:=hp;show T' eo ro (R1.sl 0 _ h0);show ON u ru ro;show Kt ru;subst ru;refine⟨AR,eo,a,rfl,AtU,ψ dx n1 n2⟩;refine⟨AR,eo,AR,eo,a,dx,_,v,rfl,AwB,jW,A0 List.lookup,?_⟩
 show SI a (some dx) v rfl AwB
 refine hQ d F1 H1 v dx _ R1.gr rv hp n1 n2 jW (i5 (dI n2) jW) fun b q1 q2=>by rw[dI q1,dI q2,dI q1]
#where
def zv8(C:Addr)(sp:cP)(t:bZ):aF:=AnL AsO
theorem zun:∀(l:AO) {h:Heap},a∈l ->Sf (W.hideAll h l).get?:=fun l h m=>W.hideAll_none l m
section
variable{X:Cx}{F0 H0:Hp}{e:Expr}{es:AD}{pos np cpos:Pos}{t:bZ}{x fl:Str}{C f:Addr}{fd:FuncData}{ps:ο}{k:Nat}{sp:cP}
theorem z5b(hh:C7)(hg:TM)(hm:Ab7)(hC:APb)(hi:ρ (W.findIn X.K E3 "__init__") (BO EQ))(hf:W.isFn X.K EQ=true)
  (Fn:A8f Sy) (hr:AL9) (hb:ANX) (AlD):
  Axo:=by
 rintro z E cx pins s σ H D I ⟨F,Γ,D2,R,h,k'⟩;refine z30 (K:=X.K) (C:=C) (f:=f) hC.cls (I.ok.hd hh) ?_ hi (beq_iff_eq.mp hf) (Bi Kv I hg hm (FY ?_) hd)
 ·rw[he];show AtX
  rw[hpl];rfl
 ·have key:=AKI cpos (fun vs H1=>∃F1 Γ1 ds,wT/\AF'/\Υ ds.length/\AsO) I (ES (fun ds Γ1 F1 H1 vs R1 s1 r1 h1=>⟨F1,Γ1,ds,R1,r1,h1⟩));rw[he] at key⊢;refine Calls.evalArgs_plain (wpAny_mono key (fun us s2 ⟨vs,H1,I1,r,F1,Γ1,ds,R1,rs,hlen,q⟩=>⟨rfl,by show Υ us.length;rw[<- r.length,<- W'];exact hlen,I1.kIn,?_⟩) AXT)
  show wpAny ZY _ (call EQ (Aql Value.ref::us)) _ _ _;show À ge Aul AUP (s2.heap.objs.size+1) (zC none (AAs s2.heap.objs.size) #[]) (AFG (zX (s2.heap.push Abs) (o:=AUP) rfl) Heap.size_push)
  have kp:yy s2.heap.get? (ER (Aul AUP).get?):=HK ASa;generalize hh2:(s2.heap.push Abs).push AUP=h2 at ge kp⊢;show Alv (Aql H1);generalize hea:s2.heap.objs.size+1=a at ge n1⊢;have hle:s2.heap.objs.size<=a:=τ
  have I2:AbZ AUa (w8 s2 h2 s2.toks):=I1.laid kp hle (yei ge);show Ak' AUa (AE (LJ n1) e)
  have f1:Sf F1:=by
   cases q:F1 a with
   | none=>rfl
   | some o=>show IQ (R1.g _ _ q) n1 n1
  have u1:AiZ AUa s2.heap h2:=Un.laid kp hle n1;have hs:Sy X.K C fl sp (AR::vs) AUa (UA H' (v= Ρ/\AT_ /\ (∃od,BN H' Afj)/\AQR)) (fun C' Dy H' =>(AoS Ao0)):=by
   refine⟨a,vs,F1,ds,_,_,rfl,jW,Agg,f1,rs,q,?_,fun x C' Dy F' H' hE gr xr=>Aw3⟩;intro d F' H3 v dx H' gr rv hp n3 n4 e1 e2 e3;show DC rfl (HH o eb) (C6 e1) hp;have ba:Qr:=lY eb n1;have b3:ER H3:=gr.h _ _ (sH _ _ eb);rw[e3 b ba (lY b3 n3)];exact b3
  show AM_ Afo (by
   have e:=AMR;show AnC (V.ref a) e)
  have hbs:=hb (ZZ s2 h2) Afo I2.kIn (B4 List.append_nil hl)
  show AMF;show Ain (Fn.run _ X.stack _ _ (D7 (Aa'::us)) Afo _ _ _ (hr.make C us []) (I2.env0.make C us []) hbs (.cons (Bz (RelV CB (Value.ref a)) rfl) r) hs) (ψ r' s' hq');cases r' with
  | error e' =>exact ANB H1 s2 e' s' I1 R1 (zk2 hq' rfl u1 kp)
  | ok RX =>
   cases RX with
   | ret u=>
    obtain⟨v,H',os,bare,un,hok,rv,ev,sS,⟨od,ea⟩,hE⟩:=hq';subst ev;show CI rv;have I3:AbZ H' s' :=A9g (I2.call' (s' :=s'))
    obtain⟨t0,gx⟩:=XQ hok ea;refine⟨_,t0,I3.kIn,gx,rfl,rfl,?_⟩;have JL:=u1.trans un;have nH:Tk Al3 (Qr/\LT H'):=fun b u eb=>by
     show SL
     ·simp [hb] at eb
     ·exact⟨hb,AJj hb eb⟩
    have yH:∀b u,Qr ->LT H' ->LT Al3:=RH hb eb (RU hb eb)
    have nfr:Tk H' (b∉Ł):=RH eb hm (by
     have:=I3.stkFree b hm;show Ap eb;show DT)
    refine ANB H1 s2 CB s' I1 R1 ⟨a,GN,Al3,W.hideAll s'.heap (a::Ł),none,rfl,os,bare,?_,?_,?_,?_,?_,GN,F1,hE,mE ?_ ?_,rfl,trivial⟩
    ·refine⟨JL.keep,JL.slot,fun b o eb n hx=> ?_,JL.there,HH xs eb,Z_ u eb ?_,HH ps eb⟩
     ·have:=JL.free b o eb n hx;simp [this]
     ·exact Akn (JL.tups b xs eb)
     ·exact Akn (JL.oX b o u eb)
     ·show vS more q (JL.qp b ps eb) more (Akn q)
    ·intro b u eb;obtain⟨hb,eb⟩:=nH b u eb;refine œ hok eb (AGZ q q) (UB q A1N) fun c xs q=>A1N
     ·rw[hc,ea] at q;cases q
     ·rw[hc,ea] at q;cases q
    ·refine⟨OC o BFw,zun _ zV,?_,_,AJ8,.inr ⟨_,_,gx,rfl,rfl,rfl,rfl,rfl⟩⟩;exact Asz (a::Ł) I3.stack fun env he b hb=>zU _ (List.mem_filterMap.mpr ⟨env,he,hb⟩)
    ·intro b o eb n;obtain⟨o',e'⟩:=JL.there b o eb Μ
     show B6 o' (AJv e' (Jn hm));show N2 hm hm
     ·exact absurd (zF eb) (Nat.not_lt.mpr hle)
     ·exact n hm
    ·intro b u eb;obtain⟨hb,eb⟩:=nH b u eb;show Cn o eo z19 (hok b u eb);show B6 o (AJv eo (Jn hm));show VI hm hm hm
     ·exact hb hm
     ·exact nfr b u eb hm
    ·exact fun b u eb=>yH b u (lY Aq1 n1) (sS b u Aq1)
    ·exact fun b u eb=>yH b u (lY eb n1) (sS b u eb)
   | next=>show ki
   | brk=>show ki
   | cont=>show ki
structure Xk2 (Ash):Prop where
 ex:A_x Sy
theorem z2p(hh:C7)(G:A4b Xk2)(hr:AL9)(hg:TM)(AlD):
  Axo:=by
 obtain⟨f,fd,h1,h2,h3,h4,h5,h6⟩:=G.ex;exact z5b hh hg h5 h4 h2 h3 h1 hr h6 ha hd he hpl
#where
section
variable{X:Cx}{F0 H0:Hp}{tg iter elt:Expr}{ifs:AD}{pos:Pos}{sc:Scope}{own:ο}{caps:AL}{N' :ο}{ti:bZ}{g:qP}{tc:TT2}{te:aX}
open Classical in
theorem z6o(hN:X.N.Nodup)(hi' :CS X.N y)(hy:AXy)(S:AM2)(hc:C7)(hi:∀F0 H0,AUO iter ti)
  (hg:AY8) (ht:AY9) (he:AY7)
  (hn:ATO:=by rfl) (hsw:swapsWith pk (BO vv) spos.line X.env=pure true:=by rfl) (hs:e9 iter:=by intro _;rfl):
  KO AZV (aV i (Ej (R7 (Ac0 tc te)))):=by
 subst hn;rintro z E cx pins s σ H Dn I ⟨F,Γ,D2,R,h,k⟩;obtain⟨F1,s1,R1,n1,o1⟩:=zxp R;show FB (ASl AZV);rw[iX exec_Assign_Name_used hsw];show qo wpAny_standAt z9;show fg (do let _<- Ao7 (newList []) false ADi (BO (assign vv X.env)));show uu (Sn znp use (some (assign vv X.env)) (Qv:=E4 s' (SP fe pins Dn dC s')) (g:=gX X.K g) (tc:=tX X.K tc) (te:=eX X.K te) (Q:=fun v H' =>Dn.nx AI4 H') (Bi fY.cs S) (pig hc (hi F1 H z mR (Xh cx))) ?_ ?_ ?_ rfl hs I ?_ ?_) (fun _ s' hq=>zZ (zZ hq)) AEz
 ·rintro C s₀ H₀ fp pins s σ H v u Q I r ⟨wW,wX,q⟩;exact mP hg v u Q I r q
 ·rintro C s₀ H₀ fp pins s σ H Q I ⟨wW,wX,q⟩;exact mP ht Q I q
 ·rintro C s₀ H₀ fp pins s σ H Q I ⟨wW,wX,q⟩;exact mP he Q I q
 ·refine⟨F1,fu Γ,_,R1,h,fun ds Γ1 F2 H2 J Hx R2 s2 hx hJ h1 acc ha=>znd R2 hJ hx ha h1 fun ys F' H' vs R' sF a1 a2 a3 rs ap hp=> ?_⟩;have s3:=(Wy R'.g a1 a2).1;have R3:=R'.frzA a1 a2 a3 ap;have s' :=(s2.trans sF).trans s3;have gr:Gr F H (pT (AgB (AFt b))) H' :=by
   show DC FR FR R3.gr.h (ai ?_)
   ·show AT4 AFt;rw[Acr (OA o1)]
    exact s' _ _ (s1 _ _ e)
   ·show lS (AHz AFt);split at e'
    ·cases e'
    ·exact R3.g _ _ e'
   ·have e' :ρ (AHz AFt) o:=e;split at e'
    ·cases e'
    ·show ö;exact A5c R3.gr.n
  have rep:Rep X.K (jF F1 AFt) Adf dP:=by
   show EE;exact OP acc (z49 (R'.gr.f.free a2) (C5 (C5 jW))) (Xy (z2l R3.gr.f) ys vs hp.1 (rs.up s3))
  refine Fu ((R.grow gr).set i (rep.up FR)) gr.f hp.2;have hb:¬Sl:=fun hb=>by
   obtain⟨_,w,ev,ld⟩:=o1 b hb;exact zwo e w ld ev
  show AT4 AFt;show AV hb;exact ztt _ _ e
 ·rintro acc C H' s5 I5 q5 ⟨m,hn⟩ c1 c2 c3 c4 c5 c6;show FB (assign vv X.env dP);refine wpAny_assign_Name (Bi ZC I5 hN hi' Ad7 (v:= AdX) rfl A0d AeC);have ha' :Af3\/AgC a:=ha;have hac:C≠a:=by
   show Û ha' ha'
   ·exact c2
   ·exact Ξ (c4 y a ha' z.symm)
  show DB m (hn.sameBut hsb hac) (Afb (Tl H' (I6.turned (t' :=s6.toks) (it:=C) (oS (AOk hs')) c1 c2 (CA c3) c4 c5) q5))
#where
section
variable{K:W.Frag}{F H:Hp}
theorem SJ:Aoi (ANy AS0 [])
 | [],_,h=>by show LG;subst h;rw[List.map_nil];unfold fD;exact ka
 | SG,_,h=>by
  show LG;show Bn v us h1 h2 h;show ACj;unfold fD;exact⟨v,us,[],[],rfl,rfl,F_ TR (FY h1),SJ h2⟩
theorem XR:∀{ts us:Gc} {vs ws:Δ} {as bs:AO},Ļ ->fD K F H us ws bs ->fD K F H (ts++us) (vs++ws) (as++bs)
 | [],us,vs,ws,as,bs,h1,h2=>by
  show tP fD;show Zp rfl h1;exact h2
 | UY,us,vs,ws,as,bs,h1,h2=>by
  show tP fD;obtain⟨v,vs',a1,a2,rfl,rfl,q1,q2⟩:=h1;rw[List.cons_append];unfold fD;exact⟨v,vs' ++ws,a1,a2++bs,rfl,MG List.append_assoc,q1,XR q2 h2⟩
theorem zvs(h:Ð):fD K F H [t] [v] as:=by
 unfold fD;refine⟨v,[],as,[],rfl,An,h,?_⟩
 unfold fD;exact ka
theorem z9s:∀{ts:Gc} {vs:Δ} {as:AO} {j:Nat} {t:T},Ļ ->Fk ts t ->∃v b1 bs b2,Fk vs v/\as=ł bs/\pE v bs/\
  ∀{F' H' :Hp} {t' :T} {cs:AO},Dx ->(∀a∈b1++b2,AL_) ->ALS v cs ->oz fD (ts.set j t') vs (AFd cs)
 | [],_,_,j,t,_,e=>AJk
 | t0::ts,_,_,0,t,h,e=>by
  cases e;show YI;obtain⟨v,vs',a1,a2,rfl,rfl,q1,q2⟩:=h;refine⟨v,[],a1,a2,rfl,rfl,q1,fun{F' H' t' cs} f k r=> ?_⟩;rw[List.set_cons_zero];unfold fD;exact⟨v,vs',cs,a2,rfl,rfl,r,ë (fD.move f ts vs' a2) (k a ha) q2⟩
 | t0::ts,_,_,j+1,t,h,e=>by
  show YI;obtain⟨v,vs',a1,a2,rfl,rfl,q1,q2⟩:=h;obtain⟨w,b1,bs,b2,g1,rfl,g3,g4⟩:=z9s q2 Ē
  refine⟨w,a1++b1,bs,b2,AN g1,An,g3,fun{F' H' t' cs} f k r=> ?_⟩
  rw[List.set_cons_succ];unfold fD;exact⟨v,vs',a1,ł cs,rfl,An,ë (TR.move f t0 v a1) BGV q1,g4 f A_S r⟩
#where
mutual
def SM:ARv
 | Q3=>jw d
 | kH=>wZ ts
 | AiI=>wZ ts
 | .jX _ ts=>wZ ts
 | .ob _ _ ts=>wZ ts
 | .kt _=>True
def wZ:Db Gc
 | []=>True
 | UY=>SM t/\wZ ts
end
section
variable{K:W.Frag}{F F' H:Hp}
#where
abbrev pP:=AGD T
section
variable(K:W.Frag)(F0 H0:Hp)
def upN(t:pP)(E:XW):TE:=ABS (∀tr Γ' F' H' v as,AG6 ->Dx ->Ο as.Nodup (iO (sA/\d_/\AiE)) (oz TR tr v as) (P tr Γ') g_)
#where
def QN(ND)(e:Expr)(t:pP):Prop:=ALx upN
def nOf(YO):pP:=IS (Cb (BV AS0))
section
variable{X:Cx}{F0 H0:Hp}{e:Expr}{es:AD}{pos p:Pos}{te:aX}{tf:bZ}{tn:pP}
theorem yh8(h:Ai2):yk e (nOf tf):=fun z E cx=>
 oU R_ (EI hq1 (K0 hq1 (fun ds Γ1 F1 H1 a vs R1 s1 e1 e2 e3 r1 ap h1=>by
  refine JJ _ [a] R1 s1 Μ (iS (ADs hb ⟨e2,e3,ap⟩)) ?_ h1
  unfold TR;exact⟨a,vs,[],rfl,rfl,e1,SJ r1⟩)))
def Lx:pP:=AKx AFn
theorem Oj:yk (.Dict [] [] pos) Lx:=fun z E cx=>
 oU z7g fun σ H Q hq2 q hq=>by
  show Of hq2;have R2:VT F (KG q AKF) Γ:=R.grow (mE (ADr (ADh R.g hq) (R.g b u e)) (ADr (LJ hq) e))
  refine JJ _ [q] R2 Go Μ (iS (ADs hb ⟨R.g.free hq,R.gr.h.free hq,R.apart hq⟩)) ?_ h
  unfold TR;exact⟨q,[],[],rfl,rfl,jW,rfl,F_ fD ka⟩
def ab8(t:pP):pP:=Mn (t (fu Γ) (K2 tr (SM tr/\P tr Γ)) mR)
open Classical in
def w6(i:Nat)(t:pP):aF:=S4 t tr (∀as,Ñ as tr)
theorem XS(mI)(hx:ko)(he:AL5)(hs:Ī (BO (ED x pos')) pos.line X.env:=by rfl)
  (hf:lr:=by first | show d5 | show kg):AYW w6 tn:=fun z E cx=>
 tL (AX2 hi LE hs hf) (Hc D zp zp (fun t Γ1 F1 H1 v as R1 s1 nd hn r1 h1=>
  Fu (A9d (p_ t)) s1 (h1 as)))
def Bp(t:pP):aF:=m_ (t Γ (fun tr _=>D.rT (.one tr)) E)
theorem zwd(he:AL5):Awg (Bp tn):=fun z E cx=>
 tL (yad LE) (Hc D wV wV (fun t Γ1 F1 H1 v as R1 s1 nd hn r1 h1=>k.rT (.one t) _ _ _ _ R1.gr nd (AJA ⟨ACT ha,(hn a ha).2.1⟩) r1 h1))
def nV(Ya):pP:=Mn (MT Γ[i]? (some (.tr _ t)) (P t (Γ.set i υ)))
theorem yaf(ACf)(AFh):yk ABT (nV i):=fun z E cx=>
 oU U' (EI GR (by
  show Of GR;show A_ nV;show DL
  ·rename_i as t e;obtain⟨o,e0,v,rfl,nd,hn,r⟩:=ALl;exact⟨v,e0,k t _ F H v as (R.dropAt e0) Go nd (AJA ⟨ACT ha,ACV hn,R.less e e0 (Bz (iQ (Slot.tr as t) av a) ha)⟩) r h⟩
  ·show EB))
#where
section
variable{prog:Program}{w:World}{κ:Type}[Tu]{knd:lj}{A:Around}{E:dR}{s:Shared}{d:Addr}{ep:Nat}{kvs:ABj}
#where
section
variable{prog:Program}{w:World}{A:Around}{E:dR}{s:Shared}{d:Addr}{ep:Nat}{kvs:ATy}
#where
def ab9(Y_):UX:=so (∃(q:Addr) (kvs:M') (ns:Φ),vs= ALH/\KL q GM/\Akt ns.map .inl/\ATc/\
 A3t Ag4)
def acd(Ya):bZ:=Mn (MT Γ[i]? (some (.tr _ (.dic ks _))) (∃ns:Φ,ks=ns.map .inl/\ATc/\∀ms:Φ,Ag4 ->AQm ->P (ms.map T_) Γ))
section
variable{X:Cx}{F0 H0:Hp}{pos p px:Pos}{x:Str}{i:Nat}
theorem zvm:A2P (AH ks.zip vs (·.1)=ks)
 | [],[],_=>rfl
 | [],A8,h=>BI
 | A8,[],h=>BI
 | į,AEP,h=>A1W zvm
#where
section
variable{K:W.Frag}{F0 H0 F H F' H' :Hp}{σ:St}{Γ:Rc}
theorem zze(e1:vt)(h:Ľ):Ŵ ĭ a:=fun j q=>by
 have q' :pF ĭ (pv o) j a:=A0W
 rcases Rj q' with ⟨_,z⟩ | ⟨_,z⟩
 ·exact z
 ·exact h j z
theorem SR.wrT(R:DH)(e:AKm)(e1:vt)(h:Yf)(r:pC K F AJS H0 t o)(ht:IY (iQ t o b) (iQ s o b\/AAe b)):
  Ar2:=by
 have R1:=R.wrO (t:= υ) (u:=u) e e1 h trivial (E4 z z.elim);have R2:=R1.put i r (EH (by
  show JS (ht b hb)
  ·rw[AKy (gN Slot.no) (Γ.set i υ)];exact R.less e e1 z
  ·exact zze e1 z))
 show AYj R2;exact R2
#where
abbrev wN:=Akv ARv
def xq(K:W.Frag)(sp:wN):Sp:=Aol (∀t v as F' H',a_ ->Ο as.Nodup Ai8 AWW (P t) g_)
def Ie(sp:wN):cP:=kM (sp ds (AG t (P (toD t))) E)
open Classical in
theorem z80(D9){sp:wN}{vs:Δ}{H:Hp}{Q:VK}{E:XK}(h:pN K (Ie sp) vs H Q E):xq K sp vs H Q E:=by
 obtain⟨F,ds,P,Ex,h1,h2,h3,h4,h5⟩:=h;refine⟨F,ds,fun t=>P (toD t),Ex,h1,h2,h3,fun t v as F' H' g nd hn r p=> ?_,h5⟩;have s1:Same F' A0p:=IM (by
  show N4 Anr;show AV (fun hb=>(Aaq (OA hn)))
  exact e)
 refine h4 (toD t) v A0p H' ⟨g.f.trans s1,FR,g.h,ai ?_⟩ (AiW (fun a ha u hu=> ?_) r) p
 ·show lS Anr;split at e'
  ·exact e'
  ·exact g.g b u e'
 ·have e' :ρ Anr o:=e;split at e'
  ·show ö;exact .inl AUF
  ·exact g.n b o e' n
 ·show N4 (AC AUi (H' a) (F' a));show DU ha;exact hu
structure v7 (XU) (x:Str) (k:Nat) (ps:ο) (sp:wN):Prop where
 ex:ANC xq
theorem v7.fn{P:Program}{w:World}{K:W.Frag}{mg:CD}{base:Heap}{x:Str}{k:Nat}{ps:ο}{sp:wN}(G:MR v7 base x k ps sp):MR eE base x k ps (Ie sp):=by
 obtain⟨f,fd,h1,h2⟩:=G.ex;exact⟨f,fd,h1.imp (ww _ q (z80 q)),h2⟩
section
variable{P:Program}{w:World}{K:W.Frag}{mg:CD}{base:Heap}
theorem Ly{x qual:Str}(AFz){fd:FuncData}{N ps:ο}{k:Nat}{sp:wN}(Fn:Ŕ)(S:AFj ps)(len:ANQ)
  (hbody:∀(cdv:Value) (A:Around) (outer:EX) (s:Shared) (H:Hp) (E:XK),AFW (∀F0:Hp,
   ∃t,AjL yY/\Amn (Amr (HJ Q)))):
  Afx xq:=by
 obtain⟨oc,od,kV,doc,pm,an,cdv,ct,osl,rfl,lk,hcd⟩:=Fn.ex;show ANe (fun A outer s H vs Q E hr hq2=> ?_)
 show AqA AM3
 obtain⟨F0,ds,Pd,Ex,sF,rs,hsp,hQ,hE⟩:=hq2;show Ajg;show ANd (by
  show AC' (fun pins σ Γ F H1 s1 e s' I R hx=> ?_);show AGX;obtain⟨Γ',F',x,R',_,xr,_,z1⟩:=z;exact ANg)
 exact⟨_,AVl,F0,iR N ds,Amr (HJ Pd),AnD,ApJ,⟨fun _ _ _ _ _ _ q=>q.elim,fun _ _ _ _ _ _ q=>q,fun _ _ _ _ _ _ q=>q,fun _ _ _ _ _ _ q=>q.elim,fun _ _ _ _ _ _ q=>q.elim,fun t v as F' H' gr nd hn r q=>by(cases t with | one t=>exact hQ t v as F' H' gr nd hn r q | tp c t=>exact q.elim),fun _ _ _ _ _ _ _ _ q=>q.elim⟩⟩
#where
def v8(sp:wN)(t:bZ):pP:=IS (AFy (AG tr (Cb tr)))
section
variable{X:Cx}{F0 H0:Hp}{e:Expr}{es:AD}{pos p:Pos}{x:Str}{ps:ο}{k:Nat}{sp:wN}{t:bZ}
theorem zqc(Ap8 v7):
  yk XA (v8 sp t):=by
 obtain⟨f,fd,Fn,hm,hk,hb⟩:=G.ex;rintro z E cx pins s σ H Q I ⟨F,Γ,P,R,h,kk⟩;show AYq;refine W.callWith_K (h₀:=X.base) I.ok.mod.Jp hk (UE (AKI pos (fun vs H1=>∃F1 Γ1 ds,wT/\SA/\AF'/\AFy ALX) I (ES (fun ds Γ1 F1 H1 vs R1 s1 r1 h1=>AV9))) us ⟨vs,H1,I1,r,F1,Γ1,ds,R1,sF,rs,q⟩ (EJ I1.kIn)) he hpl;have hs:xq X.K sp vs H1 Q (AcJ (AoS (APE H1 C dx x))):=⟨F1,ds,_,_,R1.g,rs,q,fun t v as F' H' gr nd hn rt hp=>kk t Γ1 F' H' v as (R1.grow gr) AcE nd (AJA ⟨ACT ha,R1.gr.h.free (ACV hn),R1.apart (ACV hn)⟩) rt hp,fun x C dx F' H' hE gr xr=>Aw2⟩;show AM_ (us++ []) (AJr List.append_nil r.length AMR)
 have hbs:=hb s1 us I1.kIn hl;show AMF;show Ain (Fn.run X.A X.stack s1 H1 AKV us vs Q _ hr I1.env0 hbs r hs) AjG;cases r with
 | error e=>exact ANB H1 s1 e s' I1 R1 hq
 | ok fl=>
  cases fl with
  | ret u=>exact I1.after hq
  | next=>show ADc
  | brk=>show ADc
  | cont=>show ADc
#where
def adq(i:Nat)(t:TE):TS:=ad (∃a vs,AK4/\ė/\ZT t v (∃l us y,V.ref a= FI/\ [v]= [y]/\ρ (H1 l) Ý/\WE us.length/\WC (Nw l (BV (us++ [y])))))
section
variable{X:Cx}{F0 H0:Hp}{e:Expr}{pos npos apos cpos:Pos}{x:Str}{i:Nat}{t:TE}{te:aX}{tn:pP}
def cTA(AjE):aF:=A0K (VC te d (A8Z (Ñ as (BV (ts++ [Q3])))))
def cTN(i:Nat)(tn:pP):aF:=A0K (VC tn t (A8Z (∀cs,Ñ AVk (BV AQp))))
#where
#print L3
namespace L3
open PySem PySem.Spec PyProof.Rows L2
def mV(ks:Be)(k:Key):Bool:=Axi
theorem tR:AFI↔AWA:=by
 unfold mV;rw[List.any_eq_true];exact ARV (xz x h e (of_decide_eq_true e ▸ h)) ⟨k,h,decide_eq_true rfl⟩
def jg(ks:Be)(k:Key):Be:=An6 AFI
def fL(G_)(ks:Be)(xs:AI)(k:Key)(x:α):AI:=A'2 AFI
theorem zpl:A2P (GS (AH ks.zip vs) kv (ARA (S_,v))=ks.zip Ay0)
 | [],_,_=>rfl
 | A8,[],h=>BI
 | ADy,AK9,h=>by
  rw[List.zip_cons_cons,List.map_cons,List.zipWith_cons_cons,List.zip_cons_cons,zpl (BH h)]
  show ACa (k' =k)
theorem X3(h:bc):putK (ks.zip vs) k v=(jg ks k).zip Ayj:=by
 unfold putK jg fL;have e:A2 (Aau (ks.zip vs).any)↔AFI:=by
  rw[tR,List.any_eq_true];constructor
  ·rintro⟨kv,hm,q⟩;have:=List.mem_map_of_mem (f:=(·.1)) hm;show Ap (zvm h);rw[<- of_decide_eq_true q];exact this
  ·intro hm;rw[<- zvm h] at hm;show AU kv h1 h2 zB.mp hm;exact⟨kv,h1,BFR⟩
 show EZ AFI
 ·rw[bP e.mpr q,E6,E6];exact zpl h
 ·rw[D_ (ABw q e.mp),JI,JI,List.zip_append h]
  rfl
theorem zvv(h:ARS ks.length):MI jg ks k=(fL ks xs k x).length:=by
 unfold jg fL;split
 ·rw[List.length_zipWith,<- h,Nat.min_self]
 ·simp [h]
theorem z0u(EM){k:Key}{d:D}{v:V}(r:IN):A_q (r_ ->HG (AbH k' y (ABi d y) ks xs) Ay0)
 | [],xs,vs,h=>A0 ao
 | A8,[],vs,h=>AjQ
 | ADy,FM,vs,h=>by
  show LG;show Bn u us h1 h2 h;rw[List.zipWith_cons_cons,List.zipWith_cons_cons];refine sy ?_ (z0u r h2);show OM k' k
  ·rw[E6,E6];exact r
  ·rw[Ω q,JI];exact h1
theorem znl(EM){ks:Be}{xs:Β}{vs:Δ}{k:Key}(AGL)(h:r_)(r:IN):HG (fL ks xs k d) Ayj:=by
 unfold fL;split
 ·exact z0u r h
 ·exact Jv h (Jw r)
theorem X4(AEn):∀{xs:Β} {vs:Δ} {as:AO},ANy qa as ->as= []/\r_
 | [],vs,as,h=>by rw[List.map_nil] at h;show YI;unfold ao;exact⟨h.2,h.1⟩
 | FM,vs,as,h=>by
  rw[List.map_cons] at h;show YI;obtain⟨v,us,bs,cs,rfl,rfl,h1,h2⟩:=h;show tP TR;show sd r h1;show AYr h2;exact FY (sy r rs)
def cDP(Ayt):aF:=A7c (match kd,Γ2[i]? with
 | To,some AbO=>∃xs,ts=xs.map ACg/\Ae_/\Axz (jg ks (C5 k)) (C5 k)
 | _,_=>False)
section
variable{X:Cx}{F0 H0:Hp}{ke value:Expr}{pos npos pos' :Pos}{x:Str}{i:Nat}{tk tv:aX}
#where
section
variable{K:W.Frag}{F0 H0 F H F' H' :Hp}{σ σ' :St}{Γ Γ' :Rc}
open Classical in
noncomputable def adt (Γ:Rc) (σ:St) (H:Hp):Hp:=WP (AgB (H b))
#where
def SN(i x:Nat)(a b:Addr)(Cz:Gc)(j:Nat)(I:k9):Þ:=yi (∃cs' us',Azf/\AtO Aat/\
 ∀q:AO,I Ü (A2' i (Slot.tr (a::q) Azk)))
def ace(A2J):aF:=fun D0 Γ _=>∃as ts,KS (Slot.tr as AH6)/\∀a bs,as=qS ->∃I:k9,AM0/\
 (∀(j:Nat) Γ1,AzS (∃bs1 Cz us,V' (Slot.tr (a::bs1) (BV Cz))/\Cz.length=ts.length/\Fk Cz Ý/\
  ∀(b:Addr) (cs:AO),tb {nx:=SN i x a b Cz j I,ct:=L8,bk:=L8,rt:=D0.rt,rf:=D0.rf,rT:=D0.rT} ((Γ1.set i (Slot.pu Aat)).set x (Slot.tr (b::cs) Ý)) mR))/\
 ∀Γ1,Av5 ->D0.nx Γ1
section
variable{X:Cx}{F0 H0:Hp}{pos px pn:Pos}{xv xn:Str}{i x:Nat}{body:LM}{tb:aF}
open Classical in
end
def nL1(t:pP):pP:=Sc t tr (Cb (BV [tr]))
section
variable{X:Cx}{F0 H0:Hp}{e:Expr}{pos:Pos}{tn:pP}
#where
#print L3
namespace L3
open PySem PySem.Spec PyProof.Rows L2 PySem.W
structure Ord (lt:cr) (n:Nat):Prop where
 tri:∀i j,Ο CH (j<n) (i≠j) (lt i j=false) (Ë j i)
 irr:AL6 (j<n ->AjB ->lt j i=false)
 tr:∀i j k,CH ->Ο (j<n) (k<n) AjB (Ë j k) (Ë i k)
def Sat(G_)(lt:cr)(n:Nat)(t:KasT α)(Q:Db α):Prop:=A2 (Lq lt n t)/\Q (Og lt t)
section
variable{lt:cr}{n:Nat}{α β:Type}
theorem Es(h:Q a):dA (.ret a) Q:=ASu
theorem Ol(hi:CH)(hj:j<n)(hij:i≠j)(h:dA A5f Q):dA (.ask i j k) Q:=by
 show Đ h.2;unfold Lq;show BDR Bool.and_eq_true;exact⟨hi,hj,hij,h.1⟩
theorem Om:FG t (KasT α) (dA t (AG a (Sat lt n (f a) Q))) (Sat lt n (t.bind f) Q)
 | .ret a,h=>h.2
 | AZW,h=>by
  have h1:=h.1;show tP Lq;show Aie h1;exact Ol h1.1 h1.2.1 h1.2.2.1 (Om ⟨h1.2.2.2,h.2⟩)
theorem Sat.imp(h:dA t Q)(k:∀a,Q a ->Q' a):dA t Q' :=⟨h.1,k _ h.2⟩
def Pm(n:Nat)(p:XL):Prop:=AP' p.toList.Perm n
theorem Pm.size(h:Tx):p.size=n:=AN (List.Perm.length_eq h)
theorem SQ{p:XL}{k:Nat}(hk:k<p.size):p.getD k 0=p.toList[k]' ASE:=RU Array.getD hk
theorem Pm.below{p:XL}(h:Tx){k:Nat}(hk:k<n):Agn<n:=by
 have hk' :k<p.size:=AE h.size hk
 rw[SQ hk'];exact List.mem_range.mp (h.mem_iff.mp (yU _))
theorem Pm.ne{p:XL}(h:Tx){k j:Nat}(hk:k<n)(hj:j<n)(hkj:k≠j):Agn≠p.getD j 0:=by
 have nd:p.toList.Nodup:=h.nodup_iff.mpr List.nodup_range;rw[QU SQ h.size hk,QU SQ h.size hj]
 show AMj nd;show Ag0 hkj
 ·exact key k j _ _ q
 ·exact Aik (key j k _ _)
def Lp(lt:cr)(p:XL)(i j:Nat):Bool:=AYJ (p.getD i 0) j
def Up(A_'):Prop:=AyN (OZ i j)
def Dn(A_'):Prop:=AyN (OZ j i)
theorem z2n(AZG)(hi:CH)(hj:j<n)(hij:i≠j)(h:Hk (Lp lt p i j)):OZ j i:=O.tri _ _ (AAz hi) (AAz hj) (P.ne hi hj hij) h
theorem X5(O:rh)(P:Tx)(hi:CH)(hj:j<n)(hk:k<n)(h:OZ i j)(h' :OZ j k):OZ i k:=O.tr _ _ _ (AAz hi) (P.below hj) (AAz hk) h h'
theorem ydz(AZG)(hr:r<n)(h1:1<=r)(U:Up lt p r)(h:OZ AKZ r):Up lt p (r+1):=AMV (by
 show AFM (Aea r)
 ·exact AX0 q
 ·show MO j r
  rcases AJy AB' with q' | q'
  ·exact X5 O P ξ ξ hr A8N h
  ·show MO i (j - 1)
   exact h)
theorem yd5(AZG)(hr:r<n)(h1:1<=r)(U:AFl r)(h:OZ r AKZ):AFl (r+1):=AMV (by
 show AFM (Aea r)
 ·exact AX0 q
 ·show MO j r
  rcases AJy AB' with q' | q'
  ·exact X5 O P hr ξ ξ h A8N
  ·show MO i (j - 1)
   exact h)
theorem ye2(O:rh)(P:Tx):A5N (Up lt p m) (dA (kas_asc p f m) (IG (m<=r/\r<=m+f/\Up lt p r/\ (r<m+f ->OZ r AKZ))))
 | 0,m,h1,_,U=>Es ⟨GB,GB,U,Ξ (Ņ z)⟩
 | f+1,m,h1,hn,U=>by
  unfold kas_asc;show AYf
  cases q:AYJ (AEx m) (m - 1) with
  | true=>
   show We;exact Es ⟨GB,τ,U,C4 q⟩
  | false=>
   show dl
   refine(ye2 O P f (m+1) ξ ξ (ydz O P ξ h1 U (z2n O P ξ ξ ξ q))).imp fun r Ajf=>⟨τ,τ,a3,Ξ (a4 ξ)⟩
theorem yaq(O:rh)(P:Tx):A5N (AFl m) (dA (kas_desc f p m 0) (IG (Ν=p/\m<=Τ/\Τ<=m+f/\E9=0/\AFl Τ)))
 | 0,m,h1,_,U=>Es (Hm rfl GB GB U)
 | f+1,m,h1,hn,U=>by
  unfold kas_desc;show AYf
  cases q:AYJ (AEx m) (m - 1) with
  | true=>
   rw[BU,Ω χ]
   exact(yaq O P f (m+1) ξ ξ (yd5 O P ξ h1 U q)).imp fun r hq1=>by obtain⟨a1,a2,a3,a4,a5⟩:=hq1;exact⟨a1,τ,τ,a4,a5⟩
  | false=>
   show dl
   show AYf
   have q' :Ë (AEx (m - 1)) (AEx m):=Kj (z2n O P) m j (m - 1) ξ ξ ξ q
   rw[q',BU];exact Es (Hm rfl GB (gL (m<=_)) U)
theorem yac(P:Tx)(i j:Nat):Pm n (kas_rev p i j):=Avd (mirror_perm p i j ((j - i)/2))
theorem getD_get?{p q:XL}{i j:Nat}(h:p[i]?=q[j]?):p.getD i 0=q.getD j 0:=by
 rw[Array.getD_eq_getD_getElem?,Array.getD_eq_getD_getElem?,h]
theorem z9p{p:XL}{m k:Nat}(hm:m<=p.size)(hk:k<m):(kas_rev p 0 m).getD k 0=p.getD (m - 1 - k) 0:=by
 have e:=getElem?_mirror_all (i:=0) hm k;rw[AZ ⟨G1,hk⟩] at e;have:=ASY;show Ap (O0 (0+m - 1 - k) (m - 1 - k))
 exact this
theorem yc8(O:rh)(P:Tx)(h1:1<=m)(hm:m<=n)(D:AFl m):A9G (kas_tail3 m n p):=by
 unfold kas_tail3;have U:Up lt (kas_rev p 0 m) m:=AMV (by
  unfold Lp;rw[z9p (B4 P.size hm) ξ,z9p (B4 P.size hm) hj]
  exact D (m - 1 - j) (m - 1 - i) ξ ξ)
 exact Om ((ye2 O (yac P 0 m) (n - m) m h1 ξ U).imp fun r ⟨a1,a2,a3,_⟩=>Es ⟨yac P 0 m,gL (1<=r),gL (r<=n),a3⟩)
theorem yez(O:rh)(P:Tx)(h1:1<=n):A9G (kas_count n p):=by
 unfold kas_count;refine Om ((ye2 O P (n - 1) 1 C1 ξ (fun i j a b=>τ)).imp (AM r Ajf))
 show IP r n
 ·show DU (FX e)
  exact Ayo
 ·show AV (FX e)
  by_cases g:r>1
  ·show DU g;show AYf
   have q:Ë (AEx 0) (AEx AKZ):=a3 0 AKZ ξ ξ
   rw[q,BU];exact Ayo
  ·show AV g;show MO r 1
   unfold kas_descPart;have q:=a4 ξ
   have D:AFl 2:=AMV (by
    show MO i 0
    show MO j 1
    exact q)
   refine Om ((yaq O P (n - (1+1)) (1+1) ξ ξ D).imp (AM r hq2))
   obtain⟨b1,b2,b3,b4,b5⟩:=hq2;rw[Ω ξ,b1]
   exact yc8 O P ξ ξ b5
theorem zwa(AZG)(hk:k<n)(U:Up lt p k):∀(f l r:Nat),l<=r ->Ο (r<=k) (r - l<=f) (∀j,j<l ->OZ j k) (∀j,r<=j ->j<k ->OZ k j) (Sat lt n (kas_place p k f l r) (XX (x<=k/\ (∀j,j<x ->OZ j k)/\∀j,x<=j ->j<k ->OZ k j)))
 | 0,l,r,h1,h2,h3,h4,h5=>A6S
 | f+1,l,r,h1,h2,h3,h4,h5=>by
  unfold kas_place;by_cases g:l≥r
  ·show DU g;exact A6S
  ·show AV g;have m1:l<=ATA:=τ
   have m2:ATA<r:=τ
   refine Ol (P.below hk) (AAz ξ) (P.ne hk ξ ξ) ?_
   cases q:AYJ (p.getD k 0) AUg with
   | true=>
    show We;refine Ano f l _ m1 ξ ξ h4 (ψ j a b)
    show JS (Nat.lt_or_ge AUg j)
    ·exact X5 O P hk ξ ξ q (U _ j z b)
    ·show MO j ATA
     exact q
   | false=>
    show dl
    have q' :OZ AUg k:=z2n O P hk ξ ξ q
    refine Ano f _ r ξ h2 ξ (HQ j a) h5
    show JS (Aea AUg)
    ·exact X5 O P ξ ξ hk (U j _ z ξ) q'
    ·show MO j ATA
     exact q'
theorem yfp(P:Tx)(k d:Nat):Pm n (bubble p k d):=Avd (bubble_perm p k d)
theorem yfb(O:rh):∀(f:Nat) (p:XL) (k:Nat),Tx ->k+f=n ->Up lt p k ->dA (kas_bin f p k) Auy
 | 0,p,k,P,h,U=>by
  show MO k n
  exact Es ⟨P,U⟩
 | f+1,p,k,P,h,U=>by
  unfold kas_bin;have hk:k<n:=τ
  refine Om ((Ano k 0 k dc C1 ξ (fun j a=>τ) (fun j a b=>τ)).imp (AM l ⟨a1,a2,a3⟩))
  refine yfb O f _ Fc (yfp P k AXK) ξ (Iy i j hij hj)
  have at' :∀x,(bubble p k AXK).getD x 0=GL x l Agn (if l<x/\x<=k then p.getD (x - 1) 0 else p.getD x 0):=fun x=>by
   have e:=getElem?_bubble (xs:=p) (src:=k) (B4 P.size hk) AXK ξ x
   rw[O0 (k - AXK) l] at e
   split
   ·show GW;rw[E6] at e;exact ASY
   ·show GW;rw[JI] at e;split
    ·rename_i q2;rw[AZ q2] at e;exact ASY
    ·rename_i q2;rw[Ω q2] at e;exact ASY
  show Ë _ _;rw[at',at'];by_cases e1:i=l
  ·rw[AZ e1,UO,kF]
   exact a3 AB' ξ ξ
  ·show AV e1;by_cases e2:j=l
   ·rw[AZ e2,UO]
    exact a2 i ξ
   ·show AV e2;by_cases e3:l<i/\i<=k
    ·rw[AZ e3,kF]
     exact U (i - 1) AB' ξ ξ
    ·show AV e3;by_cases e4:l<j/\j<=k
     ·show DU e4;exact U i AB' ξ ξ
     ·show AV e4;exact AX0 ξ
theorem yga(O:rh):Sat lt n (kas_sort n) Auy:=by
 unfold kas_sort;have P0:Pm n (List.toArray (List.range n)):=F_ Pm (List.Perm.refl _)
 by_cases h0:n=0
 ·subst h0;exact⟨rfl,(by unfold Pm;exact List.Perm.refl _),fun i j _ hj=>(BFn hj)⟩
 ·refine Om ((yez O P0 ξ).imp (AM r Ajf))
  by_cases g:Ν<n
  ·rw[AZ g,show max Ν 1=Ν by omega]
   exact yfb O _ _ _ a1 ξ a4
  ·show AV g;obtain e:Ν=n:=τ
   exact Es ⟨a1,e ▸ a4⟩
#where
#print L3
namespace L3
open PySem PySem.Spec PyProof.Rows L2
def vp(lt:cr)(is:AL):Prop:=is.Pairwise fun i j=>AjB
theorem yhm(P:Pm n q)(U:Up lt q n):vp lt q.toList:=by
 unfold vp;show BDP;intro i j hi hj hij;have hj' :j<q.size:=AN hj
 show On q.size τ
 have:=AX0 (A7 P.size hj')
 unfold Lp at this;show XG (SQ hi') (SQ hj');exact this
structure Ig (prog:Program) (w:World) (A:Around) (E:dR) (vs:Ζ) (lt:cr) (T:Adl) (κ:SortKind):Prop where
 kind:AQ4 Q (DJ SortKind) (Ahp ->2<=vs.length ->Q κ s ->Ff (keyKind' vs.toArray))
 ask:∀(s:Shared) (i j:Nat) (C:DJ Bool),Ahp ->Ο (i<vs.length) (j<vs.length) (i≠j) (C ATG s) (W.kas_ask prog w A κ vs i j C s)
section
variable{prog:Program}{w:World}{A:Around}{E:dR}{s:Shared}
theorem zp9{a:Addr}{vs:Ζ}{lt:cr}{T:Adl}{κ:SortKind}{n:Nat}{P:DJ PySem.Fin}(hob:Adr (WI vs.toArray n))(O:Av4)(hT:Ahp)
  (hst:∀h',(∀x o,BFx ->x≠a ->B_ h'.get? o) ->T h') (K:Ig prog w A E vs lt T κ) (h64:BFL)
  (h:∀is:AL,Ar0 ->vp lt is ->P (.done (.ret Χ)) (PH (sortedHeap s.heap a vs Ai0))):APP (Builtin.«list.sort» AQG) P:=by
 show UQ hal a (zF hob);have Oo:Υ vs.length:=ABQ sizeLine_eq
 rw[list_sort_plain];show KW (listItems_at (n:=n)) hob rfl;show EF (listUpdate_at (n:=n) hob rfl ?_ (B4 List.size_toArray Oo)) dc
 obtain⟨ea,hoa⟩:∃ea,BN (BAy get?) (WI #[] ea):=BDx hob (At #[]);show AlL hoa;refine z9 (wpAny_newTuple ?_ (BH Oo))
 refine z9 (wpAny_newList ?_ dc);refine wpAny_holding (m:=_) ?_;have Ih:BN (AuU AbW) (WI #[] ea):=by
  refine Eq.trans AXu (Eq.trans AXu hoa)
  ·show Asy;exact AVi hal
  ·rw[Heap.size_update];exact zH hal
 have T2:T ((AbW Aa2).push Aas):=hst _ fun x o hx hxa=>by
  have hlt:=zF hx;refine Eq.trans AXu (Eq.trans AXu (Eq.trans (ADL hxa) hx))
  ·show Asy;exact AVi hlt
  ·rw[Heap.size_update];exact zH hlt
 show P5 _ P (Aoz:Shared);dsimp only;have hsv:vs.toArray.size=vs.length:=List.size_toArray ..;by_cases hfew:vs.toArray.size<2
 ·rw[AZ hfew,AZ hfew];show IF A3;rw[StateT.run_pure];show IF A3;dsimp only;show AlL Ih;have eo:AH arrOf (SortSt.mk' general' ArQ #[] 7 none) (·.2)=WF (KE vs.length) AbU:=by
   show AH vs.toArray.zip vs.toArray (·.2)=_;show BDT;show UI
   ·simp
   ·intro i q1 q2;have:i<vs.length:=AN q2
    simp [this]
  rw[eo];show IF (listUpdate_at (n:=ea) Ih rfl ?_ dc)
  ·show AqX;refine A3 (h _ Go ?_);unfold vp;show BDP;intro i j hi hj hij;have:j<vs.length:=AN hj
   omega
  ·simp;omega
 ·rw[Ω hfew,Ω hfew];show IF (K.kind _ _ T2 ξ)
  show AU ok Pq Uq yga O;show Pl (StateT.run sortRuns' (SortSt.mk' κ ArQ #[] 7 none));show uu (W.kat_run (Q:=fun st' s' =>∃p:XL,p.size=vs.length/\arrOf st' =p.map (W.kas_item (vs.toArray.zip vs.toArray))/\failedOf st' =none/\p=AyY/\s' =Aoz)
   (G:=fun p s' =>p=AyY/\s' =Aoz)
   rfl ξ ξ (fun p st' s' a1 a2 a3 a4=>⟨p,a1,a2,a3,a4⟩) ?_) ?_ AXT
  ·exact z91 (fun i j C hi hj hij hC=>K.ask _ i j C T2 hi hj hij hC) _ _ ok ka
  ·rintro⟨⟨⟩,st'⟩ s' ⟨p,hp,har,hf,rfl,rfl⟩;dsimp only;have eo:=W.kat_snds (vs:=vs) rfl har;rw[eo];show AlL Ih;show IF (listUpdate_at (n:=ea) Ih rfl ?_ dc)
   ·rw[hf];show AqX;exact A3 (h _ Pq (yhm Pq Uq))
   ·exact zM (Nat.le_of_eq (z3d hp)) ξ
theorem zkh{src:Value}{Q:dR}
  (hc:wpAny E1 A.in1 (collect src) (fun vs s1=>∃lt T κ,Av4/\BFL/\Ig prog w A.in1.in1 E vs lt T κ/\ (∀h2:Heap,(∀x o,B_ s1.heap.get? o ->B_ h2.get? o) ->T h2)/\
   ∀(l:Addr) (h' :Heap) (is:AL) e,s1.heap.objs.size<=l ->Ο Ar0 (vp lt is) (AOF l (WI Ai0 e)) (∀b ob,oo s1.heap.get? ->oo h'.get?) (HI l (ZZ s1 h'))) E s):
  At0 [src]:=by
 refine Calls.call_function_entry kind_sorted plain_sorted entry_sorted (args_sorted1 _) (Bz (ANj (Builtin.«sorted» _) _ _) ?_);unfold Builtin.«sorted»;show NA A7u A3;refine M3 collect (wpAny_mono hc (PQ vs zy) AXT);obtain⟨lt,T,κ,O,h64,K,hT2,h⟩:=zy;have Oo:Υ vs.length:=ABQ sizeLine_eq
 refine z9 (wpAny_newList ?_ Oo);show À hoL s1.heap.push BFo s1.heap.objs.size BFo LW;show A'X (zp9 (T:=T) hoL O (hT2 _ fun x o e=>VU) (fun h' k=>hT2 _ fun x o e=>k x o OI AMc) K h64 fun is a1 a2=>ADp);refine A3 ADp;show Cn e he (yg3 (vs:=vs) (out:=Ai0)) hoL;refine h s1.heap.objs.size _ is e C1 a1 a2 he (HH ob eb);exact z95 (zY _ eb) (zH (zF eb))
#where
def pQ(a b:Str):Bool:=ω (a.cps.toList<b.cps.toList)
theorem z21(a:Str):pQ a a=false:=by unfold pQ;simpa using List.lt_irrefl a.cps.toList
theorem yag(h1:AG5)(h2:pQ b c=true):pQ a c=true:=by
 unfold pQ at*;simp only [decide_eq_true_eq] at*;exact List.lt_trans h1 h2
theorem yd4(h1:pQ a b=false)(h2:a≠b):pQ b a=true:=by
 unfold pQ at*;simp only [decide_eq_false_iff_not,decide_eq_true_eq] at*;cases q:ω (b.cps.toList<a.cps.toList) with
 | true=>exact of_decide_eq_true q
 | false=>
  have:=List.le_antisymm (List.not_lt.mp h1) (List.not_lt.mp (of_decide_eq_false q));exact absurd (by cases a;cases b;simp at this;rw[this]) h2
theorem z7v(h:AG5):pQ b a=false:=by
 cases q:pQ b a with
 | false=>rfl
 | true=>show Agv (yag h q) z21
def Lz(xs:ο)(i j:Nat):Bool:=pQ AVG (xs.getD j Str.empty)
theorem CG(G_){xs:AI}{i:Nat}{d:α}(h:kA):xs.getD i d=xs[i]:=Ae' si
theorem zu1{xs:ο}(nd:xs.Nodup):Ord (Lz xs) xs.length:=by
 show AMj nd;show DB (fun i j hi hj hij h=> ?_) (fun i j _ _ h=>z7v h) (fun i j k _ _ _ h1 h2=>yag h1 h2);refine yd4 h ?_;rw[CG hi,CG hj];show Ag0 hij
 ·exact key i j hi hj q
 ·exact Aik A7W
def pick{α:Type}(d:α)(xs:AI)(is:AL):AI:=ArV is.map
theorem zqr(G_){d:α}{xs:AI}{is:AL}(h:AP' is.Perm xs.length):(pick d xs is).Perm xs:=by
 have e:KE xs.length (TU xs.getD d)=xs:=by
  show UI
  ·simp
  ·intro i q1 q2;show As8;exact CG q2
 have:=ArV h.map;show dq;exact this
theorem zr0(h:vp (Lz xs) is):AVU (pick Str.empty xs is).Pairwise:=by
 unfold pick;rw[List.pairwise_map];exact h
theorem X6{xs:ο}{vs:Ζ}(r:AsA){i:Nat}(hi:kA):∃t,vs.getD i Value.none= .str AVG t:=by
 obtain⟨u,e,ru⟩:=BCe r.get (.str AVG) W_ (CG (d:=Str.empty) hi)
 show AJa e;exact ru
theorem zwv(A0s){E:dR}{xs:ο}{vs:Ζ}(r:AsA):Ayp (At True) :=by
 have hl:vs.length=xs.length:=AgG r.length
 show B6 (fun s Q _ h2 hQ=>W.kas_kind (T:= .type "str") h2 (HQ v hv) χ χ hQ) (fun s i j C _ hi hj _ hC=> ?_)
 ·show ve k hk hv;show Cn t e (X6 r (i:=k)) ξ
  rw[CG hk] at e;rw[e];exact W.Looks.of_pure rfl
 ·show Cn t e (tz (X6 r)) ξ
  show Cn u e' (X6 r (i:=j)) ξ
  unfold W.kas_ask;rw[e,e',keyLt'_oneType];exact oneLt_str hC
def Ii:xy Key | AMK=> ACz | AMS=> ic | _=> .inl 0
theorem ycm:Abb (AJG pA k v=true) Ii:=fun k v h=>by
 rcases yO h with ⟨i,t,rfl,rfl⟩ | ⟨x,t,rfl,rfl⟩<;>rfl
theorem zst:∀{vs:Ζ} {ys:ο},(Awb pA) ->vs.map Ii=ys.map Sum.inr ->Vals (ys.map V.str) vs
 | [],[],_,_=> B9
 | [],A8,_,h=>BI
 | A8,[],_,h=>BI
 | AEP,AEf,h,e=>by
  obtain⟨⟨k,hk⟩,_⟩:=AXV;rw[List.map_cons,List.map_cons] at e;injection e with e1 e2;refine .cons ?_ (zst (fun u hu=>AvG) e2);rcases yO hk with ⟨i,t,rfl,rfl⟩ | ⟨x,t,rfl,rfl⟩
  ·cases e1
  ·have:x=y:=AdN e1
   show XY;exact UF
theorem z8y:∀{ks:Be} {xs:ο},ks.Perm (xs.map Sum.inr) ->∃ys:ο,ks=ys.map Sum.inr/\ys.Perm xs:=fun{ks xs} h=>by
 have e:ks=AH ks.map (dE AZh) Sum.inr:=by
  show AJc;show ALJ Eq.trans (List.map_id ks).symm Aih;show ACk x (zB.mp (h.mem_iff.mp hk))
  rfl
 show kP e;have:=h.map fun k:Key=>AZh
 show Ap List.map_map;refine this.trans ?_;rw[Mo (List.map ((fun k:Key=>AZh) ∘ Sum.inr) xs) xs (List.map_id' xs)]
def qX(xs:ο):ο:=(lN Acv xs.length).map fun k=>AZh
theorem zrv(xs:ο):Avs=AH qX xs Sum.inr:=by
 unfold qX;show AJc;show ALJ Eq.trans (List.map_id _).symm Aih;show ACk j ((XH _).mp hk)
 rfl
theorem xu{xs:ο}{x:Str}:x∈qX xs↔x∈xs:=by
 have e:x∈qX xs↔ (Sum.inr x:Key)∈Avs:=by
  rw[zrv,List.mem_map];constructor
  ·exact DZ (F9 x h)
  ·show ø y h;have:y=x:=AdN e
   show jp;exact h
 rw[e,XH];constructor
 ·show ø j hj;have:xs.getD j Str.empty=x:=AdN e
  rw[<- this,CG hj];exact yU hj
 ·intro h;show b0 j hj AdV;exact⟨j,hj,FF (CG hj) e⟩
theorem zpe(xs:ο):js qX xs:=by
 have:=zj9 Acv xs.length;show Ap zrv;exact List.Pairwise.imp (fun{a b} h z=>h (by rw[z])) (List.pairwise_map.mp this)
def Et(P:Program)(w:World)(a:Addr)(xs:ο):HO:= AWF (sU ik Ii (mq w) h a (AH qX xs Sum.inr))
def JM(Y_):UX:=so (∃(p:Addr) (xs:ο),vs= [L_]/\rS p ADk/\AKb xs.length/\y0 q q q (KG q Av2))
def SX(Y_):UX:=so (∃(q:Addr) (xs:ο),vs= ALH/\KL q Av2/\ BE qX xs<64/\
 A3s (ms.Perm (qX xs)))
theorem z1o(wc):va "set" (JM X):=by
 rintro pins s σ H xs us Q I r ⟨p,ns,e0,hq,hb,k⟩;subst e0;show NI;cases rx;show AqR;show RO;show ľ;show A0b hl.symm
 refine zmm (κ:=Key) (knd:=pA X.prog X.w) (kf:=Ii) ycm (val:=ET (.inr AqO)) eL pl.isList (ψ i v hv) (B4 hsz hb) A4R
 ·have hi:i<ns.length:=AE hl (ID (BH hv))
  show K' t (X6 rv hi);show BEz (show AfP by simpa using hv)
  have e' :v= .str AqO t:=e;subst e';exact nv (D5 zn4)
 ·rw[hsz,zrv] at hS;have I2:ĵ (AZT Et) OW:=
   kX I.laid hold C1 (Y3 (AZT Et) (A9Q q.stay st))
  exact AwM
theorem zok(r:Vals xs vs)(h:∀i∈is,kA):Vals (Aba xs) (is.map AbU):=zt5 r h
theorem X7{α β:Type}{f:AS_}{d:α}{xs:AI}{is:AL}{e:β}(h:∀i∈is,kA):pick e (xs.map f) is=(pick d xs is).map f:=by
 unfold pick;show AJc;refine List.map_congr_left (AM i hi);show(xs.map f).getD i e=f (AOy d);rw[Aua (h i hi),CG (h i hi),List.getElem_map]
theorem z3j{X:Cx}(hc:C7):hV "sorted" (SX X):=by
 rintro pins s σ H xs us Q I r ⟨q,ns,e0,hq,h64,k⟩;subst e0;show NI;cases rx;obtain⟨⟨o,es,ep,t,hg,O⟩,_,_⟩:=qi q hq;show Amg Ah6
 show š 64
 refine zkh (zm1 Atx hg O ξ fun vals h1 d tk hk hm hlt hold=> ?_)
 show AU ys e1 hp z8y hk;have rv:=zst hm e1;have En:vals.length=ys.length:=AgG rv.length
 have hly:ys.length=Ah6:=hp.length_eq;refine⟨Lz ys,_,_,AE En (zu1 (hp.nodup_iff.mpr (zpe ns))),τ,zwv rv,BEs,fun l h' is e hle a1 a2 hl xG=> ?_⟩
 show Ayn hlt hle;have hix:∀i∈is,i< Ah7:=NC (AJr List.length_map En Ama)
 have hrv:=zok rv hix;rw[AZM Str.empty (Oy APc)] at hrv
 have hms:(pick Str.empty ys is).Perm (qX ns):=(zqr (A7 En a1)).trans hp
 have hlen:Υ (Aa_ Aa0):=BGg
 have I2:AJw AS6 OW:=
  kX I.laid (Aoo hold) hlt2 (Y3 (BV AS6) ⟨hlen,_,e,hrv,hl⟩)
 exact Awj A_E
def tU:ATa Str
 | []=>Č
 | UD::r=>AH tU r (x:: ·)
 | A8=>none
theorem zt3(EM):∀{ds:Β} {vs:Δ} {xs:ο},C8 ->ρ (tU ds) xs ->vs=xs.map WO
 | [],vs,xs,r,h=>Amh
 | SG,vs,xs,r,h=>by
  show Ts;show Bn v us r1 r r;cases d with
  | str x=>
   show A_ tU;show ħ;subst r1;cases q:tU ds with
   | none=>show k8 q
   | some ms=>show An_ zt3
  | _=>cases h
theorem S5(EM):∀xs:ο,HG ADk (xs.map V.str)
 | []=>ARu
 | n::ns=>sy MX (S5 ns)
def X8:Kk:=iq (∃ns,AaT tU/\ns.length<4095/\ Ah6<64/\Ő ο AQq AsD WO)
section
variable{X:Cx}{F0 H0:Hp}{a e:Expr}{pos p pos2 p2:Pos}{t:bZ}
theorem z6s(A_y):
  A7m X8:=fun z E cx=>by
 have inner:Aum (Nu (JM (X.wsh z)) (AfE E)):=ASf (z1o hc) hg2 hm2 zw6 Cf χ χ he rfl
 refine oU (ApG z3j (QJ inner Wq he2) χ χ he2 rfl) (AS1 ?_)
 show Of hq1;refine ES (fun ds Γ1 F1 H1 vs R1 s1 r1 h1=> ?_);show tP X8;show OY
 ·show ADv;obtain⟨v,_,rfl,⟨l,us,rfl,hq,rs⟩,rfl⟩:=r1;obtain⟨ns,hns,hlt,hme,h1⟩:=h1;show N0 (zt3 rs hns);refine⟨l,ns,rfl,ABg,by unfold scanBound;omega,AUj⟩
  refine⟨q,ns,rfl,jW,hme,Anb hp hs⟩;have R2:VT F1 (Nw q (Et X.prog X.w q ns)) Γ1:=R1.grow (mE (ADr (ADh R1.g hq0) (R1.g b u e)) (ADr (LJ hq0) e))
  obtain⟨R3,q1,q2,q3,ap⟩:=GX R2 hl2 (S5 (K:=X.K) (F:=F1) ms);exact Aom S5 ap (h1 ms hs (ET (hp.mem_iff.trans xu)))
 ·exact h1.elim
#where
open PySem.AutoSeq1 (wpAny_loadPart')
open PySem.MeetsSeq PySem.MeetsSeq3 in
theorem z64(A'j):
  Meets (Builtin.«list.__eq__.loop» (D7 [FI,NH,AQX,AQX]))
   (fun A R s=>(AmY {cls:= L4,dict:=dd,data:= Afv,slots:=sl} {cls:= L4,dict:=dd2,data:= Akh,slots:=sl2} BFN s)):=by
 intro prog w A R s h;show ei s;show AlR
 show Aj7
 have hi1:DA items (IJ).toNat AI':=h1;have hi2:DA items2 (IJ).toNat (.str y u):=h2;rw[hi1,hi2];have hne:(x.cps.toList==y.cps.toList)=false:=by
  cases q:(x.cps.toList==y.cps.toList) with
  | false=>rfl
  | true=>
   have e:=eq_of_beq q;exact absurd (by cases x;cases y;simp at e;rw[e]) hxy
 refine z9 (SeqRoads2.EqGives.str x y t u prog w _ _ _ _ ?_);rw[hne]
 show Aj7
 rw[hi1,hi2];refine CU (richCompare .Lt _ _) (wpAny_richCompare_same (typeIs_str _ x t) (typeIs_str _ y u) slot_str_lt (call_str_lt (EJ An)) rfl)
 wp_walk
 exact h
open PySem.MeetsSeq PySem.MeetsSeq3 in
theorem z89(A'j):
  AwZ Builtin.«list.__lt__» (fun A R s=>(AmY {cls:= L4,dict:=dd,data:= Afv,slots:=sl} {cls:= L4,dict:=dd2,data:= Akh,slots:=sl2} BFN s)):=by
 intro prog w A R s h;show ei s;show AlR;show As2
 show Aj7
 exact AcI plain_eq_loop entry_eq_loop (B4 (AHn plain_eq_loop) (z64 l b items items2 n n2 dd dd2 sl sl2 x y t u h1 h2 hxy prog w A R _ ⟨hl,hb,h⟩))
def G8(An8 x Str):Prop:=∃a its t,v= AR/\PlainL h a its/\DA its 0 AI'
theorem z8o(h1:G8 s.heap v x)(h2:G8 s.heap v' y)(hxy:x≠y)(hu:Aj1)(h:Q (pQ x y) s):Ff (oneLt' true v v'):=by
 obtain⟨a,its,t,rfl,⟨o,n,e1,c1,d1,s1⟩,z1⟩:=h1;obtain⟨b,its2,u,rfl,⟨o2,n2,e2,c2,d2,s2⟩,z2⟩:=h2;obtain⟨cls,dict,data,slots⟩:=o;obtain⟨cls2,acf,data2,LC⟩:=o2;cases c1;cases d1;cases s1;cases c2;cases d2;cases s2;rw[oneLt'_eq];show AdK;show L' wpAny_cRoomFor_or (CA hu);refine z9 (wpAny_callSpecialIfBound?_slot (T:= "list") (Is e1) F.slot_list_lt (AVC F.slot_list_lt e1 F.entry_list_lt (F.args_list_lt_2 _ _) (z89 a b its its2 n n2 none none slots LC x y t u z1 z2 hxy) ⟨e1,e2,?_⟩));exact wpAny_truthy_bool h
theorem G8.up(q:G8 h v x)(k:ft P7 pM):G8 h' v x:=by
 obtain⟨a,its,t,e,p,z⟩:=q;exact⟨a,its,t,e,p.keeps k,z⟩
theorem G8.looks(q:G8 h v x):W.Looks M h (typeOf v) (KF "list"):=by
 obtain⟨a,its,t,rfl,⟨o,n,e,c,_,_⟩,_⟩:=q;intro A Q E s k hQ;exact wpAny_typeOf_ref (k _ _ e) (B4 c hQ)
theorem ydp(hl:ARS vs.length)(nd:xs.Nodup)(hu:Aj1):
  Ayp (Re (∀i,kA ->G8 h (vs.getD i Value.none) AVG)) :=by
 show B6 (fun s Q hT h2 hQ=>W.kas_kind (T:= L4) h2 (HQ v hv) χ χ hQ) (fun s i j C hT hi hj hij hC=> ?_)
 ·show ve k hk hv;have:=hT k ξ
  show Ap (CG hk);exact this.looks
 ·unfold W.kas_ask;rw[keyLt'_oneType];refine z8o (hT i ξ) (hT j ξ) ?_ hu hC
  show AMj nd;rw[CG ξ,CG ξ]
  show Ag0 hij
  ·exact key i j ξ ξ q
  ·exact Aik (key j i ξ ξ)
def gl(g:ο):D:= .lst (g.map .str)
def hdS(g:ο):Str:=g.headD Str.empty
theorem yiv(I:Η)(sF:JE)(r:io (gl g) v)(ru:JU)(hg:g≠ []):G8 s.heap u (hdS g):=by
 unfold gl Rep at r;show Bn a vs hq rs r;cases ru;show ARG;cases g with
 | nil=>show ADq hg
 | cons x g=>
  unfold List.map ao Rep at rs;show Bn w us rfl rs rs;cases rv with
  | cons r0 rr=>
   show LU r0;exact⟨a,_,t,rfl,pl,A0 hdS⟩
def z3c:Kk:=iq (∃gs:HP,xs=gs.map gl/\ (∀g∈gs,g≠ [])/\ js gs.map hdS/\gs.length<64/\
   Ő HP (ms.Perm gs) (AaP A0k) gl)
theorem yf5(AkC):hV "sorted" (Cq X.K z3c):=by
 rintro pins s σ H xs us Q I r ⟨F,ds,P,sF,rs,h,k⟩;show A_ z3c;show DL
 ·show NN;obtain⟨v,_,rfl,⟨p,vs,rfl,hq,rs⟩,rfl⟩:=rs;obtain⟨gs,rfl,hne,nd,h64,h⟩:=h;show NI;cases rx;show ARG;show RO;show lL hl2;show AG9 hl2;show š 64
  have hT:İ Atj (G8 s.heap (its.getD i Value.none) ((gs.map hdS).getD i Str.empty)):=NC (by
   show AG9 hi;show OH e1 r1 (Kj (vd rs) i d (gl gs[i]) (AIu W_))
   show AU u e2 r2 rv.get e1;show Abf e2 (Aua hi) List.getElem_map
   exact yiv I sF r1 r2 (hne _ (yU hi)))
  have hup:∀x o,BFx ->B_ ((s.heap.push (seqObj "list" #[] 0)).update s.heap.objs.size (Obj.mapSeq (· ++its.toArray))).get? o:=fun x o e=>by
   show AWv;exact Eq.trans (ADL (zH hlt)) OI
  refine zkh (collect_list (vs:=its) pl.isList ?_ ξ)
  refine⟨Lz (gs.map hdS),_,_,AE (show its.length=Atj by show EU;omega) (zu1 nd),τ,ydp (by show EU;omega) nd (AQI (Ů (X.A.units+1))),fun h2 k2 i hi=>(hT i hi).up (HK (k2 b o (WU hup))),fun l h' is e hle a1 a2 hl' xG=> ?_⟩
  have hsz:s.heap.objs.size<=l:=zM (Nat.le_succ _) (zM (Nat.le_of_eq (((Heap.size_update ..).trans (size_push' ..)).symm)) hle);have hix:∀i∈is,i<its.length:=NC Ama;have hrv:=zok rv (is:=is) (NC Aen)
  have hrs:bv (Aba (gs.map gl)) AiX:=ztr rs (NC (AhE APc))
  rw[AZM [] Aen] at hrs
  have hpm:(pick [] gs is).Perm gs:=QU zqr (O0 gs.length its.length) a1
  have hlen:Υ (pick V.non vs is).length:=by
   unfold pick;show ACh a1.length_eq List.length_range;omega
  have I2:AJw AiX (PR h' s.toks):=
   Ae7 (Aoo hup) hsz (Y3 (BV AiX) ⟨hlen,_,e,hrv,hl'⟩)
  refine FL FI I2 (k _ _ l hrs (I.hok.fresh hsz) (h _ hpm ?_));have hp:=zr0 a2;rw[AZM [] Aen] at hp
  exact List.pairwise_map.mp hp
 ·show EB
#print L3
namespace L3
open PySem PySem.Spec PyProof.Rows L2
open PySem.AutoSeq1 (wpAny_loadPart')
theorem zm8(l:Addr)(items:D3)(n:Nat)(b:Addr)(items2:D3)(n2:Nat)(sl:í)(hc0:¬(BGo items.isEmpty Ass))(hc1:Ads)(hs2:Ass<=sizeLine+1):
  AwZ Builtin.«list.extend» (fun _ R s=>(AmY {cls:= L4,dict:=none,data:= Afv,slots:= #[]} {cls:= L4,dict:=none,data:= Akh,slots:=sl} Value.none (PR (s.heap.update l (Obj.mapSeq (XX (x++items2)))) s.toks))):=
 A_5 (by
  show ei s;show AlR;have f1:=AutoSeq1.idx_int;have f2:=AutoSeq1.sub_tuple_tuple;show As2;have f4:=AutoSeq1.sub_tuple_list;have f5:=AutoSeq1.sub_list_tuple;have hz' :(items++items2).size<=sizeLine+1:=AE Array.size_append hs2
  wp_walk using (wpAny_updateSeq hl rfl (hz:=hc1) (_hz' :=hz')),BBd,BBe;exact Md h)
theorem z46:Xj X "list.extend" zr1:=by
 intro pins s σ F H l vs args xs ds us P Q I hl sF rs ra rv h k;show A_ zr1;show DL
 ·show AZv ra;obtain⟨v,_,rfl,⟨b,zs,rfl,hq,rz⟩,rfl⟩:=ra;show AU u rfl ru vals1 rv;cases ru;obtain⟨z,its,n,r,hle,e⟩:=I.lstM hl;obtain⟨its2,r2,⟨o,n2,e2,c2,d2,s2⟩,hz2⟩:=BA';obtain⟨cls,dict,data,slots⟩:=o;cases c2;cases d2;cases s2;have adu:=r2.length;show lL l1;have l2:=lB rz;have hsz:Υ Ast:=ACw List.size_toArray List.size_toArray
  have S6:¬(BGo its.toArray.isEmpty Ast):=QY (z9m hsz) Bool.and_false zG
  refine AVC PySem.F.slot_list_extend e PySem.F.entry_list_extend (PySem.F.args_list_extend_2 _ _)
   (Alc zm8 b its2.toArray n2 slots S6 AUK ξ) ⟨e,e2,?_⟩
  refine FL Ρ (I.lset (its' :=its++its2) hl e Μ (r.append r2) ?_) (k _ _ (Jv rs rz) h.2)
  rw[List.length_append];omega
 ·show EB
def zvh:Kk:=gE (.dic ks _) (P (ks.map eN))
theorem Yb:AoU (AJZ us.length ->(∀(i:Nat) (x:V) (u:Value),WG ->CS us u ->im) ->OV)
 | [],[],_,_=> B9
 | [],A8,h,_=>BI
 | A8,[],h,_=>BI
 | FM,u::us,h,k=> .cons (k 0 x u rfl rfl) (Yb ASB fun i y w e1 e2=>k B2 y w (BH e1) (BH e2))
theorem JN:∀{kvs:P8} {ws:ABj} {i:Nat} {p:κ×Value},Af' ->AH7 p ->∃v,AJz (AK,v)/\RelV v p.2
 | _,_,_,_,B9,e=>AJk
 | _,_,0,p,.cons (a:=q) h _,e=>by
  simp at e;subst e;show AFY h;exact⟨q.2,Adh h1,h2⟩
 | _,_,BQ,p,.cons _ r,e=>by
  show OH e1 e2 (tz JN r Ē)
  exact⟨v,AN e1,e2⟩
theorem LK:∀{ks:Xs} {vs:Δ} {i:Nat} {k:κ} {v:V},CS w_ (k,v) ->CS ks k/\ADz:=fun{ks vs i k v} e=>by
 rw[List.getElem?_zip_eq_some] at e;exact e
theorem ycs(wc):va "list" (Cq X.K zvh):=by
 rintro pins s σ H xs us Q I r ⟨F,ds,P,sF,rs,h,k⟩;show A_ zvh;show DL
 ·rename_i ks ds';show NN;obtain⟨v,_,rfl,⟨a,vs,rfl,hq,hkl,rs⟩,rfl⟩:=rs;show NI;cases rx;obtain⟨hz,hsm,ws,kv,hd⟩:=Q8 I.hok (sF _ _ hq);show Ki ob es ep hd hd;have hm:APF s.heap.DictAt:=⟨ob,es,hd⟩;have Oq:APA=ws.length:=kv.length;have hlk:ks.length=ws.length:=by rw[<- Oq,List.length_zip,<- hkl,Nat.min_self]
  rw[Oq] at hz;refine W.kdl_call (ApP W.kdl_dict hsm) eL hm hz fun h' tk acc c hold hg hac=> ?_;have hv:Vals (ks.map kV) acc.toList:=by
   show ApU (by show x0 Array.length_toList;exact hlk.trans (hac.1).symm)
   obtain⟨k,w,e3,e4⟩:=A0P hac.2
   obtain⟨v5,e5,_⟩:=JN kv e3;have e5:=(LK e5).1;show AGz e5 e1;cases e1;rcases yO e4 with ⟨j,t,rfl,rfl⟩ | ⟨x,t,rfl,rfl⟩
   ·exact UF
   ·exact UF
  have I2:AtN Afm OW:=
   kX I.laid hold C1 (Y3 (BV Afm) (A2x Ĉ))
  exact FL iA I2 (k _ _ _ (Rh ks) (I.hok.fresh C1) h)
 ·show EB
#print L3
namespace L3
open PySem PySem.Spec PyProof.Rows L2
theorem zux(I:Η)(e:Ė)(ho:BGG):pV a TL s:=by
 have ne:Aws Qr:=AWs z (by rw[z,e] at q;cases q;exact n _ rfl)
 refine AmO s.toks (A'5 AyA) ģ
 ·rw[dI (Ξ (by rw[z,e] at n;cases n))];exact n
 ·rw[dI (AFx)];exact q
 ·rw[dI (AFx)];exact q
 ·rw[dI (AFx)];simpa using q
 ·show SL
  ·subst hb;rw[jW] at q;cases q;show CI ho;exact(A5m e)
  ·rw[eB] at q;exact œ I.hok q AkU (UB z Azo) fun c xs z=>Azo
def Itw(Apk):It:=AEo Ahc (∃k,AJz (k,x)) Ahd
theorem Ot(I:Η)(e:E_ TL)(G9:BBq):∃ws,Af'/\APF s.heap.DictAt:=by
 obtain⟨ho,_,_,ws,kv,o',es,ep',h1,h2,h3,h4⟩:=(Bz (AQ1 a TL) (qi a e));rw[ho] at h1;cases h1;obtain⟨es',h5⟩:=G9;rw[h3] at h5;cases h5;exact⟨ws,kv,o,es,ho,h2,h3,h4⟩
theorem z34(A7J):AFV (Itw a o kvs) (h.IsValIter it a i kvs.length ep) where
 mem:=An
 obj:=Ŗ (by
  show ĳ
  show ANb;exact AEe)
 keep:=AYG
 item:=by
  intro X hP hw hK hc i pins s σ H E I hf st hg;show KA;show Ş;show U_
  show AGP;show Ĥ;show AGH;show ApZ
  show AoC;refine wpAny_pyNext_values_item st hd hw (ACr hit' sb);show ANE;show Ki o' e c d hit';exact Ix u (AwP v rv ⟨rfl,k,hv⟩)
 done:=by
  intro X hP hw hK hc i pins s σ H E I hf st hg;show KA;show Ş;show U_
  show AGP;show Ĥ;show AGH;exact wpAny_pyNext_values_end eL st hd (List.getElem?_eq_none hx) AGS
 self:=fun _ _ _ _ _ st h=>wpAny_pyIter_valiter st h
def S7(ADn):TI:=AQ' (AVv (qB GM) (AAc ->∀o,R (Itw a o kvs) AgL))
theorem z2v(he:SO)(hbase:cc "values"=BF e:=by rfl)(hline:ib:=by rfl):
  c0 ABN (S7 te):=by
 show d6;refine wpAny_Call_method0_late hbase hline (AVN hq1);obtain⟨x,H1,I1,r1,a,kvs,ex,ea,q⟩:=hq1;subst ex;show AXq;show Ap1 (.inl ea);refine⟨"dict","dict.values",PySem.F.plainAttrs_dict,PySem.F.slot_dict_values,PySem.F.type_dict_values,hT,hN,Aox⟩;obtain⟨hz,_,ws,kv,dd⟩:=AWD Q8;refine call_meetsIn PySem.F.slot_dict_values hT PySem.F.entry_dict_values (PySem.F.args_dict_values_1 _) (meets_dict_values AAd a hsm) (EJ ⟨ws,dd⟩);obtain⟨o,es,ep,h1,h2,h3,h4⟩:=id dd;show AZN h1;have I2:=zux I1 ea h1;show Ay2;have I3:KB AgL (w8 s1 (BCc "dict_values") s1.toks):=I2.kept Th;refine wpAny_pyIter_values vw (hm.push _) ?_;refine⟨_,[AwE],_,_,_,rfl,x6 I3.kept Th,Apo z34,?_,He,q hz o⟩
 ·rw[kv.length];exact RS
 ·show AZ1 AwE
  exact I3.fpOk C1 (I3.hok.fresh C1)
section
variable{K:W.Frag}{F0 H0 F H:Hp}{σ:St}{Γ:Rc}
theorem SR.chg(R:DH)(h2:Ĝ)(h3:d_)(ap:Ľ):fN F AJS:=by
 show DC ⟨R.gr.f,ģ,ģ,ŏ (R.gr.n b o q n)⟩ R.len (ψ j s' q) R.ap
 ·rw[ABJ h2];exact R.g b u q
 ·rw[ABJ h3];exact R.gr.h b u q
 ·show Ape (R.sl j s' q) (EH (pp (Dz p2 hb).1 u q')) Qr (ap j A8i) q'
#where
theorem z6z(A9M):AhY Itw xs:=by
 show lL hl;show Aps vs.length
 show AGW τ (i4 (yB AP2))
 show AL7 hd;show Afe (ID hv);show AiS
 obtain⟨rfl,k,z⟩:=z;have:=(LK z).2;show Ap hv;show DT;exact Ajj
def zx1(tn:pP):bZ:=Sc tn t (MT t AiI (P (lK ts) Γ1))
section
variable{X:Cx}{F0 H0:Hp}{e tg:Expr}{apos cpos:Pos}{tn:pP}
open Classical in
theorem z5a(he:AL5)(hbase:cc "values"=BF e:=by rfl)(hline:ib:=by rfl):
  AEi ABN (zx1 tn):=AQF (A1P z2v) (Acg (fun t Γ1 F1 H1 v as R1 s1 nd hn r h1=>by
  show OY
  ·rename_i ks ts;show du;obtain⟨a,vs,bs,rfl,rfl,ea,hkl,r⟩:=r;refine EG a _ ea (AM hz o);show Ajl;have sF:gu (APh AHN (AG8 bs (H1 b) (F1 b))):=IM (by
    show N4 (AGA (H1 b) (F1 b));rw[D_ (Ξ (AgD (ACT List.mem_cons_self))),A3p hb]
    exact e)
   have R2:=A'D R1.chg sF (FR) A5x
   ·refine k _ Γ1 _ _ _ R2 (xc sF) (z6z ?_ hkl (AwL A6' r) hz) h1
    ·show ρ (AC (a=a) (some (HO.frz o VW)) (if a∈bs then H1 a else F1 a)) (HO.frz o VW);show We
    ·show N4 (AC (c=a) AHN (if c∈bs then H1 c else F1 c));rw[D_ (show¬c=a from č nab hc),AZ hc];exact hu
   ·show lS (AGA (H1 b) (F1 b));show SL
    ·subst hb;rw[BU] at e';rw[jW];exact e'
    ·rw[ß] at e';rw[dI hb];split at e'
     ·exact e'
     ·exact R1.g b u e'
   ·show lS (AGA (H1 b) (F1 b));show SL
    ·subst hb;exact(hn b zV).2
    ·show A_L
  ·show ü))
#where
theorem Hf(D9){F:Hp}{k:Key}{v:V}(h:fS (eN k) v):v=kV k:=by
 cases k with
 | inl i=>unfold eN Rep at h;exact h
 | inr x=>unfold eN Rep at h;exact h
theorem zvy(h:bc)(k:Key):(jt w_ k).isSome=AUC:=by
 unfold jt mV;rw[Option.isSome_map];induction ks generalizing vs with
 | nil=>rfl
 | cons k' ks ih=>
  cases vs with
  | nil=>cases h
  | cons v vs=>
   rw[List.zip_cons_cons,List.find?_cons,List.any_cons];show OM k' k
   ·simp [q]
   ·simp only [q,decide_false,Bool.false_or];exact ih (BH h)
theorem yfa{ks:Be}{vs:Δ}{k:Key}{v:V}{q:Nat}(nd:ks.Nodup)(h1:ar ks k)(h2:ar vs v):A_H:=by
 unfold jt;induction ks generalizing vs q with
 | nil=>simp at h1
 | cons k' ks ih=>
  cases vs with
  | nil=>simp at h2
  | cons u vs=>
   show AqH;cases q with
   | zero=>
    have e1:k' =k:=AN h1
    have e2:u=v:=AN h2
    simp [e1,e2]
   | succ q=>
    have hm:AWA:=yV à
    have ne:k' ≠k:=Ξ (AO3 (z ▸ hm));simp only [ne,decide_false];exact ih AXa à AIe
def S8(i:Nat)(tk:aX):TT2:=AkV (AGG ts (AiJ/\Ae6/\Cb (! AUC)))
def S9(i j:Nat)(tn:pP):aF:=S4 tn t (AGG ts (AVD AiO Ae6 (mV ks k=false) (∀cs,k_ (.tr AVk (.dic (ks++ [k]) AQp)))))
def Tc(Azd):aF:=ACN (∃k k2 as ks ts q LQ xs,AiO/\AiP/\Ae6/\ks.Nodup/\ar ks k/\
 ar ts (.dic LQ qa)/\WE LQ.length/\k_ (Aad A7l))
section
variable{X:Cx}{F0 H0:Hp}{ke value:Expr}{pos npos xH JQ pos' pos2:Pos}{x y w:Str}{i j l:Nat}{tk tv:aX}{tn:pP}
theorem ygs(AMh)(hk:B' ke tk)(hN:Sr)(hv:ax)(hd:B1 x "__debug__":=by decide)(hcd:B1 x "__classdict__":=by decide)
  (hb:behindInMarks ð HL=false:=by show AOD):
  pr (.Compare ke [ð] [.Name x npos] pos) (S8 i tk):=fun z E cx=>
 NT (Bi ZF (Bi ztp hu Ad2 U') hb) (EI hq1 (K0 hq1 (fun kd Γ1 F1 H1 v R1 s1 rk hq2=>by
  obtain⟨kk,as,ks,ts,e1,e2,h1⟩:=hq2;subst e1;show lh rk;subst ev;obtain⟨o,e3,w,rfl,nd,hn,r⟩:=AUr;show du;obtain⟨a,vs,bs,rfl,rfl,ea,hkl,r⟩:=r;refine⟨AR,e3,a,_,rfl,A4_,_,rfl,?_⟩;rw[zvy hkl];exact JJ R1 s1 h1)))
theorem yfx(AMh)(A7f)(hval:BGb)(hs:ALn HL Abw:=by rfl)
  (hd:B1 x "__debug__":=by decide) (hcd:B1 x "__classdict__":=by decide) (hd2:B1 y "__debug__":=by decide) (Eu:B1 y "__classdict__":=by decide):
  AI6 (ABM HL Abw) (S9 i j tn):=fun z E cx=>
 tL (AYa U' Apx hs) (Hc Dn zp zp (fun t Γ1 F1 H1 v cs R1 s1 ndc hnc rt wV=>by
  obtain⟨kk,as,ks,ts,e1,e2,hh,hl,q⟩:=wV;obtain⟨o,e3,w,rfl,nd,hn,r⟩:=AUr;obtain⟨o2,e4,w2,rfl,rk⟩:=R1.sl j _ e1;show lh rk;subst ev;show du;obtain⟨a,vs,bs,rfl,rfl,ea,hkl,r⟩:=r;refine⟨AR,e3,kV kk,e4,a,_,rfl,A4k,?_⟩
  show UZ own (ASx A1g) ⟨_,_,e2,e3,hb⟩;have dis:ASx (b∉cs):=fun b hb hc=>(hnc b hc).2.2 i (own b hb);show Ajl;rw[X3 hkl];unfold jg fL;rw[D_ (ADd hh),D_ (ADd hh)]
  refine Fu (R1.wrT e2 e3 (Bz (iQ (AYO MW ts) ox a) zV) (t:= .tr (qS++cs) (.dic (ks++ [kk]) AQp)) ⟨_,rfl,?_,He,?_⟩ He) s1 (q cs)
  ·exact List.nodup_append.mpr ⟨nd,ndc,fun x hx y hy e=>Awi⟩
  ·show AGJ
   ·exact hn b hb
   ·exact⟨OA hnc,AIb hnc⟩
  ·unfold TR;refine⟨a,vs++ [v],AOW,rfl,rfl,jW,A0 hkl,?_⟩
   have m:=AMg fD.move Atd Go ts vs bs (AFU (AfV (č nab hb))) r
   have l:=AMg TR.move Atd Go t v cs (AFU (AfV (Ξ (dis a List.mem_cons_self (z ▸ hb))))) rt
   exact A1O
  ·show AGJ
   ·show B3 hb
   ·show DI (AKB hnc)))
theorem yh2(hu:hG)(hN:Sr)(hv:ax)(Td:AQ0)(hv2:BCj)(hN3:DA X.N l w)(hv3:uN X.env.scope w)(hval:AkQ)
  (hs:ALn A1S (ED w JQ):=by rfl)
  (hd:B1 x "__debug__":=by decide) (hcd:B1 x "__classdict__":=by decide) (hd2:B1 y "__debug__":=by decide) (Eu:B1 y "__classdict__":=by decide)
  (hd3:B1 w "__debug__":=by decide) (abb:B1 w "__classdict__":=by decide) (hns:HD (.Name y xH):=by exact ATI):
  AI6 (ABM A1S (ED w JQ)) (Tc i j l tv):=fun z E cx=>
 tL (AYa (Bi z2r hu U' Apx hns) (Sn wK i l hN3 hv3 hd3 abb) hs) (Hc Dn GR GR (fun d Γ1 F1 H1 v R1 s1 rd K4=>by
  obtain⟨kk,k2,as,ks,ts,q,LQ,xs,e1,e1',e2,ndk,hq,ht,hl,hnx⟩:=K4;obtain⟨o,e3,w,rfl,nd,hn,r⟩:=AUr;obtain⟨o2,e4,w2,rfl,rk⟩:=R1.sl j _ e1;obtain⟨o3,e5,w3,rfl,rk2⟩:=R1.sl l _ e1';show lh rk;subst ev;show lh rk2;subst ev;show du;obtain⟨a,vs,bs,rfl,rfl,ea,hkl,r⟩:=r;obtain⟨u,b1,bs',b2,hu',hbs,rc,back⟩:=z9s r ht;subst hbs;unfold TR at rc;obtain⟨c,us,ds,rfl,rfl,ec,LR,rc⟩:=rc;show AYr rc;have nab:a∉ł [c]:=AO3;have nd2:=AXa;have hac:a≠c:=Ξ (nab (FX z))
  have hc1:MV (b1++b2) (b≠c):=fun b hb z=>by
   subst z;show AtM nd2;show AGJ
   ·exact p.2.2 b hb b Μ rfl
   ·have:=AG' p.2.1;exact this hb
  have gd:oY H1 a (kV kk) (BO (AA c)):=fw A4_ (yfa ndk hq hu')
  refine⟨AR,e3,kV kk,e4,a,ARn,rfl,gd,kV k2,e5,c,_,rfl,vV.k (k:=k2) ec (by show AIL LR;exact hl),?_⟩
  rw[X3 LR];refine Fu (R1.wrT e2 e3 (Bz (iQ (AYO (a::(AFd [c])) ts) ox c) Az3) (t:= nK (b1++ ([c]++b2)) (.dic ks A7l)) ⟨_,rfl,nd,hn,?_⟩ (EH AJ9)) s1 hnx
  unfold TR;refine⟨a,vs,ł [c],rfl,rfl,Lv dI hac ea,hkl,?_⟩
  refine back Go (AFU (dI (hc1 b hb))) ?_
  unfold TR;exact⟨c,_,[],rfl,rfl,jW,zvv LR,AmD rd⟩))
#where
def acg(Ya):aF:=Wp (∃as ts,KS (.tr as AH6)/\Ÿ Γ.set υ)
section
variable{X:Cx}{F0 H0:Hp}{pos npos apos cpos:Pos}{x:Str}{i:Nat}
#where
abbrev Bq:=T ->Β ->BG (BG T D) (BG T XV)
def jG(as:AO)(H:Hp):Hp:=WP (AG8 as none (H b))
theorem z5r:kG (jG as H):=IM (by
 show LL jG;split at e
 ·cases e
 ·exact e)
theorem zqx(h:b∈as):AeO as:=AKT jG ACo
theorem z2x(h:b∉as):jG as H b=H b:=AKT jG ă
theorem TR.root(AEn):∀{t:T} {v:V} {a:Addr} {cs:AO},pE v g9 ->v= AR
 | .leaf _,_,_,_,h=>AuZ
 | YA,_,_,_,h=>ApV
 | u7,_,_,_,h=>ApV
 | u8,_,_,_,h=>ApV
 | Lc .ob,_,_,_,h=>by show Fs;obtain⟨b,_,_,_,rfl,e,_⟩:=h;cases e;rfl
 | .kt _,_,_,_,h=>AuZ
def vq(K:W.Frag)(sp:Bq):Sp:=AOq (∃F a bs t ds rest P Ex,vs=V.ref a::rest/\JE/\ AfR/\ (So qS gc)/\pE CB MW/\AWM/\sp t ds P Ex/\
 (∀t' d v cs F' H',AXd Œ ->(g9).Nodup ->Ο (So (a::cs) (LS F'/\AeO MW)) (ALS CB g9) Q4 (P t' d) g_)/\
 ∀x C dx t' cs F' H',AXd Œ ->(g9).Nodup ->Ο (So (a::cs) (LS F'/\AeO MW)) (ALS CB g9) (AvU Œ) (Ex t' x) AHV)
def startM(n:Nat)(s:Slot)(ds:Β):G2:=s::(ds.map .pu++AJh (n - 1 - ds.length) υ)
theorem z4z(A3e){a:Addr}{bs:AO}{t:T}{ds:Β}{vs:Δ}(h:kG F0)(nd:AfR)(hn:ASx (LS F0))(rt:TR K F0 H t CB MW)(r:Azu):
  SR K F0 Œ F0 H (L2.start N (AR::vs)) Ajm:=by
 have hl:=lB r;have slot:∀(i:Nat) s,CS Ajm s ->∃o,CS (L2.start N (V.ref a::vs)) o/\pC K F0 H Œ s o/\ (i≠0 ->∀o c,¬iQ s o c):=fun i s e=>by
  show LL startM;unfold L2.start;cases i with
  | zero=>cases e;exact Tl rfl ⟨_,rfl,nd,ABH (hn b hb) (zqx hb),rt⟩ (Ξ (AIn z))
  | succ i=>
   simp only [List.getElem?_cons_succ] at e;simp only [List.map_cons,List.cons_append,List.getElem?_cons_succ];show Agc
   ·show AHq List.getElem?_append_left List.getElem?_map
    cases q:ds[i]? with
    | none=>show eJ
    | some d=>
     show Pf;cases e;show OH e1 r1 (vd r q);show DC t_ ?_ (ĥ r1) (Ō _ z z);show A5H e1;rfl
   ·show AU7 List.getElem?_append_right
    split at e
    ·cases e;rename_i hlt;show AdH hlt;show DC none ?_ trivial (Ō _ z z);show AxL (if_pos (by simp only [List.length_map,List.length_cons];omega))
    ·cases e
 show DC (mE h z5r) (by simp [L2.start,startM,hl];omega) (Tm i s) (fun i j c ⟨s,o,e,_,hs⟩ ⟨s',o',e',_,hs'⟩=> ?_)
 ·obtain⟨o,h1,h2,_⟩:=slot i s e;exact⟨o,h1,h2⟩
 ·by_cases hi:i=0
  ·by_cases hj:j=0
   ·rw[hi,hj]
   ·show AJn h3 (slot j s' e') (h3 hj _ _ hs').elim
  ·show AJn h3 (slot i s e) (h3 hi _ _ hs).elim
section
variable{K:W.Frag}{F0 H0 F H F' H' :Hp}{σ:St}{Γ:Rc}
#where
structure adw (XU) (x:Str) (k:Nat) (ps:ο) (sp:Bq):Prop where
 ex:ANC vq
structure adx (AoB Bq):Prop where
 ex:Api vq
abbrev sV(a:Addr)(Q:BG T D):qR:={nx:=fun Γ=>(Ana (Q t' Ρ)),rt:=L8,rm:=fun d Γ=>(Ana (Q t' d))}
abbrev sW(a:Addr)(Ex:BG T XV):XW:=fun Γ C=>(Ana (Ex t' C))
section
variable{P:Program}{w:World}{K:W.Frag}{mg:CD}{base:Heap}
theorem abd{x qual p0:Str}(AFz){fd:FuncData}{N ps:ο}{k:Nat}{sp:Bq}(Fn:Ŕ)(S:AFj (p0::ps))(len:∀t ds Q E,sp t ds Q E ->Aaa)
  (hbody:∀(cdv:Value) (A:Around) (outer:EX) (s:Shared) (H:Hp) (E:XK),AFW (∀F0 H0:Hp,
   ∃tt,vf AfQ F0 H0 yY tt/\∀a bs t ds Q Ex,sp t ds Q Ex ->tt AaB Ajm AN7)):
  PY base Nc Fc f fd (p0::ps) (vq K sp):=by
 obtain⟨oc,od,kV,doc,pm,an,cdv,ct,osl,rfl,lk,hcd⟩:=Fn.ex;refine Nt lk hcd S (fun vs H Q E hh=>by
  obtain⟨F,a,bs,t,ds,rest,P',Ex,ev,_,_,_,_,rs,hs,_⟩:=hh;rw[ev,List.length_cons,List.length_cons,<- W',iX len hs]) fun A outer s H vs Q E hr hh=> ?_
 obtain⟨F0,a,bs,t,ds,rest,Pd,Ex,ev,sF,nd,hn,rt,rs,hsp,hQ,hE⟩:=hh;subst ev;obtain⟨tt,ht,hq⟩:=BBJ H E hr F0 Œ;have cx:Ctx (AN0 wsh BA_) F0 Œ AN7:=by
  show AC' (fun pins σ Γ F H1 s1 e s' I R hx=> ?_);show AGX;obtain⟨Γ',F',x,R',_,xr,_,⟨cs,t',e0,z1⟩⟩:=z;obtain⟨o,e1,v,rfl,nd',hn',JR⟩:=AnO;have hv:=JR.root;subst hv;exact hE x C dx t' cs F' H' R'.gr nd' hn' JR (xr.back R.gr.h) z1
 refine⟨_,AVl,F0,startM N.length AbJ ds,sV a Pd,z4z sF nd hn rt rs,hq a bs t ds Pd Ex hsp,⟨fun Γ F' H' σ R' _ A4'=> ?_,fun _ _ _ _ _ _ q=>q,fun _ _ _ _ _ _ q=>q,fun d v F' H' gr rv q=>q.elim,fun _ _ _ _ _ _ q=>q.elim,fun _ _ _ _ _ _ _ _ _ q=>q.elim,fun d v Γ F' H' σ R' rv A4'=> ?_⟩⟩
 ·obtain⟨o,e1,v,rfl,nd',hn',JR⟩:=AnO;have hv:=JR.root;subst hv;exact hQ t' Ρ Ρ cs F' H' R'.gr nd' hn' JR MX q
 ·obtain⟨o,e1,u,rfl,nd',hn',JR⟩:=AnO;have hv:=JR.root;subst hv;exact hQ t' d v cs F' H' R'.gr nd' hn' JR rv q
#where
def ach(HA):aF:=AEZ (D.rm d Γ1)
def abe(sQ)(m:Str)(i:Nat)(sp:Bq)(t:bZ):aX:=A9p (∃as fs ts,ATC/\m∉fs)
def abf(i:Nat)(sp:Bq)(t:bZ):aX:=A9p (∃a bs tt,KS (.tr MW tt))
section
variable{X:Cx}{F0 H0:Hp}{e:Expr}{es:AD}{pos p apos:Pos}{x m:Str}{C f:Addr}{fd:FuncData}{ps:ο}{k i:Nat}{sp:Bq}{te:aX}{t:bZ}
#where
def qx(h:Heap)(d:Addr)(es:ADP)(ep:Nat):Prop:=∃o,ut d/\o.ExactDict/\Afa
theorem qx.at(x:AUf)(k:∀o,ut d ->qV d):qx h' d es ep:=let ⟨o,e,r⟩:=x;No (k o e) r
theorem qx.lt(x:AUf):ARU d:=let ⟨_,e,_⟩:=x;G'
theorem qx.typeIs{s:Shared}{d:Addr}{es:ADP}{ep:Nat}(x:AQj):s.TypeIs (AA d) "dict" :=let ⟨o,e,c,_⟩:=x;yo c.1
section
variable{prog:Program}{w:World}{A:Around}{E:dR}{s:Shared}{d it:Addr}{es:ADP}{ep i:Nat}
theorem z8j{Q:dR}(hd:AZ7 d)(hm:AQj)
  (hQ:ALu (Mb "dict_keyiterator" #[.ref d,s0,ah es.size,ah ep])):ATm d:=by
 show Ki o ho hc hdat hm;have hT:=hm.typeIs;refine wpAny_pyIter_slot hT PySem.F.slot_dict_iter (sv PySem.F.slot_dict_iter hT PySem.F.entry_dict_iter PySem.F.args_dict_iter_1);unfold Builtin.«dict.__iter__»;show J_;unfold Builtin.Dict.dictSlotNone;show L' wpAny_notOrdered_dict hT;show fg (pure (Value.ref d));refine zZ ?_;show i' (Builtin.Dict.showsAll d);unfold Builtin.Dict.showsAll;rw[D_ (AJ4 hd)]
 show eC;show KW wpAny_dictEntries ho hdat;show KW wpAny_dictEpoch ho hdat;show EF wpAny_newObj_type (zZ (BBv "dict_keyiterator" PySem.F.slot_dict_keyiterator_next.lookup))
 simpa [rawInt] using hQ
theorem z8x(Axm)(hlt:Aak)
  (hQ:vi (Aq3 h'.IsKeyIter) (AlH it) (Q (some Aa1) LX)):ı it:=by
 show Ki o ho hc hd hit;show Ki od hod hcd hdd hm;show AJb;show ASU (AIU hit.typeIs PySem.F.slot_dict_keyiterator_next
  (sv PySem.F.slot_dict_keyiterator_next hit.typeIs PySem.F.entry_dict_keyiterator_next PySem.F.args_dict_keyiterator_next_1))
 show eC;show J_;show J_;show AYP;show KW wpAny_fieldsOf ho hd;have hown:Si Builtin.Dict_items.ownsTuple "dict_keyiterator":=AB
 show AQ3 hown;show ADt AU1;show AXx AU1;show eC;show Aq8;show AV Μ
 show eC;show Aq9;show AV Μ
 refine zZ ?_;show A9Y BFj
 show J_;show AYP;show L' wpAny_isOneOf_keyiter hit.typeIs;show i' (AQ6 b9 1 (K_+1));refine z9 (wpAny_setField ho hd Μ ?_)
 have hit' :Aq3 (s.heap.update it (Obj.mapFields (·.setIfInBounds 1 (rawInt ((i:Int)+1))))).IsKeyIter:=
  Am3
 show IF wpAny_holding;refine z9 (wpAny_isOneOf_keyiter (s:={s with heap:=s.heap.update it (Obj.mapFields (·.setIfInBounds 1 (rawInt ((i:Int)+1))))}) hit'.typeIs ?_);show FB (pure Aa1);exact zZ (zZ (Md (zZ (hQ _ hit' Ab1))))
theorem yd0(AMI)(Axm)(hge:es.size<=i)
  (hQ:∀h',Avz ->AUR):ı it:=by
 show Ki o ho hc hd hit;show Ki od hod hcd hdd hm;show AJb;show ASU (AIU hit.typeIs PySem.F.slot_dict_keyiterator_next
  (sv PySem.F.slot_dict_keyiterator_next hit.typeIs PySem.F.entry_dict_keyiterator_next PySem.F.args_dict_keyiterator_next_1))
 show eC;show J_;show J_;show AYP;show KW wpAny_fieldsOf ho hd;have hown:Si Builtin.Dict_items.ownsTuple "dict_keyiterator":=AB
 show AQ3 hown;show ADt AU1;show AXx AU1;show eC;show Aq8;show AV Μ
 show eC;show Aq9;show AV Μ
 refine zZ ?_;show A9Y (Array.getElem?_eq_none hge)
 show J_;show AYP;show i' (setField b9 0 Χ);refine z9 (wpAny_setField ho hd Μ ?_)
 show Pl ARB;show J_;show Aj4;show AVK ACn
 show ApA
 show AVm ACn
 show AdL;show IF wpAny_handled;rw[show ASk from hh];show qo zZ wpAny_throw;show KW ApC AOz isSubtype_stop;exact zZ (hQ _ Aya)
theorem z0y(AMI)(I d:Addr)(hne:d≠I)(es:ADP)(ep:Nat):
  Walks prog w A I [I,d] [I] es.size Ac2 (N9 h (h.IsKeyIter I d i es.size ep/\AUf)) where
 sub:=Atz
 frame:=ww st hk ⟨A6m,bi (st.2).at (hk d Μ o e)⟩
 item:=fun i s Q E hi st hQ=>z8x ce st.2 hi fun h' hit' hs' =>hQ _ h' s.toks (nv hi) ⟨hit',bi (st.2).at (hs'.extBut d o hne e)⟩ (AQv (hs'.extBut b o (ANs h h) e))
 done:=fun s Q E st hQ=>yd0 hh ce st.2 C1 fun h' he' =>(A5Q (he' b o (ANs h h) e))
 self:=fun _ _ _ _ st hQ=>wpAny_pyIter_keyiter ce hQ
theorem zv0{Q:DJ Ζ}(hh:NB)(hsm:AZ7 d)(hm:AQj)(hb:Υ es.size)
  (h:∀(vals:Ζ) (h' :Heap) tk,vals=es.toList.map (·.key) ->As1 ->(AWu) ->Q vals OW):
  AGw collect d:=by
 have K:W.KdlSrc prog w "dict" d d es.size Ac2 (Re AUf):={
  type:=E4 hm hm.typeIs
  there:=E4 hm ⟨hm.lt,hm.lt⟩
  keep:=Ō hm hk (bi hm.at (hk d Pe o e))
  notList:=AB
  notTuple:=AB
  hint:=fun _ _ _ _ hm hq=>W.kdl_hint_dict hm.typeIs hq
  iter:=Ō hh hm ⟨_,_,(FU hq (z8j hsm hm hq)),z0y hh _ d (zH hm.lt) es ep,⟨RS,bi hm.at VU⟩⟩}
 unfold collect;have key:AsE "proto.collect" (D7 [.ref d]) (IL r (A'r {cls:= L4,dict:=none,data:= .seq acc c',slots:= #[]})):=by
  refine codeAny_builtin PySem.F.entry_proto_collect ?_;show BGR;show FB (Ab4>>=fun l=>(Aki "list.__iadd__" (D7 [l,.ref d])));show AuP;show A0x;show BGS;have hm1:qx (s.heap.push jY) d es ep:=bi hm.at VU;have hSl:=hm.lt;show AWR hS jY jY LW;show FB (Builtin.List.listExtendWith MC (AA d) MC);exact W.kdl_extend (s:=AHY jY) (R:=fun r s' =>(A'r {cls:= L4,dict:=none,data:= .seq acc c',slots:= #[]})) K hh hm1 s.heap.objs.size (Nat.ne_of_gt hSl) (ú hSl) MC 0 hS (fun h' tk acc c' hold hS' hacc=>⟨h',tk,acc,c',rfl,rfl,hold,hS',hacc⟩) hb
 show Axp (codeAny_mono key (ψ r s' hq1));obtain⟨h',tk,acc,c',er,es',hold,hS',hacc⟩:=hq1;subst er es';show Pl (load s.heap.objs.size);refine M3 load (wpAny_load hS' ?_);show ĕ;refine h acc.toList h' tk ?_ (zF hS') (md ob (hold b ob AMc OI));show UI
 ·rw[Array.length_toList,List.length_map,Array.length_toList];exact AJY
 ·intro j q1 q2;have hj:j<acc.size:=AN q1
  show K' hlt (hacc.2 j acc[j] (FX hj))
  simp [e]
#where
section
variable{κ:Type}[Tu]
variable{prog:Program}{w:World}{knd:HeapKind prog w κ}{A:Around}{E:dR}{s:Shared}{d a:Addr}{xs:e_ κ AOI}{k:κ}{p:AOI}
#where
def Ew(K:W.Frag)(H:Hp)(y:V)(k:Be):Prop:=∃b,y= NH/\pK K H b (k.map kV)
section
variable{X:Cx}{pins:dJ}{σ:St}{H:Hp}{s:Shared}{a:Addr}{y v:V}{u r:Value}{A:Around}{E:dR}{kvs:WZ}{k:Be}
#where
def abg(A1k):TE:=nI td (AOV (∃a kvs k v,x= AR/\Rd H2 a ay/\Aov/\AYZ/\AT7))
def aci(eQ)(neg:Bool)(ty td:TE):TE:=BCp (∃a kvs k,x= AR/\Rd H2 a ay/\Aov/\Q (.bl (AC neg (! AWm) AWm)) H2)
def abh(A1k):TE:=ANR (∃kvs k v,AJ5 ay/\Aov/\AYZ/\Q v (upd H2 a (.dT (Bh kvs k))))
section
variable{X:Cx}{o i e:Expr}{pos apos cpos:Pos}{td ty:TE}
#where
def xJ(Al4):Bool:=Axi
def vA(G_):Î ->AI ->Be ->Eg α
 | ADy,FM,k=>ABi (some x) (vA ks xs k)
 | _,_,_=>none
def putL(Al4):Î:=An6 Au6
def Ey(G_)(ks:Î)(xs:AI)(k:Be)(x:α):AI:=A'2 Au6
def tV(G_):Î ->AI ->Be ->AI
 | ADy,FM,k=>ABi (tV ks xs k) (x::tV ks xs k)
 | _,_,_=> []
def Ez(Al4):Î:=ks.filter fun k' =>(ω (k' ≠k))
def ady:C_:=NJ (match x,y with | .jX ks xs,uS=>∃k d,ds=k.map eN/\AQz k/\P d | _,_=>False)
section
variable{X:Cx}{F0 H0:Hp}{a b:Expr}{pos:Pos}{ta tb:aX}
#where
def oE:ο ->Gc ->Str ->Eg T
 | U2,UY,g=>AMr (some t) (oE fs ts g)
 | _,_,_=>none
def m8 :Ο ο Gc Str T Gc
 | U2,UY,g,t' =>AMr (t' ::ts) (t::m8 fs ts g t')
 | _,ts,_,_=>ts
theorem zxv(AEn){g:Str}{t:T}:∀{fs:ο} {ts:Gc} {vs:Δ} {bs:AO},AI5 ->ρ (oE fs ts g) t ->∃v b1 cs b2,AwT/\bs=ł cs/\pE v cs/\
  ∀{F' H' :Hp} {t' :T} {ds:AO},Dx ->(∀a∈b1++b2,AL_) ->ALS v ds ->oz fD (m8 fs ts g t') vs (AFd ds)
 | [],_,_,_,_,e=>AdO
 | A8,[],_,_,_,e=>AdO
 | U2,t0::ts,_,_,h,e=>by
  show YI;obtain⟨v,vs',a1,a2,rfl,rfl,q1,q2⟩:=h;show LL oE;show Ahw;by_cases hg:g=f
  ·rw[AZ hg] at e;cases e;subst hg;refine⟨v,[],a1,a2,An,rfl,q1,fun{F' H' t' ds} s k r=> ?_⟩
   unfold m8;show We;unfold fD;exact⟨v,vs',ds,a2,rfl,rfl,r,ë (fD.move s ts vs' a2) (k a ha) q2⟩
  ·rw[Ω hg] at e;obtain⟨w,b1,cs,b2,g1,rfl,g3,g4⟩:=zxv q2 e;refine⟨w,a1++b1,cs,b2,BEr hg g1,An,g3,fun{F' H' t' ds} s k r=> ?_⟩
   unfold m8;show AV hg;unfold fD;exact⟨v,vs',a1,ł ds,rfl,An,ë (TR.move s t0 v a1) BGV q1,g4 s A_S r⟩
def acj(C:Addr)(i:Nat)(f:Str):aX:=Mn (∃as fs ts d,ATC/\ABp (.leaf d)/\vj)
def adz(sQ)(neg:Bool)(i:Nat)(f:Str)(tk:aX):TT2:=AkV (∃k as fs ts ks us,kd= AMq/\AIs/\AlZ us/\Cb AlT)
def acn(Anz)(j l:Nat)(tv:aX):aF:=ACN (∃k1 k2 as fs ts ks xs,Fk Γ1 (.pu (eN k1))/\AVD AiP AIs (AlZ qa) (AhX (.jX (putL ks jb) Asg)))
def aco(Aca)(f:Str)(j l:Nat):aF:=Wp (∃k1 k2 as fs ts ks xs d,Avf/\AbQ Γ/\ATC/\AlZ qa/\AQz jb/\
 D.nx (Γ.set i (.tr as (AH2 (.jX (Ez ks jb) (Nn (tV ks xs jb).map))))))
section
variable{X:Cx}{F0 H0:Hp}{ke value e:Expr}{es:AD}{pos npos Ij apos cpos pos' x1:Pos}{x f:Str}{C:Addr}{i:Nat}{tk tv:aX}{tf:bZ}
theorem yda(A3d){Γ:G2}{as:AO}{fs:ο}{ts:Gc}{t:T}(R:DH)(e0:ATC)(hl:ABp t):
  ∃a dx vs v bs b1 cs b2,AK4/\as=AKP/\E_ Aev/\ ρ (Acb f) v/\bs=ł cs/\as.Nodup/\ AWw/\pE v cs/\
  ∀{F' H' :Hp} {t' :T} {ds:AO},Dx ->(∀c∈a::dx::(b1++b2),∀u,KL c u ->ρ (H' c) u) ->ALS v ds ->oz TR (AH2 t') CB (a::dx::(AFd ds)):=by
 obtain⟨o,e1,v,rfl,nd,hn,r⟩:=AUq;show du;obtain⟨a,dx,vs,bs,rfl,rfl,ea,ed,Ik,Te,r⟩:=r;obtain⟨v,b1,cs,b2,g1,g2,g3,g4⟩:=zxv r hl;refine⟨a,dx,vs,v,bs,b1,cs,b2,e1,rfl,ea,g1,g2,nd,hn,g3,fun{F' H' t' ds} s k rt=> ?_⟩;unfold TR;exact⟨a,dx,vs,_,rfl,rfl,vT a ea,vT dx ed,Ik,Te,g4 s (UB hc (k c (by simp at hc⊢;exact iE hc))) rt⟩
#where
theorem zq0:APw fs ο (AKs ->f∉fs ->mQ f y (fs.zip vs)=(AOY).zip (vs++ [y]))
 | [],[],_,_=>rfl
 | [],A8,h,_=>BI
 | A8,[],h,_=>BI
 | g::fs,AEP,h,hf=>by
  have hg:g≠f:=fun e=>hf (FX e)
  rw[List.zip_cons_cons];unfold mQ;rw[Ω hg,zq0 ASB (QQ (BFO hf e))]
  rfl
def nDT:pP:=AKx (.jX [] [])
def vB(AxA):aF:=AEZ (A8w (Ñ as Aqq))
def Aa(Aca)(f:Str)(tn:pP):aF:=S4 tn t (A8w (∀cs,Ñ AVk Aqp))
section
variable{X:Cx}{F0 H0:Hp}{value e:Expr}{es:AD}{pos npos pos' p:Pos}{x f:Str}{C fa:Addr}{fd:FuncData}{ps:ο}{i k:Nat}{te:aX}{tn:pP}{sp:Bq}{t:bZ}
theorem zxz(hc:Į)(hn:sP)(he:BGb)(hN:Sr)(hv:ax)(hd:B1 x "__debug__":=by decide)(hcd:B1 x "__classdict__":=by decide)
  (hs:AX_ HL:=by rfl):A1_ Aa tn:=fun z E cx=>
 tL (Bi z38 U' LE hs) (Hc Dn hq2 hq2 (fun t Γ1 F1 H1 v cs R1 s1 ndc hnc rt zp=>by
  obtain⟨as,fs,ts,e0,hf,hl,Te,q⟩:=zp;obtain⟨o,e1,w,rfl,nd,hn',r⟩:=AUs;show du;obtain⟨a,dx,vs,bs,rfl,rfl,ea,ed,Ik,_,r⟩:=r;refine⟨AR,e1,a,C,dx,_,rfl,ea,hc,hn,AzZ,?_⟩
  show UZ own (MV AKP A1g) ⟨_,_,e0,e1,hb⟩;have dis:MV AKP (b∉cs):=fun b hb hc=>(hnc b hc).2.2 i (own b hb);show AjO;show Aoq;rw[zq0 Ik hf];refine Fu (A4z (t:= .tr (AKP++cs) Aqp) ⟨_,rfl,?_,He,?_⟩ He) s1 (q cs)
  ·exact List.nodup_append.mpr ⟨Aes n1 (Aes n2 n3),ndc,fun x hx y hy e=>Awi⟩
  ·show AGJ
   ·exact hn' b hb
   ·exact⟨OA hnc,AIb hnc⟩
  ·unfold TR;have na:IY (b∈bs) Qr:=fun b hb z=>n1 (z ▸ AT6);refine⟨a,dx,vs++ [v],AOW,rfl,rfl,jW,?_,A0 Ik,Te,?_⟩
   ·rw[dI (AR4 n1)];exact ed
   ·have m:=AMg fD.move AXg Go ts vs bs (AFU (dI (na b hb))) r
    have l:=AMg TR.move AXg Go t v cs (AFU (AfV (Ξ (dis a List.mem_cons_self (z ▸ hb))))) rt
    exact A1O
  ·show AGJ
   ·show B3 hb
   ·show DI (AKB hnc)))
theorem Tf(hc:Į)(hn:sP)(he:ADJ value)(hN:Sr)(hv:ax)(hd:B1 x "__debug__":=by decide)(hcd:B1 x "__classdict__":=by decide)
  (hs:AX_ HL:=by rfl):A1_ vB te:=fun z E cx=>
 tL (Bi z38 U' LE hs) (Hc Dn wV wV (fun d Γ1 F1 H1 v R1 s1 rd GR=>by
  obtain⟨as,fs,ts,e0,hf,hl,Te,q⟩:=GR;obtain⟨o,e1,w,rfl,nd,hn',r⟩:=AUs;show du;obtain⟨a,dx,vs,bs,rfl,rfl,ea,ed,Ik,_,r⟩:=r;refine⟨AR,e1,a,C,dx,_,rfl,ea,hc,hn,AzZ,?_⟩
  have nd0:=nd;show AjO;show Aoq;rw[zq0 Ik hf];refine Fu (A4z (t:= nK (dx::bs) Aqq) ⟨_,rfl,nd0,hn',?_⟩ (EH AJ9)) s1 q;unfold TR;have na:IY (b∈bs) Qr:=fun b hb z=>n1 (z ▸ AT6);refine⟨a,dx,vs++ [v],bs,rfl,rfl,jW,?_,A0 Ik,Te,?_⟩
  ·rw[dI (AR4 n1)];exact ed
  ·have m:=AMg fD.move AXg Go ts vs bs (AFU (dI (na b hb))) r
   have l:fD X.K F1 (Nw a AXg) [Q3] [v] []:=zvs (F_ TR (FY rd))
   have:=XR m l
   rwa [List.append_nil] at this))
def EY(C:Addr)(sp:Bq)(t:bZ):pP:=IS A1i
structure Ma (APo) (base:Heap) (x:Str) (C:Addr) (k:Nat) (ps:ο) (sp:Bq):Prop where
 ex:AOr (AOK vq) (Mk K C f) Aby
 non:∀ds Q Ex,sp AcU ds Q Ex ->sp AcU ds (fun t d=>d= Ρ/\Q t d) Ex
theorem ya7(G:x_ Ma X.base x C k ps sp)(hr:AL9)(hg:TM)
  (AIW):
  yk XA (EY C sp t):=by
 obtain⟨f,fd,Fn,M,hm,hb⟩:=G.ex;rintro z E cx pins s σ H Q I ⟨F,Γ,P,R,h,kk⟩;show AYq;refine W.callWith_K (h₀:=X.base) I.ok.mod.Jp M.kp (Pp (AKI pos (fun vs H1=>∃F1 Γ1 ds,wT/\SA/\AF'/\A1i) I (ES (fun ds Γ1 F1 H1 vs R1 s1 r1 h1=>AV9))) us zy) he hpl;obtain⟨vs,H1,I1,r,F1,Γ1,ds,R1,sF,rs,q⟩:=zy;show CI I1.kIn;have I2:=Inv.made (C:=C) I1;show Alv (H1 (LZ));have n2:ii s1.heap.objs.size:=AIC zL;have ne:s1.heap.objs.size≠LZ:=AXh;show AjK (ER (AJL AUw).get?) ASa;show Ak' ACc Aw1
 have hid:jG As7 ACc=H1:=by
  funext b
  by_cases hb1:b=LZ
  ·subst hb1;rw[zqx Μ,n1]
  ·show Akm
   ·subst hb2;rw[zqx Μ,n2]
   ·rw[z2x (by simp [hb1,hb2]),dI hb1,ATh]
 have hs:vq X.K sp Avb ACc (fun v H' =>Arx) (fun C' Dy H' =>∃Γ' F' x,VT F' H' Γ' /\gu F' /\Ao0/\ (x.bare=x\/IY (LS H1) (Ŵ Γ' b))/\E Γ' x):=by
  refine⟨F1,LZ,ó,.ob C [] [],ds,vs,_,_,rfl,Agg,A0 ne.symm,He,?_,rs,G.non _ _ _ q,?_,?_⟩
  ·have:LS H1:=by
    show eg
    ·exact n1
    ·show Rs hb;exact n2
   exact R1.g.free this
  ·unfold TR;exact⟨_,_,[],[],rfl,rfl,jW,AiA,rfl,rfl,F_ fD ka⟩
  ·rintro t' d v cs F' H' gr nd hn rt rv ⟨ed,hp⟩;rw[hid] at gr hn;subst ed;show Kt rv;exact⟨rv,kk t' Γ1 F' H' _ _ AQk AcE nd (iS ⟨OA hn,R1.gr.h.free AUF,R1.apart AUF⟩) rt hp⟩
  ·intro x C' Dy t' cs F' H' gr nd hn rt xr hE;rw[hid] at gr xr;exact⟨Γ1,F',x,R1.grow gr,gr.f,xr,.inr (EH (R1.apart hb)),hE⟩
 show AM_ AEV (by
  have e:=AMR;show AnC ATR e)
 show A4u AEV
 show AMF;show AUk (zyy (f:=f) I1.kIn M.makes M.init (beq_iff_eq.mp M.fn));show ATU (Fn.run _ X.stack _ _ (D7 (AaO::us)) AEV _ _ _ (hr.make C us []) (I2.env0.make C us []) hbs (.cons (Bz (RelV (AA Sj) (Value.ref Sj)) rfl) r) hs) r s' hq';cases r with
 | error e=>
  refine cx.pX pins σ Γ1 F1 H1 s1 e s' I1 R1 Asc;have u1:AiZ AOB s1.heap (s1.heap.push W.emptyDict):=Un.laid AFJ C1 n2;have u2:A9u AJL AUw:=Un.laid AFJ Aml (by rw[dI ne.symm];exact n1)
  exact u1.trans u2
 | ok RX =>
  cases RX with
  | ret u=>
   obtain⟨v,H',I3,rv,ev,q3⟩:=I2.after hq';subst ev;exact⟨rv,Hm ATR H' I3 q3⟩
  | next=>show ki
  | brk=>show ki
  | cont=>show ki
#where
def Ac(C:Addr)(m:Str)(sp:cP)(te:aX):aX:=ATn (ANI A2g)
section
variable{X:Cx}{F0 H0:Hp}{o:Expr}{pos apos:Pos}{m:Str}{C:Addr}{ps:ο}{k:Nat}{sp:cP}{te:aX}
theorem z8w(G:A8W)(hc:Į)(hr:AHu)(ho:ADJ o)
  (ht:Ct eval At2 (do
   let ov<- BF o
   ALe
   let (f,first)<- AM' m pl
   ANW (AM6 []) AZC):=by rfl):
  B' At2 (Ac C m sp te):=by
 obtain⟨fa,fd,Fn,hm,hb⟩:=G.ex;rintro z E cx pins s σ H Q I ⟨F,Γ,P,R,h,kk⟩;refine Am6 (Pp (AUe ho s σ H (UA H1 (∃F1 Γ1 d,wT/\SA/\Rep X.K F1 d v/\ (Sk AAf (ANI A2g)))) I (ES (fun d Γ1 F1 H1 v R1 s1 r1 h1=>(Aa6 d)))) u zy) ht
 obtain⟨x,H1,I1,rx,F1,Γ1,d,R1,sF,rd,q⟩:=zy;cases d with
 | obj C' fs ds=>
  obtain⟨rfl,hmf,q⟩:=q;have rd0:=rd;show Kt rd;obtain⟨a,dx,vs,rfl,ea,hl,rs⟩:=rd;show la;refine zpk I1 (R1.g _ _ ea) hc hm (zk4 hmf) ?_;refine W.callWith_K0 (first:= P1) I1.kIn hm.kp ?_;exact AoI (K7 (us:= P1) (vs:= P1)) I1 R1 (ALf rfl) (sy rd0 ě) q fun d v F' H' gr rv hp=>A4j
 | _=>show IZ q
#where
abbrev P2:=Str×Str
def ltP(a b:P2):Bool:=pQ a.1 b.1 || (ω (a.1=b.1)&&pQ a.2 b.2)
def pNo:P2:=(Str.empty,Str.empty)
def adA(xs:AJo)(i j:Nat):Bool:=ltP (AOy pNo) (xs.getD j pNo)
def adB(An8 p P2):Prop:=∃(a:Addr) (o:Obj) (m:Nat) (t u:Tok),Å eD AU_ (pS (.seq #[.str AK t,.str p.2 u] m))
def pkK(p:P2):Be:= [.inr AK,.inr p.2]
def pairD(p:P2):D:= RF (.str AK) (.str p.2)
def Mf(H:Hp)(w:V)(p:P2):Prop:=∃b,w= NH/\Pc (FA [.str AK,.str p.2])
def abj(Y_):UX:=so (∃(q:Addr) (kvs:WZ) (ps:AJo),vs= ALH/\Rd H q ay/\Akt ps.map pkK/\BFM/\
 ∀(l:Addr) (ms:AJo) (ws:Δ),APT ->Ο (ms.Perm ps) A1b (ws.length=ms.length) (∀(i:Nat) w p,AH7 w ->CS ms p ->Mf H w p) (APq ws))
def yia:Kk:=gE (.jX ks _) (∃ps:AJo,ks=ps.map pkK/\BFM/\Ő AJo (ms.Perm ps) A1b pairD)
section
variable{X:Cx}{F0 H0:Hp}{a:Expr}{pos p:Pos}{t:bZ}
#where
def signs(x:Str):ο:=x.cps.toList.map fun c=>AEq
def Itx(x:Str):It:=⟨AH8 (i<x.cps.size),fun i H v H' =>H' =H/\∃c,CS x.cps c/\v= .str AEq,AH8 (x.cps.size<=i)⟩
def adC(ADn):TI:=AQ' (∃x,v= UD/\R (Itx x) H1)
def yjf(HA):bZ:=Ty UD (Υ x.length/\P (AH signs x WO) Γ1)
section
variable{X:Cx}{F0 H0:Hp}{e tg:Expr}{te:aX}
#where
def adD:C_:=NJ (match x,y with | AKD,AKE=>GY (! pQ b a) | _,_=>False)
def Tg(x:Str)(b:Nat):Str:=ARX x.cps.toList.take b
def Ti(x:Str)(a:Nat):Str:=ARX x.cps.toList.drop a
def adE:AGO:=ApD (∃z:Str,x= kL/\ARy/\ ((∃b:Nat,lo=none/\ρ hi (AF b)/\Q (HE (Tg z b)) H)\/∃a:Nat,ρ lo (AF a)/\KK hi/\Q (HE (Ti z a)) H))
def adF(Amw):aX:=Ap3 kL (Υ z.length/\ ((∃b:Nat,l=none/\ρ u (AF b)/\P (HE (Tg z b)) Γ3)\/∃a:Nat,ρ l (AF a)/\KK u/\P (HE (Ti z a)) Γ3))
section
variable{X:Cx}{F0 H0:Hp}{e:Expr}{lo hi:ACu}{pos p2:Pos}{te:aX}{tl th:G6}
#where
def cUp(HA):aX:=Ty kL (∃c:Nat,z=AEq/\97<=c/\c<=122/\Cb (HE ⟨#[c - 32]⟩))
section
variable{X:Cx}{F0 H0:Hp}{o:Expr}{apos cpos:Pos}{te:aX}
#where
def yb9:Β ->ANl:=fun xs y P=>(MT y i9 (∃(bs:tj) (j:Nat),xs=bs.map .bl/\Fk bs true/\ (∀m,m<j ->DA bs m false)/\bs.length<1000/\HR j))
def adG(ALd):aX:=APr Id (P4 tb y (yb9 xs y (IG (P r Γ2))))
section
variable{X:Cx}{F0 H0:Hp}{o e:Expr}{apos cpos:Pos}{ta tb:aX}
#where
section
variable{X:Cx}{F0 H0:Hp}{e:Expr}{es:AD}{pos p np:Pos}{x y:Str}{ps:ο}{k i:Nat}{sp:Bq}{t:bZ}
#where
section
variable{prog:Program}{w:World}{A:Around}{E:dR}{s:Shared}
#where
def acp(A7Q):TG:=A7p UT
def adH(n:Nat)(gs:uU):qP:=fun d Γ Q E=>(Sk uB Azj)
section
variable{X:Cx}{F0 H0:Hp}{es:AD}{gs:uU}{pos:Pos}
#where
def Tj:ο ->Str
 | []=>Str.empty
 | FM=>x++Tj xs
def Tn:ο ->Nat
 | []=>0
 | FM=>x.length+Tn xs
def acq(HA):aX:=Ty uB (A_A (Tn xs) (Tj xs))
section
variable{X:Cx}{F0 H0:Hp}{e:Expr}{apos cpos spos:Pos}{j}{te:aX}
#where
section
variable{prog:Program}{w:World}{A:Around}{E:dR}{s:Shared}
#where
def cmH(Y_):Prop:=∃a o u vs,ρ X.A.handled CB/\BN X.H₀ Ï/\AfZ/\AMZ
def iLh(HA):bZ:=Ty uB ASe
section
variable{X:Cx}{F0 H0:Hp}{e tg:Expr}{te:aX}{a:Addr}
#where
def JT(i:Nat)(t:pP):aF:=S4 t tr ((A5s tr tr)/\∀a bs,Ñ MW tr)
theorem TR.cons(AEn):∀{t:T} {v:V} {as:AO},Ð ->(A5s t t) ->∃a bs,as=qS
 | Q3,_,_,_,n=>TC rfl n.1 d
 | .kt d,_,_,_,n=>TC rfl n.2 d
 | YA,_,_,h,_=>Amq
 | u7,_,_,h,_=>Amq
 | u8,_,_,h,_=>Amq
 | Lc .ob,_,_,h,_=>by show Fs;obtain⟨b,_,_,_,_,e,_⟩:=h;exact BY _ e
theorem yd7{X:Cx}{F0 H0:Hp}{e:Expr}{pos:Pos}{tn:pP}{i:Nat}{x:Str}{pos' :Pos}(mI)(hx:ko)(he:AL5)(hs:Ī (BO (ED x pos')) pos.line X.env:=by rfl)
  (hf:lr:=by first | show d5 | show kg):AYW JT tn:=fun z E cx=>
 tL (AX2 hi LE hs hf) (Hc D hq2 hq2 (fun t Γ1 F1 H1 v as R1 s1 nd hn r1 h1=>by
  show AU a bs rfl r1.cons h1.1;exact Fu (A9d (.tr MW t)) s1 (h1.2 a bs)))
def acr(j:Nat)(t:bZ):aF:=S4 t ds (AIB (∃k:Be,ds=k.map eN/\D.nx (AGt j [] (.kt k))))
def adI(neg:Bool)(i j:Nat):TT2:=Mn (AGG us (AcT Γ/\KS BGa/\P AlT Γ))
def adJ(i j:Nat):aX:=Mn (A_3 vj)
def acs(i j:Nat)(tv:aX):aF:=ACN (AGG xs (AcT Γ1/\V' AQx/\Ae_/\k_ (xN jX (putL ks k) (Nn (Ey ks xs k d).map))))
def acu(i j:Nat):aF:=Wp (A_3 (Arh (Ez ks k) k))
section
variable{X:Cx}{F0 H0:Hp}{value:Expr}{es:AD}{pos npos kpos apos cpos pos' x1:Pos}{x y:Str}{i j:Nat}{tv:aX}{t:bZ}
#where
section
variable{K:W.Frag}{F0 H0 F H:Hp}{σ:St}{Γ:Rc}
open Classical in
end
def cVF(Ya):aX:=Mn (∃as t,KS (.tr as t)/\P (toD t) (gN (.pu (toD t))))
structure adK (AoB wN):Prop where
 ex:Api xq
def abk(C:Addr)(m:Str)(sp:wN)(te:aX):pP:=ATn (ANI (sp [AAf] (AG t (Cb t)) (AAR Cx Cx)))
section
variable{X:Cx}{F0 H0:Hp}{o:Expr}{pos apos:Pos}{m:Str}{C:Addr}{ps:ο}{k:Nat}{sp:wN}{te:aX}
#where
def Itk(a:Addr)(o:Obj)(kvs:WZ)(bs:AO):It:=AEo (gT (E_ AeU/\i<bs.length)) (∃b,CS bs b/\x= NH) (gT (E_ AeU/\bs.length<=i))
def acv(Hz:Hp)(te:TE):TI:=AQ' (AVv (qB ay) (AAc ->(∀o u,Hz a≠BBg) ->∀o (bs:AO),bs.length=kvs.length ->(∀(i:Nat) b kv,CS bs b ->AJz kv ->GG H1 (AHX (S_).map)) ->R (Itk a o kvs bs) (Nw a AeU)))
def acw(AmI)(te:aX)(ti:aX):bZ:=m3 ti (Sk (.jX ks _) (bR (Ea g cQ te (List.replicate n υ)) (ks.map fun k=> AMq) fun ys=>∃zs:ο,ys=zs.map WO/\Cb ys))
section
variable{X:Cx}{F0 H0:Hp}{sc:Scope}{own:ο}{N' :ο}{elt tg iter:Expr}{pos:Pos}{ti te:aX}{g:qP}
#where
def xK:At1 Be
 | .dic ks xs=>some zk
 | .dik ks xs=>some zk
 | _=>none
def gK:Be ->Β ->Key ->tw
 | ADy,FM,k=>ABi (some x) (gK ks xs k)
 | _,_,_=>none
theorem JV(EM)(AGL){ks:Be}{xs:Β}(h:AbP)(r:IN):AmJ (Rd F a VW) r_:=by
 cases d with
 | dic ks' xs' =>
  cases h;show KU;show fz a vs e l rs r;exact⟨a,vs,rfl,.inl e,l,rs⟩
 | dik ks' xs' =>
  cases h;show KU;obtain⟨a,o,vs,rfl,e,l,rs⟩:=r;exact⟨a,vs,rfl,.inr (OR e),l,rs⟩
 | _=>cases h
theorem Il(s:JE)(r:Rd F a u):Rd H a u:=by
 rcases r with r | ⟨o,r⟩
 ·show B3 (s _ _ r)
 ·show DI (OR (s _ _ r))
theorem zmn(D9){F:Hp}{k:Key}:A_q (r_ ->(∀d,Avn ->AUT A_H)/\ (KK (gK ks xs k) ->jt w_ k=none))
 | [],xs,vs,_=>by
  show B6 (AM d h) AJ3;show A_ gK;cases h
 | A8,[],vs,r=>by
  show Ts;subst r;show B6 (AM d h) AJ3;show A_ gK;cases h
 | ADy,FM,vs,r=>by
  show Ts;show AMX;have ih:=A2_ k r2;unfold jt at ih⊢;show AqH;unfold gK;show OM k' k
  ·show B6 (AM d h) AKW
   ·rw[E6] at h;cases h;exact⟨v,A0 q,r1⟩
   ·show k8 E6
  ·show AV q;simp only [q,decide_false];exact ih
def CJ:C_:=NJ (∃ks xs k d,B_ xK zk/\y=eN k/\Avn/\P d)
def Im(neg:Bool):C_:=NJ (∃ks xs k,ρ (xK y) zk/\x=eN k/\GY (AC neg (! AUC) AUC))
def xM(td ty tx:aX):aX:=m3 td (AnZ (P4 ty kd (tx Γ2 (fun df Γ3=>∃k,AiJ/\P ((gK ks xs k).getD df) Γ3) E)))
def Ou:Hb:=gE d (AnZ BEl)
section
variable{X:Cx}{F0 H0:Hp}{a b o e f:Expr}{pos apos cpos:Pos}{ta tb td ty tx:aX}
theorem Tq(hu:hG)(ha:OX)(hb:ja)(hs:HD b:=by exact ATI):AUV a b (cB CJ ta tb):=fun z E cx=>
 oU (Bi z2r hu Cf HV hs) (EI yP (K0 yP (fun d1 Γ1 F1 H1 v1 R1 s1 r1 h1=>(lb (fun d2 Γ2 F2 H2 v2 R2 s2 r2 h2=>by
  obtain⟨ks,xs,kk,d,e1,rfl,hl,hp⟩:=h2;show fz c vs ec hkl rs (JV e1 (r1.up s2));show lh r2;subst ev;show CM v hv rv (zmn rs).1 d hl;exact EG c v (Ajh hv.symm) (BBZ rv hp))))))
theorem yfk(hu:hG)(ha:OX)(hb:ja)(hm:AaR .In):pr (.Compare a [.In] [b] pos) (cT (cB (Im false) ta tb)):=fun z E cx=>
 NT (Bi ZF (Bi yhj hu Cf HV) hm) (EI yP (K0 yP (fun d1 Γ1 F1 H1 v1 R1 s1 r1 h1=>(lb (fun d2 Γ2 F2 H2 v2 R2 s2 r2 h2=>by
  obtain⟨ks,xs,kk,e1,rfl,hp⟩:=h2;show ŗ r2;show lh r1;subst ev;refine⟨c,_,rfl,Ajh rfl,_,rfl,?_⟩;rw[zvy hkl];exact A1j)))))
theorem zvx(AMh)(ho:B' o td)(he:xD ty)(hf:B' f tx)(m:M2 X o "get" apos e f cpos):B' A0c (xM td ty tx):=fun z E cx=>
 oU (Bi z85 hu (IT ho) LE (IT hf) ⟨m.base,m.few,m.line,m.trees⟩) (ADg yP yP (fun d1 Γ1 F1 H1 v1 R1 s1 r1 h1=>by
  obtain⟨ks,xs,e1,h1⟩:=h1;show ŗ r1;exact⟨c,rfl,.inl (C6 AVX),F1,Γ1,_,R1,h1,fun d2 Γ2 F2 H2 v2 R2 s2 r2 h2=>(Aob (fun d3 Γ3 F3 H3 v3 R3 s3 r3 h3=>by
   show ON kk hp h3;show lh r2;subst ev;have q:=A2_ kk (rs.up (s2.trans s3));show kP (.inl (Hm _ kk (Il (s2.trans (s3.trans R3.g)) ec) rfl));cases el:gK ks xs kk with
   | none=>
    rw[q.2 el];rw[el] at hp;exact k d3 Γ3 F3 H3 v3 R3 AU' r3 hp
   | some d=>
    show CM v hv rv q.1 d el;rw[hv];rw[el] at hp;exact k d Γ3 F3 H3 v R3 AU' rv hp))⟩))
theorem z3g:AEO "len" Ou:=by
 rintro pins s σ H xs us Q I r ⟨F,ds,P,sF,rs,h,k⟩;show A_ Ou;show DL
 ·show AVg rs;show AH1 rd rs;show L7 ks xs e1 h;show ŗ rd;show NI;cases rx;refine yiz I (Il sF ec) fun t s' I' =>⟨.int ks.length,H,I',EJ t,s_⟩
  show AIL hkl
 ·show EB
#where
section
variable{X:Cx}
theorem zsh(he:SO)(I:Η)
  (h0:te σ H Q0) (h:∀v H1,Q0 v H1 ->AVv (Rd H1 a GM) (∀(s1:Shared) (ws:ATy) (ep:Nat) (r:Addr),Ć s1 ->AHQ ->Ο AAc Af' (APF s1.heap.DictAt) (s1.heap.IsValuesView r a) (HI r s1)))
  (hbase:cc "values"=BF e) (hline:ib):
  nB (fT ABN) Q:=by
 refine wpAny_Call_method0_late hbase hline (Pp (FS he _ I h0) v hq1);obtain⟨x,H1,I1,r1,q0⟩:=hq1;obtain⟨a,kvs,ex,ea,q⟩:=h x H1 q0;subst ex;show AXq;show Ap1 ea;refine⟨"dict","dict.values",PySem.F.plainAttrs_dict,PySem.F.slot_dict_values,PySem.F.type_dict_values,hT,hN,Aox⟩;obtain⟨hz,_,ws,kv,dd⟩:=AWD GP;refine call_meetsIn PySem.F.slot_dict_values hT PySem.F.entry_dict_values (PySem.F.args_dict_values_1 _) (meets_dict_values AAd a hsm) (EJ ⟨ws,dd⟩);obtain⟨o,es,ep,h1,h2,h3,h4⟩:=id dd;show AZN h1;show Ay2;exact q _ ws ep _ (I1.kept Th) hsm hz kv (hm.push _) vw
theorem zzd{ks:Be}{vs:Δ}{ws:ATy}{acc:D3}(hkl:bc)(kv:KV (ks.zip vs) ws)(h1:acc.size=ws.length)(h2:∀(i:Nat) (u:Value),CS acc u ->∃k,AH7 (k,u)):Vals vs acc.toList:=by
 show Ĥ;show AzI hl;show ApU (AAm (Mo acc.toList.length acc.size Array.length_toList))
 obtain⟨k,e3⟩:=A0P h2
 show CM v e4 r JN kv e3;have:=(LK e4).2;show Ap e1;show DT;exact r
theorem z7t{e:Expr}{te:TE}{apos cpos pos p:Pos}(hc:C7)(hg:Gl X "list")(hm:Fm "list")(he:SO)(hb:AEk "list" "list":=by show PF)
  (hbase:cc "values"=BF e:=by rfl) (AZm):
  PE X A3S (Se te v (∃(a:Addr) (ks:Be) (vs:Δ),Å (Rd H1 a VW) bc (A8T MY))):=by
 show EC;show AoQ
 show Aim ?_ he2;rw[he2];show FB (spliced (AZa ABN []));show BDy;show A'v;obtain⟨a,ks,vs,ev,ea,hkl,q⟩:=hq;refine⟨a,ks.zip vs,ev,ea,fun s1 ws ep r I1 hsm hz kv hd vw=> ?_⟩;show AeA;have Oq:=kv.length;refine W.kdl_call (ApP W.kdl_values) (I1.ok.hd hc) Aj3 ξ fun h' tk acc c hold hg hac=> ?_
 have hv:=zzd hkl kv hac.1 hac.2;have En:=hv.length;show AzI hz;have I2:Axe (BAd MY):=
  kX I1.laid hold C1 (Y3 MY (A2x τ))
 exact A1Z AdW
theorem ycu(hc:C7)(hg:Gl X "sum")(hm:Fm "sum")(he:SO)(hb:ρ (bootBuiltins "sum") (KI "sum"):=by show PF)
  (hbase:cc "values"=BF e:=by rfl) (AZm):
  PE X A7U (Se te v (∃(a:Addr) (ks:Be) (ns:Φ),Å (Rd H1 a (.dK (ks.zip (ns.map T_)))) (ks.length=ns.length) (Q BDf H1))):=by
 show EC;show AoQ
 refine PyProof.Rows.callWith_builtin1 ?_ he2 rfl;rw[he2];show FB (spliced (AZa ABN []));refine Calls.spliced_cons ?_;show A'v;obtain⟨a,ks,ns,ev,ea,hkl,q⟩:=hq;refine⟨a,ks.zip (ns.map T_),ev,ea,fun s1 ws ep r I1 hsm hz kv hd vw=> ?_⟩;show AeA;have Oq:=kv.length;have hlk:ws.length=ns.length:=by rw[<- Oq,List.length_zip,List.length_map,<- hkl,Nat.min_self]
 have K:=ApP (Az5 W.kdl_values (r:=r) (d:=a));refine call_sum_walkAnyS ?_;obtain⟨oI,St,hit,W,st⟩:=K.iter X.A.in1 s1 (I1.ok.hd hc) Aj3;refine hit _ _ ⟨s1.heap.objs.size,_,_,_,_,_,_,AuS,rfl,W.toS,st,He,ψ i u hu,ψ s' t' hm'⟩
 ·show b< AQS oI;rw[Heap.size_push];show Ali
  ·rw[e];exact Ado
  ·show Rs hb;exact Nat.lt_succ_of_lt (K.there _ Aj3).2
 ·obtain⟨k,e3⟩:=hu;show CM v e4 rv JN kv e3;have e5:=(LK e4).2;show AdA e5;cases en:ns[i]? with
  | none=>show IQ en e5 e5
  | some n=>
   rw[en] at e5;cases e5;show re (Value.int Ah5 t);show AJa en;exact rv
 ·have hk:yy s1.heap.get? (ER s'.heap.get?):=HK (hm'.heap b o (AG hI (dS zF e (by show Rs hI;exact yS _))) OI)
  rw[hlk,z5p ns _ (N9 _ rfl),Moved.eq_with hm'];exact Xe (s:=s1) (v:= .int ns.sum) I1 hk CO q
#where
def Ad(HA):bZ:=Ű (AnZ (Cb xs))
def JW(HA):aX:=Ű (∃ks xs ns,AbP/\AJE/\Cb BDf)
section
variable{X:Cx}{F0 H0:Hp}{e:Expr}{apos cpos pos p:Pos}{te:aX}
theorem zwq(hc:C7)(hg:Gl X "list")(hm:Fm "list")(he:ME)
  (hbase:cc "values"=BF e:=by rfl) (AZm):
  om A3S (Ad te):=fun z E cx=>
 oU (Bi z7t hc hg hm LE Lu hbase hline he2) (EI wV (by
 show Of wV;refine ES (fun d Γ1 F1 H1 v R1 s1 r1 h1=> ?_);obtain⟨ks,xs,e1,h1⟩:=h1;show ŗ r1;refine⟨c,ks,vs,rfl,AVX,hkl,AUj⟩;obtain⟨R2,q1,q2,q3,ap⟩:=GX R1 hq0 rs;exact al _ _ q _ R2 s1 q1 q2 q3 rs ap h1))
theorem yed(hc:C7)(hg:Gl X "sum")(hm:Fm "sum")(he:ME)
  (hbase:cc "values"=BF e:=by rfl) (AZm):
  B' A7U (JW te):=fun z E cx=>
 oU (Bi ycu hc hg hm LE Lu hbase hline he2) (EI wV (by
 show Of wV;refine ES (fun d Γ1 F1 H1 v R1 s1 r1 h1=> ?_);obtain⟨ks,xs,ns,e1,hns,h1⟩:=h1;show ŗ r1;show AjJ;exact⟨c,ks,ns,rfl,AVX,FF hkl List.length_map,Ŋ MX⟩))
#where
def Itf(Apk):It:=AEo Ahc (∃k v,AJz (k,v)/\x=kV k) Ahd
theorem zzw(A7J):AFV (Itf a o kvs) (h.IsKeyIter it a i kvs.length ep) where
 mem:=An
 obj:=Ŗ (by
  show ĳ
  show ANb;exact AEe)
 keep:=AYG
 item:=by
  intro X hP hw hK hc i pins s σ H E I hf st hg;show KA;show Ş;show U_
  show AGP;show Ĥ;show AGH;show ApZ
  show AoC;refine wpAny_pyNext_dict_item st hd hw fun key h' hkey hit' sb=> ?_;show ANE;show Ki o' e c d hit';have rk:AmE key:=by
   rcases yO hkey with ⟨j,t,rfl,rfl⟩ | ⟨x,t,rfl,rfl⟩
   ·exact UF
   ·exact UF
  exact Ix key (AwP (kV k) rk ⟨rfl,k,v,hv,rfl⟩)
 done:=by
  intro X hP hw hK hc i pins s σ H E I hf st hg;show KA;show Ş;show U_
  show AGP;show Ĥ;show AGH;exact wpAny_pyNext_dict_end eL st hd Ad3 AGS
 self:=fun _ _ _ _ _ st h=>wpAny_pyIter_keyiter st h
def Mg(ADn):TI:=A2q Itf
theorem z6h(he:SO):c0 e (Mg te):=by
 show d6;refine cJ z0 (PQ v hq1);obtain⟨x,H1,I1,r1,a,o,kvs,ex,ea,q⟩:=hq1;subst ex;show AXq;obtain⟨ho,hz,hsm,ws,kv,o',es,ep,h1,h2,h3,h4⟩:=A_c;rw[ho] at h1;cases h1;show AZN ho;refine wpAny_pyIter_dict hsm hm ?_;refine⟨_,ó,_,_,_,rfl,AFH,Apo zzw,?_,He,q hz⟩
 ·rw[kv.length];exact RS
 ·show ACI
  exact ACd
theorem yak(D9){F:Hp}(k:Key):fS (eN k) (kV k):=by
 cases k with
 | inl i=>show RC eN;rfl
 | inr x=>show RC eN;rfl
theorem z0q(BCt){vs:Δ}(e:Ab3)(hkl:bc)(hz:Υ APA):AhY Itf (ks.map eN):=by
 show Aps ks.length
 show AGW Ĉ (i4 ⟨AP2,ACw q List.length_map⟩)
 rw[List.getElem?_map] at hd;cases qk:ks[i]? with
 | none=>show IQ qk hd hd
 | some kk=>
  rw[qk] at hd;cases hd;have hik:i<ks.length:=ID qk;show AiS
  obtain⟨rfl,k,v,z,rfl⟩:=z;have:=(LK z).1;show Ap qk;show DT;exact⟨F2,Gr.refl s3,yak kk⟩
def z09(HA):bZ:=Ty (.dik ks _) (P (ks.map eN) Γ1)
section
variable{X:Cx}{F0 H0:Hp}{e tg:Expr}{te:aX}
theorem z0w(he:ME):AEi e (z09 te):=Ae1 (Bi z6h) LE (AHm hq2 (by
 obtain⟨F,Γ,P,S,q,k⟩:=hq2;refine APB (fun d Γ1 F1 H1 v R1 s1 r h1=> ?_);show OY
 ·show KU;obtain⟨a,o,vs,rfl,ea,hkl,rs⟩:=r;exact⟨a,o,_,rfl,AkN,fun hz=>(Ŋ (z0q ea hkl hz))⟩
 ·show ü))
#where
def JX(tn:pP):aX:=Sc tn t (MT t vz (Cb AlV))
def Ae(i:Nat)(t:aF):aF:=m_ (∃as ks ts,KS AbO/\t D (gN (.pu AlV)) E)
section
variable{K:W.Frag}{F0 H0 F H:Hp}{σ:St}{Γ:Rc}
open Classical in
theorem SR.nail(R:DH)(nd:AfR)(hn:ASx (gc/\LS H0/\AAe b))(ea:E_ VW)(hkl:bc)(r:AI5):
  ∃F',Dx /\fN F' (L2.upd H a (w9 VW))/\ű AlV CB:=by
 show Ajl;have sF:ZN (APh AHN (AG8 bs (H b) (F b))):=IM (by
  show N4 (AGA (H b) (F b));rw[D_ (Ξ (AgD (ACT List.mem_cons_self))),A3p hb]
  exact e)
 show Fh _ sF (A'D R.chg sF (FR) A5x)
 ·show lS (AGA (H b) (F b));show SL
  ·subst hb;rw[BU] at e';rw[jW];exact e'
  ·rw[ß] at e';rw[dI hb];split at e'
   ·exact e'
   ·exact R.g b u e'
 ·show lS (AGA (H b) (F b));show SL
  ·subst hb;exact(hn b zV).2
  ·show A_L
 ·show EE;refine⟨a,o,vs,rfl,BU,hkl,AwL A6' r⟩;show N4 (AC (c=a) AHN (if c∈bs then H c else F c));rw[D_ (show¬c=a from č nab hc),AZ hc];exact hu
#where
section
variable{X:Cx}{F0 H0:Hp}{e:Expr}{st:Stmt}{tn:pP}{ts:aF}
theorem yb7(he:AL5):xD (JX tn):=fun z E cx pins s σ H Q I hq=>by
 show Of hq;refine cJ (AUe he s σ H (UA H1 (AVv (qB GM) (∀o,Q CB AgL))) I (ES (fun t Γ1 F1 H1 v as R1 s1 nd hn r h1=> ?_))) (PQ u hq1)
 ·show OY
  ·rename_i ks ts;show du;obtain⟨a,vs,bs,rfl,rfl,ea,hkl,r⟩:=r;refine EG a _ ea (Jn o);obtain⟨F',sF,R2,rp⟩:=R1.nail (o:=o) nd hn ea hkl r;exact k _ Γ1 F' _ _ R2 (xc sF) rp h1
  ·exact h1.elim
 ·obtain⟨x,H1,I1,r1,a,kvs,ex,ea,q⟩:=hq1;subst ex;show ŷ u r1;obtain⟨_,_,ws,kv,o,es,ep,h1,_⟩:=AWD Q8;exact FL AR (zux I1 ea h1) (q o)
theorem z51(i:Nat)(h:KO st ts):KO st (Ae i ts):=fun z E cx pins s σ H D I hq=>by
 obtain⟨F,Γ,D2,R,⟨as,ks,tr,e0,hp⟩,k⟩:=hq;obtain⟨o',e1,v,rfl,nd,hn,r⟩:=AUq;show du;obtain⟨a,vs,bs,rfl,rfl,ea,hkl,r⟩:=r;obtain⟨_,_,ws,kv,o,es,ep,h1,_⟩:=Q8 I.hok ea;obtain⟨F',sF,R2,rp⟩:=(R.dropAt e1).nail (o:=o) nd (iS ⟨OA hn,AUF,R.less e0 e1 (Bz (iQ (AYO MW tr) ox b) hb)⟩) ea hkl r;have R3:=R2.set i rp;show AYj R3;exact AUe h s σ _ D (zux I ea h1) ⟨F',_,D2,R3,hp,k.mono sF⟩
#where
def Io(Ayt):aF:=A7c (AGG xs (AiJ/\CS Γ2 (Aad qa)/\Ae_/\Axz (jg ks k) k))
section
variable{X:Cx}{F0 H0:Hp}{ke value:Expr}{pos npos pos' :Pos}{x:Str}{i:Nat}{tk tv:aX}
theorem zsc(hu:hG)(hN:Sr)(hv:ax)(hk:B' ke tk)(hval:AkQ)(hs:ALn HL ke:=by rfl)
  (AFh):AI6 (ABM HL ke) (Io i tk tv):=fun z E cx=>
 tL (AYa U' Ad2 hs) (Hc Dn hq1 hq1 (fun d Γ1 F1 H1 v R1 s1 rd hq2=>by
  obtain⟨⟨as,t,e0⟩,q⟩:=hq2;obtain⟨o,e1,w,rfl,_⟩:=AUs;refine⟨w,e1,F1,Γ1,_,R1,q,fun kd Γ2 F2 H2 y R2 s2 rk q2=> ?_⟩;obtain⟨kk,as',ks,xs,rfl,e2,hl,q2⟩:=q2;obtain⟨o,e3,w',rfl,nd,hn,r⟩:=AuO;rw[e1] at e3;cases e3;show du;obtain⟨a,vs,bs,rfl,rfl,ea,hkl,r⟩:=r;show AYr r;show lh rk;subst ev;refine EG a _ A4k ?_
  rw[X3 hkl];refine Fu (R2.wrT e2 e1 (Bz (iQ (AYO [a] qa) ox a) zV) (t:= .tr [a] (AfH (jg ks kk) kk)) ⟨_,rfl,nd,hn,?_⟩ (EH AJ9)) qf q2;unfold TR;exact⟨a,_,[],rfl,rfl,jW,zvv hkl,AmD (rd.up s2)⟩))
#where
def Yc:Kk:=gE d (∃xs:ο,∃ys,ρ (xK d) (xs.map Kb,ys)/\xs.Nodup/\xs.length<64/\Ő ο (ms.Perm xs) AQq WO)
def Mh(Y_):UX:=so (∃(q:Addr) (kvs:M') (xs:ο),vs= ALH/\Rd H q GM/\Akt xs.map Kb/\xs.Nodup/\xs.length<64/\
 A3s (ms.Perm xs))
theorem zzk(wc):hV "sorted" (Mh X):=by
 rintro pins s σ H xs us Q I r ⟨q,kvs,ys,e0,hq,hk,nd,h64,k⟩;subst e0;show NI;cases rx;obtain⟨hz,hsm,ws,kv,ob,es,ep,hd⟩:=GP I.hok hq;obtain⟨ho,hec,hdt,hko,hpr,_⟩:=hd;have Oq:=kv.length;have hlk:kvs.length=ys.length:=AN (ù List.length hk)
 have hls:es.size=ws.length:=by rw[<- hpr.length,Array.length_toList]
 show š 64
 refine zkh (zv0 Atx hsm ⟨ob,ho,hec,hdt⟩ ξ fun vals h1 tk hv hlt hold=> ?_)
 have rv:Vals (ys.map V.str) vals:=by
  have l1:Ah7=ys.length:=List.length_map ..;have l2:vals.length=es.size:=by rw[hv,List.length_map,Array.length_toList]
  show ApU ξ
  show AJf hv e2;cases ee:es.toList[i]? with
  | none=>show IQ ee e2 e2
  | some e=>
   rw[ee] at e2;cases e2;have hi:i<ws.length:=by
    have:=ID ee;show Ap Array.length_toList;omega
   have e3:AH7 WV:=zW hi;have e4:=(hpr.get? ee e3).1;obtain⟨v5,e5,_⟩:=JN kv e3;have e6:CS (kvs.map (·.1)) WV.1:=AIu e5
   show AJf hk e6;rw[List.getElem?_map] at e1;cases ey:ys[i]? with
   | none=>show IQ ey e1 e1
   | some y=>
    rw[ey] at e1 e6;cases e1;have e7:WV.1= .inr y:=AN e6.symm
    have e8:tG WV.1 e.key=true:=e4;rcases yO e8 with ⟨j,t,z,_⟩ | ⟨x,t,z,zz⟩
    ·rw[e7] at z;cases z
    ·rw[e7] at z;cases z;show RelV (V.str y) e.key;rw[zz];exact UF
 have En:vals.length=ys.length:=AgG rv.length
 refine⟨Lz ys,_,_,AE En (zu1 nd),τ,zwv rv,BEs,fun l h' is e hle a1 a2 hl xG=> ?_⟩
 show Ayn hlt hle;have hix:∀i∈is,i< Ah7:=NC (AJr List.length_map En Ama)
 have hrv:=zok rv hix;rw[AZM Str.empty (Oy APc)] at hrv
 have hms:(pick Str.empty ys is).Perm ys:=zqr (A7 En a1)
 have hlen:Υ (Aa_ Aa0):=BGg
 have I2:AJw AS6 OW:=
  kX I.laid (Aoo hold) hlt2 (Y3 (BV AS6) ⟨hlen,_,e,hrv,hl⟩)
 exact FL FI I2 A_E
section
variable{X:Cx}{F0 H0:Hp}{a:Expr}{pos p:Pos}{t:bZ}
theorem zym(hc:C7)(hg:Gl X "sorted")(hm:Fm "sorted")(ha:ACG)(hb:ρ (bootBuiltins "sorted") (KI "sorted"):=by show PF)
  (he:Ct starEach [a] (FD (BF a) (FC [])):=by rfl):AIy (AIx "sorted") Yc:=fun z E cx=>by
 refine oU (ApG zzk Cf χ χ he rfl) (AS1 ?_)
 show Of hq1;refine ES (fun ds Γ1 F1 H1 vs R1 s1 r1 h1=> ?_);show tP Yc;show OY
 ·show AVg r1;show AH1 r1 r1;obtain⟨xs,ys,e1,nd,h64,h1⟩:=h1;show ŗ r1;refine⟨c,_,xs,rfl,AVX,?_,nd,h64,Anb pm pw⟩
  ·rw[List.map_fst_zip ξ]
  ·obtain⟨R3,q1,q2,q3,ap⟩:=GX R1 hl2 (S5 (K:=X.K) (F:=F1) ms);exact Aom S5 ap (h1 ms pm pw)
 ·exact h1.elim
#where
theorem hu1(h:n+21<cLine):Ů n:=zJ (Nat.add_le_add_left (ASo (1<=21)) _) h
theorem qv(i:Nat)(hN:Sr:=by exact rfl)(hv:ax:=by first | exact Or.inl rfl | exact Or.inr (Or.inl rfl) | exact Or.inr (Or.inr rfl))(AFh):Atc:=yhb hN hv hd hcd
#print L3
namespace Hd
open PySem PySem.W PySem.Calls PyProof.Rows
theorem z8e{l:AdP}{i a:Nat}(e:BN (Dp i l).lookup o):∃k,a=i+k/\DA l k o/\Hk o.isFreed:=by
 induction l generalizing i with
 | nil=>cases e
 | cons b r ih=>
  show LL Dp;split at e
  ·show AU k hk hr ih e;exact⟨k+1,τ,hr⟩
  ·rename_i hf;rw[List.lookup_cons] at e;split at e
   ·show GW;cases e;exact IB 0 (beq_iff_eq.mp q) hf
   ·show AU k hk hr ih e;exact⟨k+1,τ,hr⟩
theorem yhv(h:Heap)(n:Nat):(cut h n).In h:=FU e (by
 obtain⟨k,hk,hr,hf⟩:=z8e e;rw[hk,Nat.zero_add];exact Heap.get?_some_iff.mpr ⟨A7 Array.getElem?_toList hr,hf⟩)
noncomputable section
theorem size(AMi):((boot_heap w.params).isNs mainGlobals&&(Array.mk []:kQ).size==0,ų boot_heap w.params,(boot_heap w.params).nsMap mainGlobals "__annotations__")=(true,11,ann):=dL
theorem left
  (e:opening p=plainProg p.main.scope.names) (f:∀s,ρ (fenceModules? p s) s)
  (hA:∀w os,ρ (AVV topGo ann 12 Ahe (topStub p)) (A_Q,⟨denote treeTable (cB p),cB p,z,AME⟩))
  (hB:∀w os,ρ (AVV segRun ann 1 1 A3q (blockOf (behindTheImports p) (env p) (cB p) z AME)) (dC,A_Q,cB p,z))
  (hC:∀w os,(Ta A3q).abs=A4a os)
  (hD:∀w os,ρ (shot treeTable topGo segRunT topRun execs p (rest openSeen p q loose Xt obs n w) w os) ((dC,cB p),(true,openGood q loose,good w))):
  A5S (LeftO p q loose Xt):=DF (by
 obtain⟨⟨h,gs,d,k,os⟩,e1,e2⟩:=Option.map_eq_some_iff.mp (boot_open (N:=40000) e χ f w)
 obtain⟨rfl,rfl,rfl,rfl⟩:h=boot_heap w.params/\gs=Array.mk []/\d=boot_drawn/\k=boot_toks:=AN e2
 obtain⟨z1,z2,z3⟩:_/\_/\_:=by simpa only [Prod.mk.injEq] using size w
 obtain⟨⟨fl,S,c,ps⟩,r1,r2⟩:=Option.bind_eq_some_iff.mp (hD w os);show AU s t1 t2 Option.map_eq_some_iff.mp r2;show AR' u1 u2 t2;show AR' v1 v2 u1;show AR' y1 y2 u2;show AR' y3 y4 y2;dsimp only at v1 v2 t1;subst v1 v2;have g1:ρ (AVV topRun ann (30000+2) (A4a os) (restOf (behindTheImports p++ []) (env p) (cB p) z AME)) s:=
  piece_app (AFG (segRun_of r1) (hC w os)) (piece_nil t1)
 rw[List.append_nil] at g1;have g2:=go_top (hA w os) (piece_block (hB w os) g1);have g3:=topRun_mono (40000 - (12+ (1+ (30000+2)))) _ _ _ _ g2;unfold openEnds;rw[e1];show AH (topFrom treeTable p w 40000) Ahe _=_;unfold topFrom S0;dsimp only;rw[z1,z2,z3];have g4:ρ (AVV topRun ann 40000 A9x (topStub p)) s:=g3;rw[g4];show(ACZ BAI (some s) none).map _=_
 rw[y1];show some (A'Z openSeen,Acy)=_;rw[y3,y4])
#where
open L2 L3
theorem adr_of(h:By isRef x):ρ x (BO (AA (adr x))):=by
 show A_ isRef;show DL
 ·rfl
 ·cases h
theorem ix{_:Decidable p}(h:By allB l)(i:Nat)(e:nth l i=decide p):p:=by
 refine of_decide_eq_true (e.symm.trans ?_);clear e;induction l generalizing i with
 | nil=>rfl
 | cons b l ih=>cases b with
  | false=>cases h
  | true=>cases i with
   | zero=>rfl
   | succ i=>exact ih h i
theorem zsp{K:Frag}{f:Addr}{qual:Str}{g:FuncData}(h:ρ (fnO K f qual) g):∃oc od fd sl,AcX (.func fd) sl/\A2 (codeIn K fd.code qual)/\AZx keepIn/\bare fd=g:=by
 show A_ fnO;show DL
 ·rename_i oc od fd sl e;show DL
  ·show GW;show Asb;exact⟨oc,od,fd,sl,e,q1,q2,zE h⟩
  ·cases h
 ·cases h
theorem z3w{fd:FuncData}(A7x){dV:Value}(h:bare fd=Ack dV Χ none Χ Χ):
  fd=BBN dV fd.kwdefaults fd.doc fd.pyModule fd.annotations fd.code fd.closureTuple:=by
 obtain⟨⟩:=fd;show A_ bare;dsimp only at h⊢;injection h with h1 h2 h3 h4 h5 h6 h7 h8 h9 _ _ _ _ _ h10;subst h1 h2 h3 h4 h5 h6 h7 h8 h10
 rfl
theorem fun_of(A_b fnO):∃fd,Ŕ:=by
 obtain⟨oc,od,fd,sl,e,c,k,b⟩:=zsp h;exact⟨fd,⟨⟨oc,od,_,_,_,_,_,_,sl,z3w b,e,c⟩,k⟩⟩
theorem yc9(A_b YQ):
  ∃fd T Mi dn Mj,A3k qual/\ρ (K.lookup T) (ApL #[Χ]):=by
 obtain⟨g,h1,h2⟩:=Option.bind_eq_some_iff.mp h;obtain⟨oc,od,fd,sl,e,c,k,b⟩:=zsp h1;split at h2
 ·show GW;subst b;unfold PX at q;split at q
  ·rename_i T hT;split at q
   ·rename_i t Mi xs dn Mj eT;show Asb;show N0 (beq_iff_eq.mp q1);have q3:xs= #[Χ]:=by
     split at q2
     ·rename_i ex;exact Array.toList_inj.mp ex
     ·cases q2
    subst q3;refine⟨fd,T,Mi,dn,Mj,⟨⟨oc,od,_,_,_,_,_,_,sl,z3w (dV:= .ref T) ?_,e,c⟩,k⟩,eT⟩;have h3:=zE h2;have h4:(bare fd).defaults= .ref T:=hT;generalize bare fd=g at h3 h4⊢;obtain⟨⟩:=g;dsimp only at h3 h4;injection h3 with a1 a2 a3 a4 a5 a6 a7 _ a9 a10 a11 a12 a13 a14 a15;subst a1 a2 a3 a4 a5 a6 a7 a9 a10 a11 a12 a13 a14 a15 h4
    rfl
   ·cases q
  ·cases q
 ·cases h2
theorem z33(A3o Qa):Azr fnO:=by
 show A_ Qa;show DL
 ·rename_i e;exact BY e h
 ·cases h
theorem z27(A3o fnM):Azr YQ:=by
 show A_ fnM;show DL
 ·rename_i e;exact BY e h
 ·cases h
theorem fun_at(A3n Qa):∃f fd,Acu/\AJ x x st:=
 let ⟨f,e,h⟩:=z33 h;let ⟨fd,F⟩:=fun_of h;⟨f,fd,e,F⟩
theorem funM_at(A3n fnM):∃f fd T Mi dn Mj,Acu/\A3k x/\ρ (K.lookup T) (ApL #[Χ]):=
 let ⟨f,e,h⟩:=z27 h;let ⟨fd,T,a,b,c,F,d⟩:=yc9 h;⟨f,fd,T,a,b,c,e,F,d⟩
theorem seen_cons{K:Frag}{d:Str×Stmt}{ds:ASv}(h:seen K ATD=due ATD):Qa K d.1=A5P/\seen K ds=due ds:=yX h
def acy:Sum Int Str ->D
 | ACz=> B8
 | ic=> UD
theorem walk_ex{l:OpenLaw}{n k:Nat}{q:Program}{loose:ο}{XP:AwY}{YP:ArS}{d:DefRec}{Fx:BG World Frag}{CX:World ->Ca}{sp:Frag ->Sp}{x:Str}
  (hn:AkA) (hn2:Υ n) (hdf:BGO) (hr:fC k callerA)
  (hY:∀(w:World) (h:Heap),YP w h ->∃K:Frag,MH/\Fx w K)
  (F:∀(w:World) (K:Frag) (mg:CD) (fa:Addr) (h:Heap),Ο (Fx w K) MH (AIM h.Ns) (nX d.name fa) (∃fd:FuncData,(AyM)/\∀b:Heap,K.In b ->AIM b.Ns ->A5b b (CX w) k fa fd [x] (sp K)))
  (hsp:∀(K:Frag) (H:Hp) (a:Addr) (ns:Φ),ASt ->Only H ->AWp ->sp K P1 H AuL SK)
  (hCX:∀(w:World) (H:Hp) (s:Shared) (e:Value) (s' :Shared),CX w [] H s (SK) e s' ->False):
  Ay1:=by
 refine Att.wR hn hdf fun w s₀ s₁ mg mb fa o pm cd doc a vs ns G Y ho hd hcd hmg hobj hints hlen hg=> ?_;obtain⟨K,KX,fx⟩:=hY w _ Y;obtain⟨fd,hb,hF⟩:=F w K mg fa _ fx KX G.T.g hmg;exact z8l KX G.T.g G.T.b G.T.builtins G.T.nolimit hg hobj hints (zM hlen hn2) hr hF hb (fun H hO hS=>hsp K H a ns hlen hO hS) fun H e s' =>hCX w H s₁ e s'
theorem start_binds{K:Frag}(Awt)(AFz)(F:AJ "law" "law" st)
  (h:∀(kV doc pm:Value) (an:JP) (cdv ct:Value) (u:Value),Arw (fnOf "law" "law" (GJ st) yY (bI st) Χ kV doc) (D7 [u]) [(x,u)]) (s:Shared) (u:Value):BCh:=by
 obtain⟨oc,od,kV,doc,pm,an,cdv,ct,osl,rfl,lk,hcd⟩:=F.ex;exact .of_eq (A7L cdv ct u)
theorem holds{l:OpenLaw}{q:Program}{loose:ο}{β:Type}{obs:Frag ->β}{good:World ->β}{n:Nat}{d:DefRec}(said:A2 l.wellSaid)
  (L:A5S (LeftO l.row.prog q loose (At true)))
  (hd:ρ (defOf q l.row.name) (d,[])) (hp:ρ (l.row.prog.theDef l.row.name) (d.params,d.body,d.scope)) (hk:ρ (kwWritten? d.params.kwonlyargs d.params.kw_defaults) [])
  (ok:My (chainsOk q&&opensWell l.row.prog) (frees l.row.toRowW&&l.row.within.isEmpty)) (hb:l.row.prog.bare) (hw:l.row.toRowW.promised) (wr:Hk l.row.writes)
  (walk:WalkO q loose BDv (fun w h=>∃K:Frag,MH/\ANZ) l.row.toRowW d [] (fun f vs=>PySem.call f vs)):l.Holds:=
 holds_law said fun k1=>holds_open (XP:=E4 _ True) (YP:=fun w h=>∃K:Frag,MH/\ANZ) L (fun _ s e=>(BY (yhv s.heap n) e)) (ww ⟨K,x,e⟩ k ⟨K,x.keeps k,e⟩)
  (E8 _ trivial) (ww _ _ trivial) hd hp hk (K2 s (recFacts_of rfl)) (ul wr) k1 ok hb hw walk
#print Hd
namespace L3
open PySem PySem.Spec PyProof.Rows L2
section
variable{X:Cx}{F0 H0:Hp}
def acz(j:Nat)(t1 t2:bZ)(tb:aF):aF:=fun Dn Γ E=>(VC t1 ds1 (Υ ds1.length/\∃k1:Be,ds1=k1.map eN/\P4 t2 ds2 (Υ ds2.length/\∃k2:Be,ds2=k2.map eN/\
 ∃M:Þ,tb (Aks M M) (Γ2.set j (.tr [] (.kt k1))) E/\∀Γ3,M Γ3 ->tb (Aks Dn.nx Dn.nx) (Γ3.set j (.tr [] (.kt k2))) E)))
#where
section
variable{X:Cx}{pins:dJ}{σ:St}{F H:Hp}{s:Shared}{A:Around}
def adL(neg:Bool):C_:=NJ (∃ks xs,B_ xK zk/\ρ (xK y) zk/\ks.Nodup/\ (∀d∈xs,vY 18 d d)/\GY (! neg))
#where
def abl(g:qP)(tc:TT2)(t:bZ)(Γ0:G2)(x:D)(P:Db (mr D)):Prop:=g x Γ0 (AG Γ1 (tc Γ1 (fun b Γ2=>(Da b (t Γ2 (K2 ds (P [ds])) mR) X_)) mR)) mR
def JZ(one:mS D (mr D)):mS Β (mr D)
 | [],P=>X_
 | FM,P=>Axh JZ
def abm(ds:Β):T:= .lst AS0
def abn(Ayy)(tc:TT2)(t:bZ):pP:=Sc ti ds (JZ (abl g tc t (AVt Γ1)) ds fun ys=>(Cb (BV (ys.map abm))))
def fX(K:W.Frag)(t:bZ):TE:=AkW (MS upF t)
section
variable{F0 H0:Hp}{own:ο}{caps:AL}{g:qP}{tc:TT2}{t:bZ}
#where
def z84(AXs)(f:Str)(sp:wN):Sp:=A'U (A7T (APv Ag_ AWM Pd (∀t as F' H3 v dx H',Gr F H F' H3 ->as.Nodup ->Ο Ai8 (TR K F' H3 t v as) (Pd t) (H3 dx=none) A'k)))
section
variable{P:Program}{w:World}{K:W.Frag}{mg:CD}{base:Heap}
#where
def yip(C:Addr)(fl:Str)(sp:wN)(t:bZ):aF:=AnL (sp ds (AG tr (E Γ1 (.pay C [fl] [tr]))) (AAR Cx Cx))
section
variable{X:Cx}{F0 H0:Hp}{e:Expr}{es:AD}{pos np cpos:Pos}{t:bZ}{x fl:Str}{C f:Addr}{fd:FuncData}{ps:ο}{k:Nat}{sp:wN}
structure adM (XU) (x:Str) (C:Addr) (fl:Str) (k:Nat) (ps:ο) (sp:wN):Prop where
 ex:A_x z84
#where
def acA(A6H):aF:=BCm (∃C fs ts,Cv= .pay C fs ts/\zf K C/\A2 (mO K C Cd)/\∀as,
 th {nx:=Auo,rt:=D.rt,bk:=AXt D.bk,ct:=AXt D.ct} (Γ1.set i (.xe as C fs ts)) mR)
section
variable{X:Cx}{F0 H0:Hp}{pos np hp:Pos}{x n:Str}{Cd:Addr}{body suite:LM}{b₀:Stmt}{tb th:aF}{i:Nat}
#where
section
variable{X:Cx}{pins:dJ}{σ:St}{H:Hp}{s:Shared}{A:Around}{E:dR}{a C dx:Addr}{f:Str}{y v:V}{u:Value}{fs:US}{oe:Obj}
def abo(C:Addr)(f:Str)(ta:TE):TE:=RR (∃a oe dx fs v,ABb (qB (.frz oe (HF a C))/\AqK/\AxU/\APu/\ATi))
#where
def acB(sQ)(fl c:Str)(e y:Nat):aF:=Wp (∃as t,DA Γ e (.xe as C [fl] [t])/\D.nx ((Γ.set e (.pu AXB)).set y AsZ))
def abp(Ya):aF:=Wp (XE Γ[i]? (some ġ) (D.rt d) (some (.nt _ c t)) (D.rT (.tp c t)))
inductive RN where
 | pl (d:D) | nt (c:Str) (t:T)
abbrev Tr:=Akv (Db RN)
def tpT(Q:Db RN):Db TW
 | .one _=>False
 | .tp c t=>Q (.nt c t)
abbrev adN(Q:Db RN):qR:={nx:=C4 (Q (.pl Ρ)),rt:=fun d=>Q (.pl d),rT:=tpT Q}
def Tt(K:W.Frag)(sp:Tr):Sp:=BBt (JE/\C8/\sp ds P Ex/\ (ANS Q4 (P (.pl d)))/\
 (∀c t p v as F' H',a_ ->AlI F' ->Ο as.Nodup Ai8 AWW (P (.nt c t)) (AIj p))/\zj K F H Ex E)
structure adO (XU) (x:Str) (k:Nat) (ps:ο) (sp:Tr):Prop where
 ex:ANC Tt
section
variable{X:Cx}{F0 H0:Hp}{pos pos' py ep ap tp:Pos}{x y fl c:Str}{C:Addr}{i j k:Nat}{e:Expr}{es:AD}{te:aX}{t:bZ}{sp:Tr}{ps:ο}
#where
section
variable{P:Program}{w:World}{K:W.Frag}{mg:CD}{base:Heap}
#where
abbrev Ov:=AGD RN
def abq(AXj)(t:Ov)(E:XW):TE:=fI (∃F Γ P,DH/\t Γ P E/\ (AP7 d v Q4 (.pl d) g_)/\
 ∀c t Γ' F' H' p v as,AgX (AlI F') (Ο as.Nodup (iO (sA/\d_/\AiE)) AWW (P (.nt c t) Γ') (AIj p)))
def QRN(ND)(e:Expr)(t:Ov):Prop:=ALx abq
def abr(sp:Tr)(t:bZ):Ov:=IS (AFy (oB (Cb r)))
def abt(i:Nat)(t:Ov):aF:=S4 t r (A3z (k_ ġ) (∀as,k_ AsZ))
def abu(i:Nat)(tn:pP):aF:=fun Dn Γ E=>(VC tn t (∃ds:Β,t= .lst AS0/\Dn.nx (Γ1.set i cE)))
def acC(t:Ov):aX:=Sc t r (A3z AHZ (Cb (FA [AA',toD t])))
section
variable{X:Cx}{F0 H0:Hp}{e:Expr}{es:AD}{pos p py:Pos}{x y:Str}{ps:ο}{k j:Nat}{sp:Tr}{t:bZ}{tr:Ov}
open Classical in
end
theorem isV_of{o:BDm}{s:String}(h:isV o s=true):ρ o (Aj' s):=by
 show A_ isV;show DL
 ·rw[beq_iff_eq.mp h]
 ·cases h
def Tv(i x:Nat)(p a b:Addr)(c:Str)(Cz:Gc)(j:Nat)(I:k9):Þ:=yi (∃cs' us',Azf/\AtO (.ptr p)/\
 ∀q:AO,I Ü (A2' i (Slot.nt (a::q) c Azk)))
def abv(A2J):aF:=fun D0 Γ _=>∃as c ts,KS (Slot.nt as c AH6)/\∀p a bs,as=qS ->∃I:k9,AM0/\
 (∀(j:Nat) Γ1,AzS (∃bs1 Cz us,V' (Slot.nt (a::bs1) c (BV Cz))/\Cz.length=ts.length/\Fk Cz Ý/\
  ∀(b:Addr) (cs:AO),tb {nx:=Tv i x p a b c Cz j I,ct:=L8,bk:=L8,rt:=D0.rt,rf:=D0.rf,rT:=D0.rT} ((Γ1.set i (Slot.pu (.ptr p))).set x (Slot.tr (b::cs) Ý)) mR))/\
 ∀Γ1,Av5 ->D0.nx Γ1
section
variable{X:Cx}{F0 H0:Hp}{pos px pn:Pos}{xv xn:Str}{i x:Nat}{body:LM}{tb:aF}
open Classical in
end
def Af:aF:=SK
def acD:aX:=SK
def abw:TT2:=SK
theorem z5g{X:Cx}{F0 H0:Hp}{st:Stmt}:KO st Af:=fun _ _ _ _ _ _ _ _ _ h=>by obtain⟨_,_,_,_,h,_⟩:=h;exact h.elim
def adP(HA):aX:=Ty kL (AIi (Txt.isdigit z))
def yim(ALd):aX:=A4d (P (.bl (Txt.startswith x y)) Γ2)
def abx(ALd):bZ:=A4d ((y.length==0)=false/\x.length<1000/\P ((Txt.split x y).map WO) Γ2)
section
variable{X:Cx}
#where
section
variable{X:Cx}{F0 H0:Hp}{o e:Expr}{apos cpos:Pos}{te ta tb:aX}
#where
def J0(n:Nat):ο ->Nat
 | []=>0
 | FM=>x.length+n+J0 n xs
def aby(ta te:aX):aX:=mT (ta Γ (fun d0 Γ0=>(MT d0 (.str sep) (te Γ0 (fun d Γ1=>(Sk uB (A_A (J0 sep.length xs) (Str.join sep xs)))) E))) E)
section
variable{X:Cx}{F0 H0:Hp}{o e:Expr}{apos cpos:Pos}{ta tb:aX}
#where
def yjb:Hb:=gE kL (∃n,ρ (intText? z) n/\z.length<=640/\HR n)
def yje:Hb:=gE B8 (i.natAbs.log2<1920/\P (HE (Str.ofString (toString i))))
section
variable{X:Cx}
def adQ:C_:=NJ (match x,y with | AKD,AKE=>GY (!(Builtin.Str.occurrences b a 0 b.length 1).isEmpty) | _,_=>False)
#where
def yi9(YO):bZ:=IS (∃xs ys,ds= [MD,Ď]/\AeE)
section
variable{X:Cx}{F0 H0:Hp}{a b:Expr}{pos p pt:Pos}{t:bZ}{elts:AD}
#where
def acE:C_:=NJ (match x,y with | MD,To=>1<=k/\xs.isEmpty=false/\xs.length*k<=1000/\P (FA Aoa) | _,_=>False)
mutual
def szT:T ->Nat
 | .leaf _=>0
 | kH=>Fb ts+1
 | AiI=>Fb ts+1
 | .jX _ ts=>Fb ts+1
 | .ob _ _ ts=>Fb ts+2
 | .kt _=>0
def Fb:Gc ->Nat
 | []=>0
 | UY=>szT t+Fb ts
end
section
variable{K:W.Frag}{F H:Hp}
#where
def acF(AxA):aF:=AEZ (∃as fs ts t,AIs/\ABp t/\szT t=0/\AQg/\AhX (.leaf d))
section
variable{X:Cx}{F0 H0:Hp}{value e:Expr}{es:AD}{pos npos pos' Ij apos p:Pos}{x f m:Str}{C C2 fa:Addr}{fd:FuncData}{ps:ο}{i k:Nat}{te:aX}{sp:Bq}{t:bZ}
def abz(Anz)(C2:Addr)(m:Str)(sp:Bq)(t:bZ):aX:=mT (∃a bs fs ts fs2 ts2,KS BFm/\ABp A5e/\m∉fs2/\
 Æ (V' BFm/\sp A5e ds (fun t' d=>∀cs,P d BGr) fun t' Cx=>∀cs,E BGr Cx.bare))
#where
def adR(neg:Bool)(i:Nat)(tk:aX):TT2:=AkV (AGG us (kd= AMq/\V' BGa/\Cb AlT))
def acG(Azd):aF:=ACN (∃k1 k2 as ks xs,AVD (Fk Γ1 (.pu (eN k1))) AiP (V' AQx) (k_ (xN jX (putL ks jb) Asg)))
def acH(i j l:Nat):aF:=Wp (∃k1 k2 as ks xs d,Avf/\AbQ Γ/\KS AQx/\AQz jb/\Arh (Ez ks jb) jb)
section
variable{X:Cx}{F0 H0:Hp}{ke value:Expr}{pos npos apos cpos pos' x1:Pos}{x:Str}{i:Nat}{tk tv:aX}
#where
def abA(K:W.Frag)(kvs:ADa)(k:Str)(r:LP):Prop:=ò (kvs.lookup k) (some xs) (∃b,ρ r (AA b)/\pK K Ade b ADk) (KK r)
def Tab(APo)(x:Str)(kvs:ADa):Prop:=∃a,B_ mg CB/\ AHQ/\
 ∀h:Heap,MH ->∃f:CD,h.MapOf (PySem.strKind P w) a f/\∀k,abA K kvs k ABZ
def abB(neg:Bool)(kvs:ADa)(te:aX):aX:=Ty (.str k) (AIi (AC neg (! Aui) Aui))
def abC(kvs:ADa)(te:aX):aX:=Ty (.str k) (∃xs,ρ (kvs.lookup k) xs/\Cb (FA ADk))
section
variable{X:Cx}{F0 H0:Hp}{e:Expr}{pos npos:Pos}{x:Str}{te:aX}{kvs:ADa}
#where
#print L3
namespace Hd
open PySem PySem.W PySem.Calls PyProof.Rows L2 L3
#print Hd
namespace L3
open PySem PySem.Spec PyProof.Rows L2
section
variable{prog:Program}{w:World}{A:Around}{E:dR}{s:Shared}{d:Addr}{es:ADP}{ep:Nat}
#where
def yjc:Hb:=gE (.jX ks _) BEl
structure FnH (APo) (base:Heap) (k:Nat) (f:Addr) (fd:FuncData) (ps:ο) (sp:cP):Prop where
 len:∀ds Q,BEm Q ->Aaa
 run:∀(a:Addr) (A:Around) (outer:EX) (s:Shared) (H F:Hp) (args:Args) (us:Ζ) (vs:Δ) (ds:Β) (Pd:t6) (Q:VK),A6R JE (Ο (KZ F a) C8 (BEm Pd) (ANS Q4 (Pd d)) (æ pd (A.mark (some CB)) EQ args (IL r (∃u,r= .ok (.ret u)/\Aok)) s))
structure adS (XU) (x:Str) (k:Nat) (ps:ο) (sp:cP):Prop where
 ex:AOr (MR FnH base k f fd ps sp) Aae AAt
section
variable{P:Program}{w:World}{K:W.Frag}{mg:CD}{base:Heap}
#where
def abD(sp:cP)(t:bZ):aX:=IS (sp ds ALX L8)
section
variable{X:Cx}{F0 H0:Hp}{e:Expr}{es:AD}{pos p:Pos}{x:Str}{ps:ο}{k:Nat}{sp:cP}{t:bZ}{a:Addr}
#where
def Itm(Apk):It:=
 AOM Ahc (∃c k v,x= ARn/\Sm c/\ALo c BGi/\AJz (k,v)) Ahd
theorem z07:Aq6 "dict_itemiterator.__iter__":=
 Asi
theorem zp7{it d:Addr}{i n ep:Nat}{ok ov:Value}{Q:dR}{s:Shared}{P:Program}{w:World}(AYD)(hit:IsItemIter s.heap it d i n ep ok ov)(h:HI it s):BCW:=by
 have hT:s.TypeIs b9 "dict_itemiterator" :=Is hit;refine wpAny_pyIter_slot hT PySem.F.slot_dict_itemiterator_iter (sv PySem.F.slot_dict_itemiterator_iter hT z07 PySem.F.args_dict_itemiterator_iter_1);show fg (ret (AA it));exact zZ ⟨_,rfl,"dict_itemiterator",_,hT,PySem.F.slot_dict_itemiterator_next.lookup,h⟩
theorem zz4(sR)(AYl){pos:Pos}(a it:Addr)(BCv):AOP AmF (Itm a o kvs) [it] it (N9 h (∃ok ov,IsItemIter h it a i kvs.length ep ok ov)) where
 mem:=An
 obj:=Ŗ (by
  show ĳ
  show Ans;exact BY e ANJ)
 keep:=AO7 (by
  show Ans;exact⟨ok,ov,vT it e⟩)
 item:=by
  intro X hP hw hK hc i pins s σ H E I hf st hg;show KA;show Ş;obtain⟨ok,ov,st⟩:=st;show AGP;show Ĥ;show AGH;show ApZ
  show AoC;have hlt:∀c∈ [it],AgH:=fun c hc=>by
   obtain rfl:c=it:=AN hc
   exact zF st
  refine wpAny_pyNext_items_item st hd hw fun key h1 hkey hit ht hsz k1=>(Md (wpAny_letOwnedTupleGo_items hit (ψ h2 e2 sb)));show Apl it;have rk:AmE key:=by
   rcases yO hkey with ⟨j,t,rfl,rfl⟩ | ⟨x,t,rfl,rfl⟩
   ·exact UF
   ·exact UF
  have I2:ĵ BGi (PR h2 s.toks):=
   AnH [it] [key,u] I (Asd (k1 c o QP e))
    hlt (Aiw (Nat.ne_of_gt (hlt it Μ)) ht) (Ane rk rv) Aiu hf
  exact AmL ⟨_,k,v,rfl,I.fresh,rfl,hv⟩ (BY _ (AE hl e2)) (AEv (A4N hlt))
 done:=by
  intro X hP hw hK hc i pins s σ H E I hf st hg;show KA;show Ş;obtain⟨ok,ov,st⟩:=st;show AGP;show Ĥ;show AGH;exact wpAny_pyNext_items_end eL st hd Ad3 (BGK [it] (oS (eb b o QP e)))
 self:=fun _ _ _ _ _ st h=>by
  show Ans;exact zp7 e h
def Ml(ADn):TI:=A2q Itm
theorem z8n{X:Cx}{e:Expr}{te:TE}{apos cpos:Pos}(AYl){pt:Pos}(he:SO)(Aq7):
  PI X AGM BFg (Ml te):=by
 show d6;refine wpAny_Call_method0_late hbase hline (AVN hq1);obtain⟨x,H1,I1,r1,a,o,kvs,ex,ea,q⟩:=hq1;subst ex;show AXq;have ea' :Rd H1 a GM:= .inr (OR ea);show Ap1 ea';refine⟨"dict","dict.items",PySem.F.plainAttrs_dict,PySem.F.slot_dict_items,PySem.F.type_dict_items,hT,hN,Aox⟩;obtain⟨ho,hz,_,ws,kv,o',es,ep,h1,h2,h3,h4⟩:=A_c;rw[ho] at h1;cases h1;show AZN ho;refine call_meetsIn PySem.F.slot_dict_items hT PySem.F.entry_dict_items (PySem.F.args_dict_items_1 _) (meets_dict_items AAd a hsm) (EJ ⟨ws,o,es,ep,ho,h2,h3,h4⟩);have vw:(s1.heap.push (Mb "dict_items" #[AR])).IsItemsView s1.heap.objs.size a:=RS;have I2:Ć Avu:=x6 I1.kept Th;refine wpAny_pyIter_items (s:=Avu) vw (hm.push _) ?_;refine⟨_,[_],_,_,_,rfl,x6 I2.kept Th,Apo zz4,?_,He,q hz⟩
 ·rw[kv.length];exact BY _ LW
 ·show N0 (zP.mp hb);exact I2.fpOk C1 (I2.hok.fresh C1)
def pR:Be ->Β ->Β:=List.zipWith fun k x=> (RF (eN k) x)
theorem z41(A9M):AhY Itm (pR ks xs):=by
 show Aps ks.length
 show lL l1;have lp:MI pR ks xs=min ks.length xs.length:=List.length_zipWith;show AGW τ (i4 (yB AP2))
 unfold pR at hd;show BGA;cases e1:ks[i]? with
 | none=>show IQ e1 hd hd
 | some k=>
  cases e2:xs[i]? with
  | none=>show AWn;cases hd
  | some x=>
   show AWn;cases hd;show AL7 e2;have hik:i<ks.length:=ID e1;show AiS
   obtain⟨c,k2,v2,rfl,hc,rfl,z⟩:=z;have z1:=(LK z).1;have z2:=(LK z).2;rw[e1] at z1;cases z1;rw[hv] at z2;cases z2;have gr:=Gr.laid (o:=HO.tup [kV k,v]) s3 hc;show kP gr;show EE;exact AT' c (sy (yak k) (sy (AjP gr.f) ě))
def z1y(HA):bZ:=Ty (.dik ks xs) (Cb (pR ks xs))
section
variable{X:Cx}{F0 H0:Hp}{e:Expr}{te:aX}{elts:AD}{apos cpos pt:Pos}
theorem z59{x1}(he:ME)(Aq7):o_ QI AGM BFg (z1y te):=AQF (A1P z8n) (AHm hq2 (by
 obtain⟨F,Γ,P,S,q,k⟩:=hq2;refine APB (fun d Γ1 F1 H1 v R1 s1 r h1=> ?_);show OY
 ·show KU;obtain⟨a,o,vs,rfl,ea,hkl,rs⟩:=r;exact⟨a,o,_,rfl,AkN,fun hz=>(Ŋ (z41 ea hkl rs hz))⟩
 ·show ü))
#where
def Fd(Anz)(j:Nat)(tv:aX):aF:=ACN (∃k as fs ts ks xs,AVD AiO AIs (ABp (.dic ks qa)) (AhX (AfH (jg ks k) k)))
section
variable{X:Cx}{F0 H0:Hp}{value:Expr}{pos npos Ij pos' :Pos}{x f:Str}{C:Addr}{i:Nat}{tv:aX}
theorem z7d{y:Str}{j:Nat}{yp:Pos}(hu:hG)(hc:Į)(hn:sP)(hval:AkQ)(A7f)
  (hd:B1 x "__debug__":=by decide) (hcd:B1 x "__classdict__":=by decide) (hd2:B1 y "__debug__":=by decide) (Eu:B1 y "__classdict__":=by decide)
  (hb:ARF HL f HL=BF HL:=by rfl)
  (hs:ALn Avw (ED y yp):=by rfl):
  AI6 (ABM Avw (ED y yp)) (Fd C i f j tv):=fun z E cx=>
 tL (AYa (Bi z92 U' hb) Apx hs) (Hc Dn Kw Kw (fun d Γ1 F1 H1 v R1 s1 rd Ds=>by
  obtain⟨k1,as,fs,ts,ks,xs,g1,e0,hl,hsz,hnx⟩:=Ds;obtain⟨o2,e2,v2,rfl,r2⟩:=R1.sl j _ g1;have ev2:=Hf r2;subst ev2;obtain⟨a,dx,vs,v0,bs,b1,cs,b2,e1,rfl,ea,hv0,rfl,nd,hn',rt,back⟩:=yda R1 e0 hl;unfold TR at rt;obtain⟨c,ws,ds,rfl,rfl,ec,hkl,rl⟩:=rt;show AYr rl;refine⟨AR,e1,a,C,dx,_,ARn,rfl,ea,hc,hn,hv0,kV k1,e2,c,_,rfl,vV.k (k:=k1) ec (by show AIL hkl;exact hsz),?_⟩
  rw[X3 hkl];refine Fu (BCu (dx::(AFd [c])) c Az3 (t:= nK (dx::(AFd [c])) (AH2 (AfH (jg ks k1) k1))) ⟨_,rfl,nd,hn',?_⟩ (EH AJ9)) s1 hnx
  refine back Go (fun b hb u q=> ?_) ?_
  ·have hbc:b≠c:=Ξ (by
    subst z;show AjO;show Aoq;show eg
    ·exact n1 Μ
    ·show eg
     ·exact n2 Μ
     ·show AtM n3;show AGJ
      ·exact p.2.2 b hb b Μ rfl
      ·exact AG' p.2.1 hb)
   rw[dI hbc];exact q
  ·unfold TR;exact⟨c,_,[],rfl,rfl,jW,zvv hkl,AmD rd⟩))
#where
theorem z63{H1:Hp}(S:Adk)(I:Η)(hS:IY (S b) (∃kvs o,AQO/\M_/\GG H1 TL))(hN:gy (¬S b) H1 H):Ć s:=by
 have ne:Aws (LT H1):=RH q n (gS (ALi (by show AW_;rw[e] at q;cases q;exact n _ rfl)))
 refine AmO s.toks (A'5 AyA) ģ
 ·rw[ALi (by show AW_;rw[e] at n;cases n)];exact n
 ·exact AFx
 ·exact AFx
 ·rw[AFx];simp
 ·have st:∀{u:HO} {b:Addr},AQ1 b u ->n9 H1 s.heap b u:=fun k=>k.stay AkU (UB z Ach) fun c xs z=>Ach
  by_cases hb:S b
  ·obtain⟨kvs,o,e1,e2,e3⟩:=AKt;rw[e3] at q;cases q;exact⟨e2,st Az9⟩
  ·rw[hN b hb] at q;exact A2w
theorem z1r{H2:Hp}(S:Adk)(I:Η)(hS:IY (S b) (∃o kvs,Pc TL/\GG H2 GM))(hN:gy (¬S b) H2 H)(n0:IY (S b) Amo):KB H2 s:=by
 have ne:∀b u,â ->(∀o w,u≠ .frz o w) ->LT H2:=RH q n (gS (ALi (by show AW_;rw[e] at q;cases q;exact n _ _ rfl)))
 have nn:ASn (LS H2):=fun b q=>(gS (ALi (by show AW_;rw[e] at q;cases q)))
 have st:∀{u:HO} {b:Addr},AQ1 b u ->n9 H2 s.heap b u:=fun k=>k.stay AkU (UB z Av3) fun c xs z=>Av3
 refine⟨I.ok,I.os,I.bare,⟨I.base.keep,I.base.slot,AWs hx (nn b (I.base.free b u q n hx)),I.base.there,OC xs (ne b _ (I.base.tups b xs q) (FU z AAZ)),RH w q ?_,HH ps q⟩,I.loc,I.cell,nn _ I.free,fun x c q=>nn c (I.freeC x c q),li,ģ,I.len⟩
 ·rw[ALi (n0 b z _ _ q)];exact I.base.oX b u w q
 ·show vS m k (I.base.qp b ps q) m (ne b _ k (FU z AAZ))
 ·show CM h1 h2 h3 I.pin p hp;exact⟨h1,nn _ h2,h3⟩
 ·by_cases hb:S b
  ·obtain⟨o,kvs,e1,e2⟩:=AKt;rw[e2] at q;cases q;exact st Az9.2
  ·rw[hN b hb] at q;exact A2w
mutual
def gB:T ->D
 | Q3=>d
 | kH=> MZ m9 ts
 | vz=> .dik ks (m9 ts)
 | Ĳ=> .jX ks (m9 ts)
 | ŕ=> .obj C fs (m9 ts)
 | .kt k=> AMq
def m9:Gc ->Β
 | []=> []
 | UY=>gB t::m9 ts
end
section
variable{K:W.Frag}{F H F' :Hp}
def pU(H F' :Hp)(a:Addr):Prop:=∀u,qA ->(∃o kvs,u= AQs/\BN F' Ï)\/ (A7G)/\BN F' u
theorem pU.d(h:AYV)(e:Ė):∃o,BN F' TL:=by
 rcases h _ e with ⟨o,_,_,q⟩ | ⟨n,_⟩
 ·exact OR q
 ·exact(n _ rfl).elim
theorem pU.o(h:AYV)(e:qA)(n:A7G):BN F' u:=by
 rcases h _ e with ⟨o,_,q,_⟩ | ⟨_,q⟩
 ·exact(n _ q).elim
 ·exact q
mutual
theorem TR.repN(f:Dx):Ajr AYV (ű (gB t) v)
 | Q3,v,as,k,h=>by show Fs;unfold gB;exact Akw
 | kH,v,as,k,h=>by
  show Fs;obtain⟨a,vs,bs,e1,rfl,e3,h⟩:=h;show RC gB;exact⟨a,vs,e1,oC ((k a zV).o e3 (E4 z AAZ)),AgT⟩
 | vz,v,as,k,h=>by
  show Fs;obtain⟨a,vs,bs,e1,rfl,e3,e4,h⟩:=h;show Cn o e (k a zV).d e3;show RC gB;exact⟨a,o,vs,e1,e,e4,AgT⟩
 | Ĳ,v,as,k,h=>by
  show Fs;obtain⟨a,vs,bs,e1,rfl,e3,e4,h⟩:=h;show RC gB;exact⟨a,vs,e1,AzM,e4,AgT⟩
 | ŕ,v,as,k,h=>by
  show Fs;obtain⟨a,dx,vs,bs,e1,rfl,e3,e4,e5,e6,h⟩:=h;show RC gB;exact A2m AzM fD.repN
 | .kt k,v,as,_,h=>by
  show Fs;obtain⟨_,a,e1,e2⟩:=h;show RC gB;exact A7g
theorem fD.repN(f:Dx):AZb ((iO AYV) ->Ļ ->AHF (m9 ts))
 | [],vs,as,k,h=>by show YI;unfold m9 ao;exact h.1
 | UY,vs,as,k,h=>by
  show YI;obtain⟨v,us,bs,cs,e1,rfl,h1,h2⟩:=h;unfold m9 ao;exact⟨v,us,e1,Apj TR.repN,Ao9 fD.repN⟩
end
#where
def Tw:Slot ->Slot | .ow ds=> OE ds | .tr _ t=> .pu (gB t) | .nt _ c t=> BDd gB | .xe _ C _ _=> .pu AXB | s=>s
def jH(Γ:G2):G2:=Γ.map Tw
def Yd(u:HO):Prop:=LD u\/∃o kvs,u= .frz o GM
def fM(Γ:G2)(σ:St)(H:Hp)(b:Addr):Prop:=Sl/\∃kvs,AQO
open Classical in
theorem z8i(Aq4)(AXp)(R:DH)(ob:Addr ->Obj):∃F1 H1,SA/\A3j/\ A3P/\ (AwJ)/\
  (A2e)/\gy (¬TD) H1 H:=by
 let H1:Hp:=ATq TD A0t (H b)
 show UZ hS A2e (by
  show K' kvs hb.2;show BB kvs e;show(AC TD A0t (H b))=_;rw[AZ hb,e];rfl)
 show UZ hN (gy (¬TD) H1 H) ß
 let F1:Hp:=ATq AOl (F b) (AOi (H1 b))
 show UZ fo (AQ9 (∃u,â/\LD u)) (by
  obtain⟨j,s,o,e1,e2,hs⟩:=id hb;obtain⟨o',e3,r⟩:=R.sl j _ e1;rw[e2] at e3;cases e3;obtain⟨h1,_,u,h2,ld⟩:=Dz r hs;exact sT h1 u ld)
 have s1:SA:=IM (by show(AHM _)=_;rw[if_pos (by rw[e];rfl)];exact e)
 have at1:gy Sl F1 H1:=fun b h2=>by
  show Ahj=_;rw[D_ (AJ4 (fo b h2).1),AZ h2]
 have s2:gu H1:=IM (by
  by_cases ho:Sl
  ·rw[at1 b ho] at e;exact e
  ·show lS Ahj;split at e'
   ·rw[hN b (Ξ (ho z.1))];exact R.g b u e'
   ·first | cases e' | (show IQ (Ω ho) e' e'))
 have DY:∀(i:Nat) s o a,CS (jH Γ) s ->¬Yf:=fun i s o a e=>by
  show LL jH;show ASN;cases q:Γ[i]? with
  | none=>show eJ
  | some t=>
   show AtC
 show UZ own AwJ (by
  obtain⟨h1,u,h2,ld⟩:=fo b hb;show CI h1;rw[at1 b hb];by_cases hn:TD
  ·obtain⟨kvs,_,e⟩:=hS b hn;exact BY e (.inr (Is _))
  ·exact⟨u,AE (hN b hn) h2,.inl ld⟩)
 refine⟨F1,H1,s1,A9O jH,HH hb hn,own,hS,hN⟩
 ·show LL jH;show ASN;cases q:Γ[i]? with
  | none=>show eJ
  | some sl=>
   show Pf;show T' e1 r (R.sl i sl q);show BB o e1;have mine:IY (iQ sl o b) (pU H F1 b):=fun b hb u hu=>by
    have ho:Sl:=A_p;rw[at1 b ho];by_cases hn:TD
    ·obtain⟨kvs,e,e'⟩:=hS b hn;rw[e] at hu;cases hu;exact .inl (ADu e')
    ·show RA ⟨fun kvs z=>hn ⟨ho,kvs,FF hu z⟩,AE (hN b hn) hu⟩
   cases sl with
   | no=>cases e;trivial
   | pu d=>cases e;show OH rfl rv r;exact ĥ Af1
   | ow ds=>
    cases e;obtain⟨a,vs,rfl,h1,h2,h3,rs⟩:=r;show SB AR;show EE;exact OP a (oC ((mine a rfl).o h1 (E4 z AAZ))) (rs.up s1)
   | tr as t=>
    cases e;obtain⟨v,rfl,nd,h1,rv⟩:=r;exact ĥ (ë Aqb (mine a ha) rv)
   | nt as c t=>
    cases e;obtain⟨p,v,rfl,e2,nd,h1,rv⟩:=r;show SB L_;show EE;exact EG p [AA',v] (Abu s1) (sy MX (Jw (Aqb (AJA (mine a ha)) rv)))
   | xe as C fs ts=>
    cases e;obtain⟨a,oe,dx,vs,rfl,e2,_⟩:=r;show SB AR;show EE;exact IB a oe (s1 _ _ e2)
 ·show Ahj=none;rw[D_ (AJ4 hb),Ω hn]
section
variable{K:W.Frag}{F F' :Hp}
mutual
theorem z7w(hA:Tk F (Yd u\/LT F')):A9V
 | Ρ,_,_,h=>NO
 | Kx,_,_,h=>NO
 | IR,_,_,h=>NO
 | HZ,_,_,h=>NO
 | Ě,_,_,h=>NO
 | uS,_,n,h=>by
  show AG2;show Su;show AYH;refine⟨a,vs,h0,?_,Ye hA ds vs n h2⟩;show ARZ h1 h1 h1 h1
  ·rcases AFf with (z | ⟨_,_,z⟩) | z
   ·exact z.tup.elim
   ·cases z
   ·show B3 (C5 z)
  ·rcases AFf with (z | ⟨_,_,z⟩) | z
   ·exact z.frz.elim
   ·cases z
   ·show B3 (CA (OR z))
  ·show DI h1
 | ATe,_,n,h=>by
  show AG2;show Su;obtain⟨a,dx,vs,h0,h1,h3,h4⟩:=h;refine⟨a,dx,vs,h0,?_,h3,Ye hA ds vs n.2 h4⟩;rcases AFf with (z | ⟨_,_,z⟩) | z
  ·have:=z.ins;show XG (Wx h3) n.1;show DT
  ·cases z
  ·exact z
 | YA,_,n,_=>eR
 | ę,_,n,_=>eR
 | u7,_,n,_=>eR
 | u8,_,n,_=>eR
 | ADb,_,n,_=>eR
theorem Ye(hA:Tk F (Yd u\/LT F')):A9W
 | [],_,_,h=>Ae5
 | SG,_,n,h=>by
  unfold gb at n;show MU ao;obtain⟨v,r,h0,h1,h2⟩:=h;exact⟨v,r,h0,z7w hA d v n.1 h1,Ye hA ds r n.2 h2⟩
end
#where
structure Mp (eQ) (F0 H0 F H:Hp) (σ:St) (Γ:G2) (F1 H1:Hp):Prop where
 R:A3j
 back:∀{F' H' :Hp} {Γ' :G2},SR K F1 H1 F' H' σ Γ' ->gu F' ->∃F2 H2,fN F2 H2/\ZN F2/\ (∀ds vs,ACJ ->ACU ->ao K F2 ds vs)/\ (∀a u,Sf H1 ->BN H' u ->BN H2 u/\d_/\Ľ/\ (sA ->Sf F2))/\
  (AWf)/\AX9
 hS:AQJ (∃o kvs,AQO/\GG H1 TL)
section
variable{X:Cx}{F0 H0:Hp}{e:Expr}{te:aX}{tf:bZ}
open Classical in
theorem lent(D9)(I:Η)(R:DH):∃F1 H1,Ć s/\A'W/\AQJ Amo:=by
 obtain⟨F1,H1,s1,R1,n1,o1,hS,hN⟩:=z8i R (WP ((s.heap.get? b).getD default));refine⟨F1,H1,z63 A5U I AWO hN,⟨R1,fun{F' H' Γ'} R' s' => ?_,He⟩,fun b hb o u w=> ?_⟩
 ·obtain⟨kvs,e1,e2⟩:=AKt;obtain⟨_,_,_,_,o,_,_,e,_⟩:=(A5m e1);exact⟨kvs,o,e1,e,f_ e2 e⟩
 ·have gr:Gr F H (pT (AgB (F' b))) (pT (if TD then H b else H' b)):=by
   show DC FR FR FR (ai ?_)
   ·show AT4 F';rw[Acr (OA o1)]
    exact s' _ _ (s1 _ _ e)
   ·show lS (AHz F');split at e'
    ·cases e'
    ·show ö;show N4 (AC TD (H b) (H' b));show AV (DF (hb w.1));exact R'.g _ _ e'
   ·show N4 (AC TD (H b) (H' b));split
    ·exact e
    ·show ö;exact R'.gr.h _ _ (B4 (hN b hb) e)
   ·have e' :ρ (AHz F') o:=e;split at e'
    ·cases e'
    ·show ö;have:=A5c R'.gr.n;unfold wU at this⊢;show Ap (hN b (DF (hb w.1)));exact this
  refine⟨_,_,R.grow gr,gr.f,fun ds vs hd hr=>Ye (FR) ds vs hd hr,Iy a u h1 h2,EH (AZ hb),EH ß⟩
  ·by_cases hb:Sl
   ·obtain⟨_,w,ev,ld⟩:=o1 b hb;have:=s' _ _ ev;show dq;show DT;exact .inl ld
   ·show DI (by show AT4 F';show AV hb;exact e)
  ·have nn:¬fM Γ σ H a:=DF (by obtain⟨_,_,e⟩:=hS a w;rw[e] at h1;cases h1)
   have hH:ABV:=A7 (hN a nn) h1
   show DC (by show(AC (fM Γ σ H a) (H a) (H' a))=_;show AV nn;exact h2) ?_ (R.apart hH) (Jn hF)
   ·cases q:H0 a with
    | none=>rfl
    | some w=>show Agv (R.gr.h _ _ q) hH
   ·show(AC (gG Γ σ a) none (F' a))=none;split
    ·rfl
    ·exact hF
 ·obtain⟨kvs,e1,e2⟩:=AKt;exact Tl kvs e1 e2
 ·obtain⟨kvs,e1,_⟩:=AKt;have:=I.base.oX b o u w;show Ap e1;show DT
theorem Mp.thaw{K:W.Frag}{H2:Hp}(L:A'W)(n0:AQJ Amo)(I' :xh s)(sm:AT_)(h1:AWf)(h2:AX9):KB H2 s:=by
 refine z1r A5U I' AWO h2 n0;obtain⟨o,kvs,e1,e2⟩:=L.hS b hb;exact⟨o,kvs,sm _ _ e2,AE (h1 b hb) e1⟩
def qY(HA):aX:=Mn (te (jH Γ) (K2 d (jw d/\vj)) mR)
theorem Tz(h:∀F0 H0,ME):xD (qY te):=fun z E cx=>by
 rintro pins s σ H Q I ⟨F,Γ,P,R,q,k⟩;obtain⟨F1,H1,I1,L,n0⟩:=lent I R;refine cJ (Ap0 H1 H1 (UA H' (AT_ /\∃H2,(AWf)/\ (AX9)/\AT7)) I1 ⟨F1,jH Γ,_,L.R,q,fun d Γ' F' H' v R' s' r hp=> ?_⟩) (ψ u s2 hq)
 ·obtain⟨F2,H2,R2,sF,rs,_,e1,e2⟩:=AzK;have r2:=rs [d] [v] (by unfold gb gb;exact⟨hp.1,trivial⟩) (Jw r)
  show AVg r2;obtain⟨v',_,ev,r2,rfl⟩:=r2;cases ev;exact A1G (k d Γ F2 H2 v R2 sF r2 hp.2)
 ·obtain⟨x,H',I',rv,sm,H2,e1,e2,hQ⟩:=hq;exact⟨x,H2,L.thaw n0 I' sm e1 e2,rv,hQ⟩
def Ag(tf:bZ):bZ:=Mn (tf (jH Γ) (K2 ds (ACJ/\P ds Γ)) mR)
theorem zyp(h:∀F0 H0,Ai2):om e (Ag tf):=fun z E cx=>by
 rintro pins s σ H Q I ⟨F,Γ,P,R,q,k⟩;obtain⟨F1,H1,I1,L,n0⟩:=lent I R;refine cJ (Ap0 H1 H1 (UA H' (AT_ /\∃H2,(AWf)/\ (AX9)/\AT7)) I1 ⟨F1,jH Γ,_,L.R,q,fun ds Γ' F' H' a vs R' s' ea fa ha rs ap hp=> ?_⟩) (ψ u s2 hq)
 ·obtain⟨F2,H2,R2,sF,rc,at2,e1,e2⟩:=AzK;obtain⟨q1,q2,q3,q4⟩:=at2 a _ ha ea;exact A1G (k ds Γ F2 H2 a vs R2 sF q1 (q4 fa) q2 (rc ds vs hp.1 rs) q3 hp.2)
 ·obtain⟨x,H',I',rv,sm,H2,e1,e2,hQ⟩:=hq;exact⟨x,H2,L.thaw n0 I' sm e1 e2,rv,hQ⟩
#where
#print L3
namespace L3
open PySem PySem.Spec PyProof.Rows L2
def J1(tb:aF):aF:=Wp (tb D Γ mR)
section
variable{X:Cx}{F0 H0:Hp}{pos:Pos}{body:LM}{hs:List ExceptHandler}{h0:ExceptHandler}{tb:aF}
theorem ydk(hb:∀F,vf X F H0 body tb):KO (.Try body ABr [] [] pos) (J1 tb):=by
 rintro z E cx pins s σ H D I ⟨F,Γ,D2,R,h,k⟩;refine wpAny_Try_except ?_;have key:=hb F ⟨fun e s₁=>(AAV (noteFrame e X.env) (E8 s₂ (AAV (setFlight e none) (E8 s₃ (AAV (handleBy e X.env ABr) (SP (X.wsh z) pins D) z.xe s₃)) z.xe s₂)) z.xe s₁),z.pn++pins⟩
  mR ⟨? px,PassesOwn.looking⟩ [] s σ H D (yfn I) ⟨F,Γ,D2,R.base,h,k.base R.gr⟩
 ·refine wpAny_mono key (PQ f q) ip;have q' :=yik q;cases f with
  | next=>exact wpAny_execs_nil q'
  | ret v=>exact q'
  | brk=>exact q'
  | cont=>exact q'
 ·intro rN σ1 Γ1 F1 H1 s1 e s' I' R1 hx;obtain⟨a,Cv,H',B,dx,rfl,os,bare,un,hok,Wz,inB,Dq,Γ2,F2,xv,R2,sF2,xr,apx,z⟩:=hx;exact z.elim
theorem z02{a b:Expr}{ta tb:aX}(hu:hG)(ha:OX)(hb:ja)(hm:AaR ð):pr (.Compare a [ð] [b] pos) (cT (cB (Im true) ta tb)):=fun z E cx=>
 NT (Bi ZF (Bi ztp hu Cf HV) hm) (EI yP (K0 yP (fun d1 Γ1 F1 H1 v1 R1 s1 r1 h1=>(lb (fun d2 Γ2 F2 H2 v2 R2 s2 r2 h2=>by
  obtain⟨ks,xs,kk,e1,rfl,hp⟩:=h2;show ŗ r2;show lh r1;subst ev;refine⟨c,_,rfl,Ajh rfl,_,rfl,?_⟩;rw[zvy hkl];exact A1j)))))
#where
#print L3
namespace HM
theorem zyi(a b:Int):Int.gcd b (a.fmod b)=Int.gcd a b:=by
 rw[Int.fmod_def,Int.gcd_sub_mul_left_right,Int.gcd_comm]
theorem ze5{a b:Int}(h:x5):(a.fmod b).natAbs<b.natAbs:=by
 rw[Int.fmod_eq_emod];have h1:=Int.emod_nonneg a h;have h2:=Int.emod_lt a h;split
 ·omega
 ·show GW;have q1:b<0:=τ
  show SE q2 (a % b) (q (CA (Int.dvd_of_emod_eq_zero z)));omega
def dv(AFm):Int:=if b<0 then -(AF YY) else YY
def fr(AFm):Int×Int:=(t.fdiv (dv t b),b.fdiv (dv t b))
theorem TF(we):ky≠0:=by
 unfold dv;have:YY≠0:=by
  intro e;exact h (BEg e)
 split<;>omega
theorem ydr(AFm):ky∣t:=by
 unfold dv;split
 ·exact Int.neg_dvd.mpr (AdI)
 ·exact AdI
theorem z3r(AFm):ky∣b:=by
 unfold dv;split
 ·exact Int.neg_dvd.mpr (AdJ)
 ·exact AdJ
theorem J2{a b:Int}(h:b∣a):b*a.fdiv b=a:=AE (Int.fdiv_eq_ediv_of_dvd h) (Int.mul_ediv_cancel' h)
theorem Yg(AFm):ky* NE=t:=J2 (ydr t b)
theorem Ow(AFm):ky* MB=b:=J2 (z3r t b)
theorem z2z(we):0< MB:=by
 have e:=Ow t b;show AYb;generalize MB=y at*;unfold dv at e n;split at e
 ·show ö;have g0:IJ<YY:=by
   rw[AZ hb] at n;have:IJ<=YY:=BDo;omega
  show NR (Afc y)
  ·exact h
  ·have:0<= -(AF YY)*y:=AJr Int.neg_mul Int.mul_neg (Int.mul_nonneg ξ ξ)
   omega
 ·show ö;have g0:IJ<YY:=by
   rw[ß] at n;have:IJ<=YY:=BDo;omega
  show NR (Afc y)
  ·exact h
  ·have:AF YY*y<=0:=BEZ ξ
   omega
theorem z1w(we):Int.gcd NE MB=1:=by
 have e1:=Yg t b;have e2:=Ow t b;show AYb;have e3:Int.gcd (ky* NE) (ky* MB)=AFp*Int.gcd NE MB:=Int.gcd_mul_left ..;rw[e1,e2] at e3;have e4:AFp=YY:=by
  unfold dv;split<;>simp
 rw[e4] at e3;show SE g0 YY (h (Int.gcd_eq_zero_iff.mp z).2);exact(Nat.eq_of_mul_eq_mul_left (BDV g0) (B4 Nat.mul_one e3)).symm
theorem zri{t b:Int}:NE*b=t* MB:=by
 have e1:=Yg t b;have e2:=Ow t b
 calc NE*b=NE* (ky* MB):=MG e2
  _=(ky* NE)* MB:=by rw[<- Int.mul_assoc,Int.mul_comm NE]
  _=t* MB:=MG e1
theorem zpt{a b c d:Int}(hb:0<b)(hd:0<d)(h1:AWg 1)(h2:Int.gcd c d=1)(h:a*d=c*b):a=c/\b=d:=by
 have bd:b∣d:=by
  have:b∣a*d:=⟨c,FF h Int.mul_comm⟩
  show AtL this;rw[Int.gcd_comm,h1] at z
  simpa using z
 have db:d∣b:=by
  have:d∣c*b:=⟨a,by rw[<- h,Int.mul_comm]⟩
  show AtL this;rw[Int.gcd_comm,h2] at z
  simpa using z
 have e:b=d:=Int.dvd_antisymm (Int.le_of_lt hb) (Int.le_of_lt hd) bd db;subst e;exact nv (Int.eq_of_mul_eq_mul_right (Int.ne_of_gt hb) h)
theorem yiy{t b t' b' :Int}(h:x5)(h' :b' ≠0)(e:t*b' =t' *b):fr t b=fr t' b' :=by
 have c1:=Agt t b;have c2:=Agt t' b';have p1:=z2z (t:=t) h;have p2:=z2z (t:=t') h';have k:NE* (fr t' b').2=(fr t' b').1* MB:=by
  generalize NE=x at*;generalize MB=y at*;generalize (fr t' b').1=x' at*;generalize (fr t' b').2=y' at*
  
  have:(x*y')* (b*b')=(x' *y)* (b*b'):=by
   calc (x*y')* (b*b')=(x*b)* (b' *y'):=ARb
    _=(t*y)* (b' *y'):=MG c1
    _=(t*b')* (y*y'):=ARb
    _=(t' *b)* (y*y'):=se
    _=(t' *y')* (b*y):=ARb
    _=(x' *b')* (b*y):=MG c2
    _=(x' *y)* (b*b'):=ARb
  exact Int.eq_of_mul_eq_mul_right (Int.mul_ne_zero h h') this
 show ô e1 (zpt p1 p2 (z1w h) (z1w h') k);exact Arq
theorem ygt{a b:Int}(hb:0<b)(h:AWg 1):fr a b=(a,b):=by
 have c1:=Agt a b;show ô e1 (zpt (z2z (t:=a) (Int.ne_of_gt hb)) hb (z1w (Int.ne_of_gt hb)) h (by rw[c1]))
 exact Arq
theorem z9y(we):V_ NE<=t.natAbs:=by
 have e:=congrArg Int.natAbs (Yg t b);show ASO;show AYb;have:1<=AFp:=τ
 calc Ae3=1* Ae3:=MG Nat.one_mul
  _<=AFp* Ae3:=AdR this
  _=t.natAbs:=e
theorem yaz(we):V_ MB<=b.natAbs:=by
 have e:=congrArg Int.natAbs (Ow t b);show ASO;show AYb;have:1<=AFp:=τ
 calc Ae2=1* Ae2:=MG Nat.one_mul
  _<=AFp* Ae2:=AdR this
  _=b.natAbs:=e
#print HM
namespace L3
open PySem L2 HM
def qD(AEs):D:= ci q.num q.den
theorem ybe(we):fr t b=(AUL,AF ALR):=by
 have hb:IJ< ALR:=Fr (AOA den_pos)
 have hg:Int.gcd AUL ALR=1:=by
  have:=AOA reduced;unfold Nat.Coprime at this
  simpa [Int.gcd] using this
 have e:AUL*b=t* ALR:=by
  have q:=Rat.num_divInt_den (Rat.divInt t b);rw[Rat.divInt_eq_divInt_iff ξ h] at q
  exact q
 have:=yiy (t:=t) (b:=b) (t' :=AUL) (b' :=ALR) h ξ e.symm
 rw[this,ygt hb hg]
theorem TJ(we):fr t b=((AWa).num,AF (AWa).den):=FF (ybe h) Rat.divInt_eq_div
theorem J3(AEs):ASh≠0:=by
 have:=q.den_pos;intro e;have:X0=0:=RY e
 omega
theorem J4(AEs):Α q.num/ DE q.den=q:=AFG BEV Rat.divInt_eq_div
def Sz(n:Nat)(q:Rat):Prop:=dU q.num<=n/\dU X0<=n
theorem Sz.up{m n:Nat}{q:Rat}(h:Sz m q)(k:m<=n):Sz n q:=⟨zM h.1 k,zM h.2 k⟩
theorem zs1{t b:Int}{n:Nat}(h:x5)(h1:dU t<=n)(h2:dU b<=n):Sz n AWa:=by
 have e:=TJ (t:=t) h;have e1:NE=_:=uv Prod.fst;have e2:MB=_:=uv Prod.snd;show Aj5;show B6 (AU3 h1) (AU3 h2)
 ·rw[<- e1];exact z9y h
 ·rw[<- e2];exact yaz h
theorem ya4(AK'):Aic (a+b) (AUy+b.num*a.den):=by
 have ha:=J3 a;have hb:=J3 b;have h1:=J4 a;have h2:=J4 b;rw[Rat.intCast_add,Rat.intCast_mul,Rat.intCast_mul,Rat.intCast_mul];show AZr
theorem yat(AK'):Aic (a - b) (AUy - b.num*a.den):=by
 have ha:=J3 a;have hb:=J3 b;have h1:=J4 a;have h2:=J4 b;rw[Rat.intCast_sub,Rat.intCast_mul,Rat.intCast_mul,Rat.intCast_mul];show AZr
theorem z99(AK'):Aic (a*b) (a.num*b.num):=by
 have ha:=J3 a;have hb:=J3 b;have h1:=J4 a;have h2:=J4 b;rw[Rat.intCast_mul,Rat.intCast_mul];show AZr
theorem xO{b:Rat}:b.num=0↔b=0:=Rat.num_eq_zero
theorem z9w(a b:Rat)(h:x5):a/b=DE AUy/ DE (a.den*b.num):=by
 have ha:=J3 a;have hb:=J3 b;have h1:=J4 a;have h2:=J4 b;rw[Rat.intCast_mul,Rat.intCast_mul];show AZr
theorem yew(AK'):ō (ω (a<b)) (AUy<b.num*a.den):=AE decide_eq_decide (Rat.lt_iff a b)
theorem Ox(AK'):AKG (a.den*b.den):=Int.mul_ne_zero AhB (APS b.den_pos)
theorem yii(we):D.tup (AGs NE MB)=qD AWa:=GV (TJ h)
theorem yhy(Apn):Sz (m+n+1) (a+b):=by
 rw[ya4];show AWV Ais
 ·have h1:=Bl a.num b.den;have h2:=Bl b.num a.den;have h3:=WT (a.num*b.den) Ata;have:=ha.1;have:=ha.2;have:=hb.1;have:=hb.2;omega
 ·show Amx
theorem Oz(Apn):Sz (m+n+1) (a - b):=by
 rw[yat];show AWV Ais
 ·have h1:=Bl a.num b.den;have h2:=Bl b.num a.den;have h3:=zki (a.num*b.den) Ata;have:=ha.1;have:=ha.2;have:=hb.1;have:=hb.2;omega
 ·show Amx
theorem ya1(Apn):Sz (m+n) (a*b):=by
 rw[z99];show AWV Ais
 ·have h1:=Bl a.num b.num;have:=ha.1;have:=hb.1;omega
 ·show Amx
theorem z0o{m n:Nat}{a b:Rat}(ha:Sz m a)(hb:Sz n b)(h0:x5):Sz (m+n) (a/b):=by
 rw[z9w a b h0];have hn:AKG (a.den*b.num):=Int.mul_ne_zero AhB (NG (h0 (xO.mp z)))
 show AWV hn
 ·have h1:=Bl a.num b.den;have:=ha.1;have:=hb.2;omega
 ·have h1:=Bl a.den b.num;have:=ha.2;have:=hb.1;omega
theorem J5(AFO):qD (Α i)= .tup [B8,.int 1]:=rfl
theorem Mr{i:Int}{n:Nat}(h:Tb<=n)(hn:1<=n):Sz n (Α i):=⟨h,zM (oV (k:=1) (ASo (De 1<2^1))) hn⟩
def gZ:AW ->Rat | []=>0 | AVb=>q+gZ qs
theorem zwh(a b:AW):gZ (a++b)=gZ a+gZ b:=by
 induction a with
 | nil=>simp [gZ,Rat.zero_add]
 | cons x xs ih=>simp only [List.cons_append,gZ,ih,Rat.add_assoc]
abbrev Ms(l:AW):Prop:=l.Pairwise (· <= ·)
def cnt(Aot):Nat:=BE l.filter A1M
def tW(l:AW)(q:Rat):AW:=ArD++q::ArE
def Fe(UV):AW:=qs.foldl tW []
theorem yg1(Aot):cnt q l<=l.length:=Adn
theorem zwr{q:Rat}:FG l AW (Ms l) ((∀o∈ArD,o<=q)/\∀o∈ArE,q<o)
 | [],_=>⟨An,An⟩
 | ADZ,hs=>by
  show AYs hs;show Cn i1 i2 (zwr (q:=q) (l:=l)) p2;by_cases hx:q<x
  ·have all:∀o∈ADZ,q<o:=by
    intro o ho;show N2 ho ho
    ·exact hx
    ·exact Std.lt_of_lt_of_le hx (p1 o ho)
   have e:cnt q (x::l)=0:=by
    unfold cnt;rw[List.filter_eq_nil_iff.mpr]
    ·rfl
    ·intro o ho;simp [all o ho]
   rw[e];exact⟨An,AN all⟩
  ·have e:cnt q (x::l)=cnt q l+1:=by
    unfold cnt;rw[List.filter_cons,AZ Ad3,List.length_cons]
   rw[e,List.take_succ_cons,List.drop_succ_cons];show B6 (AM o ho) i2;show N2 ho ho
   ·exact Rat.not_lt.mp hx
   ·exact i1 o ho
theorem z56{l:AW}{q:Rat}(h:Ms l):Ms (tW l q):=by
 show AFY (zwr (q:=q) h);unfold tW Ms;rw[List.pairwise_append];show DB (h.sublist (List.take_sublist _ _)) (List.pairwise_cons.mpr ⟨AK7 (Rat.le_of_lt (h2 o ho)),h.sublist (List.drop_sublist _ _)⟩) AyT;show eg
 ·exact h1 a ha
 ·exact Rat.le_trans (h1 a ha) (Rat.le_of_lt (h2 b hb))
theorem zsj(l:AW)(q:Rat):(tW l q).Perm (q::l):=by
 unfold tW;refine List.perm_middle.trans ?_;rw[List.take_append_drop]
theorem zvz:∀(qs acc:AW),Ms acc ->Ms (qs.foldl tW acc)/\ (qs.foldl tW acc).Perm (qs++acc)
 | [],acc,h=>⟨h,oP⟩
 | AVb,acc,h=>by
  show AFY (zvz qs (tW acc q) (z56 h));show B6 h1 (h2.trans ?_);refine(List.Perm.append_left qs (zsj acc q)).trans ?_;exact List.perm_middle
theorem yeh(UV):Ms (Fe qs):=(zvz qs [] List.Pairwise.nil).1
theorem zru(UV):(Fe qs).Perm qs:=fw (zvz qs [] List.Pairwise.nil).2 List.append_nil
theorem z1u(UV):AwQ Fe:=(zru qs).length_eq
def adT(l:AW):Rat:=GL (l.length % 2) 1 AVM ((Avh+AVM)/2)
def wd(l:AW)(j:Nat):Rat:=l.getD Ü 0 - l.getD j 0
structure Best (l:AW) (b:Nat):Prop where
 lt:b+1<l.length
 le:∀j,j+1<l.length ->wd l b<=wd l j
 gt:∀j,j+1<l.length ->b<j ->wd l b<wd l j
abbrev Pt:=Rat×Rat
def pD(p:Pt):D:= RF (qD AK) (qD p.2)
def v9(l r:Pt)(x:Rat):Rat:=l.2+ An7/ ALg
def Hg(a b:Pt):Bool:=At4&& !(ω (b.2<a.2))
def Gd:Db EK
 | []=>True
 | [_]=>True
 | a::b::t=>(a.1<b.1/\a.2<=b.2)/\Gd (b::t)
def vC:AvL
 | [],_=>0
 | [p],_=>p.2
 | AVc,x=>AyO (AC (l.1<x) Amf l.2) vC
def wg:AvL
 | [],_=>0
 | [p],_=>p.2
 | AVc,x=>AyO Amf wg
theorem yhu(A'f):∃k:Rat,0<=k/\ (l.2<r.2 ->0<k)/\k* ALg=r.2 - l.2/\∀x,Amf=l.2+ (x - l.1)*k:=by
 have hd:0<AMH:=F7
 have hi:0< ALg⁻¹:=Rat.inv_pos.mpr hd;have hn:AMH≠0:=F7
 refine⟨(r.2 - l.2)* ALg⁻¹,Rat.mul_nonneg NF (Rat.le_of_lt hi),DZ (Rat.mul_pos NF hi),?_,Jn x⟩
 ·rw[Rat.mul_assoc,ÿ hn,Rat.mul_one]
 ·unfold v9;rw[Rat.div_def,Rat.mul_assoc]
theorem yd6(A'f):v9 l r l.1=l.2:=by
 obtain⟨k,_,_,_,e⟩:=yhu h h2;rw[e];grind
theorem zyn:A5I (v6 ->(∀p,ρ ps.head? p ->AK<=x) ->wg ps x=vC ps x)
 | [],_,_,_=>rfl
 | [p],_,_,_=>rfl
 | AVc,x,hg,hx=>by
  have hl:=hx l rfl;obtain⟨⟨h1,h2⟩,h3⟩:=hg;unfold wg vC;by_cases h:x<Ν
  ·rw[ACo,ACo];by_cases h' :l.1<x
   ·show DU h'
   ·show AV h';have:x=l.1:=F7
    show XY;exact yd6 h1 h2
  ·rw[ă,ă];exact zyn h3 (P_ (by cases hp;grind))
def Br:EK ->Pt | []=>g6 | [p]=>p | _::r::t=>Br (r::t)
theorem z9k{x:Rat}{l:Pt}{t:EK}(hg:Gd (l::t))(hx:¬l.1<x):vC (l::t) x=l.2:=by
 cases t with
 | nil=>rfl
 | cons r t=>
  obtain⟨⟨h1,h2⟩,h3⟩:=hg;unfold vC;rw[AZ NF,Ω hx]
def Nb:EK ->BG Pt Pt
 | a::b::t,u,v=>(a=u/\b=v)\/Nb (b::t) u v
 | _,_,_=>False
#print L3
namespace HM
abbrev Bd:=Int×Int
def uW(b:Bd)(x:Int):Bool:=ω (b.1<=x)&&ω (x<=b.2)
def vD(S l:Φ)(b:Bd):Φ:=AkS Ar_
def rk(S:Φ)(bs:GU):GH Φ
 | 0=> [0]
 | BQ=>vD S (rk S bs i) (bs.getD i g6)
def gk(S:Φ)(n:Int)(rb:GU):GH Φ
 | 0=> [n]
 | BQ=>AkS ((gk S n rb i).any fun one=>uW AtZ (one - e))
def jZ(S:Φ)(n:Int):Φ:=S.reverse.map (n - ·)
theorem z75{S:Φ}{n e:Int}:AEc∈jZ S n↔e∈S:=by
 unfold jZ;rw[List.mem_map];constructor
 ·rintro⟨x,hx,h⟩;show MO x e
  exact List.mem_reverse.mp hx
 ·exact DZ (F9 e (List.mem_reverse.mpr h))
theorem qy{S l:Φ}{b:Bd}{e:Int}:e∈vD S l b↔e∈S/\∃s∈l,uW b (e - s)=true:=dr vD List.mem_filter List.any_eq_true
theorem qZ{S:Φ}{n e:Int}{rb:GU}{i:Nat}:e∈gk S n rb B2↔e∈S/\∃one∈gk S n rb i,uW AtZ (one - e)=true:=by
 show e∈S.filter _↔_;rw[List.mem_filter,List.any_eq_true]
theorem zu6{S:Φ}{n:Int}{rb:GU}:∀(i:Nat) (e:Int),e∈gk S n rb i↔ AEc∈rk ABs rb i
 | 0,e=>by
  show e∈ [n]↔ AEc∈ [0];rw[List.mem_singleton,List.mem_singleton];omega
 | BQ,e=>by
  rw[qZ];show _↔ AEc∈vD ABs (rk ABs rb i) _;rw[qy,z75];refine and_congr_right (C4 ⟨fun(ADf w)=>⟨n - o,(zu6 i o).mp ho,?_⟩,xz s hs w ⟨n - s,(zu6 i (n - s)).mpr ?_,?_⟩⟩)
  ·rw[O0 (n - e - (n - o)) (o - e)];exact w
  ·rw[O0 (n - (n - s)) s];exact hs
  ·rw[O0 (n - s - e) (n - e - s)];exact w
theorem z97{S:Φ}{n:Int}{rb:GU}(hn:n∈S):A'J (gk S n rb i)
 | 0,e,h=>Aqn hn
 | _+1,_,h=>(qZ.mp h).1
theorem yhq{S:Φ}{bs:GU}(h0:IJ∈S):A'J Aja
 | 0,e,h=>Aqn h0
 | _+1,_,h=>(qy.mp h).1
theorem zqm{bs:GU}{i:Nat}(h:i<bs.length):bs.reverse.getD (AAS B2) g6=bs.getD i g6:=by
 rw[List.getD_eq_getElem?_getD,List.getD_eq_getElem?_getD,List.getElem?_reverse ξ]
 congr 2
 omega
theorem meet(A2V):∀i,i<=bs.length ->((∃e∈Aja,e∈ya (AAS i))↔ AP1)
 | 0,_=>ARV (AFr e (by show Aet h1 h2;exact h2)) ⟨0,ATp,h⟩
 | BQ,hi=>by
  rw[<- meet h0 hn i ξ]
  have e1:bs.length - i=bs.length - B2+1:=τ
  constructor
  ·rintro⟨e,h1,h2⟩;obtain⟨_,s,hs,w⟩:=qy.mp h1;show BB s hs;rw[e1,qZ];exact sT (yhq h0 hs) e (Lv zqm ξ w)
  ·rintro⟨e,h1,h2⟩;rw[e1,qZ] at h2;obtain⟨_,o,ho,w⟩:=h2;show DB o (qy.mpr ⟨z97 hn ho,e,h1,?_⟩) ho;rw[zqm ξ] at w;exact w
theorem z0h(A2V):n∈rk S bs bs.length↔ IJ∈ya bs.length:=by
 rw[<- meet h0 hn bs.length Adz];rw[Nat.sub_self];exact⟨DZ ⟨n,h,ATp⟩,AFr e (by show Aet h2 h1;exact h1)⟩
def OD:Φ ->Int
 | []=>0
 | [x]=>x
 | x::y::r=>if OD (y::r)<=x then x else OD (y::r)
theorem z3z:FG l Φ (l≠ []) (OD l∈l/\∀i∈l,i<=OD l)
 | [],h=>Akd
 | [x],_=>⟨ATp,NC (ADs hi Adq)⟩
 | x::y::r,_=>by
  show Cn h1 h2 (z3z (l:=y::r)) Μ
  unfold OD;split
  ·show GW;show YE zV i hi;show N2 hi hi
   ·exact Int.le_refl _
   ·exact Int.le_trans (h2 i hi) q
  ·show GW;show YE (zU _ h1) i hi;show N2 hi hi
   ·omega
   ·exact h2 i hi
def cand(S:Φ)(n:Int)(bs:GU)(k:Nat)(f:Int):Φ:=AkS (uW AFu (e - f)&&(gk S n bs.reverse AIF).contains e)
def fk(S:Φ)(n:Int)(bs:GU):dk
 | 0=>0
 | k+1=>OD (cand S n bs k BBT)
theorem tY(AP6){k:Nat}{f e:Int}:e∈cand S n bs k f↔e∈S/\uW AFu (e - f)=true/\e∈ya AIF:=by
 unfold cand;rw[List.mem_filter,Bool.and_eq_true,List.contains_iff_mem]
theorem zv4(A7q):∀k,k<=bs.length ->AHt∈ya (AAS k)/\ (k<bs.length ->AW0≠ [])
 | k,hk=>by
  have a:AHt∈ya (AAS k):=by
   cases k with
   | zero=>exact hg
   | succ k=>
    have ih:=A9P ξ
    exact(tY.mp (z3z ih).1).2.2
  show B6 a AKW;rw[O0 (bs.length - k) (bs.length - Fc+1),qZ] at a
  obtain⟨_,o,ho,w⟩:=a;rw[zqm h] at w;intro e;have:=tY (S:=S) (n:=n) (bs:=bs) (k:=k) (f:=AHt) (e:=o) |>.mpr ⟨z97 hn ho,w,ho⟩
  show dq;show DT
theorem ygw(AP6)(hn:n∈S)(hg:AP1){k:Nat}(hk:k<bs.length):
  ADx∈AW0/\∀i∈AW0,i<=ADx:=z3z (A9P hk)
theorem yg5(A7q):AGp bs.length=n:=by
 have:=(zv4 hn hg bs.length C1).1;show Ap Nat.sub_self;exact zP.mp this
theorem z28:∀{a b:Φ},ARQ a.Pairwise ->ARQ b.Pairwise ->(∀i,i∈a↔i∈b) ->a=b
 | [],[],_,_,_=>rfl
 | [],y::b,_,_,h=>dS (h y).mpr zV Μ
 | x::a,[],_,_,h=>dS (h x).mp zV Μ
 | x::a,y::b,ha,hb,h=>by
  rw[List.pairwise_cons] at ha hb;have e:x=y:=by
   rcases zR.mp ((h x).mp zV) with e | e
   ·exact e
   ·rcases zR.mp ((h y).mpr zV) with e' | e'
    ·exact e'.symm
    ·have:=hb.1 x e;have:=ha.1 y e';omega
  subst e;rw[z28 ha.2 hb.2 (ET ?_)];constructor
  ·show A8m (zR.mp ((h i).mp (zU _ hi))) ha.1
  ·show A8m (zR.mp ((h i).mpr (zU _ hi))) hb.1
section
variable{α:Type}[ADo]
def dZ(g hs:AI):Bool:=hs.any fun h=>(ω (h∈g))
theorem rA{g hs:AI}:dZ g hs=true↔∃x,ADQ/\x∈hs:=by
 unfold dZ;rw[List.any_eq_true];exact⟨AFr x ⟨x,BFS,h1⟩,AFr x ⟨x,h2,decide_eq_true h1⟩⟩
theorem z5i{g hs:AI}(h:ACs (dZ g hs)){x:α}(h1:ADQ):x∉hs:=fun h2=>by
 rw[rA.mpr ⟨x,h1,h2⟩] at h;cases h
structure rB (Ss fs:LH):Prop where
 ne:∀f∈fs,f≠ []
 dj:fs.Pairwise fun a b=>BBl
 co:∀x,(∃f∈fs,x∈f)↔∃S∈Ss,x∈S
 sub:AVf (∃f∈fs,Pw S f)
 min:∀C:Db α,(∀S∈Ss,Ajs S S) ->∀f∈fs,(AIX f) ->ABX f
theorem rB.nil:rB ([]:LH) []:=by
 refine⟨?_,List.Pairwise.nil,?_,?_,?_⟩
 ·show AMw
 ·intro x;constructor
  ·rintro⟨_,h,_⟩;cases h
  ·rintro⟨_,h,_⟩;cases h
 ·show AMw
 ·intro _ _ _ h;cases h
theorem Yh:FG fs LH Ak8 (∀{a b:AI} {x:α},Ο (a∈fs) (b∈fs) (x∈a) (x∈b) (a=b))
 | [],_,_,_,_,ha,_,_,_=>by cases ha
 | U2,h,a,b,x,ha,hb,xa,xb=>by
  show AeF;show VI ha e1 ha1
  ·subst e1;show Ali
   ·exact e.symm
   ·show Lm xb (h.1 b hb x xa)
  ·show Ali
   ·subst e;exact absurd xa (h.1 a BDY x xb)
   ·exact Yh h.2 BDY hb xa xb
theorem rB.step{Ss fs:LH}{S g:AI}(h:AV0)(hS:S≠ [])(hg:APZ g (x∈S\/Aoh S)):
  rB (Ss++ [S]) (AFw vc++ [g]):=by
 have mf:∀f,f∈AFw vc++ [g] ->(f∈fs/\ ACs vc)\/f=g:=fun f hf=>by
  show Anc
  ·show B3 (zA.mp hf)
  ·show DI (zP.mp hf)
 have mg:g∈AFw vc++ [g]:=A0q;have ml:∀f∈fs,ACs vc ->f∈AFw vc++ [g]:=fun f h1 h2=>zN _ (zA.mpr ⟨h1,h2⟩);refine⟨AM f hf,?_,XX (EJ ?_),AM T hT,fun C hC f hf hx=> ?_⟩
 ·show AoW
  ·exact h.ne f hf.1
  ·intro z;cases S with
   | nil=>exact hS rfl
   | cons x S=>
    have:=AiV zV;show Ap z;show DT
 ·rw[List.pairwise_append];show DB (h.dj.filter _) BDn (fun a ha b hb x xa=> ?_);show Rs hb;show Cn ha hn zA.mp ha;intro xg;rcases(hg x).mp xg with xs | ⟨f,hf,hm,xf⟩
  ·exact z5i hn xa xs
  ·have:=Yh h.dj ha hf xa xf;show XY;rw[hm] at hn;cases hn
 ·rintro⟨f,hf,xf⟩;show AoW
  ·show AU T hT xT (h.co x).mp ⟨f,hf.1,xf⟩;exact⟨T,zN _ hT,xT⟩
  ·rcases(hg x).mp xf with xs | ⟨f,hf,_,xf⟩
   ·exact⟨S,A0q,xs⟩
   ·show AU T hT xT (h.co x).mp ⟨f,hf,xf⟩;exact⟨T,zN _ hT,xT⟩
 ·rintro⟨T,hT,xT⟩;show N3 hT hT hT
  ·show AU f hf xf (h.co x).mpr ⟨T,hT,xT⟩;cases q:vc with
   | true=>exact⟨g,mg,A2r xf⟩
   | false=>exact⟨f,ml f hf (ul q),xf⟩
  ·show Aet hT xT;exact⟨g,mg,AiV xT⟩
 ·show N3 hT hT hT
  ·show CM f hf k h.sub T hT;cases q:vc with
   | true=>exact⟨g,mg,AEQ (A2r (k x hx))⟩
   | false=>exact⟨f,ml f hf (ul q),k⟩
  ·show Rs hT;exact⟨g,mg,AEQ (AiV hx)⟩
 ·have hC1:∀T∈Ss,(AIX T) ->ABX T:=fun T hT=>hC T (zN _ hT);have hCS:=hC S (zO _ (zP.mpr rfl));show AoW
  ·exact h.min C hC1 f hf.1 hx
  ·have all:ABX S:=by
    obtain⟨x,xf,cx⟩:=hx;rcases(hg x).mp xf with xs | ⟨f,hf,hm,xf⟩
    ·exact hCS ⟨x,xs,cx⟩
    ·have:=h.min C hC1 f hf ⟨x,xf,cx⟩;show AU y y1 y2 rA.mp hm;exact hCS ⟨y,y2,this y y1⟩
   intro y hy;rcases(hg y).mp hy with ys | ⟨f,hf,hm,yf⟩
   ·exact all y ys
   ·show AU z z1 z2 rA.mp hm;exact h.min C hC1 f hf ⟨z,z1,all z z2⟩ y yf
theorem rB.perm{Ss fs gs:LH}(h:AV0)(p:gs.Perm fs):rB Ss gs:=by
 refine⟨fun f hf=>h.ne f (p.mem_iff.mp hf),?_,Jn x,AM S hS,fun C hC f hf=>h.min C hC f (p.mem_iff.mp hf)⟩
 ·exact(p.pairwise_iff (fun{a b} k x xb xa=>k x xa xb)).mpr h.dj
 ·rw[<- h.co x];exact⟨A6i p.mem_iff.mp,A6i p.mem_iff.mpr⟩
 ·show CM f hf k h.sub S hS;exact⟨f,p.mem_iff.mpr hf,k⟩
inductive Alike:BG LH LH
 | nil:Alike [] []
 | cons {f g:AI} {fs gs:LH} (h:APZ f ADQ) (r:Alike fs gs):Alike (f::fs) (g::gs)
theorem Dl:∀{l U:AI},l.Nodup ->(∀x∈l,x∈U) ->l.length<=U.length
 | [],U,_,_=>G1
 | D4,U,nd,h=>by
  have nd' :=List.nodup_cons.mp nd;have ha:=h a zV;have:=Dl (l:=l) (U:=U.erase a) nd'.2 (AEQ (by
   have ne:x≠a:=Ξ (nd'.1 (z ▸ hx));exact(List.mem_erase_of_ne ne).mpr (h x (zU _ hx))))
  show Ap (List.length_erase_of_mem ha);have:0<U.length:=List.length_pos_of_mem ha;rw[List.length_cons];omega
theorem zkr:∀{fs:LH},Ak8 ->(AMm f.Nodup) ->fs.flatten.Nodup
 | [],_,_=>An
 | U2,h,k=>by
  show AeF;rw[List.flatten_cons,List.nodup_append];show DB (k f zV) (zkr h.2 fun g hg=>k g (zU _ hg)) (A5' e);subst e;show AU g hg ag List.mem_flatten.mp hb;exact h.1 g hg a ha ag
#where
def cW(g:eP):AR9
 | []=>0
 | eA=>g c cs - eK d (g d cy)
abbrev Row:=OU
def dt:CF ->AL ->Rat
 | [],[]=>1
 | [],A8=>0
 | UU,cs=>eK c AVQ
theorem zkl{g h:eP}:FG cs AL (∀c ds,g c ds=h c ds) (cW g cs=cW h cs)
 | [],_=>rfl
 | eA,e=>dr cW e (zkl (cs:=cs) fun d ds=>e d cy)
theorem zrm{g h:eP}:AzE (g c ds+h c ds) (cW g cs+cW h cs)
 | []=>zS cW
 | eA=>AbI cW (zrm (cs:=cs))
theorem TQ{g:eP}(k:Rat):AzE (k*g c ds) (k*cW g cs)
 | []=>zS cW
 | eA=>AbI cW (TQ k (cs:=cs))
theorem Yi{g:eP}:FG cs AL (AWI (∀ds,g c ds=0)) (cW g cs=0)
 | [],_=>rfl
 | eA,h=>AUA cW (h c List.mem_cons_self) (Yi (cs:=cs) fun d hd ds=>h d (List.mem_cons_of_mem _ hd) _)
def two(r s:Row)(h:AR9)(cs:AL):Rat:=eK c (r c*AiM ds)
theorem zw3(r s:Row):∀(cs:AL) (h:AR9),two r s h cs= - two s r h cs
 | [],h=>by unfold two cW;grind
 | eA,h=>by
  have key:∀r s:Row,two r s h (c::cs)=AxO - s c*BCZ (r d*h es)+two r s (AG es (h (c::es))) cs:=by
   intro r s;show AxO - eK x (r x*AiM cy)=_;have e:(fun(De x) (ds:AL)=>r x*AiM cy)=fun x ds=>(s c* (r x*h ds))+ F6* (r x*A2l):=by
    funext x ds
    show r x* (s c*h ds - A2l)=_
    grind
   rw[e,zrm,TQ,TQ];unfold two
   grind
  rw[key r s,key s r,zw3 r s cs]
  grind
theorem z16(r s:Row)(rs:CF)(cs:AL):dt (r::s::rs) cs= - dt (s::UU) cs:=zw3 r s cs (dt rs)
theorem half{x:Rat}(h:x= -x):x=0:=F7
theorem ya2{r:Row}:Ao2 (r∈rs) (dt vb cs=0)
 | [],_,h=>BI
 | s::rs,cs,h=>by
  show AfG e
  ·subst e;exact half (z16 r r rs cs)
  ·rw[z16];have:dt (s::UU) cs=0:=Yi fun c _ ds=>by
    show s c*dt vb ds=0;rw[ya2 h];grind
   rw[this];grind
def comb:AW ->CF ->Row
 | į,UU=>C3 (k*r j+ĺ)
 | _,_=>r8
theorem ygp(r s:Row)(k:Rat)(rs:CF)(cs:AL):dt ((JA (r j+k*s j))::rs) cs=dt vb cs+k*dt (s::rs) cs:=by
 show cW (UB ds ((r c+k*s c)*Iq ds)) cs=eK c AVQ+k*eK c (s c*Iq ds);rw[<- TQ,<- zrm];exact zkl fun c ds=>F7
theorem TV{rs:CF}{cs:AL}:∀{ks:AW} {ss:CF} {r:Row},(∀s∈ss,s∈rs) ->dt (Ar5::rs) cs=dt vb cs
 | [],ss,r,_=>by
  have:(JA (r j+comb [] ss j))=r:=Ard
  rw[this]
 | į,[],r,_=>by
  have:(JA (r j+comb (k::ks) [] j))=r:=Ard
  rw[this]
 | į,s::ss,r,h=>by
  have e:(JA (r j+comb (k::ks) (s::ss) j))=C3 (Ar5 j+k*s j):=by
   funext j
   show r j+ (k*s j+comb ks ss j)=_
   grind
  rw[e,ygp,TV (ks:=ks) fun t ht=>(ASd h t ht),ya2 (h s List.mem_cons_self)]
  grind
theorem Yj{r:Row}{rs:CF}{j:Nat}{cs:AL}(h:∀c∈cs,r c=0):dt vb iP=AhI:=by
 show AhI - eK d (AfL (r d))=_;rw[Yi fun c hc ds=>(kl (h c hc))]
 grind
def TX(f:AR9):Prop:=∀pre c d post,f (pre++c::AH')= - f (pre++d::oa)
theorem zs9:∀(pre:AL) (g:eP) (c d:Nat) (post:AL),(∀x,TX (g x)) ->cW g AfC= - cW g AfA
 | [],g,c,d,post,h=>by
  have key:∀c d,cW g (c::AH')=g c (d::post) - AqS+An2:=by
   intro c d;show g c (d::post) - (AqS - An2)=_
   grind
  have e:cW (fun x es=>g x (d::c::es)) post=F6*An2:=A7 TQ (zkl fun x es=>by
    have:=h x [] d c es;simp only [List.nil_append] at this;rw[this];grind)
  show cW g (c::AH')= - cW g (d::oa);rw[key c d,key d c,e]
  grind
 | a::pre,g,c,d,post,h=>by
  show g a AfC - A0X AfC= - (g a AfA - A0X AfA);rw[h a pre c d post,zs9 pre (fun x ds=>BCP) c d post fun x p c d q=>h x (a::p) c d q]
  grind
theorem Yk:∀rs:CF,TX (dt rs)
 | []=>A4G (by cases pre<;>(unfold dt;grind))
 | UU=>A4G (zs9 pre _ c d post fun x p a b q=>by
   show r x*Iq (p++a::b::q)= - (r x*Iq (p++b::a::q));rw[Yk rs p a b q]
   grind)
theorem TY(rs:CF):∀{post pre:AL} {c:Nat},c∈post ->dt rs ABf=0
 | [],_,_,h=>BI
 | AH',pre,c,h=>by
  show AfG e
  ·subst e;exact half (Yk rs pre c c post)
  ·rw[Yk rs pre c d post];have:=TY rs (pre:=pre++ [d]) h;show Ap List.append_assoc;rw[AKy (pre++d::oa) (pre++ ([d]++oa)),this];grind
def lO(rs:CF)(f:Row):Prop:=∃ks:AW,ks.length=rs.length/\∀j,f j=ĺ
theorem zxw:∀{ks ls:AW} {rs:CF},ks.length=rs.length ->ls.length=rs.length ->A4q (AT1=ĺ+comb ls rs j)
 | [],[],[],_,_=>AsK
 | į,l::ls,UU,h1,h2=>by
  show CM ms h3 h4 (zxw (ks:=ks) (ls:=ls) (rs:=rs)) à AIe
  show DB ((k+l)::ms) (A0 h3) ADX
  show(k+l)*r j+AT1=(k*r j+ĺ)+ (l*r j+comb ls rs j);rw[h4];grind
 | [],_,A8,h,_=>BI
 | A8,_,[],h,_=>BI
 | _,[],A8,_,h=>BI
 | _,A8,[],_,h=>BI
theorem zyc(x:Rat):∀{ks:AW} {rs:CF},ks.length=rs.length ->A4q (AT1=x*ĺ)
 | [],[],_=>AsK
 | į,UU,h1=>by
  show AU ms h3 h4 (zyc x (ks:=ks) (rs:=rs)) à
  show DB ((x*k)::ms) (A0 h3) ADX
  show(x*k)*r j+AT1=x* (k*r j+ĺ);rw[h4];grind
 | [],A8,h=>BI
 | A8,[],h=>BI
theorem lO.add(A2N)(h1:kq)(h2:AQQ):ĩ (f j+g j):=by
 obtain⟨ks,a,b⟩:=h1;obtain⟨ls,c,d⟩:=h2;obtain⟨ms,e,q⟩:=zxw a c;exact⟨ms,e,C3 (by show f j+g j=_;rw[q,b,d])⟩
theorem lO.mul{rs:CF}{f:Row}(x:Rat)(h:kq):ĩ (x*f j):=by
 show D' ks a b;obtain⟨ms,e,q⟩:=zyc x a;exact⟨ms,e,C3 (by show x*f j=_;rw[q,b])⟩
theorem znq:∀(rs:CF),∀j,Apc=0
 | [],j=>by unfold List.map comb;rfl
 | UU,j=>by
  show 0*r j+Apc=0;rw[znq rs j];grind
theorem lO.zero(rs:CF):lO rs r8:=⟨rs.map r8,An,C3 (znq rs j).symm⟩
theorem lO.cons{rs:CF}{f:Row}(r:Row)(h:kq):lO vb f:=by
 show D' ks a b;show DB (0::ks) (A0 a) ADX
 show f j=0*r j+ĺ;rw[b];grind
theorem lO.head(r:Row)(rs:CF):lO vb r:=by
 show DB (1::rs.map r8) An ADX
 show r j=1*r j+Apc;rw[znq];grind
theorem lO.mem{r:Row}:FG rs CF (r∈rs) (lO rs r)
 | s::rs,h=>by
  show AfG e
  ·subst e;exact lO.head r rs
  ·exact(lO.mem h).cons s
theorem lO.congr(A2N)(h:kq)(e:∀j,g j=f j):AQQ:=by
 show D' ks a b;exact⟨ks,a,C3 (FF e b)⟩
theorem z2u{rs:CF}:∀{cs:AL} {g:GH eP},(∀x ds,ĩ (g j x ds)) ->ĩ (cW (g j) cs)
 | [],g,_=>lO.zero rs
 | eA,g,h=>by
  have h1:=h c cs;have h2:=(z2u (cs:=cs) (g:=fun j x ds=>g j x cy) fun x ds=>h x cy).mul (-1);exact AUm h1.add h2 (by
   show g j c cs - eK d (g j d cy)=_
   grind)
theorem zxm:∀(rs:CF) (cs:AL),ĩ (Iq iP)
 | [],cs=>Ix [] (C3 (by unfold dt comb;rfl))
 | UU,cs=>by
  have h1:=(lO.head r rs).mul (dt rs cs);have h2:lO vb (C3 (eK x (AfL (r x)))):=z2u fun x ds=>(((zxm rs ds).cons r).mul (r x));exact(h1.add (h2.mul F6)).congr fun j=>by
   show AhI - eK d (AfL (r d))=_
   grind
theorem z3k(rs:CF):∀(n:Nat) (pre post:AL),pre.length=n ->ĩ (Iq AfB)
 | 0,pre,post,h=>by
  have:=List.length_eq_zero_iff.mp h;show XY;exact zxm rs post
 | n+1,pre,post,h=>by
  have hne:pre≠ []:=Ξ (by subst z;cases h)
  have e:=List.dropLast_concat_getLast hne;have ih:=(z3k rs n pre.dropLast (Asr::post) (FX h)).mul (-1)
  refine ih.congr ADX;have e2:pre.dropLast++Asr::j::post=pre++j::post:=by
   have:=uv (· ++j::post)
   simpa only [List.append_assoc,List.singleton_append] using this
  rw[<- e2,Yk rs pre.dropLast (pre.getLast hne) j post]
  grind
def tZ(x:Rat):Prop:=∃z:Int,x=AJu
theorem tZ.sub(Ax'):tZ (x - y):=by
 show Zp a h1;show Zp b h2;exact⟨a - b,BD'⟩
theorem tZ.mul(Ax'):tZ (x*y):=by
 show Zp a h1;show Zp b h2;exact⟨a*b,BD_⟩
theorem z0x{g:eP}:FG cs AL (∀c ds,tZ (g c ds)) (tZ (cW g cs))
 | [],_=>⟨0,AJx cW⟩
 | eA,h=>(h c cs).sub (z0x (cs:=cs) fun d ds=>h d cy)
theorem z22:Ao2 (∀r∈rs,AbR) (tZ (dt rs cs))
 | [],[],_=>⟨1,AJx dt⟩
 | [],A8,_=>⟨0,AJx dt⟩
 | UU,cs,h=>z0x fun c ds=>A8o (z22 fun s hs=>AvE)
theorem zr5(AJH){cs:AL}{f:Row}(h:kq)(z:AWj)(d:Iq cs≠0)(j:Nat):f j=0:=by
 obtain⟨ks,_,e⟩:=h;show AoE;have h2:dt (f::rs) iP=dt BEv iP:=by
  show AZq (j::cs) r8;show jp
  congr 2
  funext i
  rw[e];grind
 have h3:dt BEv iP=0:=Yi fun c _ ds=>by show 0*Iq ds=0;grind
 rw[h3,h1] at h2;show Ag1 h2
 ·exact q
 ·show Lm q d
theorem yds(A4s)(z:AWj)(wa:∀j,tZ (a j))(wr:AhA)(j:Nat):tZ (Iq cs*f j):=by
 obtain⟨ks,_,e⟩:=hg;show AoE;have h2:dt (f::rs) iP=AjA:=by
  show AZq (j::cs) a;show jp
  congr 2
  funext i
  rw[hf,e]
 rw[Rat.mul_comm,<- h1,h2];exact AAv z22 (by
  show wq hr
  ·subst q;exact wa
  ·exact wr r q)
theorem yho{rs:CF}{pre post:AL}{c:Nat}{f:Row}(h:kq)(one:f c=1)(z:At3)(wr:AhA)(d:Iq ABf≠0)(j:Nat):tZ (AgJ):=by
 have hl:=z3k rs _ pre post rfl;have e:dt rs AfB=AgJ:=by
  have key:=zr5 (cs:=pre++oa) (hl.add ((h.mul (dt rs ABf)).mul F6)) AWP d j
  ·grind
  ·by_cases hc:x=c
   ·subst hc;rw[one];grind
   ·have hx' :x∈Abz:=by
     show AJF
     ·exact zN _ q
     ·show wq q
      ·show Lm q hc
      ·exact zO _ q
    rw[z x hx'];have:dt rs (pre++ASm)=0:=by
     show N3 hx' q q
     ·show AU p1 p2 rfl List.append_of_mem q;have:=TY rs (pre:=p1) (post:=p2++ASm) (c:=x) Μ
      rw[List.append_assoc];exact this
     ·exact TY rs q
    rw[this];grind
 rw[<- e];exact z22 wr
structure Low (rs:CF) (cs:AL) (a f:Row):Prop where
 g:∃g:Row,AQQ/\BCk
 z:AWj
structure Up (rs:CF) (cs:AL) (c:Nat) (f:Row):Prop where
 l:kq
 o:f c=1
 z:∀x∈cs,x≠c ->f x=0
theorem Low.dt(AJH){cs:AL}{a f:Row}(h:Low rs cs a f)(p:Nat):HM.dt Ì Ĩ=AzC:=by
 obtain⟨⟨g,⟨ks,_,e⟩,hf⟩,z⟩:=h;have h1:HM.dt (f::rs) Ĩ=AzC:=Yj z;have h2:HM.dt (f::rs) Ĩ=HM.dt Ì Ĩ:=by
  show AZq (p::cs) a;show jp
  congr 2
  funext i
  rw[hf,e]
 rw[<- h2,h1]
theorem Low.lin(AlG){a f:Row}(h:Low rs cs a f):lO Ì f:=by
 obtain⟨⟨g,l,hf⟩,_⟩:=h;exact((lO.head a rs).add (l.cons a)).congr hf
theorem Low.step(AJH){cs:AL}{a b q f:Row}{p:Nat}(hq:Ao8)(hp:q p≠0)(h:Low rs cs b f):Low Ì Ĩ b (JA AW8):=by
 obtain⟨g,l,hf⟩:=h.g;show YE (BY ((l.cons a).add (hq.lin.mul (-(rV)))) (C3 (by show AW8=b j+ (g j+ -(rV)*q j);rw[hf j];grind))) c hc
 show VI hc e hc
 ·subst e;show f c - f c/q c*q c=0;rw[Rat.div_mul_cancel hp];grind
 ·show f c - rV*q c=0;rw[h.z c hc,hq.z c hc];grind
theorem Up.step(AlG){a q f:Row}{p c:Nat}(hq:Ao8)(hp:q p≠0)(h:Up rs cs c f)(hc:c∈cs):Up Ì Ĩ c (JA AW8):=by
 show uC (AUm (h.l.cons a).add (hq.lin.mul (-(rV))) (Afd AW8 (f j+ -(rV)*q j))) (ψ x hx n)
 ·show f c - rV*q c=1;rw[h.o,hq.z c hc];grind
 ·show Alj
  ·subst e;show f x - f x/q x*q x=0;rw[Rat.div_mul_cancel hp];grind
  ·show f x - rV*q x=0;rw[h.z x hx n,hq.z x hx];grind
theorem Up.new(AlG){a q:Row}{p:Nat}(hq:Ao8)(hp:q p≠0):Up Ì Ĩ p (JA (q j/q p)):=by
 show uC (AUm hq.lin.mul (1/q p) (Afd (q j/q p) (1/q p*q j))) (ψ x hx n)
 ·show q p/q p=1
  grind
 ·show Alj
  ·show Lm e n
  ·show q x/q p=0;rw[hq.z x hx];grind
def cols:GH AL
 | 0=> []
 | p+1=>p::ABc
theorem j4{x:Nat}:∀{p:Nat},x∈ABc↔x<p
 | 0=>A0 cols
 | p+1=>by
  unfold cols;rw[List.mem_cons,j4];omega
theorem zkj:∀p,js cols p
 | 0=>List.nodup_nil
 | p+1=>F_ cols (Aes (DZ (Fr (j4.mp h))) (zkj p))
def jl(A:PZ)(k:Nat):Row:=C3 (Α (A k j))
theorem zx0(A:PZ)(k j:Nat):tZ (jl A k j):=CO
structure BT (n:Nat) (A:PZ) (p:Nat) (d:Int) (tb:PZ) (rs:CF) (fs:AAP) (ix:WA):Prop where
 w:APQ Axg
 de:Α d=AZI
 nz:ē
 up:İ p (Up rs AUI i (fs i))
 lo:∀i,p<=i ->CH ->ix i<n/\Low rs AUI (jl A (ix i)) (fs i)
 all:∀k,k<n ->jl A k∈rs\/∃i,p<=i/\CH/\ix i=k
 t:AEH (∀j,Α (tb i j)=d*fs i j)
theorem z6i(n:Nat)(A:PZ):BT n A 0 1 A [] (jl A) id:=by
 refine⟨fun r h=>(by cases h),?_,AB,fun i h=>(BFn h),fun i _ h=>⟨h,BY (lO.zero []) (C3 (Afd (jl A i j) (jl A i j+0))),fun c h=>BI⟩,fun k h=> .inr (ñ k G1 h),ψ i _ j⟩
 ·unfold cols HM.dt;rfl
 ·show Α ADe=1* Α ADe
  grind
theorem BT.dz(A3v):AZI≠0:=A7 h.de (Ξ (ATx h.nz))
theorem yev{n:Nat}{rs:CF}{p:Nat}{f:Row}(wr:AhA)(dz:AZI≠0)(h:(∃c,c<p/\Up rs AUI c f)\/∃a,(∀j,tZ (a j))/\Low rs AUI a f)(j:Nat):tZ (AZI*f j):=by
 rcases h with ⟨c,hc,u⟩ | ⟨a,wa,l⟩
 ·show b0 pre post (List.append_of_mem (j4.mpr hc));have nd:=zkj p;rw[e] at nd;have key:=AO9 yho pre pre (post:=post) (c:=c) (f:=f) u.l u.o AWP wr (A7 e dz) j
  ·rw[e];exact key
  ·refine u.z x ?_ WJ
   ·show A7N
   ·subst z;rw[List.nodup_append] at nd;show AJF
    ·exact nd.2.2 x q x zV rfl
    ·exact AG' nd.2.1 q
 ·obtain⟨g,lg,hf⟩:=l.g;exact yds hf lg l.z wa wr j
def rC(p s i:Nat):Nat:=cq p s (cq s p i)
def nextT(p s:Nat)(d:Int)(tb:PZ):PZ:=fun i j=>(cq p (tb s j) A9q)
theorem yb3{x d z:Int}(d0:ē)(e:x=d*z):x.fdiv d=z:=by
 rw[e,Int.mul_comm,Int.mul_fdiv_cancel _ d0]
theorem Mt{a b:Int}(h:Α a=Α b):a=b:=RY h
theorem BT.step{n p s:Nat}(AZl)(h:AHe)(ps:p<=s)(sn:s<n)(nz:AO2≠0):
  ∃rs' fs' Mu,BT n A (p+1) (tb s p) (nextT p s d tb) rs' fs' Mu :=by
 obtain⟨hk,lq⟩:=h.lo s ps sn;have ts:AdY=d*AQZ:=h.t s sn p;show SE qz AQZ (nz (Mt (by rw[ts,z];grind)))
 show SE d0 (Α d) (h.nz (Mt (ul z)))
 let rs' :CF:=jl A (ix s)::rs
 let fs' :AAP:=ET (cq p (JA (AI1/AQZ)) (JA A6_))
 let Mu :WA:=ET (ix (rC p s i))
 have dd:dt rs' Aj8=AdY:=by
  show dt (jl A (ix s)::rs) Ah1=_;rw[lq.dt p,<- h.de,ts,Rat.mul_comm]
 show AFi w' (∀r∈rs',Axg) (by
  show wq hr
  ·exact BY hk q
  ·exact h.w r q)
 have wr' :∀r∈rs',AbR:=fun r hr j=>by show ACk k (w' r hr);exact zx0 A k j
 show SE nz' AdY (nz (Mt (ul z)))
 have up' :İ (p+1) (Up rs' Aj8 i (fs' i)):=NC (by
  show IP i p
  ·subst e;show Up rs' (i::cols i) i (AC (i=i) _ _);show We;exact Up.new lq qz
  ·have hip:i<p:=τ
   have es:AYX=i:=by unfold rC;rw[Ω e,UO]
   show Up rs' Ah1 i AsB;rw[Ω e,es];exact Up.step lq qz (h.up i hip) (j4.mpr hip))
 have T3 :∀i,p+1<=i ->CH ->Mu i<n/\Low rs' Aj8 (jl A (Mu i)) (fs' i):=fun i hi hn=>by
  have hs:p<=AYX/\AYX<n:=by
   unfold rC;show AV ξ
   split<;>omega
  obtain⟨g1,g2⟩:=h.lo _ hs.1 hs.2;show CI g1;show Low rs' Ah1 _ AsB;show AV ξ
  exact Low.step lq qz g2
 refine⟨rs',fs',Mu,w',dd.symm,nz,up',T3,AM k hk',ψ i hi j⟩
 ·rcases h.all k hk' with q | ⟨i,q1,q2,q3⟩
  ·show B3 (zU _ q)
  ·show IP i s
   ·subst e;exact .inl (A7 q3 zV)
   ·by_cases ep:i=p
    ·subst ep;show RA ⟨s,τ,sn,?_⟩
     show ix (rC i s s)=k;unfold rC;rw[Ω ξ,BU];exact q3
    ·show RA ⟨i,τ,q2,?_⟩
     show ix AHc=k;unfold rC;rw[Ω ep,AJ'];exact q3
 ·show IP i p
  ·subst e;show DE (cq i (tb s j) _)=Α (tb s i)* (AC (i=i) (JA (AI1/fs s i)) _) j;rw[BU,BU,h.t s sn j,ts];show Α d*AI1=d*fs s i* (AI1/fs s i)
   grind
  ·have hs:AYX<n:=by unfold rC;show AV e;split<;>omega
   have iz:tZ (dt rs' (cols (p+1))*fs' i j):=yev (n:=n) wr' (B4 dd nz') (by
    show EZ (i<p)
    ·show B3 ⟨i,τ,up' i ξ⟩
    ·obtain⟨g1,g2⟩:=T3 i ξ hi
     exact .inr (BY (zx0 A _) g2)) j
   obtain⟨z,hz⟩:=iz;rw[dd] at hz;have hf:fs' i j=A6_:=by
    show(cq p _ _:Row) j=_;show AV e
   show DE (cq p _ A9q)=Α AO2*fs' i j;rw[Ω e,hz]
   congr 1
   refine yb3 h.nz (Mt ?_);rw[Rat.intCast_sub,Rat.intCast_mul,Rat.intCast_mul,Rat.intCast_mul,h.t _ hs j,h.t _ hs p,h.t s sn j,<- hz,hf,ts]
   grind
def eG:mi (OU) Rat
 | 0,_=>0
 | n+1,g=>eG n g+g n
theorem J6{g h:OU}:FG n Nat (∀i,CH ->g i=h i) (eG n g=eG n h)
 | 0,_=>rfl
 | n+1,e=>dr eG (J6 fun i hi=>e i ξ) (e n ξ)
theorem zxc{g:OU}{c:Nat}:∀{n:Nat},c<n ->(∀i,CH ->i≠c ->g i=0) ->eG n g=g c
 | n+1,hc,h=>by
  unfold eG;show IP c n
  ·subst e;have:eG c g=0:=by
    rw[J6 (h:=r8) (NC (AVL h))]
    clear h hc;induction c with
    | zero=>rfl
    | succ c ih=>show Al6
   rw[this];grind
  ·rw[zxc (n:=n) ξ fun i hi n' =>h i ξ n',h n ξ (Ξ (e z.symm))];grind
theorem z4b{rs:CF}{fs:AAP}(a:OU):FG p Nat (∀c,c<p ->lO rs (fs c)) (ĩ (AiG (a c)))
 | 0,_=>lO.zero rs
 | p+1,h=>AUm (z4b a (AEv (h c ξ))).add ((h p ξ).mul (a p)) rfl
theorem BT.span{n p:Nat}(AZl)(h:AHe){f:Row}(l:kq)(j:Nat):f j=AiG (f c):=by
 have hl:=l.add ((AO9 z4b fs fs f (p:=p) (AEv (h.up c hc).l)).mul F6);have key:=zr5 (cs:=ABc) hl (HQ c hc) h.dz j
 ·grind
 ·have hc' :=j4.mp hc;show f c+ -1* (eG p (XX (f x*fs x c)))=0;rw[zxc hc' fun i hi ni=>(kl ((h.up i hi).z c hc (Ne.symm ni))),(h.up c hc').o]
  grind
theorem BT.eqn(Acz)(Acx){j:Nat}(z:∀i,p<=i ->CH ->fs i j=0){k:Nat}(hk:k<n):
  jl A k j=eG p (Ù (fs c j)):=by
 rcases h.all k hk with q | ⟨i,q1,q2,rfl⟩
 ·exact h.span (lO.mem q) j
 ·obtain⟨_,l⟩:=h.lo i q1 q2;obtain⟨g,lg,hf⟩:=l.g;have h1:=h.span lg j;have h2:∀c,c<p ->g c= - A9w:=fun c hc=>by
   have:=hf c;show Ap (l.z c (j4.mpr hc))
   grind
  have h3:=hf j;rw[z i q1 q2] at h3;have h4:(eG p fun c=>g c*fs c j)= - (AiG A9w):=by
   have neg:A7s:=fun m u=>by
    induction m with
    | zero=>unfold eG;grind
    | succ m ih=>show Al6
   rw[<- neg];exact J6 fun c hc=>(kl (h2 c hc))
  rw[h4] at h1
  grind
theorem BT.sol{n:Nat}(AZl)(h:AaD (BT n A n d)){k:Nat}(hk:k<n)(j:Nat):jl A k j=eG n (Ù (fs c j)):=
 h.eqn (fun i h1 h2=>τ) hk
theorem BT.diag{n p:Nat}(AZl)(h:AHe){i:Nat}(hi:i<p)(hn:CH):tb i i=d:=AaQ (h.t i hn i) (h.up i hi).o (Mt (kl this))
theorem BT.stuck(Acz)(Acx)(pn:p<n)(z:∀i,p<=i ->CH ->tb i p=0):
  ∃x:OU,x p=1/\∀k,k<n ->(eG n (Ù (x c)))=0:=by
 have d0:Α d≠0:=fun q=>h.nz (Mt (ul q))
 have z' :∀i,p<=i ->CH ->fs i p=0:=fun i h1 h2=>by
  have:=h.t i h2 p;show Ap (z i h1 h2);show AFM (Rat.mul_eq_zero.mp (show Α d*fs i p=0 by show jp;rfl))
  ·show Lm q d0
  ·exact q
 show DB (fun c=>if c<p then - APi else Acf c) An Aih
 have e:=h.eqn z' hk;have cut:∀m,p<m ->m<=n ->A7'=AwG+jl A k p:=fun m=>by
  induction m with
  | zero=>intro hm;omega
  | succ m ih=>
   intro hm hn;show A7'+jl A k m* (AC (m<p) (- fs m p) (Acf m))=_;show OM m p
   ·subst q;rw[Ω ξ,BU]
    rw[J6 (h:=Ù (- fs c m)) fun c hc=>by show DU hc]
    grind
   ·rw[ih ξ ξ,UO,JI];grind
 rw[cut n pn (Nat.le_refl _),e];have neg:AwG= - eG p (Ù APi):=by
  have:A7s:=fun m u=>by
   induction m with
   | zero=>unfold eG;grind
   | succ m ih=>show Al6
  show jp;exact J6 fun c _=>F7
 rw[neg];grind
def aA(G_):AI ->(CC) ->Rat
 | [],_=>0
 | D4,f=>f a+JO
section
variable{α β:Type}
theorem lu{f g:CC}:ş (f a=g a) (aA l f=aA l g)
 | [],_=>rfl
 | D4,h=>dr aA Atm (lu fun b hb=>AvT)
theorem Mv{f g:CC}:AlS (f a+g a) (JO+aA l g)
 | []=>AUJ
 | D4=>AmK Mv
theorem Ip{f g:CC}:AlS (f a - g a) (JO - aA l g)
 | []=>AUJ
 | D4=>AmK Ip
theorem Bs(k:Rat){f:CC}:Õ (DV l a (k*f a) (k*JO))
 | []=>AUJ
 | D4=>AmK (Bs k)
theorem J7{f:CC}:ş (f a=0) AhK
 | [],_=>rfl
 | D4,h=>AUA aA Atm (J7 fun b hb=>AvT)
theorem J8(k:Rat):Õ (aA l (At k)=AKe k)
 | []=>by
  show UK=Α (De 0)*k;have:OL 0=0:=rfl;rw[this];grind
 | D4=>by
  show k+aA l (At k)=Α (De AdQ)*k;rw[J8 k];have:OL AdQ=ARo+1:=RY rfl
  rw[this];grind
theorem T4{f:α ->β ->Rat}{m:IO}:AlS Anw (aA m (WP (AIk (f a b))))
 | []=>by
  show UK=_;exact(J7 ATI).symm
 | D4=>by
  show Anw+Aef Anw=aA m (WP (f a b+AIk (f a b)));rw[T4 (l:=l),<- Mv]
theorem znf{f:CC}:∀{l m:AI},aA (l++m) f=JO+AUl
 | [],m=>by show aA m f=0+AUl;grind
 | D4,m=>by show f a+aA (l++m) f=(f a+JO)+AUl;rw[znf];grind
theorem z17{f:CC}{l m:AI}(h:l.Perm m):aA l f=AUl:=by
 induction h with
 | nil=>rfl
 | cons x _ ih=>show f x+_=f x+_;rw[ih]
 | swap x y l=>show f y+ (f x+JO)=f x+ (f y+JO);grind
 | trans _ _ h1 h2=>rw[h1,h2]
theorem Fg{f:CC}{p:vF}:Õ (aA (l.filter p) f=A5y)
 | []=>rfl
 | D4=>by
  rw[List.filter_cons];show _=(AC è (f a) 0)+A5y;rw[<- Fg (l:=l)];by_cases h:è
  ·rw[ACo,ACo];rfl
  ·rw[ă,ă];grind
theorem Hh{f:HU}{g:AS_}:Õ (aA (l.map g) f=AIk (f (g a)))
 | []=>rfl
 | D4=>by show f (g a)+_=f (g a)+_;rw[Hh]
theorem OJ{f:CC}:ş (0<=f a) (0<=JO)
 | [],_=>F_ aA Rat.le_refl
 | D4,h=>by
  have h1:=h a zV;have h2:=OJ (EH ApT);show 0<=f a+JO
  grind
theorem O1{f:CC}:Õ ((AAT (0<=f a)) ->AhK ->∀a∈l,f a=0)
 | D4,h,e=>by
  have h1:=h a zV;have h2:=OJ (EH ApT);have e' :f a+JO=0:=e;have e1:f a=0:=F7
  have e2:AhK:=F7
  intro b hb;show wq hb
  ·rw[q];exact e1
  ·exact O1 (iS ApT) e2 b q
 | [],_,_=>fun a h=>BI
#where
section
variable{α:Type}[ADo]
theorem O2{f:CC}{s hs:AI}(ns:s.Nodup)(nh:hs.Nodup)(sub:AbN):DV hs h (IC f' (f h)) (aA s f):=by
 have p:(hs.filter (DZ (ω f'))).Perm s:=by
  rw[List.perm_ext_iff_of_nodup (nh.filter _) ns];intro a;rw[List.mem_filter];exact ARV (DZ (of_decide_eq_true h.2)) ⟨sub a h,decide_eq_true h⟩
 rw[<- z17 p,Fg];exact LA a (by by_cases h:a∈s<;>simp [h])
def cY(s:AI)(x:CC):Rat:=AaE (aA s x)
theorem z5s{s:AI}(h:s≠ [])(x:CC):Α s.length*Ų=aA s x:=by
 have z:BDk≠0:=by
  have:=List.length_pos_iff.mpr h;intro e;have:s.length=0:=RY e
  omega
 unfold cY;rw[Rat.div_def,Rat.mul_comm,Rat.mul_assoc,ÿ z];grind
theorem zr6(s:AI)(x:CC):DV s h AW7 0:=by
 rw[Ip,J8];by_cases h:s= []
 ·subst h;show UK - Α (De 0)*_=0;have:OL 0=0:=rfl;rw[this];grind
 ·rw[z5s h];grind
def pW(S:LH)(x:CC)(h:α):Rat:=AEj AW7
theorem zx6(Amz)(sub:AfW)(c x:CC):DV hs h (c h*AFS) (aA S fun s=>aA s (DZ (c h* cK))):=by
 unfold pW;have e:DV hs h (c h*AEj AW7) (aA hs (DZ (AEj (c h* cK)))):=
  LA h (A7 Bs (LA s (by split<;>grind)))
 rw[e,T4];exact lu fun s hS=>AyP
theorem ycn(Amz)(sub:AfW)(x:CC):aA hs (pW S x)=0:=by
 have e:=zx6 ns nh sub (At 1) x;have e1:DV hs h (1*AFS) A3b:=AhG
 rw[<- e1,e];exact J7 fun s _=>by
  have e2:AlW 1 (aA s (Re AW7)):=AhG
  rw[e2,zr6]
theorem T5(r:Rat):0<=r*r:=by
 show NR (Rat.le_total (a:=0) (b:=r))
 ·exact Rat.mul_nonneg h h
 ·have h' :0<= -r:=F7
  have:=Rat.mul_nonneg h' h'
  grind
theorem z14{r:Rat}(h:r*r=0):r=0:=by
 rcases Rat.mul_eq_zero.mp h with h | h<;>exact h
theorem z60{S:LH}{hs:AI}(ns:WN s.Nodup)(nh:hs.Nodup)(sub:AfW){x:CC}(z:AKh (AFS=0)):WN (∀h∈s,x h=Ų):=by
 have e:=zx6 ns nh sub x x;rw[J7 fun h hh=>(kl (z h hh))] at e
 have e2:∀s,AlW (x h) (aA s (DZ (cK* cK))):=by
  intro s;have a1:=zr6 s x;have a2:AlW cK (aA s (DZ (x h* cK - Ų* cK))):=AhG
  rw[a2,Ip,Bs,a1];grind
 have e3:DV S s (aA s (DZ (cK* cK))) 0:=AE e (LA s (e2 s).symm)
 intro s hs h hh;have h1:=O1 (K2 s (OJ fun h _=>T5 _)) e3 s hs;have h2:=O1 (K2 h (T5 _)) h1 h hh;have:=z14 h2
 grind
def jx(S:LH)(h:α):Rat:=AEj 1
theorem zo9(S:LH)(h:α):0<=é:=OJ fun s _=>BDX
theorem yc0{S:LH}{h:α}(i:∃s∈S,f'):0<é:=by
 obtain⟨s,hs,hh⟩:=i;refine Rat.lt_of_le_of_ne (zo9 S h) WJ;have:=O1 (l:=S) (f:=fun s=>(IC f' (Α 1))) (K2 s BDX) z.symm s hs
 show Ap (AZ hh);exact AS8 this
theorem z5t{S:LH}{h0:α}{hs:AI}(ns:WN s.Nodup)(nh:(ABr).Nodup)(sub:WN (Pw s zn))(on:AKi (∃s∈S,f'))
  (min:∀C:Db α,(∀s∈S,Ajs s s) ->(AIX zn) ->ABX zn)
  {x:CC} (z:AKh (AFS=0)) (w:A1a 0):AKi (x h=0):=by
 have z' :AKi (AFS=0):=by
  have e:=ycn ns nh sub x;have e' :pW S x h0+A3b=0:=e;rw[J7 z] at e';intro h hh;show wq hh
  ·rw[q];grind
  ·exact z h q
 have ev:=z60 ns nh sub z';have same:AKi (x h=x h0):=min (Re (x h=x h0)) (fun s hS hx b hb=>by
  obtain⟨a,ha,ea⟩:=hx;show x b=x h0;have ea' :x a=x h0:=ea;rw[ev s hS b hb,<- ev s hS a ha,ea']) (F9 h0 zV)
 have e1:A1a (x h0*A5a):=A7 Bs (lu fun h hh=>(kl (same h hh)))
 rw[e1] at w;have pos:A5a≠0:=fun zz=>by
  have:=O1 (K2 h (zo9 S h)) zz h0 zV;have p:=yc0 (on h0 zV);rw[this] at p;exact AS8 p
 show Ag1 w
 ·intro h hh;rw[same h hh,q]
 ·show Lm q pos
def fP(S:LH)(h o:α):Rat:=(AC (h=o) é 0) - AHD AFX AUZ
theorem z4m(Amz)(sub:WN AbN)(x:CC){h:α}(hh:kR):A4n AFS:=by
 have e1:A4n (aA hs (AG o (IC (o∈ [h]) (é*x o))) - aA hs fun o=>(AHD AFX ALY)):=by
  rw[<- Ip];show AEI o;unfold fP;have e2:(aA S fun s=>(IC AFX ALY))=x o*AHD AFX AUZ:=A7 Bs (LA s (by split<;>first | (simp only [Rat.div_def];grind) | grind))
  rw[e2];show OM h o
  ·subst q;rw[BU,BFV rfl];grind
  ·rw[Ω q,Ω Av8];grind
 rw[e1,O2 Μ nh fun y hy=>(ADs hy hh),T4]
 have e3:DV [h] o (é*x o) (AEj (x h)):=by
  show é*x h+0=_;unfold jx;have:(aA S fun s=>(IC f' (x h)))=x h*AEj 1:=A7 Bs (LA s (by split<;>grind))
  rw[this];grind
 rw[e3,<- Ip];refine lu (AM s hS);show EZ f'
 ·rw[E6,E6]
  congr 1
  have e4:DV hs o (IC AFX ALY) (aA hs fun o=>(IC (o∈s) ALY)):=LA o (A0 q)
  rw[e4,AyP];unfold cY;have e5:DV s o ALY (BDk⁻¹*aA s x):=A7 Bs (LA o (kl Rat.div_def))
  rw[e5,Rat.div_def];grind
 ·rw[JI,JI,J7 fun o _=>(A0 q)];grind
variable{σ:Type}
def lQ(k:AW2)(y:AYA)(S:ARd)(h:α):Rat:=Aux
theorem z6m{k:AW2}{S:ARd}{hs:AI}(ns:WN (js k s))(nh:hs.Nodup)(sub:WN (Pw (k s) hs))(y:AYA):aA hs (lQ k y S)=0:=by
 show DV hs h Aux 0;rw[T4];refine J7 (AM s hS);rw[O2 (f:=DZ BDI) (ns s hS) nh (sub s hS)];exact zr6 _ _
theorem z5z(s:AI)(x y:CC):cY s (AG o (x o - y o))=Ų - cY s y:=by
 unfold cY;rw[Ip,Rat.div_def,Rat.div_def,Rat.div_def];grind
theorem z9b{k:AW2}(y:AYA)(x:CC)(S:ARd)(h:α):ANK ANA=ANK y - A7a:=by
 unfold lQ pW;rw[Hh,<- Ip];exact LA s (by
  rw[z5z];split<;>grind)
theorem z66{k:AW2}{S:ARd}{h0:α}{hs:AI}(ns:WN (js k s))(nh:(ABr).Nodup)(sub:WN (Pw (k s) zn))(y:AYA)(x:CC)
  (e:AKh (A7a=ANK y)):AKi (ANK ANA=0):=by
 have e' :AKh (ANK ANA=0):=fun h hh=>by rw[z9b,e h hh];grind
 have q:=z6m ns nh sub fun s o=>y s o - x o;have q' :lQ k ANA S h0+aA hs (lQ k ANA S)=0:=q;rw[J7 e'] at q';intro h hh;show VI hh r r
 ·rw[r];grind
 ·exact e' h r
theorem ztx{β:Type}[AG7 β](f:HU):∀(l:IO),eG l.length (JA (AHw f l.getD))=JO:=by
 intro l;have key:∀(m:IO) n,n<=m.length ->eG n (JA (AHw f m.getD))=aA (m.take n) f:=by
  intro m n;induction n with
  | zero=>intro _;rfl
  | succ n ih=>
   intro h;have e:m.take (n+1)=m.take n++ [m[n]]:=f_ List.take_succ si
   show eG n (JA (AHw f m.getD))+f (m.getD n default)=_;rw[ih ξ,e,znf]
   have:m.getD n default=m[n]:=Ae' si
   rw[this];show _+f m[n]=_+ (f m[n]+0)
   grind
 have:=key l l.length (zL _)
 rwa [List.take_length] at this
#where
def ZB(B:Nat)(x:Rat):Prop:=∃z:Int,x=AJu/\AgO
theorem ZB.sub(A8e):ZB (A+B) (x - y):=by
 show ON a ha h1;show ON b hb h2;exact⟨a - b,BD',τ⟩
theorem ZB.mul(A8e):ZB (A*B) (x*y):=by
 show ON a ha h1;show ON b hb h2;exact⟨a*b,BD_,AE Int.natAbs_mul (Nat.mul_le_mul ha hb)⟩
theorem ZB.mono{A B:Nat}{x:Rat}(h:ZB A x)(l:A<=B):ZB B x:=by
 show D' a rfl ha;exact Ix a (zM ha l)
theorem ZB.zero(B:Nat):ZB B 0:=Ix 0 G1
theorem yav{B:Nat}{g:eP}:A3g (ZB B (g c ds)) (ZB (cs.length*B) (cW g cs))
 | [],_=>F_ cW (ZB.zero _)
 | eA,h=>by
  have h1:=(h c cs rfl).sub (yav (cs:=cs) (g:=fun d ds=>g d cy) A1f)
  refine ZB.mono h1 ?_;show Ahu;omega
theorem Yl{M N:Nat}:∀{rs:CF} {cs:AL},(∀r∈rs,Ao1) ->cs.length<=N ->ZB (Agz) (dt rs cs)
 | [],[],_,_=>⟨1,AJx dt,An⟩
 | [],A8,_,_=>F_ dt (ZB.zero _)
 | UU,cs,h,l=>by
  have h1:ZB (cs.length* (M* Agz)) (cW (UB ds AVQ) cs):=yav fun c ds e=>A8o (Yl (fun s hs=>AvE) ξ)
  refine ZB.mono h1 ?_;rw[List.length_cons,Nat.pow_succ,Nat.mul_comm (Agz),Nat.mul_assoc];exact AdR l
theorem ziw{g:eP}:A3g (g c ds=0) (cW g cs=0)
 | [],_=>rfl
 | eA,h=>AUA cW (h c cs rfl) (ziw (cs:=cs) A1f)
theorem z9v:Ao2 (rs.length≠cs.length) (dt rs cs=0)
 | [],[],h=>Akd
 | [],A8,_=>rfl
 | UU,cs,h=>ziw fun c ds e=>by
   show AVQ=0;rw[z9v (by simp at h;omega)];grind
theorem T6:∀p,BE cols p=p
 | 0=>rfl
 | p+1=>dr cols List.length_cons (T6 p)
theorem BT.len(A3v):rs.length=p:=by
 have z:=h.dz;show AFM (Nat.decEq rs.length (BE cols p))
 ·exact dS z9v q z
 ·rw[q,T6]
theorem ye8(A4s)(z:AWj)(j:Nat):Iq cs*f j=AjA:=by
 obtain⟨ks,_,e⟩:=hg;show AoE;have h2:dt (f::rs) iP=AjA:=by
  show AZq (j::cs) a;show jp
  congr 2
  funext i
  rw[hf,e]
 rw[Rat.mul_comm,<- h1,h2]
theorem yir(AJH){pre post:AL}{c:Nat}{f:Row}(h:kq)(one:f c=1)(z:At3)(d:Iq ABf≠0)(j:Nat):AgJ=Iq AfB:=by
 have hl:=z3k rs _ pre post rfl;have key:=zr5 (cs:=pre++oa) (hl.add ((h.mul (dt rs ABf)).mul F6)) AWP d j
 ·grind
 ·by_cases hc:x=c
  ·subst hc;rw[one];grind
  ·have hx' :x∈Abz:=by
    show AJF
    ·exact zN _ q
    ·show wq q
     ·show Lm q hc
     ·exact zO _ q
   rw[z x hx'];have:dt rs (pre++ASm)=0:=by
    show N3 hx' q q
    ·show AU p1 p2 rfl List.append_of_mem q;have:=TY rs (pre:=p1) (post:=p2++ASm) (c:=x) Μ
     rw[List.append_assoc];exact this
    ·exact TY rs q
   rw[this];grind
theorem zuw{z w:Int}{B:Nat}(e:Α z=Α w)(h:w.natAbs<=B):AgO:=Lv Mt e h
theorem BT.small(A'y)(hA:AoN A M)(hp:p+1<=N)(h1:1<=N*M){i:Nat}(hi:CH)(j:Nat):(tb i j).natAbs<=(N*M)^ (p+1):=by
 have wr:APQ Ao1:=fun r hr j=>by
  obtain⟨k,hk,rfl⟩:=h.w r hr;exact A0N
 have hl:=h.len;have pw:(N*M)^p<=(N*M)^ (p+1):=Nat.pow_le_pow_right h1 ξ
 have ht:=h.t i hi j;rw[h.de] at ht;show EZ (i<p)
 ·have u:=h.up i q;show b0 pre post (List.append_of_mem (j4.mpr q));have nd:=zkj p;have dz:=h.dz;have ll:=T6 p;rw[e] at nd dz ht ll;have key:=AO9 yir pre pre (post:=post) (c:=i) (f:=fs i) u.l u.o AWP dz j
  ·rw[key] at ht;show AmX (A7K (pre++j::post) (by simp at ll⊢;omega))
   rw[hl] at hz;rw[ez] at ht;exact zM (zuw ht hz) pw
  ·refine u.z x ?_ WJ
   ·show A7N
   ·subst z;rw[List.nodup_append] at nd;show AJF
    ·exact nd.2.2 x q x zV rfl
    ·exact AG' nd.2.1 q
 ·obtain⟨hx,lo⟩:=h.lo i ξ hi
  obtain⟨g,lg,hf⟩:=lo.g;rw[ye8 hf lg lo.z j] at ht;show AmX (Yl (rs:=jl A (ix i)::rs) (cs:=j::ABc) (M:=M) (N:=N) (fun r hr=>by
   show wq hr
   ·subst q;exact C3 (Ix (A (ix i) j) (hA _ hx j))
   ·exact wr r q) (by show Aa8 T6;omega))
  rw[List.length_cons,hl] at hz;rw[ez] at ht;exact zuw ht hz
theorem BT.lead(A'y)(hA:AoN A M)(hp:p<=N):d.natAbs<=(N*M)^p:=by
 have wr:APQ Ao1:=fun r hr j=>by
  obtain⟨k,hk,rfl⟩:=h.w r hr;exact A0N
 show AmX (QU (A7K ABc) T6 hp)
 rw[h.len] at hz;exact zuw (h.de.trans ez) hz
section
variable{α β:Type}[ADo][ATB]
def dD(Al2):IA:=Af4 (ω (Ν=w))
def qC(rows:IA)(h:β):IA:=Af4 AXZ
def ofM(rows:IA)(m:IO):IA:=Af4 ARr
def Uq(rows:IA):Prop:=rows.Pairwise fun a b=>A7z
def kW(Al2):IO:=q_ fun r=>Τ
def yW(rows:IA)(w:α)(h:β):Rat:=ò (GS rows.find? r (ω Ao4)) (some r) TN 0
theorem bx(Q2){w:α}{r:XT}:Akg aw Â:=dr dD List.mem_filter decide_eq_true_iff
theorem iU(Q2){h:β}{r:XT}:Akg AXP (Τ=h):=dr qC List.mem_filter decide_eq_true_iff
theorem lE(Q2){m:IO}{r:XT}:Akg AMn am:=dr ofM List.mem_filter decide_eq_true_iff
theorem Uq.M(Q2)(u:EW)(m:IO):Uq (ofM rows m):=u.filter _
theorem Ym{γ δ:Type}{f:γ ->δ}{R:BG γ γ}:∀{l:List γ},l.Pairwise R ->(AAT (MV l (R a b ->f a≠f b))) ->(l.map f).Nodup
 | [],_,_=>List.nodup_nil
 | D4,h,k=>by
  show AeF;rw[List.map_cons,List.nodup_cons];show B6 WJ (Ym h.2 fun a ha b hb=>k a (zU _ ha) b (zU _ hb));show b0 b hb (zB.mp z);exact k a zV b (zU _ hb) (h.1 b hb) e.symm
theorem zrw(Q2)(u:EW)(w:α):AN9 Nodup:=by
 refine Ym (u.filter _) (Am2 (n ⟨?_,e⟩));rw[AOe ha,AOe hb]
theorem z7u(Q2)(u:EW)(h:β):js BCo (IG Ν):=by
 refine Ym (u.filter _) (Am2 (n (EJ e)));rw[(iU.mp ha).2,(iU.mp hb).2]
theorem jB(Q2){w:α}{h:β}:zI↔WH Ao4:=by
 unfold kW;rw[List.mem_map];exact⟨AFr r ⟨r,(bx.mp h1).1,AOe h1,h2⟩,A5G AjH h3⟩
theorem ya9:FG rows IA EW (∀{a b:XT},Ο (a∈rows) (b∈rows) (a.1=b.1) (a.2.1=b.2.1) (a=b))
 | r::rows,u,a,b,ha,hb,e1,e2=>by
  unfold Uq at u;show AdB u;show wq ha
  ·show VI hb q' q'
   ·rw[q,q']
   ·subst q;exact absurd ⟨e1,e2⟩ (u.1 b q')
  ·show VI hb q' q'
   ·subst q';exact absurd ⟨e1.symm,e2.symm⟩ (u.1 a q)
   ·exact ya9 u.2 q q' e1 e2
theorem Yn(A2b){r:XT}(hr:r∈rows):yW rows Ν Τ=TN:=by
 unfold yW;cases e:GS rows.find? s (ω A6P) with
 | none=>
  have:=List.find?_eq_none.mp e r hr;simp at this
 | some s=>
  have h1:=List.mem_of_find?_eq_some e;have h2:A6P:=qr (List.find?_some e) this
  rw[ya9 u h1 hr h2.1 h2.2]
theorem yax(Q2){w:α}(f:HU):aA AQK f=aA OG (IG ABy):=Hh
theorem O3(Al2):AIJ=WS:=by unfold kW;show EU
theorem z98(Q2){ws:AI}(u:EW)(nw:ws.Nodup)(cw:DS APk)(h:β)(F:CC):A8p (aA (qC rows h) (IG (F Ν))):=by
 have e:A8p (aA ws (DF (IC AzB (F w)))):=by
  show AEI w;have:zI↔AzB:=QY jB List.mem_map ⟨A5G (iU.mpr ⟨h1,h3⟩) h2,AFr r (sT r AqP (iU.mp h1).2)⟩
  show EZ zI
  ·rw[E6,bP this.mp q]
  ·rw[Ω q,Ω (ABw q this.mpr)]
 rw[e,O2 (z7u u h) nw (AVe (by
  show AU r h1 h2 zB.mp hw;rw[<- h2];exact cw r AqP)),Hh]
def xP(rows:IA)(x:HU)(h:β):Prop:=
 DV (qC rows h) r A5L 0
def Mw(rows:IA)(x:HU)(m:IO):Prop:=Aax i3
theorem T7(A2b)(x:HU)(w:α):cY AQK (AG o AvJ)=AjZ:=by
 unfold cY;rw[O3,yax]
 congr 1
 show ő;have:=Yn u lP;show Ap ALv;rw[this]
theorem z7n(A1d)(cw:DS APk)(x:HU)(h:β)(e:lQ (kW rows) (fun w o=>AvJ) ws h=0):ACQ:=by
 show LL lQ;rw[A6N] at e;unfold xP;rw[<- e];show ő;show AXX;have y:=Yn u hr'.1;rw[hr'.2] at y;rw[T7 u,hr'.2];show _=yW rows Ν h - x h - _;rw[y]
theorem z86(A1d)(cw:AeS)(h:β):jx Me h=Α (AHl qC h):=by
 unfold jx;rw[Hh,A6N,J8];grind
theorem z4h(Q2)(AwI)(sub:DS am)(f:HU):A8y (ALC ABy):=by
 have e:A8y (aA m (DZ (ALC A1p))):=by
  show AEI h;rw[<- J8 (l:=AXP)];unfold qC;rw[Fg];refine lu (AM r _);show AWT
  ·rw[AK6 q,E6,q]
  ·rw[Ω (FX q),JI]
 rw[e,T4];show ő;have e2:DV m h A1p (aA m (DZ (IC (h∈ [Τ]) ABy))):=LA h (by
  show AWT
  ·rw[E6,BFV q.symm]
  ·rw[Ω q,Ω Av8])
 rw[e2,O2 (f:=C4 ABy) Μ nm fun y hy=>(ADs hy (sub r hr))]
 show ABy+0=_
 grind
structure uc (rows:IA) (ws:AI) (m:IO):Prop where
 u:EW
 nw:ws.Nodup
 cw:AeS
 nm:m.Nodup
 sub:DS am
 on:Afw
 min:∀C:Db β,(∀w∈ws,Ajs mv mv) ->(AIX m) ->ABX m
theorem uc.sub'(A1e):A0S (Pw s m):=fun s hs x hx=>by
 show ACk w (zB.mp hs);obtain⟨r,h1,_,h3⟩:=jB.mp hx;rw[<- h3];exact L.sub r h1
theorem uc.ns(A1e):A0S s.Nodup:=fun s hs=>by
 show ACk w (zB.mp hs);exact zrw L.u w
def nM (APK)(rows:IA)(ws:AI)(m:IO)(i j:Nat):Rat:=
 if j<m.length then(AC (i=0) (ARI AXk) (fP Me AQ8 AXk))
 else cq 0 0 (Aay AQ8)
theorem Yo{γ:Type}[AG7 γ]{m:List γ}{i:Nat}(h:i<m.length):m.getD i default∈m:=QY List.getD_eq_getElem?_getD si (yU h)
theorem zxa (APK)(AOp){m:IO}(x:HU):AiN (Acn 0) (aA m (DZ (ARI h*x h))):=by
 rw[<- ztx];refine J6 (AM j hj);unfold nM;rw[AZ hj,BU]
theorem z50 (Amp)(x:HU){i:Nat}(hi:i<m.length)(h0:i≠0):AiN (Acn i) (pW Me x AQ8):=by
 rw[<- z4m L.ns L.nm L.sub' x (Yo hi),<- ztx];refine J6 (AM j hj);unfold nM;rw[AZ hj,Ω h0]
theorem zxg (APK){m:IO}{h0:β}{hs:IO}(e:m=zn){h:β}(hh:kR):∃i,i<m.length/\i≠0/\m.getD i default=h:=by
 show AU i hi q List.getElem_of_mem hh;subst e;show Fh BQ Adv τ
 show Abf List.getElem?_cons_succ W_ q;rfl
theorem uc.null (Amp)(x:HU)(z:İ m.length (eG m.length BEu=0)):br (x h=0):=by
 cases em:m with
 | nil=>intro h hh;cases hh
 | cons h0 hs=>
  have nm:=L.nm;have sub:=L.sub';have on:=L.on;have mn:=L.min;rw[em] at nm sub on mn;refine z5t L.ns nm sub (HQ h hh) (fun C hC=>mn C (AVe (hC _ (zB.mpr (F9 w hw))))) (HQ h hh) ?_
  ·show CM r h1 h2 on h hh;exact⟨kW rows Ν,zB.mpr (F9 Ν (L.cw r h1)),jB.mpr (IB r h1 h2)⟩
  ·obtain⟨i,hi,i0,e⟩:=zxg em hh;rw[<- e,<- A7h];exact z i hi
  ·rw[<- em,<- zxa];exact z 0 (by rw[em];simp)
theorem uc.ans (Amp)(x:HU)(z:İ m.length (AqE i=eG m.length BEu)):AsH/\AV7:=by
 have e0:m≠ [] ->AV7:=fun ne=>by
  have q:=z 0 (List.length_pos_iff.mpr ne);rw[zxa] at q;unfold nM at q;rw[AXi,BU] at q;rw[<- z4h L.nm L.sub,q];exact LA h (MG (z86 L.u L.nw L.cw))
 cases em:m with
 | nil=>
  show CI (AV' (by cases hh))
  cases er:rows with
  | nil=>rfl
  | cons r rs=>
   show Agv (L.sub r (B4 er zV)) em
 | cons h0 hs=>
  show B6 (AV' (z7n L.u L.nw L.cw x h (z66 (S:=ws) (k:=kW rows) (h0:=h0) (hs:=hs) (K2 w (zrw L.u w)) (em ▸ L.nm) (fun w hw y hy=>(A7 em (L.sub' _ (zB.mpr (F9 w hw)) y hy))) (yW rows) x (HQ g hg) h hh))) (e0 (AKa em))
  obtain⟨i,hi,i0,e⟩:=zxg em hg;have q:=z i hi;rw[A7h] at q;unfold nM at q;rw[AXi,Ω i0,e] at q;exact q.symm
#where
section
variable{α γ:Type}[ANn γ]
theorem zzy{f:CC}{p:vF}:Õ (aA l f=aA (l.filter p) f+aA (l.filter fun a=> ! p a) f):=by
 intro l;rw[Fg,Fg,<- Mv];show AEI a;cases p a
 ·simp [Rat.zero_add]
 ·simp [Rat.add_zero]
theorem z4f(key:α ->γ)(g:CC)(φ:γ ->Rat):∀(n:Nat) (l:AI),l.length<=n ->(∀c,aA (l.filter fun a=>(ω (key a=c))) g=0) ->DV l a (φ (key a)*g a) 0:=by
 intro n;induction n with
 | zero=>
  intro l hl _;obtain rfl:l= []:=List.eq_nil_of_length_eq_zero ξ
  rfl
 | succ n ih=>
  intro l hl h;cases l with
  | nil=>rfl
  | cons a r=>
   rw[zzy (p:=WP ê)];have e1:A'K 0:=by
    have:A'K (aA (ACe (WP ê)) (pT (φ (key a)*g b))):=
     lu fun b hb=>by rw[of_decide_eq_true (List.mem_filter.mp hb).2]
    rw[this,Bs,h,Rat.mul_zero]
   rw[e1,ih]
   ·show PF
   ·have:BE ACe (WP (! ê))<=r.length:=Lv List.filter_cons_of_neg Μ Adn
    simp only [List.length_cons] at hl;omega
   ·intro c;rw[List.filter_filter];by_cases e:c=key a
    ·subst e;rw[Mo (GS ACe b (ê&& ! ê)) [] (At9 b)]
     rfl
    ·rw[show GS ACe b (ω (key b=c)&& ! ê)=ACe (pT (ω (key b=c))) from BEf b (by
      show EZ (key b=c)
      ·simp [q,e]
      ·simp [q])]
     exact h c
theorem ycj{l:AI}{f d:CC}(o:DV l a (d a*f a) 0):AwK (Aef (f a*f a)+AIk (d a*d a)):=by
 have:AwK (Aef (f a*f a+d a*d a+2* (d a*f a))):=LA a F7
 rw[this,Mv,Mv,Bs,o,Rat.mul_zero,Rat.add_zero]
#where
section
variable{α β:Type}[ADo][ATB]
def fH(rows:IA)(x:HU)(r:XT):Rat:=A5L
theorem zt2(rows:IA)(x:HU)(w:α):aA OG AQ_=0:=by
 have e:aA OG AQ_=aA OG AO5 - aA OG (C4 AjZ):=by
  rw[<- Ip];show ő;unfold fH;rw[ALv]
 rw[e,J8];by_cases z:dD rows w= []
 ·rw[z];show UK - Α (De 0)* (0/ Α (De 0))=0
  show PF
 ·have n0:Α WS≠0:=fun q=>(BDb z (BDZ q))
  rw[Rat.div_def,Rat.mul_comm (Α WS),Rat.mul_assoc,ÿ n0,Rat.mul_one,Rat.sub_self]
theorem zus(A6g)(p:CC)(q:HU):AiT NX 0:=by
 have e:AiT NX (ACO (p Ν*NX)+ALC (q Τ*NX)):=A7 Mv (LA r F7)
 rw[e,A7t Ν p Adz (AG w (zt2 rows x w)),
  A7t Τ q C1 AKW]
 ·show PF
 ·by_cases z:APa h
  ·obtain⟨r,hr,rfl⟩:=z;exact ev r hr
  ·rw[Mo (BGj AXZ) [] (AAv List.filter_eq_nil_iff.mpr (by
    simp only [decide_eq_true_eq];exact QQ (z ⟨r,hr,e⟩)))]
   rfl
theorem z1n(A6g)(p:CC)(q:HU){g:XT ->Rat}(hg:DS (g r=NX+ Ø)):
  ACO (NX*NX)<=Avl/\ (DV rows r (NX*NX) Avl ->DS (g r=NX)):=by
 have e:DV rows r (g r*g r) (ACO (NX*NX)+ALC (Ø* Ø)):=A7 (ycj (zus ev p q)) (ALb (MG (hg r hr)))
 have n:0<=ALC (Ø* Ø):=OJ fun r _=>T5 _;show B6 F7 (ψ z r hr)
 have z2:AiT Ø 0:=F7
 have:=z14 (O1 (K2 r (T5 _)) z2 r hr);rw[hg r hr,this,Rat.add_zero]
#where
section
variable{α β:Type}[ADo][ATB]
#where
section
variable{α:Type}
abbrev Ab(a x:Rat):Prop:= -a<=x/\x<=a
theorem yic{a x:Rat}(h:x*x<=a*a)(h0:0<=a):Ab a x:=by
 constructor
 ·show A'L (-x) (-x) (-x) (-x) (-x - a)
 ·show A'L x x x x (x - a)
theorem yft{a x:Rat}(h:Ab a x):x*x<=a*a:=by
 have:0<=(a - x)* (a+x):=Rat.mul_nonneg (ASr h.2) (ASr h.1)
 grind
theorem zw8{f:CC}:ş (0<=f a) (∀a∈l,f a<=JO)
 | b::l,n,a,ha=>by
  unfold aA;have h0:=n b zV;have h1:=OJ (l:=l) (AEv AnX);show N2 ha q
  ·grind
  ·have:=zw8 (UB hc AnX) a q
   grind
theorem Yp{f:CC}{k:Rat}:ş (f a<=k) (JO<=AKe k)
 | [],_=>by show UK<=Α (De 0)*k;grind
 | b::l,n=>by
  unfold aA;have h0:=n b zV;have h1:=Yp (l:=l) (AEv AnX);rw[List.length_cons];have:OL AdQ=ARo+1:=RY rfl
  rw[this]
  grind
theorem z5w{f:CC}{k:Rat}{l:AI}(h:A3V):Ab (ARo*k) (aA l f):=by
 show Đ (Yp fun a ha=>(ACV h));have:=Yp (f:=fun a=> -1*f a) (k:=k) (l:=l) fun a ha=>(ASr (h a ha).1)
 show Ap Bs
 grind
theorem yee{f:CC}{k:Rat}{l:AI}(h:A3V)(k0:0<=k):Ab k Ak4:=by
 have s:=z5w h;by_cases z:l.length=0
 ·rw[z,Rat.div_def];show Ab k (_* (UK)⁻¹);rw[Rat.inv_zero,Rat.mul_zero];constructor<;>grind
 ·have n0:UK< ARo:=RY (Nat.pos_of_ne_zero z)
  have e:AKe Ak4=JO:=by
   rw[Rat.div_def,Rat.mul_comm (aA l f),<- Rat.mul_assoc,ARi NF,Rat.one_mul]
  generalize Ak4=q at e⊢;rw[<- e] at s;constructor
  ·show AJI;have:0< AKe (-k - q):=Rat.mul_pos n0 NF
   have:=s.1
   grind
  ·show AJI;have:0< AKe (q - k):=Rat.mul_pos n0 NF
   have:=s.2
   grind
#where
section
variable{α β:Type}[ADo][ATB]
theorem zp0(A9L)(hM:DS Aco)(n:yA 49):DS (Ab (7*M) (fH rows x r)):=NM (by
 have h1:=(z1n ev (AG w AjZ) x (g:=IG TN) fun r _=>(zS fH)).1
 have h2:=zw8 (f:=IG (NX*NX)) (l:=rows) (K2 r (T5 _)) r hr;have h3:=Yp (f:=fun r:XT=>Α E9* TN) (k:=M*M) (NM (yft (hM r hr)));have h4:Α rows.length* (M*M)<=49* (M*M):=by
  have:OL rows.length<=OL 49:=RY n
  have h5:=Rat.mul_nonneg (show UK<=49 - BDl by have:BDl<=49:=this;grind) (Rat.mul_nonneg M0 M0)
  grind
 refine yic ?_ NF
 try dsimp only at h1 h2 h3
 grind)
theorem z1j(A9L)(A4Z){r s:XT}(hr:r∈rows)(hs:s∈rows)(e:Ν=s.1):Ab (16*M) (N1 - x N_):=by
 have h1:=zp0 ev M0 hM n r hr;have h2:=zp0 ev M0 hM n s hs;have h3:=hM r hr;have h4:=hM s hs;unfold fH at h1 h2;rw[e] at h1;constructor<;>grind
theorem zvl{rows:IA}{x:HU}{B:Rat}{m:IO}(nm:m.Nodup)(near:DS AxC)(B0:0<=B)
  (min:A_w) (on:Afw) (cl:DS Avq) (AyQ):
  ∀j:Nat,(∀h∈m,AV4)\/j< BE m.filter (DZ (Aow AA_)):=by
 intro j;induction j with
 | zero=>
  show RA (List.length_pos_iff.mpr WJ);have:h0∈m.filter fun h=>(Aow (OL 0)):=zA.mpr ⟨hh,decide_eq_true ⟨F7,F7⟩⟩
  show Ap z;show DT
 | succ j ih=>
  show ASs c1 AfN (AA_+1) rfl
  have up:∀h,AV4 ->Ab (AfN*B) AOT:=fun h hh=>by
   rw[c1];have:=hh.1;have:=hh.2;constructor<;>grind
  rcases ih with ih | ih
  ·show B3 (fun h hm=>up h (ih h hm))
  ·by_cases all:br AV4
   ·show B3 (fun h hm=>up h (all h hm))
   ·have:WH (∃s∈rows,Ν=s.1/\am/\Ab (AA_*B) (N1 - x h0)/\¬Ab (AA_*B) (x N_ - x h0)):=by
     refine Classical.byContradiction fun none=>all ?_;have k:=min (Re (h∈m/\AV4)) (fun r hr s hs e c=>⟨cl r hr c.1 s hs e,Classical.byContradiction (Ξ (none ⟨r,hr,s,hs,e,c.1,c.2,z⟩))⟩) ⟨h0,hh,hh,by
      have:0<=Α j*B:=Rat.mul_nonneg (BDZ (Nat.zero_le j)) B0
      constructor<;>grind⟩
     exact fun h hm=>(k h hm).2
    obtain⟨r,hr,s,hs,e,rm,ra,sa⟩:=this;have sm:=cl r hr rm s hs e;have nr:=near r hr s hs e;have s1:Ab (AfN*B) (x N_ - x h0):=by
     rw[c1];have:=nr.1;have:=nr.2;have:=ra.1;have:=ra.2;constructor<;>grind
    refine .inr (zK (Nat.succ_lt_succ ih) (Dl (l:=N_::m.filter fun h=>(Aow AA_)) ?_ (AM h hm)))
    ·exact List.nodup_cons.mpr ⟨Ξ (sa (of_decide_eq_true (zA.mp z).2)),nm.filter _⟩
    ·show N2 hm q
     ·exact zA.mpr ⟨sm,decide_eq_true s1⟩
     ·show Cn q1 q2 zA.mp q;exact zA.mpr ⟨q1,decide_eq_true (up h (of_decide_eq_true q2))⟩
theorem zzx(Q2){x:HU}{B:Rat}(AwI)(near:DS AxC)(B0:0<=B)
  (min:A_w) (on:Afw) (cl:DS Avq) (em:AXc) (AyQ):Ab (ARp*B) (x h0):=by
 have d:br (Ab (ARp*B) AOT):=by
  show NR (zvl nm near B0 min on cl hh m.length)
  ·exact h
  ·exact TC AD_ Nat.not_le.mpr h
 unfold Mw at em;show CM r hr e on h0 hh;have pos:0< AHl ofM m:=List.length_pos_iff.mpr fun q=>by
  have:=lE.mpr ⟨hr,e ▸ hh⟩;show Ap q;show DT
 have s:=z5w (f:=fun r:XT=>N1 - x h0) (l:=AMn) (NM (d _ Ake));rw[Ip,em,J8] at s;have n0:UK< Axb:=RY pos
 generalize Α m.length*B=C at s d⊢;generalize Axb=n at s n0;constructor
 ·show AJI;have:0<n* (-C - x h0):=Rat.mul_pos n0 NF
  have:=s.2
  grind
 ·show AJI;have:0<n* (x h0 - C):=Rat.mul_pos n0 NF
  have:=s.1
  grind
#where
#print HM
namespace L3
open PySem L2 HM
def O4(A1):cP:=DD (∃i j,AuH)
def Hi(GE):cP:=kM (∃i j:Int,ds= ABo/\AfT/\bo<=9000/\GL j 0 Ago (RI (Α i/ Α j)))
def Mz(GE):cP:=AZn (RI (a+b))
def Ir(GE):cP:=AZn (RI (a - b))
def T8(GE):cP:=AZn (RI (a*b))
def O5(GE):cP:=kM (∃a b:Rat,ds= [qD a,qD b]/\KM a/\KM b/\GL b 0 Ago (RI (a/b)))
def Fi(GE):cP:=AZn (GY (AAp (a<b)))
def mz(ns:Φ)(k:Nat):Int:=ARa Aey ns[k] (let m:Int:=GL ns [] (Cc*7919+5) ((ns.getD ((k*7) % ns.length) 0*48271+ Cc*7919).fmod 2147483647)
 (m*m).fmod 2147483629)
def CK(A1):cP:=MA ns Φ k Nat (ds= [r9,.int k]/\ABq/\k<1000/\HR (mz ns k))
def yfd(A1):cP:=MA x D f Rat (ds= [x,qD f]/\ (x= Ρ\/∃g,x=qD g)/\∀b:Bool,(A2 b↔x=qD f) ->GY b)
def Yq(A1):cP:=W6
def MF(GE):cP:=DD (∃qs:AW,ds= [sN]/\ sL/\ Akf/\RI (gZ qs))
def T9(GE):cP:=kM (∃qs:AW,ds= [sN]/\AKo/\ sL/\ Akf/\GL qs [] Ago Ax1)
def Ua(GE):cP:=Ajo AKo (OT (AH Fe qs qD))
abbrev Mx:=PZ
abbrev Mq:=AGb Rat
def Ub(k s:Nat)(a:Mx):Mx:=ET (a (rC k s i))
def gH(m:Nat)(f:dk):D:= .lst Ar'
def nU(n m:Nat)(a:Mx):D:= .lst Agd
def oF(m:Nat)(f:OU):D:= .lst (ń m Ah')
def Fj(n m:Nat)(a:Mq):D:= .lst (ABk (oF m (a i)))
def Yr(AEs):Prop:=dU q.num<=128/\ X0∣27720
def uQ(N:Nat)(d:Int)(q:Rat):Prop:=∃t:Int,q=AOv/ Α d/\dU t<=N
def Iu(n:Nat):Nat:=147* IE+1
def Uc(A1):cP:=MA m Nat f OU (ds= [oF m f]/\m<=13/\ (∀j,j<m ->Yr (f j))/\∀(μ:Int) (g:dk),0<μ ->(∀j,j<m ->AvZ (f j)) ->(∀j,Ai5<=143) ->P (gH m g))
def Ud(A1):cP:=DD (∃(m k:Nat) (f g:dk) (p:Int),ds= [gH m f,gH m g,To,.int p]/\k<m/\p≠0/\dU p<=9000/\ (∀j,dU (f j)<=9000)/\ (∀j,Ai5<=9000)/\P (gH m (C3 ((Azn).fdiv p))))
def CN(k:Nat)(p:Int)(a:Mx):Mx:=fun i j=>(GL i k (a k j) ((A_m).fdiv p))
def Ue(A1):cP:=DD (∃(a:Mx) (n m k:Nat) (p:Int),ds= AlO p/\k<n/\k<m/\p≠0/\dU p<=9000/\ (AL6 (AK8 a<=9000))/\P (nU n m (CN k p a)))
def zdt(A1):cP:=DD (∃(a:Mx) (n m k s:Nat),ds= AlO s/\k<n/\s<n/\Axf)
def Ug(GE):cP:=kM (∃(a:Mx) (n m k:Nat),ds= [AbV,.int k]/\n<=1000/\k<n/\k<m/\ (∀s,k<=s ->s<n ->a s k≠0 ->Axf)/\ ((∀s,k<=s ->s<n ->a s k=0) ->AIA c.ju))
def Sys(n:Nat)(A:Mq)(ds:Β):Prop:=ds= [Fj n n A,oF n (TU A n)]/\n<=12/\∀i j,CH ->j<=n ->Yr (A i j)
def Slv(n:Nat)(A:Mq)(x:OU):Prop:=∀r,r<n ->A r n=eG n (C3 (A r j*x j))
def Uh(GE):cP:=kM (∃(n:Nat) (A:Mq),Sys n A ds/\ (∀(y:OU) (k:Nat),k<n ->y k=1 ->(∀r,r<n ->(eG n (C3 (A r j*y j)))=0) ->AIA c.ju)/\∀x,Slv n A x ->(∃d:Int,ē/\dU d<=Iu n/\AEH (uQ (Iu n) d (x i))) ->P (oF n x))
def d7:Str:=ARP "mean"
def yi0:Str:=ARP "middle"
def Fl:Str:=ARP "pair"
def mids(l:AW):AW:=GL (l.length % 2) 1 [AVM] [Avh,AVM]
def Ui(A1):cP:=DD (∃r:Str,ds= [.str r]/\HR (AC (r=Fl) 2 1))
def Fo(n:Nat)(p:Pt):Prop:=Sz n AK/\Sz n p.2
def vG(ps:EK):Bool:=ω (1<ps.length)&&(List.zipWith Hg ps ps.tail).all id
def Uj(A1):cP:=DD (∃a b:Pt,ds= [pD a,pD b]/\Fo 4000 a/\Fo 4000 b/\GY (Hg a b))
def Uk(A1):cP:=DD (∃ps:EK,ds= [Akj]/\ Aqa/\GY (vG ps))
def Ul(A1):cP:=DD (∃(l r:Pt) (x:Rat),ds= [pD l,pD r,qD x]/\Fo 300 l/\Fo 300 r/\AkO/\l.1<Ν/\RI (v9 l r x))
def MJ(GE):cP:=kM (∃ps:EK,ds= [Akj]/\ Aqa/\if By vG ps then P (FA ALA) else AIA c.jq)
def jd(c:Cls)(ps:EK):D:= .obj c.Scale ["points"] [.tup ALA]
def Um(GE):cP:=MA ps EK x Rat (ds= [AJC,qD x]/\Ag6/\v6/\ AiU/\AkO/\RI (vC ps x))
def z67(A1):cP:=A'b 10 (∀ps:EK,ps.length=m ->v6 ->AiU ->OT ALA)
def intD(n:Nat):D:= .int E5
def rD(UV):AW:=(Fe qs).reverse
def Fp(f:AW)(k:Nat):Bool:=ω (k+1=f.length) || ω (f.getD Fc 0<AVJ)
def jh(f:AW):AL:=0::AH (AAj f.length filter) (Fp f) (· +1)
def Fall(f:AW):Prop:=∀i j,i<=j ->j<f.length ->f.getD j 0<=f.getD i 0
def ycg(A1):cP:=Ajo AKo (OT (AH jh AAQ intD))
def pq(l:Φ):D:= .lst Ae0
def Fq(b:Bd):D:= ci b.1 b.2
def rE(bs:GU):D:= MZ bs.map Fq
def iV(qs:AW)(m:Rat):Nat:=BE qs.filter (XX (!(ω (x<m))))
def gM(UV):Φ:=AH jh AAQ Int.ofNat
def Last(S:Φ)(n:Int):Prop:=tF S.map D.int F6 (B5 n)
def qF(AYc):Bool:=(gk ATK qs.length bs.reverse bs.length).contains 0
def Ft(AYc):Φ:=ASL fun k=>(Acq fk bs Fc)
def Uo(AYc):D:=Ac9 qF qs bs (pq (Ft qs bs)) ADK
def O6(A1):cP:=MA x Int b Bd (ds= [.int x,Fq b]/\GY (uW b x))
def Ur(A1):cP:=DD (∃(S l:Φ) (b:Bd),ds= [pq S,pq l,Fq b]/\P (pq (vD S l b)))
def MK(A1):cP:=MA S Φ bs GU (ds= AcD/\sB/\OT (AKH fun i=>pq (rk S bs i)))
def O7(A1):cP:=DD (∃ls:mr Int,ds= [MZ ls.map pq]/\OT (ls.map pq))
def Us(A1):cP:=MA m Rat qs AW (ds= [qD m,sN]/\KM m/\ sL/\HR (iV qs m))
def Ut(A1):cP:=Ajo Ahx (P (pq ATK))
def Uu(A1):cP:=A8h A4p
def Uv(A1):cP:=A8g AcD (P (pq (KE bs.length fun k=>ADx)))
def Uw(GE):cP:=kM (∃(qs:AW) (bs:GU),ds= [sN,rE bs]/\Ahx/\ sL/\sB/\ (Azp ->P (pq (Ft qs bs)))/\ (qF qs bs=false ->AIA c.fj))
def yer(A1):cP:=MA qs AW bs GU (ds= [sN,rE bs]/\Ahx/\ sL/\sB/\P (Uo qs bs))
def z54(A1):cP:=A8h (ń AaY AtG)
def z4u(A1):cP:=A8g [pq (ASL (dE ADx)),pq S,rE bs,.lst (ń AaY AtG)] Aeq
def yeq(A1):cP:=A8V (∀qs:AW,qs.length<=60 ->(∀q∈qs,Sz 400 q) ->OT (qs.map qD))
def z81(A1):cP:=A'b 60 (∀bs:GU,bs.length<=12 ->P (rE bs))
def bD:AJ1 ->D | none=> Ρ | some q=>qD q
def Fw(f:AW)(c:Nat):AJ1:=GL c 0 none (some (f.getD ASw 0))
def isIn(m:Rat):jn AJ1 | none=>false | some q=> !(ω (m<q))
def Ux(w m:Rat):jn AJ1 | none=>false | some q=>ω (m<q)&&A0G
def wj(bs:APe)(m:Rat):Nat:=bs.findIdx (isIn m)
def Uy(n:Nat)(b:AJ1):Prop:=∀q,ρ b q ->Sz n q
def Uz(A1):cP:=MA qs AW cs AL (ds= [sN,MZ cs.map intD]/\AKo/\ sL/\0<cs.length/\ (AWI ArN)/\OT (AH cs.dropLast.map Azl bD))
def UG(A1):cP:=A3M (ds= [AMM,qD m]/\ (AMt 4000)/\KM m/\HR (wj bs m))
def z0i(A1):cP:=DD (∃q w m:Rat,ds= Am' (qD q)/\Sz 1900 q/\KM w/\Ah9/\GY (ω (m<q)&&A0G))
def ye5(A1):cP:=A8G (ds= Am' AMM/\sB/\ (AMt 1900)/\KM w/\Ah9/\A6G)
def z69(A1):cP:=MA ns Φ es AL (ds= [r9,MZ es.map intD]/\ABq/\0<es.length/\∀cs:AL,cs.length<=10 ->BF' ->(AWI (c∈es)) ->OT ((cs++ [es.getD (es.length - 1) 0]).map intD))
def yab(A1):cP:=A3M (ds= [AMM,qD m]/\sB/\ (AMt 4000)/\KM m/\HR (wj bs m))
def ybw(A1):cP:=A8G (ds= Am' AMM/\ (AMt 1900)/\KM w/\Ah9/\A6G)
def ya0(A1):cP:=DD (∃(bs:APe) (m:Rat) (x:Int),ds= [AMM,qD m,.int x]/\sB/\ (AMt 150)/\Sz 150 m/\∀w,Sz 400 w ->RI w)
def UJ(f:AW)(c:Nat):Prop:=c<=f.length/\ (0<c ->c<f.length ->f.getD c 0<f.getD ASw 0)
def z9r(A1):cP:=MA f AW cs AL (ds= [MZ f.map qD,MZ (cs++ [f.length]).map intD,MZ (AH cs.map (Fw f)) bD]/\f.length<=1000/\cs.length<=1000/\ (∀q∈f,AN3)/\Fall f/\BF'/\ (AWI (UJ f c))/\Aeq)
abbrev Rw:=Str×Str×Int
def Ah(r:Rw):D:= .tup [.str Ν,Abi,AAa]
def bh(rs:BA):D:= MZ rs.map Ah
def uX(Al1):ο:=AH rows.filter (IG (ω (Ν=w))) fun r=>Τ
structure Fam (rows:BA) (Ss:HP):Prop where
 of:AVf (WH (Aly S))
 to:DS (∃S∈Ss,Aly S)
structure J9 (rows:BA) (ms:HP):Prop where
 sr:AW6 (AVU m.Pairwise)
 up:ms.Pairwise fun a b=>A0k
 pi:∃Ss,Fam rows Ss/\rB Ss ms
def wu(p:ο×Β):T:= .dic ((AK).map .inr) ((p.2).map ACg)
structure Ka (rows:BA) (ws:ο) (ps:AJJ):Prop where
 len:BGP
 nd:ws.Nodup
 lw:Aqf
 wm:∀w,AV3
 pt:A_o
 ex:Ay3
def MN(A1):wN:=DD (∃rows:BA,ds= [AKQ]/\BEo/\∀ws ps,AcZ ->P (.dic iN Aaf))
def O8(A1):cP:=DD (∃g hs:ο,ds= [gl g,gl hs]/\GY (dZ g hs))
def UL(A1):cP:=DD (∃(fs:HP) (hs U:ο),ds= [MZ fs.map gl,gl hs]/\hs.length+fs.flatten.length<4000/\fs.length<4000/\Aj2/\ (∀x∈hs,x∈U)/\ (AMm (Pw f U))/\
 ∀g:ο,g.Pairwise (Ź AG5) ->(∀x,x∈g↔x∈hs\/Aoh hs) ->OT ((AFw ze++ [g]).map gl))
def UW(A1):wN:=Aye (ds= [AKQ]/\BEo/\Aj2/\ AQW/\∀ms,AQ7 ->OT At8)
def Cds(N:Nat)(m:ο)(x:D1):Prop:=∃d:Int,ē/\dU d<=N/\br (uQ N d (x h))
def Hj(Al1):D:= .dic BEe (q_ AS')
def sX(Aw5):D:= .lst (ws.map (Hj rows))
structure LB (rows:BA):Prop where
 few:yA 200
 mm:DS (V_ E9<2^100)
 wk:∀w,WS<=12
def xQ(Aw5):Prop:=ws.length<=200/\∀w∈ws,Ħ
def Kc(A1):cP:=A'F (ds= [AQB,AQe]/\P (sX rows (ws.filter fun w=>Adc)))
def U0(A1):cP:=DD (∃(rows:BA) (ws:ο) (h o:Str),A8t (.str o) (RI (fP Me h o)))
def U3(A1):cP:=DD (∃(rows:BA) (ws m:ο) (h:Str),A8t (gl m) (OT (Í o (AP8 h))))
def U4(A1):cP:=MA rows BA w Str (ds= [ZU Hj]/\OO/\Ħ/\RI A0n)
def U5(A1):cP:=A'F (ds= [AQB,AQe]/\EW/\OO/\ACP/\RI A8O)
def U6(A1):cP:=DD (∃(rows:BA) (ws m:ο),ds= [gl m,AQe]/\Aaw/\OO/\ACP/\m≠ []/\m.length<=12/\
 ∀x:D1,AsH ->AV7 ->Apd ->OT (Í h AAo))
structure Lean (rows:BA) (ms:HP) (x:D1):Prop where
 g:AQ7
 ev:AW6 (br ACQ)
 em:AW6 AXc
 sz:AW6 Apd
def gh(AYz):T:= .dic Ġ (AH hs.map ADY ACg)
def jJ(AYz):D:= .dik Ġ (hs.map ADY)
def U7(A1):wN:=Aye (ds= [AKQ]/\EW/\OO/\U.length<=12/\ AQW/\∀ms x,AAw ->P (gh ms.flatten x))
def O9(A1):cP:=MA n Int m Nat (ds= AGs n m/\m<=20/\∀xs:ο,AJZ m ->xs.Nodup ->OT ADk)
def U8(A1):cP:=DD (∃a b d e n:Int,ds= [ACp,ACq,.int d,.int e,.int n]/\e≠0/\∀t:Bool,GY t)
def U9(A1):cP:=DD (∃(ns:Φ) (hands works:Nat),ds= [r9,.int hands,.int works]/\ABq/\1<=hands/\hands<=5/\works<=8/\
 A9X (U.length<=hands) (P (bh rows)))
def Va(A1):cP:=DD (∃i j:Int,AuH)
theorem z0t(AT MN):NL:=ef
theorem yhz(AT O8):C9:=E7
theorem z8q(AT UL):C9:=eS
theorem z8a(AT UW):NL:=E7
theorem zrh(AT Kc):C9:=eS
theorem yby(AT U0):kN:=AkF
theorem z6p(AT U3):kN:=AkF
theorem zvn(AT U4):NL:=E7
theorem z7l(AT U5):C9:=eS
theorem zll(AT U6):C9:=eS
theorem zzr(AT U7):NL:=E7
theorem zv6(AT O9):C9:=E7
theorem zsu(AT U8):mh 5:=wn
theorem zz7(AT U9):kN:=eS
theorem zr8(AT Va):C9:=E7
def Pa(A1):cP:=MA qs AW g D (ds= [ABR,sN,g]/\qs≠ []/\AKo/\ sL/\ Akf/\Ax1)
theorem yey(AT Pa):kN:=E7
structure fJ where
 rule:D
 gap:D
 scale:D
 leans:D
 sheets:D
 marks:D
def fJ.fs:ο:= ["rule","gap","scale","kept_leanings","sheets","marks"]
def fJ.xs(S:fJ):Β:= [S.rule,S.gap,S.scale,S.leans,S.sheets,S.marks]
def fJ.d(c:Cls)(S:fJ):tw ->D
 | none=> .obj c.ak fJ.fs S.xs
 | ć=> .obj c.ak AXU (S.xs++ [b])
structure iW where
 rule:D
 gap:D
 scale:D
 leans:D
 sheets:T
 marks:T
def iW.ts(S:iW):Gc:= [.leaf S.rule,.leaf S.gap,.leaf S.scale,.leaf S.leans,S.sheets,S.marks]
def iW.t(c:Cls)(S:iW):tw ->T
 | none=> .ob c.ak fJ.fs S.ts
 | ć=> .ob c.ak AXU (S.ts++ [.leaf b])
def iW.pl(S:iW):fJ:=⟨S.rule,S.gap,S.scale,S.leans,gB S.sheets,gB S.marks⟩
def Iv(GE):cP:=AFv (∃S b hand ks ys,ds= [AFT,.str hand]/\ρ (xK S.leans) (ks,ys)/\Q ((gK ks ys (CA hand)).getD (FA (AGs 0 1))))
def Vb(GE):cP:=AFv (∃S b work ks ys,ds= [AFT,ASA]/\Ai7/\mV ks ASW=true/\Q Ρ)
def Iw(GE):cP:=AFv (∃S b work ks ys d,ds= [AFT,ASA]/\Ai7/\ρ (gK ks ys ASW) d/\Q d)
def Vc(GE):cP:=AFv (∃S work ks ys d,ds= [AxB,ASA]/\Ai7/\ρ (gK ks ys ASW) (qD d)/\KM d/\Q tm)
def Dm(AYw):AW:=L.map fun r=>TN - N1
def Bt(AYw):Rat:=gZ (Dm x L)/ AF L.length
structure Fy (AYw):Prop where
 ne:L≠ []
 few:L.length<=12
 mm:∀r∈L,V_ E9<2^100
 sx:∀r∈L,Al9
 sl:∀q∈Dm x L,Sz 1900 q
 ss:∀k,Sz 4000 (gZ ((Dm x L).take k))
 sm:Sz 1000 (Bt x L)
structure FJ (ps:EK):Prop where
 len:Ag6
 gd:v6
 sz:L6 ps (Fo 300 p)
def Iz(L:BA):D:= .dik AVy (L.map AS')
def Vd(GE):cP:=AFv (∃(S:fJ) (b:tw) (work:Str) (L:BA) (hs:ο) (x:D1) (g:Rat) (ps:EK),ds= [AFT,ASA,Iz L]/\S.leans=AUU/\S.rule= ABR/\S.gap=qD g/\KM g/\S.scale=AJC/\ (∀r∈L,Τ∈hs)/\Fy x L/\FJ ps/\Q (qD (vC ps (Bt x L))))
def Pb(GE):cP:=AFv (∃(S:fJ) (ws:ο) (v:D1),ds= [AxB]/\S.marks=jJ ws v/\ws.Nodup/\ws.length<64/\ (∀w∈ws,Sz 4000 (v w))/\∀ms:ο,ms.Perm ws ->Q (BV (ms.map fun w=> A5o)))
def Kd(GE):Bq:=fun t ds P _=>∃(rows:BA) (U:ο) (g:Rat) (ps:EK),t= .ob c.ak [] []/\ds= [AKQ,ABR,qD g,AJC,rE ng]/\EW/\OO/\ŋ/\ AQW/\AI3/\FJ ps/\KM g/\
 ∀ms x ws sh,Ο AAw ws.Nodup (∀w,AV3) (∀w∈ws,AVH) (P (iW.t c (AwO (gh ws (DF AlP))) AR6) Ρ)
def Ve(GE):cP:=DD (∃(S:fJ) (b:tw) (rows:BA) (hs ws:ο) (x v:D1),ds= [AFT,AKQ]/\S.leans=AUU/\S.marks=jJ ws v/\AI3/\ (o5 ((Τ∈hs/\Al9)/\APk/\Sz 4000 (v Ν)))/\
 ∀B:Int,0<B ->(o5 (ź x Τ∣B/\ ź v Ν∣B)) ->dU B<=600000 ->HR B)
theorem z2o(A5r):mh 5:=wn
theorem z5m(A5r):Kd c t ds (fun t d=>d= Ρ/\P t d) E:=by
 obtain⟨rows,U,g,ps,h1,h2,h3,h4,h5,h6,h7,h8,h9,h⟩:=h;exact⟨rows,U,g,ps,h1,h2,h3,h4,h5,h6,h7,h8,h9,fun ms x ws sh a b d e=>(FY (A7M a b d e))⟩
theorem zj7(AT Iv):C9:=wn
theorem zih(AT Vb):C9:=wn
theorem zo4(AT Iw):C9:=by obtain⟨_,_,_,_,_,_,rfl,_⟩:=h;rfl
theorem zog(AT Vc):C9:=wn
theorem zj6(AT Vd):kN:=by obtain⟨_,_,_,_,_,_,_,_,rfl,_⟩:=h;rfl
theorem zmg(AT Pb):NL:=eS
theorem ztv(AT Ve):C9:=by obtain⟨_,_,_,_,_,_,_,rfl,_⟩:=h;rfl
def zdd(π):aF:=(aV 7 (OS dQ (I_ Au (P6 (OS jv (AuF (cH (cB jN i7 EL) (DO nQ Ai3 1)))) 26))))
def zef(π):aF:=(aG (aV 9 (Arl (OS (DO bT (DO eO Θ 24) 48271) (DO bT (cB bT i7 i7) 69621)) (DO bT i7 7)))
 (zdd K c))
def zks(π):aF:=(AWo 5 dQ)
def zfr(π):aF:=(aG (vh (L5 (OS EA (AuF (DO jN Ai3 1)))) (B7 8)
 (zef K c))
 (zks K c))
def zeo(π):aF:=(aG (aV 7 (AHR ""))
 (zfr K c))
def zor(π):aF:=(aU sf)
def zhz(π):aF:=(aG (vh ATJ (B7 6)
 (zeo K c))
 (zor K c))
def zhy(π):aF:=(aG (cg 5 (dM aq))
 (zhz K c))
def ze8(π):aF:=(aG (aV 4 (AgP Θ 24 EA))
 (zhy K c))
def zh0(π):aF:=(aG (cN (cT (DO jN Ai3 1))
 (aV 3 LY)
 bw)
 (ze8 K c))
def zh4(π):aF:=(aG (aV 3 (OS LY (P6 (DO eO Θ 3) 8)))
 (zh0 K c))
def Ys(π):aF:=(aG (aV 2 (AHR "abcdefghijklmnopqrstuvwxyz"))
 (zh4 K c))
def zrq(π):aF:=(aU (P6 (cB bT Au Au) 2147483629))
def zq6(π):aF:=(aG (cN (cT (AI0 vk))
 (aV 2 (Arl (DO bT (I_ Θ (cB cI (DO bT Ε 7) vk)) 48271) Ary))
 bw)
 (zrq K c))
def zqp(π):aF:=(aG (aV 2 (DO dw Ary 5))
 (zq6 K c))
def zn5(π):aF:=(aG (cN (cT (cB n6 Ε vk))
 (aU AhF)
 bw)
 (zqp K c))
def zob(π):aF:=(aU (cC ASX))
def zhg(π):aF:=(aG (cN (cT (DO jN Θ 2))
 (aU (cH (cB jN (P6 Ε 2) (P6 Au 2)) (AI0 (P6 EL 4))))
 bw)
 (zob K c))
def zhf(π):aF:=(aG (cN (cT (DO jN Θ 1))
 (aU (gU (Au4 Ε) (Au4 (DO dw Ε 1))))
 bw)
 (zhg K c))
def Yt(π):aF:=(aG (cN (cT (DO jN Θ 0))
 (aU (AI0 (P6 EL 3)))
 bw)
 (zhf K c))
def zgc(π):aF:=(cN (cT (aB (U8 c) (aj EA (AT8 i7 jv Ε þ))))
 (AWo 7 (cZ (aj (I_ sf i7) (Ev (I_ b_ jv) (AgP þ 12 EL)))))
 bw)
def ze3(π):aF:=(aG (eI 10 CK Θ (OS (OS (ZH 6) (cB bT i7 Ε)) jv))
 (zgc K c))
def zfc(π):aF:=(vh ATJ (B7 9)
 (ze3 K c))
def zjq(π):aF:=(hW (fZ (dN (mU dQ (mL (cV 11)) mK)) (dN (mU dQ mK (mL (cV 11))))))
def zj5(π):aF:=(aG (aV 11 (AgP (AE' 3) 4 (DO dw (cR (gf dQ)) 1)))
 (zjq K c))
def ziu(π):aF:=(aG (vh (L5 Au) (B7 8)
 (zfc K c))
 (zj5 K c))
def zis(π):aF:=(aG (cg 7 (dM aq))
 (ziu K c))
def zi4(π):aF:=(aG (eI 6 O9 (AE' 5) Ε)
 (zis K c))
def zf7(π):aF:=(aG (eI 5 O9 (AE' 4) Au)
 (zi4 K c))
def zi0(π):aF:=(aG (aV 4 (I_ (c9 (AT8 AJ2 (ZH 4) AJ2 (DO gF AJ2 12))) (P6 (AE' 3) 4)))
 (zf7 K c))
def Yu(π):aF:=(aG (aV 3 (P6 (AE' 2) 4))
 (zi0 K c))
def zw5(π):aF:=(aU (cB n6 AVw AlF))
def ztd(π):aF:=(aU (cH (FK Fi Aew AKr) (xp dF Fi z_ yv)))
def znw(π):aF:=(aU (cH (DO mZ vk 1) (VQ ydd (Al0 (Amv [] (dN BCU)) Uj))))
def zee(π):aX:=(VQ o8 Ε)
def zfq(π):aF:=(cN (AFc (AAu Uk Ε))
 (AMl c.jq "a scale has two points or more, each x above the one ahead and no y below it")
 bw)
def z1q(π):aF:=(aU (VQ Xg (AUu [0] Ε (cB (m5 false) Θ Ε))))
def zsy(π):aF:=(cN (xp cT O8 EL Ε)
 (nJ 3 zr1 (L5 EL))
 bw)
def zms(π):aF:=(hW (fZ Au (c9 (aj (dN (UN X8 EA)) aq))))
def zu0(π):aF:=(aG (sG Θ (B7 4)
 (zsy K c))
 (zms K c))
def zup(π):aF:=(aG (cg 3 (UN nR Ε))
 (zu0 K c))
def zs3(π):aF:=(aG (aV 2 (ALm [1] Θ (AFc (FK O8 Θ Ε))))
 (zup K c))
def zgt(π):aF:=(Tc 1 2 3 EL)
def zsb(π):aF:=(aG (cN (S8 1 Au)
 (S9 1 2 Lx)
 bw)
 (zgt K c))
def zld(π):aF:=(Bp (nV 1))
def zs4(π):aF:=(aG (sG Θ (d9 3 (aW (B7 2) (h_ (B7 3) 4)))
 (zsb K c))
 (zld K c))
def zpa(π):aF:=(aG (w6 1 Lx)
 (zs4 K c))
def zt1(π):aF:=(eI 1 UL Ε (dN (UN zvh Au)))
def zwj(π):aF:=(Bp (nOf (UN z3c Ε)))
def zwe(π):aF:=(aG (cG (zx1 (VA v8 (MN c) Θ)) (B7 2)
 (zt1 K c))
 (zwj K c))
def zsk(π):aF:=(aG (aV 1 (c9 aq))
 (zwe K c))
def zmv(π):aF:=(aV 1 Au)
def zmx(π):aF:=(aG (aV 0 Ε)
 (zmv K c))
def zrb(π):aF:=(aG (aV 2 AvC)
 (zmx K c))
def zs6(π):aF:=(aU Ara)
def zpw(π):aF:=(aG (zu (cT (ATj Ε))
 (zrb K c))
 (zs6 K c))
def znn(π):aF:=(aV 1 (cB bT Ε (cB eO (fb Au) (FK O4 Ε (fb Au)))))
def zo1(π):aF:=(AFQ (ATg [1]) (AHB Θ (cB eO Ε yv)))
def zoo(π):aF:=(aG (sG Θ (B7 2)
 (znn K c))
 (zo1 K c))
def zli(π):aF:=(aG (aV 1 LY)
 (zoo K c))
def zo8(π):aF:=(AFQ (Amv [0,1,2,3] Ε) (cB eO (cB eY (cB bT (I_ EA EL) Θ) (cB bT (I_ Au EL) Ε)) sf))
def ztu(π):aF:=(AFQ (dG 2 [1,2,3] Aro AP0) (nP (cT (cB jN Θ Au)) Ε (aB (Ud c) (AT8 Ε EL Au EA))))
def zp1(π):aF:=(aG (aV 3 AhF)
 (ztu K c))
def zqo(π):aF:=(aU (cZ (Ev (cB eO Θ Au) (cB eO Ε Au))))
def zr3(π):aF:=(aG (cN (cT (DO n6 Ε 0))
 (aV 2 (cU eZ Au))
 bw)
 (zqo K c))
def zrk(π):aF:=(aG (eI 2 O4 Θ Ε)
 (zr3 K c))
def zoh(π):aF:=(aG (cN (cT (DO jN Ε 0))
 (AMl c.fO "the bottom of a fraction is not 0")
 bw)
 (zrk K c))
def zop(π):aF:=(aU EA)
def zoq(π):aF:=(aG (Ln 3 Au AhF)
 (zop K c))
def zol(π):aF:=(aG (Ln 3 Ε BGm)
 (zoq K c))
def zlh(π):aF:=(aG (cg 3 (UN nR Θ))
 (zol K c))
def z4t(π):aF:=(cN (cT (ATj (I_ BGm Ε)))
 (aU (wt zdt Θ Ε Au))
 bw)
def z70(π):aF:=(AMl c.ju "the system has no answer, or several")
def z93(π):aF:=(aG (Jx (Ev Ε vk) (B7 2)
 (z4t K c))
 (z70 K c))
def zot(π):aF:=(aV 3 (I_ (I_ Au EL) EL))
def zs0(π):aF:=(aG (aV 2 (wt Ue (FK Ug Au EL) EL EA))
 (zot K c))
def zvw(π):aF:=(hW (dG 2 [] (cS ou Au) AP0 cQ (aB (Hi c) (Ev AcA (I_ Ε Θ)))))
def zva(π):aF:=(aG (vh (L5 (gf Au)) (B7 4)
 (zs0 K c))
 (zvw K c))
def zm0(π):aF:=(aG (aV 3 LY)
 (zva K c))
def ztz(π):aF:=(aG (aV 2 (dN (Amv [] Ε cQ (AAu Uc (dN (fZ Θ (c9 ATJ)))))))
 (zm0 K c))
def zh1(π):aF:=(hW (ž [0] Ε (cT (cB (Im false) Ε Θ)) Θ))
def zle(π):aF:=(aU (bM oZ oZ AKr Θ z_))
def zpu(π):aF:=(hW (ATg [1,2] (cT (VQ Xg (APf (ž [0,2] Ε) O6 (cB eY Ε Θ) Au))) Θ))
def z2i(π):aF:=(AWd (OS AVw AlF) z_)
def zur(π):aF:=(eI 1 Mz Ε Au)
def zzb(π):aF:=(aU Ε)
def zzv(π):aF:=(aG (sG Θ (B7 2)
 (zur K c))
 (zzb K c))
def zxi(π):aF:=(aG (aV 1 Af9)
 (zzv K c))
def zpp(π):aF:=(aU (nP (cT (cB jN Θ Ε)) (FK Mz (qh (gf EA)) EL) EL))
def zkc(π):aF:=(aG (aV 4 (AAu MF (AUu [] EA (cZ (Ev (cU eZ LY) Aqo)))))
 (zpp K c))
def zw7(π):aF:=(aG (eI 3 Kc Ε (FK Kc Θ Au))
 (zkc K c))
def zsn(π):aF:=(AFQ (ž [0,2] Ε) (wt U0 Ε Θ Au))
def zxe(π):aF:=(AWd (cB eY AVw AlF) z_)
def zlg(π):aF:=(Ä Hi (JW Θ) Aqo)
def zod(π):aF:=(aU (AAu MF (APf (dG 1 [0] (xp iL Kc Θ Ε) (B7 0)) Ir (qh (cB CJ Θ Ε)) (ALa U4))))
def zer(π):aF:=(Ä Uh (dN (fZ (c9 (L5 EL)) Au)) (dN (fZ (Ayg LY) EA)))
def zeb(π):aF:=(aG (aV 4 (AUu [1] Θ (qh (gf (FK Kc Θ Ε)))))
 (zer K c))
def zia(π):aF:=(aG (aV 3 (Al0 (ArA [1]) U5))
 (zeb K c))
def zfn(π):aF:=(aG (aV 2 (dN (ArA [0,1] cQ (wt U3 Θ Ε Au))))
 (zia K c))
def zh5(π):aF:=(Io 1 EL sf)
def zge(π):aF:=(cG (JK (Ev Au (FK U6 Au EA))) (d9 2 (h_ (B7 4) 5))
 (zh5 K c))
def zh2(π):aF:=(aG (aV 3 (dN (Ad (VA aB (Ie (MN c)) (ALm [2] Θ (cT (cB (m5 false) yv Ε)))))))
 (zge K c))
def zqk(π):aF:=(Bp (nV 1))
def zi5(π):aF:=(aG (sG (VA aB (Ie (UW c)) Θ) (B7 2)
 (zh2 K c))
 (zqk K c))
def zn2(π):aF:=(aG (w6 1 Lx)
 (zi5 K c))
def zyq(π):aF:=(AWd (AHB Θ AKr) z_)
def z3v(π):aF:=(AWd AVw AKr)
def zt6(π):aF:=(Ä Mz yv (FK O5 EA (FK Ir AKr Aew)))
def zpm(π):aF:=(aG (eI 3 T8 (FK Ir Au Aew) (FK Ir z_ yv))
 (zt6 K c))
def zjm(π):aF:=(cN (xp cT Fi Ε (xE EA))
 (aU (wt Ul Au EA Ε))
 bw)
def zka(π):aF:=(aU (fb (I_ AMy (cU eZ LY))))
def zkg(π):aF:=(aG (cG (JK (Ev AMy (RZ AMy AP4 mK))) (d9 2 (h_ (B7 2) 3))
 (zjm K c))
 (zka K c))
def zg2(π):aF:=(aG (cN (AFc (FK Fi (xE (xE AMy)) Ε))
 (aU (fb (xE AMy)))
 bw)
 (zkg K c))
def zc2(π):aF:=(aU (xM (zh "kept_leanings") Ε Af9))
def zgs(π):aF:=(aU (nP (cT (cB jN Θ (AHR "pair"))) (ZH 2) LY))
def z2k(π):aF:=(Ä O5 (ALa MF) (qh vk))
def z0e(π):aF:=Af
def zzg(π):aF:=(aG Af
 (z0e K c))
def zzl(π):aF:=(aG (cN (cT (cB jN Θ BFr))
 (aU (AAu T9 Ε))
 bw)
 (zzg K c))
def zqu(π):aF:=(aG (cN (cT (cB n6 (gf Ε) (ALa Ui)))
 (AMl c.G4 "the rule needs more marks than these")
 bw)
 (zzl K c))
def zdu(π):aF:=(J1 (aU (jf c.Scale "scaled" (Um c) (zh "scale") (L5 (wt Pa (zh "rule") EA (zh "gap"))))))
def zem(π):aF:=(aG (aV 3 (APf (dG 2 [0] (z1y Au) AP0) Ir (qh Ε) (cS (UH "leaning" Iv Au) Θ)))
 (zdu K c))
def zoz(π):aF:=(nJ 1 o9 (Ev EA Au))
def zt7(π):aF:=(aG (aV 3 (cR (gf (ALm [2] Ε (AFc (FK Fi Ε Θ))))))
 (zoz K c))
def zvi(π):aF:=(aU Ε)
def zuv(π):aF:=(aG (sG Θ (B7 2)
 (zt7 K c))
 (zvi K c))
def zud(π):aF:=(aG (cg 1 (dM aq))
 (zuv K c))
def zht(π):aF:=(AFQ (dG 1 [2] (iL (dN (mU Ε mK (mL (cU eZ LY))))) (B7 0)) A2h)
def zex(π):aF:=(aG (aV 2 (ALa Ua))
 (zht K c))
def zu2(π):aF:=(AWo 2 (wt Ur Θ (gY 2 (cU eZ LY)) EA))
def zza(π):aF:=Aeo
def zzz(π):aF:=(aG (sG Ε (B7 3)
 (zu2 K c))
 (zza K c))
def zx7(π):aF:=(aG (cg 2 (cS dM (c9 (L5 bX))))
 (zzz K c))
def zev(π):aX:=(AUu [] Ε (dN (UN nR Θ)))
def zh3(π):aF:=(aU (gf (ALm [0] Ε (AFc (FK Fi Θ Ε)))))
def z4e(π):aF:=(hW (UN z42 (dN (fZ (c9 (L5 bX)) (Al0 (ATg [0]) Us)))))
def zfp(π):aF:=(hW (mU (dN (UN XM EA)) AP4 mK))
def zkb(π):aF:=(aG (eI 3 MK Au (dN (UN XM Ε)))
 (zfp K c))
def zgu(π):aF:=(aG (aV 2 (dN (dG 1 [0] (cS zky Θ) (B7 0) cQ Ars)))
 (zkb K c))
def zhe(π):aF:=(AWo 2 (VQ z0m (ALm [0,4] sf (cT (cB (m5 false) Ars Au)))))
def zh8(π):aF:=(aG (aV 5 (Ej (R7 (ATg [2,3] (xp cT O6 (cB eY Θ AcA) Au) Θ))))
 (zhe K c))
def zje(π):aF:=(hW (mU Au AP4 mK))
def zjt(π):aF:=(aG (cG (JK (Ev Ε (FK Uu Θ Ε))) (d9 2 (h_ (B7 3) 4))
 (zh8 K c))
 (zje K c))
def zgd(π):aF:=(aG (cg 2 (cS dM bX))
 (zjt K c))
def z4i(π):aF:=(Ä Uv Au Ε)
def z05(π):aF:=(aG (cN (cT (cB (m5 true) vk (I_ EA (cU eZ LY))))
 (zv8 c.fj (O7 c) (L5 EA))
 bw)
 (z4i K c))
def z25(π):aF:=(aG (eI 3 MK Au Ε)
 (z05 K c))
def z3u(π):aF:=(aG (aV 2 (ALa Ut))
 (z25 K c))
def zc5(π):aF:=(Fd c.ak 0 "marks" 6 (qY (UH "reckoned" Vd Θ (Ev b_ (cB CJ BFi b_)))))
def zdj(π):aF:=(vB c.ak 0 "kept_borders" (FK Uz dQ (FK Uw dQ sf)))
def zdp(π):aF:=(aG (aV 7 (dN (Ag (Ad AUM))))
 (zdj K c))
def zdr(π):aF:=(aG (sG (dN (Ag (UN Yc BFi))) (B7 6)
 (zc5 K c))
 (zdp K c))
def zdh(π):aF:=(aG (Aa c.ak 0 "marks" Lx)
 (zdr K c))
def zdq(π):aF:=(aG (Aa c.ak 0 "sheets" (VA v8 (MN c) Ε))
 (zdh K c))
def zdk(π):aF:=(aG (vB c.ak 0 "kept_leanings" (JX (VA v8 (U7 c) Ε)))
 (zdq K c))
def zdi(π):aF:=(aG (vB c.ak 0 "scale" (A6l (dN (UN nR (kZ c.Scale "points" EL)))))
 (zdk K c))
def zdm(π):aF:=(aG (vB c.ak 0 "gap" EA)
 (zdi K c))
def Yv(π):aF:=(aG (vB c.ak 0 "rule" Au)
 (zdm K c))
def zcd(π):aF:=(cN (cT (cB (Im true) Ε AUM))
 (AMl c.qT "no such work is in the sitting")
 bw)
def zfs(π):aF:=(aU (cB CJ AUM Ε))
def zej(π):aF:=(aG (dh (UH "must_have" Vb Θ ATJ))
 (zfs K c))
def zj8(π):aF:=(gW 0 1 (Ev Ε AvC))
def zlq(π):aF:=(aU Θ)
def zlo(π):aF:=(aG (zu (cT (AI0 Ε))
 (zj8 K c))
 (zlq K c))
def zlu(π):aF:=(aG (aV 1 (VQ n8 Ε))
 (zlo K c))
def zhw(π):aF:=(aG (aV 0 Ara)
 (zlu K c))
def zgf(π):aF:=(aV 2 (cB bT Au (cB eO (fb b_) (FK Va Au (fb b_)))))
def zdx(π):aF:=(sG (c9 (Ev (cS (UH "leaning" Iv Θ) EL) (AsU EA))) (B7 6)
 (zgf K c))
def zm2(π):aF:=Aeo
def zna(π):aF:=(aG (sG Ε (d9 3 (aW (B7 3) (h_ (B7 4) 5)))
 (zdx K c))
 (zm2 K c))
def zi2(π):aF:=(aG (aV 2 LY)
 (zna K c))
def zio(π):aF:=(cN (gR (cT (cB gO EA Abh)) (AFc (FK Fi Ε EA)))
 Aeo
 bw)
def zjw(π):aF:=(aU vk)
def zgb(π):aF:=(aG (cG Aro (d9 2 (h_ (B7 2) 3))
 (zio K c))
 (zjw K c))
def zdw(π):aF:=(Ä UG (zh "kept_borders") (AsU Ε))
def zdy(π):aF:=(AFQ (dG 1 [0] (iL (dN (UN Yc AUM))) (B7 0)) (cZ (aj Θ (Ev (cS (UH "mark" Iw Ε) Θ) (cS (UH "grade" Vc Ε) Θ)))))
def zv5(π):aF:=(aV 8 (OS i7 ARh))
def zm5(π):aF:=(aG (Io 7 þ (cR (OS (xM dQ þ bX) (cV 14))))
 (zv5 K c))
def zmz(π):aF:=(aG (Io 6 jv (cR (OS (xM b_ jv bX) (cV 14))))
 (zm5 K c))
def zv7(π):aF:=(aG (aV 14 (cB eY (cB eY (cB bT (cV 11) sf) ARh) (A1K (cV 13) (cV 13))))
 (zmz K c))
def zuy(π):aF:=(aG (aV 12 (A1K ARh ARh))
 (zv7 K c))
def zut(π):aF:=(aG (aV 13 (qY (UH "mark" Iw EL (L5 jv))))
 (zuy K c))
def z43(π):aF:=(aG (aV 12 (qY (UH "leaning" Iv EL (L5 þ))))
 (zut K c))
def zsx(π):aF:=(cN (cT (ATj (cB CJ b_ jv)))
 Arc
 bw)
def zs2(π):aF:=(cN (cT (ATj (cB CJ dQ þ)))
 Arc
 bw)
def z10(π):aF:=(aU (qY (cH Aqs A'Q)))
def z03(π):aF:=(aG (Ae 7 (cG (z09 dQ) Ad_
 (zs2 K c)))
 (z10 K c))
def zyt(π):aF:=(aG (Ae 6 (cG (z09 b_) (B7 9)
 (zsx K c)))
 (z03 K c))
def zxn(π):aF:=(aG (sG Ε (d9 3 (aW (B7 9) (h_ Ad_ 11)))
 (z43 K c))
 (zyt K c))
def z7z(π):aF:=(aG (aV 8 bX)
 (zxn K c))
def zx8(π):aF:=(aG (w6 7 Lx)
 (z7z K c))
def z9h(π):aF:=(aG (w6 6 Lx)
 (zx8 K c))
def zrl(π):aF:=(aG (aV 5 (xp qY Ve EL Ε))
 (z9h K c))
def zxq(π):aF:=(aG (JT 4 (EY c.ak (Kd c) (aj Ε (AT8 BFr Af9 EA (Ayg (ZH 60))))))
 (zrl K c))
def zq4(π):aF:=(aG (aV 3 (A6l (c9 (Ev (Aud Au3 Au3) (Aud Au Au)))))
 (zxq K c))
def zyk(π):aF:=(aG (aV 2 (OS (DO gF AJ2 20) (cB cI (AE' 40) (DO gF AJ2 20))))
 (zq4 K c))
def Vf(π):aF:=(aG (aV 1 (wt U9 Θ (OS LY (P6 (FK CK Θ bX) 4)) (P6 (FK CK Θ LY) 7)))
 (zyk K c))
theorem z18(AT O4):C9:=E7
theorem zz5(AT Hi):C9:=E7
theorem yf1(AT Mz):C9:=E7
theorem ybt(AT Ir):C9:=E7
theorem yct(AT T8):C9:=E7
theorem yf0(AT O5):C9:=E7
theorem yd3(AT Fi):C9:=E7
abbrev fin(Q:t6):qR:=AmN
theorem z3m(AX O4):dy zpw:=by
 show ALO i j;show BB (fun m Γ=>∃a b r,Γ= [A4 a,A4 b,r]/\m=b.natAbs/\AWg Aam) ⟨_,i,j,υ,rfl,rfl,rfl⟩;rintro m _ ⟨a,b,r,rfl,rfl,hg⟩;show CI rfl;show n5 0
 ·subst hb;have:Hk (! kO tm tm):=ua
  rw[this];show Q (B5 A0_);have e:A0_=ASc:=by
   rw[<- hg,Int.gcd_zero_right];split<;>omega
  rw[e];exact h
 ·have:ACs (kO (B5 b) tm):=RU kO hb
  rw[this];exact⟨hb,_,ze5 hb,b,a.fmod b,A4 (a.fmod b),rfl,rfl,FF zyi hg⟩
theorem z31{i j:Int}(hj:j≠0):dv i j≠0/\∀n,Tb<=n ->bo<=n ->AK8 dv<=n:=by
 show B6 (TF hj) (fun n h1 h2=>(AU3 h2));show K' k (z3r i j);have h:=congrArg Int.natAbs e;rw[Int.natAbs_mul] at h;rw[h];have:k≠0:=Ξ (hj (by rw[e,z,Int.mul_zero]))
 exact BGC
theorem zy8(AX Hi):dy zoh:=by
 show ņ i j b1 b2;show CI rfl;by_cases hj:j=0
 ·subst hj;have:kO tm tm=true:=ua
  rw[this];exact É h
 ·have:kO (B5 j) tm=false:=RU kO hj
  rw[this];rw[Ω hj,<- yii hj] at h;show Fh i j rfl;show Cn d0 d1 (tz z31) hj;show O_ (ω (j<0));by_cases hn:j<0
  ·show uk hn
   have e:dv i j= -ASc:=by unfold dv;show DU hn
   exact⟨AZP,AZP,ATl,A7 e h⟩
  ·show Ĕ hn
   have e:dv i j=ASc:=by unfold dv;show AV hn
   exact⟨AZP,AZP,ATl,A7 e h⟩
theorem at0{x y:D}:ρ (nF lc 0) x:=Hy (j:=0) rfl
theorem at1{x y:D}:ρ (nF lc 1) y:=Hy (j:=1) rfl
theorem sY(AxD):vX i j:= AK_
theorem uY(AxD):dU (i*j)<=8000:=Fr (Bl i j)
theorem abE(AxE):dU (i+j)<=9000:=Fr (WT i j)
theorem abF(AxE):dU (i - j)<=9000:=Fr (zki i j)
theorem Pg{i:Int}(h1:Tb<=8000):AfT:=τ
theorem yfh(AX Mz):MM z2i:=by
 obtain⟨a,b,rfl,⟨a1,a2⟩,⟨b1,b2⟩,h⟩:=h;refine⟨_,at0,_,at1,AVS,_,at0,_,at1,AlA,_,at1,_,at1,Agr,_,_,rfl,A_8 abE,Pg (uY a2 b2),?_⟩;rw[if_neg (Ox a b),<- ya4];exact h
theorem yen(AX Ir):MM zxe:=by
 obtain⟨a,b,rfl,⟨a1,a2⟩,⟨b1,b2⟩,h⟩:=h;refine⟨_,at0,_,at1,AVS,_,at0,_,at1,AlA,_,at1,_,at1,Agr,_,_,rfl,A_8 abF,Pg (uY a2 b2),?_⟩;rw[if_neg (Ox a b),<- yat];exact h
theorem ybi(AX T8):MM zyq:=by
 obtain⟨a,b,rfl,⟨a1,a2⟩,⟨b1,b2⟩,h⟩:=h;refine⟨_,at0,_,at0,sY a1 b1,_,at1,_,at1,Agr,_,_,rfl,Pg (uY a1 b1),Pg (uY a2 b2),?_⟩;rw[if_neg (Ox a b),<- z99];exact h
theorem yfi(AX O5):MM z3v:=by
 obtain⟨a,b,rfl,⟨a1,a2⟩,⟨b1,b2⟩,h⟩:=h;refine⟨_,at0,_,at1,AVS,_,at1,_,at0,sY a2 b1,_,_,rfl,Pg (uY a1 b2),Pg (uY a2 b1),?_⟩;show n5 0
 ·show ADT hb;rw[QU if_pos hb (Int.mul_zero _)];exact h
 ·rw[ß] at h;rw[if_neg (Int.mul_ne_zero AhB (ABw hb xO.mp)),<- z9w a b hb];exact h
theorem ybq(AX Fi):MM zw5:=by
 obtain⟨a,b,rfl,⟨a1,a2⟩,⟨b1,b2⟩,h⟩:=h;refine⟨_,at0,_,at1,AVS,_,at0,_,at1,AlA,?_⟩;rw[yew] at h;exact h
theorem yM:WE (De 1000):=AB
theorem Ph{i m:Int}(hm:0<m):0<=i.fmod m/\i.fmod m<m:=AE BGD ⟨Int.emod_nonneg _ ξ,Int.emod_lt_of_pos _ hm⟩
theorem IK(lT):ō (kO tq (B5 j)) (i=j):=by
 simp only [kO];by_cases h:i=j<;>simp [h]
theorem Pj{i:Int}{n:Nat}(h:0<n):∃k:Nat,i.fmod E5=Cc/\k<n:=by
 have:=AFk i E5 ξ
 exact⟨(i.fmod E5).toNat,τ,τ⟩
theorem zzq(AT CK):C9:=E7
theorem yiw(AT Yq):NL:=ef
theorem z0c(AX CK):dy zn5:=by
 show ņ ns k hl hk;show O_ (ω (Cc< AYI));show EU;by_cases hlt:Aey
 ·show uk hlt
  show BB (.int ns[k]) (Hy (FX hlt))
  show A_ mz;rw[dif_pos hlt] at h;exact h
 ·show Ĕ hlt
  show A_ mz;rw[dif_neg hlt] at h;have bk:dU Cc<=10:=oV (by simp only [Int.natAbs_natCast];omega)
  show CI AFP
  show O_ (ω (IJ< AYI));show EU;have fin2:∀m:Int,m.natAbs<2^40 ->A0U ->vX m m/\ AKG 2147483629/\A0U:=fun m hm hq=>
   ⟨.inl (zM (oV hm) χ),AB,hq⟩
  by_cases he:ns= []
  ·subst he;show AV Μ
   rw[BU] at h;exact fin2 _ ξ h
  ·have hp:0<ns.length:=(by cases ns with | nil=>show ADq he | cons _ _=>exact Nat.succ_pos _)
   show uk hp
   rw[Ω he] at h;show BB AFP (show AYI≠0 by show EU;omega)
   have hm:(Cc*7).fmod AYI=CY AWB:=by
    show AH3 BGD Int.natCast_emod Int.natCast_mul
    rfl
   dsimp only [aG,bw,cC,cV,cB,cT,gR,qd,fW,cH,gU,dF,nP,aq,aj,cZ,dM,dN,dh,aU,dW,cN,aV,cg,hName,d8,aW,d9,iD,gW,aB,cU,ig,eZ,dw,eY,bT,eO,cI,gF,n6,oZ,mZ,qe,qg,gO,jN,nQ,cM,wI,nG,n8,jO,qj,ql,bH,iG,dY,iH,iI,List.length,List.set_cons_zero,List.set_cons_succ,List.getElem?_cons_zero,List.getElem?_cons_succ,dB,jP,nR,o8,mK,mL,mU,iJ,cR,bW,gY,nJ,nT,o9,fZ,m5,bM,bY,oW,qm,ou,iK,iM,iL,cG,fu,iu,cQ,List.map,List.append,List.cons_append,List.nil_append];rw[hm];have hlt2:AWB<ns.length:=Nat.mod_lt _ hp;show BB (.int (ns.getD (AWB) 0)) (Hy (by simp [List.getElem?_map,List.getD_eq_getElem?_getD,hlt2]))
   show Fh AFP AFP AB
   refine fin2 _ ?_ h;have h1:=ze5 (a:=ns.getD (AWB) 0*48271+ Cc*7919) (b:=2147483647) χ
   exact Nat.lt_trans h1 χ
theorem ydv(AT MF):NL:=ef
theorem yfw(AT T9):NL:=ef
theorem yca(AX MF):dy zxi:=by
 obtain⟨qs,rfl,s1,s2,h⟩:=h;refine⟨ATl,ANw (∃x,Γ= [OE (qs.map qD),ŵ (gZ (qs.take i)),x]),CO,?_,?_⟩
 ·rintro i x _ hi ⟨y,rfl⟩;show AdA hi;cases q:qs[i]? with
  | none=>show IQ q hi hi
  | some a=>
   rw[q] at hi;cases hi;refine⟨_,_,rfl,s2 i,s1 a (yV q),ŵ a,?_⟩;rw[List.take_add_one,q,zwh];simp only [Option.toList_some,gZ,Rat.add_zero]
   rfl
 ·show ACm y;have h' :=h;show BFW;exact h'
theorem ygi(AX T9):Hn z2k 1:=by
 obtain⟨qs,rfl,hl,s1,s2,h⟩:=h;refine⟨qs,rfl,s1,s2,?_⟩;have e:D.tup Ax0=qD BEO:=FF J5 List.length_map
 refine⟨ATl,gZ qs,BEO,by show [_,D.tup Ax0]=_;rw[e],?_,Azi ?_,?_⟩
 ·have:=s2 qs.length;rwa [List.take_length] at this
 ·exact zJ (AeQ (V_ sg<=1000)) χ
 ·by_cases hq:qs= []
  ·subst hq;rw[BU] at h;show DU Μ;exact h
  ·rw[Ω hq] at h;rw[if_neg]
   ·exact h
   ·intro z;have z' :sg=0:=by exact_mod_cast z
    exact BDb hq ξ
theorem Vg(A1J):CS (D8 f) (f i):=A0 h
theorem Hl(A1J):tF D8 f K_ (f i):=Hy (Vg h)
theorem z0j{n:Nat}(f g:pe):A'm:=by
 unfold kY;show UI
 ·simp
 ·show wS;simp
theorem yau{n:Nat}(f:pe):G7 0 (D8 f)=D8 (ET (RF (.int (De i)) (f i))):=by
 apply List.ext_getElem?;intro i;rw[Xp];by_cases h:CH
 ·rw[Vg h,Vg h];simp
 ·simp [h]
theorem zss(A2M):∀{is:AL} {P:Mm},(∀i∈is,AGK (P [g i]) i) ->P (is.map g) ->î is.map
 | [],_,_,h=>h
 | i::is,P,k,h=>k i zV _ (zss Azb h)
theorem Yw(A2M){n:Nat}{P:Mm}(k:AEH (AGK (P [g i]) i))(h:P (D8 g)):î D8:=
 zss (fun i hi=>k i (List.mem_range.mp hi)) h
theorem zke{m:Nat}{f g:dk}(h:∀j,j<m ->f j=g j):gH m f=gH m g:=by
 unfold gH
 congr 1
 exact List.map_congr_left fun j hj=>(MG (h j (List.mem_range.mp hj)))
theorem zy6{n m:Nat}{a b:Mx}(h:∀i j,CH ->j<m ->a i j=b i j):AbV=nU n m b:=by
 unfold nU
 congr 1
 exact Arm (zke fun j hj=>h i j (List.mem_range.mp hi) hj)
theorem zvo(AT Uc):NL:=E7
theorem zv1(AT zdt):kN:=wn
theorem yi4(AT Ug):C9:=AkF
theorem z5c(AT Ud):mh 4:=wn
theorem z13(AT Ue):kN:=wn
theorem z9j(AT Uh):C9:=by obtain⟨_,_,⟨rfl,_⟩,_⟩:=h;rfl
theorem z5v(AX Ud):YN zo8:=by
 obtain⟨m,k,f,g,p,rfl,hk,p0,bp,bf,bg,h⟩:=h;show II (kY Ar' (P3 AIf j (g j)));rw[z0j];refine Yw (g:=C3 (.int ((Azn).fdiv p))) Aw6 h;have b1:=bg k;have b2:=bf j;have b3:=bf k;have b4:=bg j;exact⟨rfl,rfl,.int (g k),Hl hk,AK_,.int ABZ,Hl hk,AK_,⟨p0,bp⟩,hP⟩
theorem z1e(AX Ue):YN zp1:=by
 obtain⟨a,n,m,k,p,rfl,hk,hkm,p0,bp,ba,h⟩:=h;show BB (gH m (a k)) (Hl hk);show II (G7 0 Agd);rw[yau];refine Yw (g:=ET (gH m A8l)) Aw7 h;show Fh rfl rfl rfl;rw[IK];show IP i k
 ·subst e;show ą rfl;have:gH m (CN i p a i)=AOO:=zke fun j _=>BU;rw[this] at hP;exact hP
 ·show Ą ξ
  have:gH m A8l=gH m (C3 ((A_m).fdiv p)):=zke fun j _=>AJ';rw[this] at hP;exact⟨m,k,a i,a k,p,rfl,hkm,p0,bp,C3 (ba i j hi),C3 (ba k j hk),hP⟩
theorem yce{n:Nat}(f:pe){k s:Nat}(hk:k<n)(hs:s<n):((D8 f).set k (f s)).set s (f k)=D8 (ET (f (rC k s i))):=by
 show UI
 ·simp
 ·show wS;simp only [List.getElem_set,List.getElem_map,List.getElem_range];unfold rC;by_cases e1:s=i
  ·subst e1;by_cases e2:k=s
   ·subst e2;simp
   ·rw[BU,UO,BU]
  ·show AV e1;by_cases e2:k=i
   ·subst e2;rw[BU,BU]
   ·rw[Ω e2,UO,UO]
theorem z5d{n k:Nat}(h:k<n):ρ (uT n Cc) k:=by
 unfold uT;rw[AZ ξ,kF];simp
theorem zvc(AX zdt):YN zlh:=by
 obtain⟨a,n,m,k,s,rfl,hk,hs,h⟩:=h;refine⟨gH m (a s),Hl hs,CO,k,z5d (FX hk),gH m (a k),Hl hk,CO,s,z5d (FX hs),?_⟩
 have e:=yce (xw AOO) hk hs;show Q (BV (((D8 AbA).set k (gH m (a s))).set s (gH m (a k))));rw[e];exact h
theorem yid(AX Ug):dy z93:=by
 obtain⟨a,n,m,k,rfl,hn,hk,hm,h1,h2⟩:=h;have el:BE D8 AbA=n:=An
 show(AdT<=Cc/\ Cc<2^62/\ AdT<=AiK/\ AiK<2^62)/\Lc (DQ Cc (AiK - Cc).toNat _ _);rw[el,O0 (E5 - Cc).toNat (n - k)]
 refine⟨⟨τ,τ,τ,τ⟩,ANw (∃y:Slot,Γ= [.pu (nU n m a),ĉ,y]/\∀s,k<=s ->s<k+i ->a s k=0),Md (fun s hs hs' =>τ),?_,?_⟩
 ·rintro i _ hi ⟨y,rfl,hz⟩;have e0:Cc+ K_=CY (k+i):=τ
  have hlt:k+i<n:=τ
  show SI (gH m (a (k+i))) ?_ (.int (a (k+i) k)) (Hl hm) rfl
  ·show nF Agd (Cc+ K_)=_;rw[e0];exact Hl hlt
  rw[IK];by_cases ez:a (k+i) k=0
  ·show ą ez;show kK _ (ψ s hs hs');by_cases es:s=k+i
   ·rw[es];exact ez
   ·exact hz s hs ξ
  ·show Ą ez;refine⟨a,n,m,k,k+i,?_,hk,hlt,h1 _ ξ hlt ez⟩
   show AlO (Cc+ K_)=_;rw[e0]
 ·rintro _ ⟨y,rfl,hz⟩;exact⟨vy,h2 fun s hs hs' =>hz s hs ξ⟩
theorem z5q(AEs):DE q.num=q* ASh/\ ASh≠0:=by
 have hd:ASh≠0:=by
  have:=q.den_pos
  exact_mod_cast (AeQ (X0≠0))
 have e:DE q.num/ DE q.den=q:=AFG BEV Rat.divInt_eq_div
 show Đ hd;rw[Rat.div_def] at e;have:=uv (· * ((q.den:Int):Rat));simp only [Rat.mul_assoc,ÿ hd,Rat.mul_one] at this;exact this
theorem zyj{μ d:Int}(hμ:0<μ)(hd:0<d):T0≠0/\0<AY3/\μ∣AY3/\d∣AY3/\ (d.fdiv T0).natAbs<=d.natAbs/\ V_ T0<=d.natAbs:=by
 show SE g0 (Int.gcd μ d) (Fr (Int.gcd_eq_zero_iff.mp z).2)
 have gd:T0∣d:=AdJ;have gm:T0∣μ:=AdI;have e:=J2 gd;obtain⟨u,eu⟩:=gm;have gp:IJ< T0:=τ
 generalize T0=g at*;generalize d.fdiv g=t at*;have tp:0<t:=by
  show NR (Afc t)
  ·exact h
  ·have:=BEZ (τ:0<=g)
   omega
 show SI τ (Int.mul_pos hμ tp) UF (EJ u) ?_
 ·rw[eu,<- e];ac_rfl
 ·show AtD BGE
 ·show AtD BGC
theorem Bu{d:Int}(h:d∣27720):dU d<=15:=zM (AxM (Nat.le_of_dvd χ (Int.natAbs_dvd_natAbs.mpr h))) (oV χ)
theorem lcm_dvd{μ d n:Int}(hμ:0<μ)(hd:0<d)(h1:μ∣n)(h2:d∣n):AY3∣n:=by
 show SE g0 T0 (Fr (BEg (τ:Int.gcd μ d=0)))
 have e:=J2 (Int.gcd_dvd_right μ d);have e2:T0* (μ*d.fdiv T0)=T0* AF (Int.lcm μ d):=by
  rw[<- Int.natCast_mul,Int.gcd_mul_lcm,Int.mul_left_comm,e,Int.natCast_mul,BEc,BEc]
 rw[Int.eq_of_mul_eq_mul_left g0 e2];have:=Int.lcm_dvd (c:=n.natAbs) (Int.dvd_natAbs.mpr h1) (Int.dvd_natAbs.mpr h2);exact Int.ofNat_dvd_left.mpr this
theorem zuj(AX Uc):dy zli:=by
 show ņ m f hm hz;show SU (∃(μ:Int) (y:Slot),Γ= [.pu (oF m f),A4 μ,y]/\0<μ/\μ∣27720/\∀j,j<i ->j<m ->ì∣μ) ⟨1,_,rfl,AB,nv 27720,sD τ⟩
 ·rintro i d _ hi ⟨μ,y,rfl,hμ,bμ,hd⟩;have him:i<m:=qr SH this
  rw[Vg him] at hi;cases hi;have dp:IJ< (f i).den:=Fr (f i).den_pos
  obtain⟨g0,p1,p2,p3,p4,p5⟩:=zyj hμ dp;have zi:=Bu Ay8;have b4:=AU4 p4;have b5:=AU4 p5;have bμ' :=Bu bμ;refine⟨_,at1,_,at1,μ,(f i).den,rfl,yB g0,AK_,_,_,rfl,p1,lcm_dvd hμ dp bμ Ay8,ψ j hj hjm⟩
  show IP j i
  ·subst e;exact p3
  ·exact Int.dvd_trans (hd j ξ hjm) p2
 ·rintro _ ⟨μ,y,rfl,hμ,bμ,hd⟩;have el:BE AIf (C3 Ah')=m:=An
  rw[el] at hd;have bμ:=Bu bμ
  let g:dk:=C3 (IC (j<m) A0m)
  have gv:∀j,j<m ->g j=A0m:=fun j hj=>by show(AHM (j<m))=_;show DU hj
  have bt:∀j,j<m ->dU (μ.fdiv ì)<=dU μ:=fun j hj=>by
   refine Di ?_;have e:=AwW AyX;show ASO;rw[<- e];exact Nat.le_mul_of_pos_left _ (APS AqB)
  show II (ń m Ah');refine Yw (g:=C3 (.int (g j))) Aw6 (h μ g hμ (HQ j hj) ADX)
  ·have z:=hz j hj;have b:=bt j hj;refine⟨_,at0,_,at1,⟨Fr AqB,zM (Bu z.2) χ⟩,iE (by have:=z.1;omega),?_⟩
   show P [.int (AcB*μ.fdiv ì)];rw[<- gv j hj];exact hP
  ·rw[gv j hj];have e:=J2 AyX;obtain⟨n1,n2⟩:=z5q (f j);show ASs e' (Α μ) (ì* AF (μ.fdiv ì)) e.symm
   rw[Rat.intCast_mul,n1,e']
   grind
  ·by_cases hj:j<m
   ·rw[gv j hj];have:=Bl AcB (μ.fdiv ì);have:=bt j hj;have:=(hz j hj).1;omega
   ·show dU (IC (j<m) _)<=_;show AV hj;exact G1
theorem ztb(A4J)(F:mi α D)(Good:AGm α):∀{n s:Nat} {P:Mm},(Ax8 (AGK A0e i)) ->(A4T (Ax8 AqZ) (AWS s)) ->î (AWS s)
 | 0,s,P,_,h=>h (At default) fun i h1 h2=>τ
 | n+1,s,P,k,h=>by
  rw[List.range'_succ];refine k s ξ ξ _ (AM a ha)
  refine Azz (fun i h1 h2=>(AVL k))
  have:=h (xw (cq s a (as i))) fun i h1 h2=>by
   show IP i s
   ·subst e;simpa using ha
   ·simp only [AJ'];exact AVL has
  rw[List.range'_succ,List.map_cons,BU] at this;have e:AWS (s+1) (TU F (AC (i=s) a (as i)))=AWS (s+1) (ET (F i (as i))):=Arm (by
   have:=List.mem_range'_1.mp hi;show AV ξ)
  show dq;exact this
theorem zzo(A4J)(F:mi α D)(Good:AGm α){n:Nat}{P:Mm}(k:AEH (AGK A0e i))(h:A4T (∀i,CH ->AqZ) D8):î D8:=by
 rw[List.range_eq_range'];refine Azz (fun i _ h2=>k i ξ)
 rw[<- List.range_eq_range'];exact h as (NC (AVL has))
theorem yhk(AYY):A2k:=by
 show AVo (BE sj f) n (by
  show BFX;unfold uT;rw[Ω χ,kF]
  congr 1;omega)
 unfold nF;rw[e];exact Vg ξ
theorem Pk{z:Int}{e k:Nat}(h:z.natAbs<=(16*2^e)^k):dU z<=(e+4)*k+1:=by
 refine oV (zJ h ?_);rw[show De 16*2^e=2^ (e+4) by rw[Nat.pow_add,Nat.mul_comm],<- Nat.pow_mul]
 exact Nat.pow_lt_pow_right χ ξ
theorem zp6{f g:OU}(t:Rat):FG m Nat (∀j,j<m ->f j=t*g j) (eG m f=t*eG m g)
 | 0,_=>zS eG
 | m+1,h=>AUA eG (zp6 t (sD (h j ξ))) (h m ξ)
theorem z7i(AX Uh):Hn ztz 5:=by
 obtain⟨n,A,⟨rfl,hn,hz⟩,hE,hP⟩:=h;show NV;show II (kY (ABk (oF n (A i))) (ABk (qD (A i n))));rw[z0j];refine zzo (α:=dk) (E8 g (gH IE g)) (N9 g ((∀j,Ai5<=143)/\∃μ:Int,0<μ/\∀j,j<n+1 ->AvZ ADe)) Aw7 (HQ as has)
 ·refine⟨rfl,rfl,vy,?_,n+1,A i,?_,τ,sD (hz i j hi ξ),fun μ g h0 h1 h2=>hP g ⟨h2,μ,h0,h1⟩⟩
  ·show Υ (BE D8 (C3 (qD (A i j)))+1);simp only [List.length_map,List.length_range];omega
  ·show [D.lst ((D8 fun j=>qD (A i j))++ [qD (A i n)])]= [oF IE (A i)];unfold oF;show ACi List.range_succ;rfl
 change GI zm0 [A5W,Axs,.pu (nU n IE as),υ,υ]
 have ba:AoN as (2^143):=fun k hk j=>Nat.le_of_lt (K8 ((has k hk).1 j));have hμ:∃μ:OU,AEH (μ i≠0/\∀j,j<n+1 ->Α (as i j)=μ i*ADe):=by
  show YE (ET (ARa CH (AF ((has i h).2).choose) 1)) i hi;simp only [dif_pos hi];have sp:=((has i hi).2).choose_spec;show Đ (sD (sp.2 j hj));have:=sp.1;intro z;have:((has i hi).2).choose=0:=RY z
  omega
 obtain⟨μ,hμ⟩:=hμ;have el:BE D8 AkY=n:=An
 show(AdT<=zt D8 AkY/\_)/\Lc (DQ 0 (AJi (zt D8 AkY)) _ _);rw[el,Int.toNat_natCast];have mx:∀k,k<=13 ->(143+4)*k+1<=1912:=fun k hk=>τ
 have h1:1<=16*2^143:=Nat.mul_pos χ (Nat.pow_pos χ)
 refine AWt k (∃(d:Int) (tb:Mx) (rs:CF) (fs:AAP) (ix:WA) (y:Slot),Γ= [A5W,Axs,.pu (nU n IE tb),A4 d,y]/\AaD (BT n as k d)) ⟨1,as,_,_,_,_,rfl,z6i n as⟩
 ·rintro k _ hk ⟨d,tb,rs,fs,ix,y,rfl,bt⟩;have e0:AEl=CY k:=τ
  have bd:dU d<=1912:=zM (Pk (AhV ba ξ)) (mx k ξ)
  have be:AL6 (AK8 tb<=1912):=fun i j hi=>zM (Pk (AhW ba ξ h1 hi j)) (mx Fc ξ)
  refine⟨tb,n,n+1,k,?_,τ,hk,τ,Iy s hs hsn hne,Jn hall⟩
  ·show [nU n IE tb,.int AEl]=_;rw[e0]
  ·obtain⟨rs',fs',Mu,bt'⟩:=bt.step hs hsn hne;have sk:rC k s k=s:=by unfold rC;show We
   have et:nU n IE (CN k d (Ub k s tb))=nU n IE (nextT k s d tb):=zy6 fun i j _ _=>by
    unfold CN Ub nextT;rw[sk]
   refine⟨Ub k s tb,n,n+1,k,d,?_,hk,τ,bt.nz,zM bd χ,fun i j hi=>zM (be (rC k s i) j ?_) χ,?_⟩
   ·show [_,D.int (0+ Cc),_]=_;rw[e0]
   ·unfold rC;split
    ·exact hsn
    ·split<;>omega
   ·rw[et];refine⟨gH IE (AGR k),?_,.int (AGR k k),?_,tb s k,AGR,rs',fs',Mu,A4 AEl,?_,bt'⟩
    ·show nF (ABk (gH IE (AGR i))) AEl=_;rw[e0];exact Hl hk
    ·show nF (ń IE (D.int (AGR k j))) AEl=_;rw[e0];exact Hl ξ
    ·have:AGR k k=tb s k:=AeG nextT
     rw[this];rfl
  ·show CM x x1 hx bt.stuck hk hall;refine hE x k hk x1 ALr;have q:=hx r hr;rw[A9i (C3 (A r j*x j)) (by
    show Α (as r j)*x j=_;rw[AnM j ξ];grind)] at q
   show Ag1 q
   ·show Lm q (hμ r hr).1
   ·exact q
 ·rintro _ ⟨d,tb,rs,fs,ix,y,rfl,bt⟩;show SE d0 (Α d) (ATx bt.nz)
  have bd:dU d<=1912:=zM (Pk (AhV ba ξ)) (mx n ξ)
  have be:AL6 (AK8 tb<=1912):=fun i j hi=>zM (Pk (AhW ba ξ h1 hi j)) (mx IE ξ)
  have bd' :dU d<=147*n+1:=Pk (AhV ba ξ)
  have be' :AL6 (AK8 tb<=Iu n):=fun i j hi=>Pk (AhW ba ξ h1 hi j)
  have ex:AEH (fs i n=Α (tb i n)/ Α d):=NC (by
   rw[bt.t i hi n,Rat.div_def,Rat.mul_comm,<- Rat.mul_assoc,ÿ d0,Rat.one_mul])
  show AFi hs (Slv n A (TU fs n)) (by
   have q:=bt.sol hr n;have q' :Α (as r n)=eG n fun c=>Α (as r c)*fs c n:=q;rw[A9i (C3 (A r j*fs j n)) (kl (AnM j ξ)),AnM n ξ] at q'
   have m0:=(hμ r hr).1;have:=congrArg (NG ((μ r)⁻¹*z)) q';simp only [<- Rat.mul_assoc,ÿ m0,Rat.one_mul] at this;exact this)
  show II (G7 0 (ABk (gH IE (tb i))));rw[yau];refine Yw (g:=ET (qD (fs i n))) (rL i hi) (hP _ hs ⟨d,bt.nz,zM bd' BEU,NC ⟨tb i n,ex i hi,be' i n hi⟩⟩)
  refine⟨rfl,rfl,.int (tb i n),yhk,.int (tb i i),Hl ξ,tb i n,tb i i,rfl,zM (be i n hi) χ,zM (be i i hi) χ,?_⟩
  rw[bt.diag hi hi,Ω bt.nz,<- ex i hi];exact hp
theorem z6j(AT Ua):NL:=ef
theorem zou(AT Ui):NL:=ef
theorem zuk(a b:Str):ō (kO (HE a) (HE b)) (a=b):=by
 rw[Bool.eq_iff_iff];simp [kO]
theorem z7q(Aot):GS (l.map qD).flatMap d (match d with | ci a b=>Da (!(ω (q.num*b<a*q.den))) [d] [] | _=> [])=AH l.filter A1M qD:=by
 induction l with
 | nil=>rfl
 | cons x l ih=>
  rw[List.map_cons,List.flatMap_cons,ih,List.filter_cons,yew q x];show(AC (A2 (!(ω (q.num* AF x.den<x.num* X0)))) [qD x] [])++_=_;split<;>simp
theorem z7m(AX Ua):YN zud:=by
 obtain⟨qs,rfl,hl,hz,h⟩:=h;refine⟨G1,ANw (∃(l:AW) (x y:Slot),Γ= [OE (qs.map qD),.ow (l.map qD),x,y]/\l=(qs.take i).foldl tW []/\l.Perm (qs.take i)),⟨[],_,_,rfl,rfl,An⟩,?_,?_⟩
 ·rintro i d _ hi ⟨l,x,y,rfl,hl',hp⟩;show AdA hi;cases q:qs[i]? with
  | none=>show IQ q hi hi
  | some a=>
   rw[q] at hi;cases hi;have hil:i<qs.length:=ID q;have llen:l.length=i:=ACw hp.length_eq List.length_take
   have lz:∀o∈l,KM o:=fun o ho=>hz o (List.mem_of_mem_take (hp.mem_iff.mp ho));have az:KM a:=hz a (yV q);refine zoj (AG d (match d with | ci u v=>Da (!(ω (a.num*v<u*a.den))) [d] [] | _=> [])) ?_ ?_
   ·intro x hx P hP;show ku o ho hx;show SI a o rfl az (lz o ho);show O_ (!(ω (a<o)));rw[yew];have hP' :P (Da (!(ω (a.num* AF o.den<o.num* AF a.den))) [qD o] []):=hP;split
    ·rename_i hc;rw[AZ hc] at hP';exact hP'
    ·rename_i hc;rw[Ω hc] at hP';exact hP'
   ·rw[z7q];show BB trivial CO;show EU;have hc:=yg1 a l;refine⟨τ,by rw[List.length_map];exact_mod_cast hc,AhE yM,tW l a,ŵ a,A4 (cnt a l),?_,?_,?_⟩
    ·show [_,Slot.ow (Lf (l.map qD) (AJi (AF (cnt a l))) (qD a)),_,_]=_;unfold Lf tW;rw[Int.toNat_natCast,List.map_append,List.map_cons,List.map_take,List.map_drop]
     rfl
    ·rw[List.take_add_one,q,List.foldl_append,<- hl'];rfl
    ·rw[List.take_add_one,q];refine FE zsj l a ?_;refine(hp.cons a).trans ?_;exact List.perm_append_singleton a _ |>.symm
 ·rintro _ ⟨l,x,y,rfl,hl',hp⟩;have e:l=Fe qs:=by rw[hl',List.length_map,List.take_length];rfl
  subst e;exact h
theorem zo0(AX Ui):Hn zgs 1:=by
 show D' r rfl h;show CI (A0 vY)
 rw[zuk];show O_ (ω (r=Fl));split
 ·rename_i e;show ADT Ē;exact h
 ·rename_i e;rw[Ω Ē] at h;exact h
theorem z7j(AT Uj):C9:=E7
theorem zz3(AT Uk):NL:=ef
theorem z2q(AT Ul):kN:=eS
theorem ydf(AT MJ):NL:=ef
theorem zo6(AT Um):C9:=E7
theorem Pn(f:Str)(d:D):ρ (m7 [f] [d] f) d:=AeG m7
theorem zt0(xs:Β){k:Nat}(h:k<=xs.length):cutD xs (BO Cc) none=xs.drop k:=by
 have e1:(AC (Cc<0) (Cc+ Ă).toNat (min (Cc).toNat xs.length))=k:=by show AV ξ;omega
 show AFN;simp only;rw[e1,List.take_of_length_le Μ]
theorem zwu{ps:EK}(h:v6)(hl:Ag6):By vG ps:=by
 unfold vG;rw[BDz,Bool.true_and];clear hl;induction ps with
 | nil=>rfl
 | cons a t ih=>
  cases t with
  | nil=>rfl
  | cons b t=>
   obtain⟨⟨h1,h2⟩,h3⟩:=h;show By (Hg a b::List.zipWith Hg (b::t) t).all id;rw[List.all_cons];have hc:Hg a b=true:=by
    unfold Hg;have:¬b.2<a.2:=F7
    simp [h1,this]
   have h4:=ih h3;have h5:By (List.zipWith Hg (b::t) t).all id:=h4;rw[h5];simp [hc]
theorem z9o(AX Uj):MM ztd:=by
 show ņ a b za zb;refine⟨_,at0,_,at0,a.1,b.1,rfl,za.1,zb.1,?_⟩;show A_ Hg;cases e:At4 with
 | false=>rw[e] at h;exact h
 | true=>
  rw[e] at h;exact⟨_,at1,_,at1,b.2,a.2,rfl,zb.2,za.2,h⟩
theorem zsv{one:AAq}(g:Pt ->Pt ->D):∀{as bs:EK} {P:Mm},(iO (MV bs (∀P,P [g a b] ->one (FA [pD a,pD b]) P))) ->P A5T ->bR one (kY (as.map pD) (bs.map pD)) P
 | [],_,_,_,h=>h
 | A8,[],_,_,h=>h
 | a::as,b::bs,P,k,h=>k a zV b zV _ (zsv g (fun x hx y hy=>k x (zU _ hx) y (zU _ hy)) h)
theorem zw9(g:Pt ->Pt ->Bool):∀(as bs:EK),ρ (sO A_X) A5T
 | [],_=>rfl
 | A8,[]=>rfl
 | a::as,b::bs=>Aga sO A_X (zw9 g as bs)
theorem zz1(AX Uk):Hn znw 1:=by
 show L7 ps rfl hz h;show A_ vG;show(XE (D.bl (decide (Qb< zt ps.map pD))) i9 _ ADK _)
 show EU;by_cases hl:1<ps.length
 ·show ą (τ:Qb< BDe)
  rw[BDz,Bool.true_and] at h;show II AyJ;have e1:AXQ ps.map pD ij=AH ps.drop 1 pD:=AE List.map_drop (zt0 (ps.map pD) (k:=1) (by show EU;omega))
  rw[e1];refine zsv (fun a b=>D.bl (Hg a b)) (fun a ha b hb P hp=>⟨rfl,rfl,a,b,rfl,hz a ha,hz b (List.mem_of_mem_drop hb),hp⟩) (BY (zw9 Hg _ _) ?_);rw[List.drop_one];exact h
 ·show Ą (τ:¬Qb< BDe)
  rw[decide_eq_false hl] at h;exact h
theorem yec(A2f MJ):zfq K c (AHx (fun Γ=>zee K c Γ AZS SZ) L8) (aH 2 AIp) SZ:=by
 show L7 ps rfl hz h;show Fh ps rfl hz;cases e:vG ps with
 | true=>
  rw[e,BU] at h;exact ASu
 | false=>
  rw[e,UC] at h;exact⟨vy,h⟩
theorem z0s(AX Ul):YN zpm:=by
 obtain⟨l,r,x,rfl,zl,zr,zx,hlt,h⟩:=h;have s1:=Oz zx zl.1;have s2:=Oz zr.2 zl.2;have s3:=Oz zr.1 zl.1;have s4:=ya1 s1 s2;have hn:AMH≠0:=F7
 refine⟨_,at0,x,l.1,rfl,Ae9,XB zl.1,_,at1,_,at1,r.2,l.2,rfl,XB zr.2,XB zl.2,x - l.1,r.2 - l.2,rfl,s1.up χ,s2.up χ,?_⟩
 refine⟨_,at1,_,at0,_,at0,Ν,l.1,rfl,XB zr.1,XB zl.1,An7,AMH,rfl,s4.up χ,s3.up χ,?_⟩
 show AV hn;exact⟨l.2,An7/ ALg,rfl,XB zl.2,(z0o s4 s3 hn).up χ,h⟩
theorem z3a:∀{ps:EK} (i:Nat),v6 ->Gd (ps.drop i)
 | [],i,_=>by rw[List.drop_nil];trivial
 | ps,0,h=>h
 | a::t,BQ,h=>by
  rw[List.drop_succ_cons];refine z3a i ?_;cases t with
  | nil=>trivial
  | cons b t=>exact h.2
theorem zyg{ps:EK}{i:Nat}(h:Ag7):ps.drop i=LN::AKq::ps.drop (i+2):=FF BEb BDi
theorem yiu{ps:EK}{i:Nat}(h:Ag7)(hg:v6):LN.1<ALV/\LN.2<=AKq.2:=AaQ (z3a i hg) (zyg h) this.1
theorem z23{ps:EK}{i:Nat}{x:Rat}(h:Ag7):Art (if x<ALV then v9 LN AKq x else wg (ps.drop B2) x):=f_ (zyg h) BDi
theorem zof:∀{ps:EK} (h:0<ps.length),Br ps=ps[ASy]
 | [p],_=>rfl
 | a::b::t,_=>by
  show Br (b::t)=_;rw[zof (ps:=b::t) Μ]
  simp
theorem yc3(ps:EK)(h:0<ps.length):tF ps.map pD F6 (pD (Br ps)):=by
 unfold nF;show AVo Ati (ps.length - 1) (by
  unfold uT;show ACh AR2 kF
  congr 1;omega)
 rw[e];show ALA[ASy]?=_;rw[List.getElem?_map,ASq,zof h]
 rfl
theorem yh1{ps:EK}{i:Nat}(h:i<ps.length):tF ps.map pD K_ (pD LN):=AxW
theorem zos(AX Um):YN zg2:=by
 obtain⟨ps,x,rfl,hl,hg,hz,zx,h⟩:=h;have z4:∀{i:Nat} (hi:i<ps.length),Fo 300 LN:=fun hi=>hz _ (yU hi);have h0:0<ps.length:=τ
 refine⟨rfl,_,ACv,_,yh1 h0,_,at0,ps[0].1,x,rfl,XB (z4 h0).1,Ae9,?_⟩
 have hd:ps=ps[0]::ps.drop 1:=fw (List.drop_eq_getElem_cons (l:=ps) (i:=0) h0) List.drop_zero
 show O_ (!(ω (ps[0].1<x)));by_cases hx:ps[0].1<x
 ·show Ĕ hx
  have eW:wg ps x=vC ps x:=zyn hg (P_ (by
   rw[hd] at hp;cases hp;exact Rat.le_of_lt hx))
  refine⟨rfl,_,ACv,rfl,_,ACv,?_⟩;have e1:AXQ ps.map pD ij=AH ps.drop 1 pD:=AE List.map_drop (zt0 (ps.map pD) (k:=1) (by show EU;omega))
  show CI ?_
  ·rintro⟨e,_⟩;have:HT.sIx Ati 0 (some 1)=1:=by
    unfold HT.sIx;show EU;simp only;show dl
    have:(Qb).toNat=1:=rfl;omega
   rw[this] at e;cases e
  show nZ AyJ _ _ _ _ _;rw[e1];have zl:(kY ALA (AH ps.drop 1 pD)).length=ASy:=by
   unfold kY;rw[List.length_zipWith,List.length_map,List.length_map,List.length_drop];omega
  show SU (∃(u v:Slot),Γ= [MQ,ŵ x,u,v]/\Art (wg ps x)) (ADu (MG List.drop_zero))
  ·rintro i d _ hi ⟨u,v,rfl,hw⟩;have hil:BQ<ps.length:=by
    have:=SH;show Ap zl;omega
   have hi2:ρ (some d) (FA [pD LN,pD AKq]):=by
    rw[<- hi];unfold kY;rw[List.getElem?_zipWith,List.getElem?_map,List.getElem?_map,List.getElem?_drop,ASq,Nat.add_comm 1 i,VM hil]
    rfl
   cases hi2;refine⟨rfl,rfl,_,at0,x,ALV,rfl,Ae9,XB (z4 hil).1,?_⟩
   rw[z23 hil] at hw;show O_ (ω (x<ALV));by_cases Yx:x<ALV
   ·show uk Yx
    rw[AZ Yx] at hw;refine⟨LN,AKq,x,rfl,z4 ξ,z4 hil,zx,(yiu hil hg).1,?_⟩
    rw[hw,eW];exact h
   ·show Ĕ Yx
    rw[Ω Yx] at hw;exact ADu hw
  ·rintro _ ⟨u,v,rfl,hw⟩;rw[zl,BEb,List.drop_of_length_le ξ] at hw
   refine⟨rfl,_,ACv,_,yc3 ps h0,_,at1,?_⟩;rw[zof h0];have:ps[ASy].2=wg ps x:=hw;rw[<- eW,<- this] at h;exact h
 ·show uk hx
  refine⟨rfl,_,ACv,_,yh1 h0,_,at1,?_⟩;have:vC ps x=ps[0].2:=by
   generalize ps[0]=p0 at*;rw[hd] at hg⊢;exact z9k hg hx
  rw[this] at h;exact h
theorem ych(UV):AwQ rD:=dr rD List.length_reverse z1u
theorem yb1{qs:AW}{q:Rat}(h:q∈rD qs):q∈qs:=(zru qs).mem_iff.mp (List.mem_reverse.mp h)
theorem Pr(Ayx):l.getD i d=l[i]:=A0 h
theorem Yo(Ayx):l.getD i d∈l:=AE (Pr h) (yU h)
theorem z6x(UV):Fall (rD qs):=by
 intro i j hij hj;have hi:i< BE rD qs:=τ
 rw[Pr hj,Pr hi];unfold rD at*;rw[List.getElem_reverse,List.getElem_reverse];show IP i j
 ·subst e;exact Rat.le_refl
 ·rw[List.length_reverse] at hj;exact List.pairwise_iff_getElem.mp (yeh qs) _ _ ξ ξ ξ
theorem zmo{α β:Type}(f:AS_):Ò (GS l.flatMap x [f x]=l.map f)
 | []=>rfl
 | ADZ=>f_ List.flatMap_cons zmo
theorem zws{α:Type}(f:vF):AvH AsJ
 | []=>rfl
 | ADZ=>Aga sO AsJ zws
theorem z4k(f:AW):(jh f).getD (BE jh f - 1) 0=f.length/\0< BE jh f:=by
 show Đ (by unfold jh;simp)
 cases hn:f.length with
 | zero=>unfold jh;rw[hn];rfl
 | succ n=>
  have e:jh f=(0::((List.range n).filter (Fp f)).map (· +1))++ [n+1]:=by
   unfold jh;rw[hn,List.range_succ,List.filter_append,List.filter_cons,if_pos (by unfold Fp;simp [hn])]
   simp
  rw[e,List.length_append,List.length_singleton,Nat.add_sub_cancel,List.getD_eq_getElem?_getD,Aiz];simp
theorem zvd(AT O6):C9:=E7
theorem z4q(AT Ur):kN:=eS
theorem ycr(AT MK):C9:=E7
theorem z9e(AT O7):NL:=ef
theorem zra(AT Us):C9:=E7
theorem ygd(AT Ut):NL:=ef
theorem zon(AT Uu):C9:=eS
theorem zno(AT Uv):C9:=eS
theorem ygc(AT Uw):C9:=E7
theorem Pu(Amt)(f:ADl)(p:vF):∀{l:AI} {P:Mm},(AAT (AGK (AC è (P [f a]) X_) a)) ->P (AtP f) ->î l.map
 | [],_,_,h=>h
 | D4,P,k,h=>by
  refine k a zV _ ?_;show EZ è
  ·show DU q;rw[List.filter_cons,E6] at h;exact Pu f p AQd h
  ·show AV q;rw[List.filter_cons,JI] at h;exact Pu f p AQd h
theorem Vh(G_){one:AAq}(f g:ADl):AsF (AGK (P [g a]) a)
 | [],_,_,h=>h
 | D4,P,k,h=>A6z Vh
theorem zvq(AX O6):MM zle:=by
 show ALO x b;show SB _;show Da (ω (b.1<=x)) (∃d,ρ (nF [D.int b.1,.int b.2] 1) d/\_) _;show EZ (b.1<=x)
 ·show uk q
  show SB _;show Awe (ō (uW b x) (x<=b.2))
  rw[e] at h;exact h
 ·show Ĕ q
  show Awe (uW b x=false)
  rw[e] at h;exact h
theorem yfv(G_)(l:AI)(f:vF):(l.map f).any id=l.any f:=BEi
theorem z20(AX Ur):dy zpu:=by
 obtain⟨S,l,b,rfl,h⟩:=h;show ATz S.map;refine Pu D.int (AG e Ar_) (rL e he) h;show ATz l.map;refine Vh D.int (AG s (.bl (uW b (e - s)))) (fun s hs P' hp' =>(IB (e - s) b hp')) ?_;show BB (l.map fun s=>AcR) (zws _ l);rw[yfv];show Da (l.any fun s=>AcR) AfD X_;split
 ·show AVA
 ·show AVB
theorem MP(AYY):A2k:=by
 unfold nF;show AVo (BE sj f) n (by
  unfold uT;show AH3 List.length_range AR2 kF
  congr 1
  omega)
 rw[e];show(sj f)[n]?=_;rw[List.getElem?_map,List.getElem?_range ξ];rfl
theorem ycf(AX MK):YN zx7:=by
 show Bn S bs hl h h;show NV;show BB vy vy
 show SU (∃x,Γ= [AkP,AK0,.ow (ń B2 (pq (rk S bs j))),x]) CO
 ·show AMe x;show On bs.length (Oy SH)
  show eh;cases hi;have eb:bs.getD i g6=bs[i]:=A0 hi'
  refine⟨CO,CO,_,MP,S,Aja,bs[i],rfl,?_⟩;show BB BGh Atb
  show [AxZ,AK0,.ow (_++ [pq (vD S (rk S bs i) bs[i])]),Atb]=_;rw[BFK BQ,List.map_append,<- eb]
  rfl
 ·show ACm x;show EU;exact h
theorem z72(A2f O7):zev K c (aH 2 AIp) AZS SZ:=by
 show D' ls rfl h;show II (ls.map pq);exact Vh pq pq (af l hl hp) ASu
theorem zry(AX Us):MM zh3:=by
 show ņ m qs hm hz;show II (qs.map qD);refine Pu qD (AG x (!(ω (x<m)))) (af x hx ⟨x,m,rfl,hz x hx,hm,?_⟩) ?_
 ·show Da (!(ω (x<m))) (P [qD x]) X_;split
  ·show AVA
  ·show AVB
 ·show Q (B5 (De (BE (AH qs.filter _) qD)));show EU;exact h
theorem z47{x:Rat}{xs:AW}(h:Fall (FM)):Fall xs/\BGs (Aft<=x):=
 ⟨AMV (A1c B2),sD (A1c 0)⟩
theorem zx2{m:Rat}:FG xs AW (∀j,Ad8 ->Aft<m) (iV xs m=0)
 | [],_=>rfl
 | FM,h=>by
  unfold iV;have h0:=h 0 Μ
  rw[List.filter_cons,Ω (BH h0)]
  exact zx2 fun j hj=>(qr (h Ü AQC) this)
theorem Px{m:Rat}:FG f AW (Fall f) (∀j,j<f.length ->(m<=f.getD j 0↔j<iV f m))
 | [],_,j,hj=>by simp at hj
 | FM,hf,j,hj=>by
  show Cn h1 h2 z47 hf;show EZ (m<=x)
  ·have e:iV AEt m=iV xs m+1:=ALD iV List.filter_cons (AZ AxT)
   rw[e]
   match j,hj with
   | 0,_=>simpa using q
   | j+1,hj=>
    have:=ADH m h1 j AQC
    rw[List.getD_cons_succ,this];omega
  ·have lt:BGs (Aft<m):=fun j hj=>Rat.not_le.mp (Ξ (q (Rat.le_trans z (h2 j hj))));have e:iV AEt m=0:=by
    unfold iV;rw[List.filter_cons,Ω AxT]
    exact zx2 lt
   rw[e]
   match j,hj with
   | 0,_=>simpa using q
   | j+1,hj=>
    have:=lt j AQC
    rw[List.getD_cons_succ];constructor
    ·intro z;exact TC this Rat.not_lt.mpr z
    ·intro z;omega
theorem z0n(f:AW)(m:Rat):iV f m<=f.length:=F_ iV Adn
theorem zxb{a b:AW}(h:a.Perm b)(m:Rat):iV a m=iV b m:=F_ iV (h.filter _).length_eq
theorem zrs(UV):(rD qs).Perm qs:=AKz List.reverse_perm (zru qs)
theorem z6r{f:AW}(hf:Fall f)(e:Nat):e∈jh f↔e=0\/∃m∈f,e=iV f m:=by
 unfold jh;rw[List.mem_cons];refine or_congr_right ?_;rw[List.mem_map];constructor
 ·show ACl k hk;show AiQ hk;have hk:=List.mem_range.mp h1;show BB AVJ (Yo hk);have a:=(ADH AVJ hf k hk).mp Rat.le_refl;have le:=z0n f (f.getD k 0);unfold Fp at h2;simp only [Bool.or_eq_true,decide_eq_true_eq] at h2;rcases h2 with h2 | h2
  ·omega
  ·show EZ (k+1<f.length)
   ·have:¬k+1<iV f (f.getD k 0):=Ξ (Rat.not_le.mpr h2 ((ADH AVJ hf Fc q).mpr z));omega
   ·omega
 ·show ACl m hm;show ve i hi hm;have hi' :=(ADH f[i] hf i hi).mp (Lv Pr hi Rat.le_refl)
  have le:=z0n f f[i];show DB (AVF - 1) (zA.mpr (EJ (List.mem_range.mpr ξ))) τ
  unfold Fp;show BDR Bool.or_eq_true;show EZ (iV f f[i]=f.length)
  ·left;omega
  ·right;rw[O0 (AVF - 1+1) AVF]
   have a:¬f[i]<=f.getD (iV f f[i]) 0:=Ξ (Ņ ((ADH f[i] hf (iV f f[i]) ξ).mp z))
   have b:=(ADH f[i] hf (AVF - 1) ξ).mpr ξ
   exact Rat.not_le.mp (Ξ (a (Rat.le_trans b z)))
theorem vH{qs:AW}{i:Int}:i∈gM qs↔i∈AoT:=by
 unfold gM;rw[List.mem_map,List.mem_cons,List.mem_map];have key:=z6r (z6x qs);constructor
 ·show ACl e he;rcases(key e).mp he with rfl | ⟨m,hm,rfl⟩
  ·left;rfl
  ·right;exact⟨m,yb1 hm,GV (zxb (zrs qs))⟩
 ·rintro(rfl | ⟨m,hm,rfl⟩)
  ·exact F9 0 ((key 0).mpr Pe)
  ·exact F9 (iV qs m) ((key _).mpr (CA ⟨m,(zrs qs).mem_iff.mpr hm,(zxb (zrs qs) m).symm⟩))
theorem z1l(UV):(gM qs).Pairwise (· < ·):=by
 unfold gM jh;show ART List.pairwise_cons List.map_map;show CI AkL
 ·show ACk k (zB.mp hi);show IJ<Int.ofNat (k+1);exact Int.ofNat_lt.mpr (Nat.succ_pos k)
 ·rw[List.pairwise_map];refine(List.Pairwise.filter _ (List.pairwise_lt_range)).imp fun{a b} h=> ?_;show Int.ofNat (a+1)<Int.ofNat (b+1);exact Int.ofNat_lt.mpr ξ
theorem zk0:∀l:Φ,ρ (lD Ae0) l
 | []=>rfl
 | n::l=>Aga lD Ae0 zk0
theorem yhi(AX Ut):Hn z4e 1:=by
 obtain⟨qs,rfl,hl,hz,h⟩:=h;show NV;show CI vy
 show II (qs.map qD);refine Vh qD (AG m (.int (iV qs m))) (af m hm ⟨m,qs,rfl,hz m hm,hz,hp⟩) ?_;show CI (by show Υ (1+ BE qs.map (fun m=>D.int (iV qs m)));show EU;omega)
 show DC AoT ?_ ?_ (ψ ms hp hm)
 ·have:=zk0 (AoT);show XG List.map_cons List.map_map;exact this
 ·show Aa8 List.length_map;omega
 ·obtain rfl:ms=gM qs:=z28 hp (z1l qs) (ET ((hm i).trans vH.symm));exact h
theorem yfz(bs:GU):(bs.map Fq).reverse=bs.reverse.map Fq:=MG List.map_reverse
theorem ydh(AYY):(sj f).reverse=sj (ET (f (n - i))):=by
 show UI
 ·simp
 ·show wS;simp only [List.length_reverse,List.length_map,List.length_range] at h1;rw[List.getElem_reverse];simp
theorem Vi(xs:Β):cutD xs ij none=xs.drop 1:=by
 show AFN;dsimp only;show dl
 cases xs with
 | nil=>rfl
 | cons x xs=>
  rw[AQD (min (AJi 1) (Ps AEt)=1)]
  simp
theorem zyl(AYY):(sj f).drop 1=D8 (ET (f (BQ))):=by
 rw[List.range_succ_eq_map,List.map_cons,List.drop_one,List.tail_cons,List.map_map]
 rfl
theorem zo5(AX Uu):YN zgu:=by
 obtain⟨S,n,bs,rfl,hl,hn,h⟩:=h;show II (S.map D.int).reverse;rw[<- List.map_reverse];refine Vh D.int (AG e (.int AEc)) (af e he (BY hn hp)) ?_;have eb:(S.reverse.map fun e=>D.int (n - e))=(jZ S n).map T_:=AUW jZ List.map_map
 rw[eb];show MK c [pq (jZ S n),.lst (bs.map Fq).reverse] (AG d (GI zfp [AkP,AK0,.pu (pq (jZ S n)),.pu d])) Ex;rw[yfz];refine EG (jZ S n) bs.reverse (AE List.length_reverse hl) ?_
 rw[List.length_reverse];show Q (BV (cutD (AKH _).reverse ij none));rw[Vi,ydh,zyl];exact h
theorem yhr{n:Nat}(f g:pe):A'm:=by
 unfold kY;show UI
 ·simp
 ·show wS;simp
theorem yhs(bs:GU):bs.map Fq=ASL (dE (Fq (bs.getD k g6))):=by
 show UI
 ·simp
 ·show wS;show AdH h1;simp [h1]
theorem yai:∀l:Φ,gb (l.map D.int)
 | []=>A0 gb
 | i::l=>by
  show ACj;unfold gb;exact⟨A0 jw,yai l⟩
theorem yfc(x:Int)(l:Φ):inD (B5 x) (l.map T_)=l.contains x:=by
 unfold inD;rw[List.any_map,<- List.any_beq']
 congr 1
theorem yfm(l:Φ):By (l.map D.int).all Dj:=QY List.all_map List.all_eq_true ATI
theorem znm(AX Uv):Hn zgd 6:=by
 obtain⟨S,n,bs,rfl,hl,hn,nS,hg,h⟩:=h;show NV;show CI vy
 refine⟨S,n,bs,rfl,hl,hn,?_⟩;show nZ (kY (bs.map Fq) A4p) _ _ _ _ _;rw[yhs,yhr];show Fh (fun k Γ=>∃x y z,Γ= [AkP,AK0,.ow (P3 (KE Fc) j (fk S n bs j)),x,y,z]) Awp ?_
 ·rintro k d _ hk ⟨x,y,z,rfl⟩;have hk' :k<bs.length:=by
   have:=ID hk
   rwa [List.length_map,List.length_range] at this
  show AGz (List.getElem?_range hk') hk;cases hk;show SB rfl;show ATz S.map;refine Pu D.int (AG e (uW AFu AT9)) (af e he ⟨_,MP,e - AHt,bs.getD k g6,rfl,?_⟩) ?_
  ·show if uW AFu AT9=true then AfD else X_;split
   ·show AVA
   ·show AVB
  show BB (yai _) CO;show ATz (AH S.filter (QQ (uW AFu AT9)));refine Pu D.int (AG e A8') (af e he (EG _ hn (yfm _) ?_)) ?_
  ·show Ac9 inD (B5 AEc) ((rk ABs bs.reverse AIF).map .int) AfD X_;rw[yfc];split
   ·show AVA
   ·show AVB
  obtain⟨m1,m2⟩:=ygw nS hg hk';have mm:∀e,e∈ ((S.filter (QQ (uW AFu AT9))).filter fun e=>A8')↔e∈AW0:=fun e=>by
   rw[List.mem_filter,List.mem_filter,tY,List.contains_iff_mem,zu6,and_assoc]
  refine⟨_,ADx,zk0 _,(mm _).mpr m1,NC (m2 i ((mm i).mp hi)),BGh,?_⟩
  show∃x y z,_= [AxZ,AK0,.ow (ń (k+1+1) (D.int (AGp j))),x,y,z];show ACi (BFK (k+1));exact Awp
 ·rintro _ ⟨x,y,z,rfl⟩;show BFX;show Q (BV (cutD (AKH _) ij none));rw[Vi,zyl];have e:ASL (ET (D.int (AGp B2)))=AH (KE bs.length) (dE ADx) T_:=Ģ
  rw[e];exact h
theorem Ke(UV):IJ∈gM qs:=vH.mpr zV
theorem zum(UV):Last (gM qs) qs.length/\ sg∈gM qs:=by
 show ô e1 (z4k (rD qs));rw[ych] at e1;have hlt:AXS - 1< AXS:=τ
 rw[Pr hlt] at e1;show CI ?_
 ·unfold Last nF gM;show AVo (BE (AH (AH jh AAQ) Int.ofNat) D.int) (AXS - 1) (by
   unfold uT;show Agh AR2 kF
   congr 1
   omega)
  rw[e];show(AH (AH jh AAQ) Int.ofNat D.int)[AXS - 1]?=_;rw[List.getElem?_map,List.getElem?_map,VM hlt,e1]
  rfl
 ·unfold gM;rw[List.mem_map];exact F9 qs.length (A7 e1 (yU hlt))
theorem yb6(AYc):(rk ATK bs bs.length).contains sg=qF qs bs:=by
 unfold qF;have:=z0h (bs:=bs) (Ke qs) (zum qs).2;rw[Bool.eq_iff_iff,List.contains_iff_mem,List.contains_iff_mem];exact this
theorem ygb(AX Uw):YN z3u:=by
 obtain⟨qs,bs,rfl,hl,hz,hb,h1,h2⟩:=h;refine⟨qs,rfl,hl,hz,gM qs,bs,rfl,hb,?_⟩;show∃d,tF AKH (ET (pq (rk (gM qs) bs i))) F6 d/\_;refine EG _ MP (yfm _) ?_;show O_ (! inD (B5 Au8) ((rk ATK bs bs.length).map T_));show ACh yfc yb6;by_cases g:Azp
 ·rw[D_ (ADd g)]
  show Cn k1 k2 zum qs;exact⟨gM qs,qs.length,bs,rfl,hb,k1,k2,List.contains_iff_mem.mp g,h1 g⟩
 ·have g' :qF qs bs=false:=AN g
  rw[if_pos (GV g')]
  show DC vy (AKH fun i=>rk (gM qs) bs i) Ģ (h2 g')
structure adU (π):Prop where
 ok:zf K c.fj
 okG:Cp K c.fj
 okV:VE K c.fj
 f1:A2 (mO K c.fj c.fG)
 f2:A2 (mO K c.fj c.fj)
 f3:Hk (mO K c.fj c.jq)
 f4:Hk (mO K c.fj c.Open)
theorem zk3(AT Uz):C9:=E7
theorem znu(AT UG):C9:=E7
theorem yf3{qs:AW}{c:Nat}(h0:0<c)(hc:ArN):tF (AH Fe qs) qD (-(AF c)) (qD ((rD qs).getD ASw 0)):=by
 have hl:=z1u qs;unfold nF;have e:ρ (uT (BE (AH Fe qs) qD) (-(AF c))) (qs.length - c):=by
  unfold uT;show AH3 hl UO kF
  congr 1;omega
 rw[e];show(AH Fe qs qD)[qs.length - c]?=_;rw[List.getElem?_map,ASq]
 unfold rD;have h2:c - 1< (Fe qs).reverse.length:=ACw List.length_reverse hl
 rw[Pr h2,List.getElem_reverse];simp only [hl,Option.map_some,O0 (qs.length - 1 - ASw) (qs.length - c)]
theorem zvu(xs:Β)(h:0<xs.length):cutD xs none (some F6)=xs.dropLast:=by
 show AFN;simp only [List.drop_zero,Nat.sub_zero];rw[AZ χ,List.dropLast_eq_take]
 congr 1;omega
theorem zk5(AX Uz):dy zex:=by
 obtain⟨qs,cs,rfl,hl,hz,hc0,hc,h⟩:=h;refine⟨qs,rfl,hl,hz,?_⟩;show II (cutD (cs.map intD) none (BO F6));rw[zvu _ (B4 List.length_map hc0),<- List.map_dropLast]
 have key:∀d∈cs.dropLast.map intD,∀P,P [ApM] ->Ea (hName 0) cQ A2h [υ,OE (AH Fe qs qD)] d P:=by
  intro d hd P hp;show ku k hk hd;have hk' :=hc k (List.dropLast_subset _ hk);show O_ (ω (IJ< Cc))
  change P [AP3 (AJi Cc)] at hp
  rw[Int.toNat_natCast] at hp;by_cases h0:k=0
  ·subst h0;show dl
   exact hp
  ·rw[if_pos (by simp;omega)]
   show kP (yf3 ξ hk')
   unfold Fw at hp;rw[Ω h0] at hp;exact hp
 refine zoj (AG d [ApM]) key ?_
 rw[zmo,List.map_map];have e:(fun d:D=>ApM) ∘ intD=dE (AP3 k):=by
  funext k
  show bD (Fw (rD qs) (AJi Cc))=_;rw[Int.toNat_natCast]
 rw[e];have e2:GS cs.dropLast.map k (AP3 k)=AH cs.dropLast.map Azl bD:=Ģ
 rw[e2];exact h
theorem zkx{α:Type}{p:vF}:∀{l:AI} {i:Nat},(∀j b,j<i ->Fk l b ->Si p b) ->(IY (CS l b) (By p b)) ->i<=l.length ->l.findIdx p=i
 | [],i,_,_,h=>by simp at h;subst h;rfl
 | ADZ,0,_,h2,_=>f_ List.findIdx_cons (h2 x rfl)
 | ADZ,BQ,h1,h2,h3=>by
  rw[List.findIdx_cons,h1 0 x ξ rfl]
  show l.findIdx p+1=BQ;rw[zkx (fun j b hj hb=>h1 Ü b ξ hb) (iS (h2 b hb)) (BH h3)]
theorem zn3(AX UG):YN zgb:=by
 show ņ bs m hz hm;show SU (∃(x y:Slot),Γ= [OE (bs.map bD),ŵ m,x,y]/\∀j b,j<i ->Fk bs b ->Auv) (ADu (fun j b hj=>τ))
 ·rintro i d _ hi ⟨x,y,rfl,hn⟩;show AJf Xp hi;cases q:bs[i]? with
  | none=>show IQ q hi hi
  | some b=>
   rw[q] at hi;cases hi;have hil:i<bs.length:=ID q;have next:Auv ->∀j b',j<BQ ->Fk bs b' ->isIn m b' =false:=fun hb j b' hj e=>by
    by_cases ej:j=i
    ·subst ej;show Pf;cases e;exact hb
    ·exact hn j b' ξ e
   show SB rfl;cases b with
   | none=>exact ADu (next rfl)
   | some p=>
    show SI m p rfl hm (hz _ (yV q) p rfl);show O_ (!(ω (m<p)));by_cases hw:A2 (!(ω (m<p)))
    ·show DU hw;show Q (B5 (CY (0+i)));have e:wj bs m=i:=zkx hn (fun b' hb' =>by rw[q] at hb';cases hb';exact hw) ξ
     rw[e] at h;rw[Nat.zero_add];exact h
    ·show AV hw;exact ADu (next (by simpa [isIn] using hw))
 ·rintro _ ⟨x,y,rfl,hn⟩;show Q (B5 (zt bs.map bD));rw[Xo] at hn;rw[List.length_map] at hn⊢;have e:wj bs m=bs.length:=zkx hn (iS (by simp at hb)) (zL _)
  rw[e] at h;exact h
abbrev FN(Q:ARv):qR:=Amr (HJ Q)
theorem zug{x:Str}:∀{g:ο},ō AyG ADQ
 | []=>A0 inD
 | y::g=>by
  have ih:=zug (x:=x) (g:=g);unfold inD at ih⊢;show ART List.any_cons ih;by_cases h:y=x
  ·subst h;simp [Xl]
  ·have h' :¬x=y:=Ξ (h z.symm);simp [Xl,h,h']
theorem z12(g:ο):By (g.map D.str).all Dj:=AE List.all_map (List.all_eq_true.mpr fun _ _=>rfl)
theorem zpy{α:Type}(f:vF):AvH (l.map fun x=> .bl (f x))
 | []=>rfl
 | D4=>RU sO (zpy f l)
theorem Ho(Amt)(f:ADl)(g:ADl):AsF (∀P,P [g a] ->one (f a) P)
 | [],_,_,h=>h
 | D4,P,k,h=>A6z Ho
theorem Yy(Amt)(f g:ADl)(p:vF):∀{l:AI} {P:Mm},(AAT (∀P,P (if è then [g a] else []) ->one (f a) P)) ->P (AtP g) ->î l.map
 | [],_,_,h=>h
 | D4,P,k,h=>k a zV _ (Yy f g p AQd (by
   rw[List.filter_cons] at h;show EZ è
   ·show bE E6 h h
   ·show bE JI h h))
theorem ygx(AX O8):MM z1q:=by
 show ALO g hs;show AT0 hs.map;refine Ho D.str (AG x (.bl (AAp ADQ))) (rL x hx) ?_
 ·show BB rfl (z12 g);show P [.bl (AC false _ AyG)];rw[zug];exact hp
 ·show kP (zpy _ hs);have e:(hs.map (XX (ω ADQ))).any id=dZ g hs:=BEi
  rw[e];exact h
def mC(hs:ο)(h:Str):ο:=if kR then hs else hs++ [h]
theorem zyb{hs:ο}{h x:Str}:x∈mC hs h↔x∈hs\/x=h:=by
 unfold mC;split
 ·exact⟨.inl,i4 (by rcases q with q | rfl;exact q;assumption)⟩
 ·show Au0
theorem zp2{hs:ο}{h:Str}(nd:hs.Nodup):(mC hs h).Nodup:=by
 unfold mC;split
 ·exact nd
 ·show GW;rw[List.nodup_append];exact⟨nd,An,A_a q⟩
theorem zx5(AmH):MI mC hs h<=hs.length+1:=by
 unfold mC;split
 ·omega
 ·simp
theorem Bv{α β:Type}{x:β}{l:IO}:(Sum.inr x:Sum α β)∈l.map Sum.inr↔x∈l:=AE List.mem_map (ARV (xz y h e (by injection e with e;exact e ▸ h)) (F9 x h))
theorem Kf(AmH):ō (mV (hs.map Kb) ub) kR:=by
 show EZ kR
 ·show ą q;exact tR.mpr (Bv.mpr q)
 ·show Ą q;cases z:mV (hs.map Sum.inr) (Sum.inr h:Key) with
  | false=>rfl
  | true=>exact dS Bv.mp (tR.mp z) q
theorem znv(AmH):jg (hs.map Kb) ub=(mC hs h).map Kb:=by
 unfold jg mC;rw[Kf];show EZ kR
 ·rw[Ğ,BU,E6]
 ·rw[ĝ,AR2,JI,List.map_append];rfl
theorem z4x{hs:ο}{xs:Β}{h:Str}{d:D}(e:ARS hs.length):MI mC hs h=(fL Ġ xs ub d).length:=by
 unfold fL mC;rw[Kf];show EZ kR
 ·rw[Ğ,BU,E6,List.length_zipWith,List.length_map,e,Nat.min_self]
 ·rw[ĝ,JI,UC];simp [e]
structure Py (rows:BA) (n:Nat) (ws:ο) (ps:AJJ):Prop where
 len:BGP
 nd:ws.Nodup
 lw:ws.length<=n
 pt:A_o
 ex:Ay3
theorem Vj(AYd):dD AEM w=Ajq aw r:=by
 unfold dD;rw[List.filter_append]
 congr 1
 show ACa Â
theorem z4w(AYd):kW AEM w=Ajq mv Τ:=by
 unfold kW;show ACi Vj
 congr 1
 show ACa Â
theorem zw4(OF){w:Str}(h:¬(WH Â)):dD rows w= []:=F_ dD (List.filter_eq_nil_iff.mpr fun r hr z=>Aw8)
theorem zt4(AYd):uX AEM w=Ajq (ZU uX) Τ:=by
 unfold uX;show ACi List.filter_append
 congr 1
 show ACa Â
theorem gC{rows:BA}{w h:Str}:h∈ZU uX↔WH Ao4:=by
 unfold uX;rw[List.mem_map];constructor
 ·show ø r hr;show AiQ hr;exact⟨r,h1,BFS,e⟩
 ·rintro⟨r,h1,h2,e⟩;exact⟨r,zA.mpr ⟨h1,BFR⟩,e⟩
theorem Py.new{rows:BA}{ws:ο}{ps:AJJ}{w:Str}(B:AcZ)(hw:w∉ws):AzO Aip Atp:=by
 refine⟨A0 B.len,?_,AN B.lw,fun q v p h1 h2=> ?_,fun u q v p h1 h2=> ?_⟩
 ·rw[List.nodup_append];exact⟨B.nd,An,A_a hw⟩
 ·by_cases hq:q<ws.length
  ·rw[List.getElem?_append_left hq] at h1;rw[List.getElem?_append_left (A7 B.len hq)] at h2
   exact B.pt q v p h1 h2
  ·have hl:q< Ps Aip:=ID h1;rw[List.length_append,List.length_singleton] at hl;have hq' :q=ws.length:=τ
   subst hq';rw[Aiz] at h1;show A8K
   simp at h1;simp [B.len] at h2;subst h1 h2;show DC rfl An G1 (DZ (BCR WJ))
   obtain⟨r,hr,e,_⟩:=gC.mp z;exact dS Aqv AlM hw
 ·by_cases hq:q<ws.length
  ·rw[List.getElem?_append_left hq] at h1;rw[List.getElem?_append_left (A7 B.len hq)] at h2
   exact B.ex u q v p h1 h2
  ·have hl:q< Ps Aip:=ID h1;rw[List.length_append,List.length_singleton] at hl;have hq' :q=ws.length:=τ
   subst hq';rw[Aiz] at h1;show A8K
   simp at h1;simp [B.len] at h2;subst h1 h2;have:=zw4 (rows:=rows) (w:=w) fun AlM=>hw (Aqv AlM);unfold kW;rw[this];rfl
theorem Yz{ws:ο}(nd:ws.Nodup){i j:Nat}(hi:i<ws.length)(hj:j<ws.length)(e:WV=ws[j]):i=j:=by
 show AMj nd;rcases Nat.lt_trichotomy i j with q | q | q
 ·exact TC e (key i j hi hj) q
 ·exact q
 ·exact TC e.symm A7W q
theorem Py.put{rows:BA}{ws:ο}{ps:AJJ}{r:Rw}{q:Nat}{p:ο×Β}(B:AzO ws ps)(wm:∀v,v∈ws↔ (WH (Ν=v))\/v=Ν)(h1:ar ws Ν)(h2:ar ps p)(d:D)(hd:d= AAa):
  Ka AEM ws (ps.set q (mC AK Τ,fL ((AK).map Kb) p.2 (CA Τ) d)):=by
 show AZQ (B.pt q Ν p h1 h2);have hq:q<ps.length:=ID h2;refine⟨AE List.length_set B.len,B.nd,AN B.lw,Jn v,fun q' v p' e1 e2=> ?_,fun u q' v p' e1 e2=> ?_⟩
 ·rw[wm v];constructor
  ·show AgZ r' h e e ⟨r',zN _ h,e⟩ ⟨r,An,e.symm⟩
  ·show ø r' h;show NR (zQ.mp h)
   ·show B3 ⟨r',h,e⟩
   ·rw[List.mem_singleton.mp h] at e;exact .inr e.symm
 ·by_cases zy:q=q'
  ·subst zy;rw[h1] at e1;cases e1;show ALw hq;cases e2;show DC (z4x b1) (zp2 b2) (zM zx5 (BH b3)) AKW
   show h∈mC AK Τ↔_;rw[zyb,zt4,BU,List.mem_append,b4 h,List.mem_singleton]
  ·rw[List.getElem?_set_ne zy] at e2;obtain⟨c1,c2,c3,c4⟩:=B.pt q' v p' e1 e2;have hv:¬Ν=v:=Ξ (by
    have l1:=(zT.mp h1);have l2:=(zT.mp e1);obtain⟨l1,l1'⟩:=l1;obtain⟨l2,l2'⟩:=l2;exact A'V)
   show DC c1 c2 (AN (BDL c3)) AKW
   rw[c4 h,zt4,AR1,List.append_nil]
 ·have u0:EW:=(List.pairwise_append.mp u).1;by_cases zy:q=q'
  ·subst zy;rw[h1] at e1;cases e1;show ALw hq;cases e2;have ep:=B.ex u0 q Ν p h1 h2;have hn:Τ∉AK:=Ξ (by
    rw[ep] at z;obtain⟨r',hr',g1,g2⟩:=jB.mp z;exact(List.pairwise_append.mp u).2.2 r' hr' r Μ ⟨g1,g2⟩)
   rw[z4w,Vj,BU,BU];unfold mC fL;rw[Ω hn,Kf,decide_eq_false hn,UC,ep,hd,List.map_append]
   rfl
  ·rw[List.getElem?_set_ne zy] at e2;have hv:¬Ν=v:=Ξ (by
    have l1:=(zT.mp h1);have l2:=(zT.mp e1);obtain⟨l1,l1'⟩:=l1;obtain⟨l2,l2'⟩:=l2;exact A'V)
   rw[z4w,Vj,AR1,AR1,List.append_nil,List.append_nil];exact B.ex u0 q' v p' e1 e2
theorem zrj{ws:ο}(nd:ws.Nodup):js ws.map AQ2:=by
 unfold List.Nodup;rw[List.pairwise_map];exact nd.imp fun h z=>h (by injection z)
theorem z0r(AX MN):Ah8 zpa 5:=by
 show L7 rows rfl hl h;show NV;intro as;show SU (BDJ i) ?_
 ·exact⟨as,[],[],_,_,_,⟨rfl,An,An,A5v (by(simp at hr)),fun q w p e=>(by simp at e),fun _ q w p e=>AJk⟩,rfl⟩
 ·rintro i d _ hi ⟨as,ws,ps,x,y,z,B,rfl⟩;show On rows.length (Oy SH)
  show eh;cases hi;have tk:rows.take (BQ)=rows.take i++ [TH]:=ATQ AN2
  have hlt:BE rows.take i=i:=BGH
  have fin:∀as ws ps,Py (rows.take i) (Atl+1) ws ps ->(∀v,v∈ws↔ (∃r∈AeJ,Ν=v)\/v=rq) ->
    zgt K c {nx:=Avr,ct:=Avr,bk:=fun Γ=>zld K c (FN Q) Γ SZ,rt:=L8,rT:=HJ Q}
     [BS,p_ AbX,IU rq,IU TH.2.1,A4 TH.2.2] SZ:=by
   intro as ws ps B wm;have hm:rq∈ws:=(wm _).mpr (CA rfl);show AU q hq eq List.mem_iff_getElem.mp hm;have hq2:q<ps.length:=A7 B.len hq
   have e1:ar ws rq:=FF (VM hq) eq
   have e2:ar ps ps[q]:=zW hq2;show AZQ (B.pt q _ _ e1 e2);have BW:=B.put wm e1 e2 (B5 TH.2.2) rfl;rw[<- tk] at BW;refine⟨Adx,.inr TH.2.1,as,k6,Ajv,q,(ps[q].1).map Kb,ps[q].2,rfl,rfl,rfl,zrj B.nd,AIu e1,AIu e2,Ĉ,?_⟩
   refine⟨as,ws,_,IU rq,IU TH.2.1,A4 TH.2.2,BW,?_⟩;rw[znv,List.map_set]
   rfl
  refine⟨rfl,rfl,Adx,as,k6,Ajv,rfl,rfl,?_⟩;rw[Kf];by_cases hw:rq∈ws
  ·show ą hw;refine fin as ws ps ⟨B.len,B.nd,BDL B.lw,B.pt,B.ex⟩ (Jn v);rw[B.wm v];exact⟨.inl,Ξ (by rcases z with z | rfl;exact z;exact(B.wm _).mp hw)⟩
  ·show Ą hw;refine⟨Adx,as,k6,Ajv,rfl,rfl,FF Kf (decide_eq_false hw),AhE B.lw,Jn cs⟩
   have:=fin AVk (ws++ [rq]) Atp (Py.new B hw) fun v=>by
    rw[List.mem_append,B.wm v,List.mem_singleton]
   show XG List.map_append List.map_append;exact this
 ·rintro _ ⟨as,ws,ps,x,y,z,B,rfl⟩;show AyI rows.take rows.map Ah rows
  rw[e] at B;exact h ws ps B
theorem zs8:∀xs:ο,ρ (tU ADk) xs
 | []=>rfl
 | FM=>by show ACj;unfold tU;rw[zs8 xs];rfl
theorem ydm{xs U:ο}(h:Pw xs U):BE qX xs<=U.length:=Dl (zpe xs) (AEQ (h x (xu.mp hx)))
theorem yel{xs U:ο}{P:Mm}(h1:xs.length<4095)(h2:Aj2)(h3:Pw xs U)(h:Ő ο AQq (∀i,i∈ms↔i∈xs) WO):X8 [gl xs] P:=
 ⟨xs,zs8 xs,h1,zJ (ydm h3) ξ,h⟩
theorem ze1{p:jn ο}:∀fs:HP,AdC (fs.filter p).flatten.length
 | []=>An
 | U2=>by
  have:=ze1 (p:=p) fs;rw[List.filter_cons];split<;>simp only [List.flatten_cons,List.length_append]<;>omega
theorem zti(fs:HP)(i:Nat):AdC (fs.take i).flatten.length:=by
 conv=>rhs;rw[<- Adi fs,List.flatten_append,List.length_append]
 omega
theorem z55(AX UL):Hn zs3 5:=by
 obtain⟨fs,hs,U,rfl,hl,hfl,hU,u1,u2,h⟩:=h;show š 8000
 show II (fs.map gl);refine Yy gl gl AtH (rL f hf) ?_
 ·show Fh f hs rfl;show Da (! ze) (P [gl f]) X_;show EZ (ACs ze)
  ·show AFq E6
  ·show AFq JI
 ·show SU (∃x,Γ= [AwC,.pu (gl hs),OE (AH fs.filter (fun f=> ! ze) gl),.ow ((hs++ ((fs.take i).filter AVd).flatten).map .str),x]) ⟨υ,by simp [gl];rfl⟩
  ·show AMe x;show On fs.length (Oy SH)
   show eh;cases hi;have tk:fs.take (BQ)=fs.take i++ [đ]:=ATQ AN2
   show Fh đ hs rfl;show Ac9 dZ đ hs _ _;show EZ (dZ đ hs=true)
   ·show DU q;show Fh CO ?_ (.pu (gl đ))
    ·have h1:=ze1 (p:=AVd) (fs.take B2);have h2:=zti fs B2;rw[tk,List.filter_append,List.flatten_append,List.length_append] at h1;simp only [List.filter_cons,q,if_true,List.filter_nil,List.flatten_cons,List.flatten_nil,List.append_nil] at h1;rw[tk] at h2;show ACh List.length_append List.length_map;omega
    ·show Ay';show A5O if_true List.filter_nil List.flatten_cons;rw[<- List.append_assoc,List.map_append (l₂:=đ)]
     rfl
   ·show AV q;show CI (.pu (gl đ));show Ay';show A5O Bool.false_eq_true if_false List.filter_nil
    rfl
  ·show ACm x;show AyI fs.take fs.map gl fs
   rw[e];have hx:APZ (hs++ (fs.filter AVd).flatten) (x∈hs\/Aoh hs):=fun x=>by
    rw[List.mem_append,List.mem_flatten];constructor
    ·rintro(a | ⟨f,hf,a⟩)
     ·show B3 a
     ·show AiQ hf;exact .inr (sT f h1 a)
    ·rintro(a | ⟨f,h1,h2,a⟩)
     ·show B3 a
     ·show DI ⟨f,zA.mpr ⟨h1,h2⟩,a⟩
   dsimp only;unfold zms;dsimp only [aG,bw,cC,cV,cB,cT,gR,qd,fW,cH,gU,dF,nP,aq,aj,cZ,dM,dN,dh,aU,dW,cN,aV,cg,hName,d8,aW,d9,iD,gW,aB,cU,ig,eZ,dw,eY,bT,eO,cI,gF,n6,oZ,mZ,qe,qg,gO,jN,nQ,cM,wI,nG,n8,jO,qj,ql,bH,iG,dY,iH,iI,List.length,List.set_cons_zero,List.set_cons_succ,List.getElem?_cons_zero,List.getElem?_cons_succ,dB,jP,nR,o8,mK,mL,mU,iJ,cR,bW,gY,nJ,nT,o9,fZ,m5,bM,bY,oW,qm,ou,iK,iM,iL,cG,fu,iu,cQ,List.map,List.append,List.cons_append,List.nil_append];refine yel (U:=U) ?_ hU (HQ x q) (PQ ms s2)
   ·have:=ze1 (p:=AVd) fs;rw[List.length_append];omega
   ·rcases(hx x).mp q with a | ⟨f,h1,_,a⟩
    ·exact u1 x a
    ·exact u2 f h1 x a
   ·show BB AfI ?_
    ·have:=List.length_filter_le AtH fs;show Υ (BE (AH fs.filter (fun f=> ! ze)) gl+1);show EU;omega
    ·have:=h ms s1 (XX ((s2 x).trans (hx x)));show Ap List.map_append;exact this
theorem M4{g:ο}(h:AVU g.Pairwise):g.Nodup:=h.imp fun{a b} q z=>(Ab' z21)
theorem yae{f:ο}(h:f≠ []):hdS f∈f:=by
 cases f with
 | nil=>show ADq h
 | cons x f=>exact zV
theorem zyh:∀{fs:HP},(AMm (f≠ [])) ->Ak8 ->js fs.map hdS
 | [],_,_=>An
 | U2,ne,d=>by
  show AdB d;rw[List.map_cons,List.nodup_cons];show B6 WJ (zyh (fun g hg=>Az') d.2);show b0 g hg (zB.mp z);exact d.1 g hg (hdS f) (yae (ne f zV)) (e ▸ yae (ne g (zU _ hg)))
theorem z4c:FG fs HP (AMm (f≠ [])) (AdC fs.length)
 | [],_=>An
 | U2,ne=>by
  have:=z4c (fs:=fs) fun g hg=>Az';have h1:0<f.length:=List.length_pos_iff.mpr (ne f zV);rw[List.length_cons,List.flatten_cons,List.length_append];omega
theorem zwm{Ss fs:HP}{U:ο}(p:AV0)(h:AVf AUt):∀f∈fs,Pw f U:=fun f hf x hx=>by
 show AU S hS q (p.co x).mp ⟨f,hf,hx⟩;exact h S hS x q
theorem zw1{Ss fs:HP}{U:ο}(p:AV0)(nd:∀f∈fs,f.Nodup)(h:AVf AUt):fs.flatten.length<=U.length:=
 Dl (zkr p.dj nd) (AEQ (by
  show Aq5 q hx;exact zwm p h f hf x q))
theorem M5:∀l:Β,lK (l.map ACg)=l
 | []=>rfl
 | d::l=>by show ACj;unfold lK;rw[M5 l];rfl
theorem YB{α:Type}(f:α ->T):A1U lK (XX (toD (f x)))
 | []=>rfl
 | d::l=>by show ACj;unfold lK;rw[YB f l];rfl
theorem z88(hs:ο):A_B:=Ģ
theorem z7k(AX UW):Ah8 zsk 3:=by
 obtain⟨rows,U,rfl,hl,hU,hu,h⟩:=h;refine EG G1 rows hl Axc;have hpU:L6 ps (((AK).Nodup/\AK≠ []/\Pw AK U)/\WH (Aly AK)):=fun p hp=>by
  show A4M hp;have hq2:q<ws.length:=AE B.len hq
  show AZQ (B.pt q _ p (zW hq2) Au1)
  obtain⟨r,hr,er⟩:=(B.wm ws[q]).mp (yU hq2);show DC ⟨b2,WJ,Aii⟩ r hr (XX (AE er (b4 x)))
  ·have:=(b4 Τ).mpr (gC.mpr (ñ r hr er));show Ap z;show DT
  ·obtain⟨r',h1,_,h3⟩:=gC.mp ((b4 x).mp hx);exact h3 ▸ hu r' h1
 have few:∀i,∀S∈ AH ps.take i (·.1),AUt:=fun i S hS x hx=>by
  show ku p hp hS;exact(hpU p (List.mem_of_mem_take hp)).1.2.2 x hx
 show nZ (lK (ps.map wu)) _ _ _ _ _;show SU (∃fs x,rB ((ps.take i).map (·.1)) fs/\ (AMm (AVU f.Pairwise))/\Γ= [BS,AwC,x]) ⟨[],_,AN rB.nil,fun f hf=>by(cases hf),rfl⟩
 ·rintro i d _ hi ⟨fs,x,p,sr,rfl⟩;rw[YB] at hi;show On ps.length (Oy SH)
  show eh;cases hi;have tk:ps.take (BQ)=ps.take i++ [LN]:=ATQ AN2
  obtain⟨⟨q1,q2,q3⟩,_⟩:=hpU LN (yU hi');have l1:=Dl q1 q3;have l2:=zw1 p A7i (few i);have l3:=z4c p.ne;refine⟨fs,LN.1,U,?_,τ,τ,hU,q3,zwm p (few i),ψ g g1 g2⟩
  ·show [D.lst (fs.map gl),D.lst (AH (LN.1).map Sum.inr eN)]=_;rw[z88];rfl
  ·refine⟨AFw (dZ f LN.1)++ [g],_,?_,AM f hf,rfl⟩
   ·show ACi tk;exact p.step q2 g2
   ·show Anc
    ·exact sr f (ASJ hf)
    ·show Rs hf;exact g1
 ·rintro _ ⟨fs,x,p,sr,rfl⟩;have e:ps.take (BE lK Aaf)=ps:=by rw[YB,List.length_map,List.take_length]
  rw[e] at p;have abG :∀S∈ps.map (·.1),AUt:=fw (few ps.length) List.take_length
  have l2:=zw1 p A7i abG;have l3:=z4c p.ne;refine⟨fs,rfl,p.ne,zyh p.ne p.dj,τ,fun ms pm up=>h ms ⟨fun m hm=>sr m (pm.mem_iff.mp hm),up,_,pp (AM S hS) r hr,p.perm pm⟩⟩
  ·show ku p hp hS;exact(hpU p hp).2
  ·have hw:=(B.wm Ν).mpr Aiy;show A4M hw;have hq2:q<ps.length:=A7 B.len hq
   show AZQ (B.pt q Ν ps[q] Au1 (zW hq2))
   exact⟨ps[q].1,zB.mpr (Is (yU hq2)),b4⟩
theorem q27{q z k:Rat}(k0:k≠0)(e:q*k=z):q=z/k:=by rw[<- e,Rat.div_def,Rat.mul_assoc,ARi k0,Rat.mul_one]
def GZ(B:Nat)(q:Rat):Prop:=∃z:Int,q*27720=AJu/\AgO
theorem GZ.add(A8d):GZ (A+B) (p+q):=by
 obtain⟨a,ea,ha⟩:=h1;obtain⟨b,eb,hb⟩:=h2;show uC (a+b) τ
 rw[Rat.intCast_add,<- ea,<- eb];grind
theorem GZ.sub(A8d):GZ (A+B) (p - q):=by
 obtain⟨a,ea,ha⟩:=h1;obtain⟨b,eb,hb⟩:=h2;show uC (a - b) τ
 rw[Rat.intCast_sub,<- ea,<- eb];grind
theorem GZ.mono{A B:Nat}{q:Rat}(h:GZ A q)(l:A<=B):ACb:=by
 show D' a ea ha;exact⟨a,ea,zM ha l⟩
theorem z1h{B:Nat}:Awh ACb (GZ (qs.length*B) (gZ qs))
 | [],_=>Aht (zS gZ)
 | AVb,h=>by
  refine((h q zV).add (z1h (P_ AlQ))).mono ?_;show Ahu;omega
theorem M6{n:Nat}(h1:1<=n)(h2:n<=12):n* (27720/n)=27720:=by
 match n,h1,h2 with
 | 1,_,_=>rfl
 | 2,_,_=>rfl
 | 3,_,_=>rfl
 | 4,_,_=>rfl
 | 5,_,_=>rfl
 | 6,_,_=>rfl
 | 7,_,_=>rfl
 | 8,_,_=>rfl
 | 9,_,_=>rfl
 | 10,_,_=>rfl
 | 11,_,_=>rfl
 | 12,_,_=>rfl
theorem z0p{t:Int}{n B:Nat}(h1:1<=n)(h2:n<=12)(ht:t.natAbs<=B):AMO B (AOv/ Α (De n)):=by
 have e:=M6 h1 h2;show SE n0 (OL n) (by
  have:n=0:=RY z
  omega)
 show BB (t* CY (27720/n)) ?_
 ·show ASs e' (Α 27720) (Α (De n)* OL (27720/n)) e.symm
  rw[e',Rat.intCast_mul,Rat.div_def,Rat.mul_assoc,<- Rat.mul_assoc (Inv.inv (OL n)),ÿ n0,Rat.one_mul]
  rfl
 ·rw[Int.natAbs_mul];refine Nat.mul_le_mul ht ?_;rw[Int.natAbs_natCast];exact Nat.div_le_self _ _
theorem z9q{t:Int}{B:Nat}(ht:t.natAbs<=B):AMO B AOv:=by
 show BB (t*27720) (GV Rat.intCast_mul)
 rw[Int.natAbs_mul];exact Nat.mul_le_mul ht (zL _)
theorem ybv{B n:Nat}{q:Rat}(h:ACb)(hB:B<2^n):dU q.num<=n/\dU X0<=15:=by
 show D' z e hz;have eq:q=AJu/ DE 27720:=q27 χ e
 have b1:dU z<=n:=oV ξ
 have f:=AyB χ
 have e1:(fr z 27720).1=_:=ù Prod.fst f;have e2:(fr z 27720).2=_:=ù Prod.snd f;show Aj5;rw[eq];show B6 (AU3 b1) (zM (AxM ?_) (oV χ))
 ·rw[<- e1];exact z9y χ
 ·rw[<- e2];exact yaz χ
theorem Pz{B n:Nat}{q:Rat}(h:ACb)(hB:B<2^n)(hn:15<=n):Sz n q:=⟨Azy,zM (ybv h hB).2 hn⟩
theorem IV{B n:Nat}{q:Rat}(h:ACb)(hB:B<2^n)(hn:n<=128):Yr q:=by
 show CI (zM Azy hn);show D' z e hz;have eq:q=AJu/ DE 27720:=q27 χ e
 have f:=congrArg Prod.snd (AyB χ)
 dsimp only at f;rw[eq,<- f];exact⟨dv z 27720,AE Int.mul_comm (Ow z 27720).symm⟩
theorem ybp{n:Nat}(h:1<=n):qD (ADW/ Α (De n))= ci F6 n:=by
 have f:=TJ (t:= -1) (b:=E5) ξ
 have e1:(fr F6 E5).1=_:=ù Prod.fst f;have e2:(fr F6 E5).2=_:=ù Prod.snd f;show Aj5;have g:dv F6 E5=1:=by unfold dv;show AV ξ;simp
 have t1:=Yg F6 E5;have t2:=Ow F6 E5;rw[g,Int.one_mul] at t1 t2;unfold qD;have c:(ADW/ Α (De n))=ADW/ Α (CY n):=rfl;rw[c,<- e1,<- e2,t1,t2]
theorem YC{α:Type}(f:CC):Ò (gZ (l.map f)=JO)
 | []=>rfl
 | D4=>by show f a+gZ (l.map f)=f a+JO;rw[YC f l]
theorem Vk(Al1):ρ (xK (mw Hj)) (AN9 map Kb,q_ fun r=> AAa):=rfl
theorem zre(AX Kc):MM zh1:=by
 obtain⟨rows,ws,h0,rfl,h⟩:=h;show II (ws.map (Hj rows));refine Yy (Hj rows) (Hj rows) (AG w AHJ) AX1 h;show SI _ _ (.inr h0) AKL rfl;rw[Kf];show ArP;show EZ xj
 ·show AFq Ğ
 ·show AFq ĝ
theorem FP(AyH){w:Str}(h:Ħ):1<=AIJ/\ AIJ<=12:=AE O3 ⟨List.length_pos_iff.mpr h,ATY⟩
theorem ydg(AX U0):Hn zw7 5:=by
 obtain⟨rows,ws,h0,o0,rfl,L,⟨W1,W2⟩,h⟩:=h;show NV;refine⟨rows,ws,h0,rfl,rows,ws.filter (APR),o0,rfl,?_⟩
 let both:=AmZ fun w=>(ω APW)
 show GI zkc [IU h0,IU o0,AqV,.pu (sX rows both),υ];have hb:∀w∈both,Ħ:=fun w hw=>W2 w (ASJ (ASJ hw));have hbl:both.length<=200:=zM (zM AD_ (List.length_filter_le _ _)) W1
 let f:D1:=DF (ADW/ Α Adu)
 have gz:∀w∈both,GZ 27720 (f w):=fun w hw=>by
  have:=z0p (t:= -1) (B:=1) (Ac6 hb) (FP L (hb w hw)).2 χ
  show Ap Nat.one_mul;exact this
 have gs:∀k,GZ AUz (gZ ((both.map f).take k)):=fun k=>by
  refine(z1h ALh).mono (Nat.mul_le_mul_right _ (zM AgF (show BGU<=200 by show AeP hbl)))
  obtain⟨w,hw,rfl⟩:=zB.mp (List.mem_of_mem_take hq);exact gz w hw
 have e2:ALz=aA ws (DF (IC Ajy (f w))):=by
  rw[YC];show aA (AmZ fun w=>(ω APW)) f=_;rw[Fg,Fg];show AEI w;by_cases q1:xj
  ·by_cases q2:APW<;>simp [q1,q2]
  ·simp [q1]
 have e3:(aA Me fun s=>(IC (h0∈s/\o0∈s) AUZ))= - ALz:=by
  rw[e2,Hh];have: - (aA ws (DF (IC Ajy (f w))))=aA ws (DF (F6* (AC Ajy (f w) 0))):=kl Bs
  rw[this];show AEI w;split
  ·show 1/ Α Adu=F6* (ADW/ Α Adu);rw[Rat.div_def,Rat.div_def];have:ADW= -1:=rfl;rw[this];grind
  ·grind
 have pw:∀n,23<=n ->Ag9<2^n:=fun n hn=>(AnK (ASo (Ag9<2^23)) hn)
 unfold zkc;dsimp only [aG,bw,cC,cV,cB,cT,gR,qd,fW,cH,gU,dF,nP,aq,aj,cZ,dM,dN,dh,aU,dW,cN,aV,cg,hName,d8,aW,d9,iD,gW,aB,cU,ig,eZ,dw,eY,bT,eO,cI,gF,n6,oZ,mZ,qe,qg,gO,jN,nQ,cM,wI,nG,n8,jO,qj,ql,bH,iG,dY,iH,iI,List.length,List.set_cons_zero,List.set_cons_succ,List.getElem?_cons_zero,List.getElem?_cons_succ,dB,jP,nR,o8,mK,mL,mU,iJ,cR,bW,gY,nJ,nT,o9,fZ,m5,bM,bY,oW,qm,ou,iK,iM,iL,cG,fu,iu,cQ,List.map,List.append,List.cons_append,List.nil_append];refine Ho (Hj rows) (AG w (ci F6 (CY AIJ))) AX1 ?_
 ·refine⟨_,_,AKL,Ĭ,?_⟩
  show EU;exact hp
 refine⟨both.map f,?_,ALh,dE (Pz (gs k) Alu χ),?_⟩
 ·show AJc;show ALJ congrArg (NG [D.lst z]) AVE;exact(ybp (Ac6 hb)).symm
 ·show ku w hw hq;exact Pz (gz w hw) Ajp χ
 have gt:=gs BGU;rw[List.take_length] at gt;unfold zpp;dsimp only [aG,bw,cC,cV,cB,cT,gR,qd,fW,cH,gU,dF,nP,aq,aj,cZ,dM,dN,dh,aU,dW,cN,aV,cg,hName,d8,aW,d9,iD,gW,aB,cU,ig,eZ,dw,eY,bT,eO,cI,gF,n6,oZ,mZ,qe,qg,gO,jN,nQ,cM,wI,nG,n8,jO,qj,ql,bH,iG,dY,iH,iI,List.length,List.set_cons_zero,List.set_cons_succ,List.getElem?_cons_zero,List.getElem?_cons_succ,dB,jP,nR,o8,mK,mL,mU,iJ,cR,bW,gY,nJ,nT,o9,fZ,m5,bM,bY,oW,qm,ou,iK,iM,iL,cG,fu,iu,cQ,List.map,List.append,List.cons_append,List.nil_append];show CI (A0 vY)
 rw[zuk];show OM h0 o0
 ·subst q;show ą rfl;have eb:both.length=BE ws.filter APR:=by
   show BE AmZ APR=_;rw[List.filter_filter];simp
  have ec:jx Me h0=BFJ:=by
   unfold jx;rw[Hh,eb];have:=J8 (α:=Str) 1 (l:=Afr AHJ);show Ap Fg;show Ap Rat.mul_one;show jp;exact Arz xj
  refine⟨Ĭ,BEQ,ALz,?_,?_,Pz gt Alu χ,?_⟩
  ·rw[J5,List.length_map]
  ·exact Azi (zJ (AeQ (V_ (CY both.length)<=Ag9)) (pw 4000 χ))
  ·have:BEQ+ALz=fP Me h0 h0:=by
    unfold fP;rw[BU,e3,ec];show BFJ+_=_
    grind
   rw[this];exact h
 ·show Ą q;have:ALz=fP Me h0 o0:=by
   unfold fP;rw[Ω q,e3];grind
  show Q (qD (gZ (both.map f)));rw[this];exact h
theorem z7c(AX U3):dy zsn:=by
 obtain⟨rows,ws,m,h0,rfl,L,W,h⟩:=h;show AT0 m.map;refine Ho D.str (AG o (AP8 h0)) (rL o ho) h;exact⟨rows,ws,h0,o,rfl,L,W,hp⟩
theorem zs5{α:Type}(f:ADm):Ò (ρ (lD (P3 l.map a (f a))) (l.map f))
 | []=>rfl
 | D4=>by unfold List.map lD;rw[zs5 f l];rfl
theorem YD{α:Type}(f:ADm):Ò (DE Ai9=BGk)
 | []=>rfl
 | D4=>by
  show As_ Rat.intCast_add (YD f l);rfl
theorem zu4(G_)(f:ADm){B:Nat}:ş ((f a).natAbs<=B) (V_ (Ai9)<=l.length*B)
 | [],_=>An
 | D4,h=>by
  have h1:=h a zV;have h2:=zu4 f (l:=l) (EH AvF);show As_ List.length_cons Nat.add_mul;omega
theorem zu7(AX U4):Hn zlg 1:=by
 show ņ rows w L ne;have hp:=List.length_pos_iff.mpr ne;have h12:=L.wk w;refine⟨_,_,GS q_ r E9,AKL,zs5 _ _,_,_,AKL,_,_,rfl,?_,?_,?_⟩
 ·have:=AAv (zu4 (fun r:Rw=>E9) (B:=2^100) (l:=aw)) (Nat.le_of_lt (L.mm r lP));refine AIP 104 (zJ this ?_)
  exact zJ Ath χ
 ·show x0 O3;exact AIP 4 ξ
 ·show AH3 O3 UO YD
  exact h
theorem z6u{L:BA}{h:Str}:gK AVy AsL ub=AH L.find? (IG AXZ) AS':=by
 induction L with
 | nil=>rfl
 | cons r L ih=>
  show ART List.map_cons List.find?_cons;unfold gK;show AWT
  ·rw[AZ (by rw[q]),Ğ];rfl
  ·rw[D_ (Ξ (q (by injection z))),ĝ];exact ih
theorem z15{rows:BA}(u:EW)(A_F):WH (Ν=w/\Τ=h/\ρ (gK BEe (P3 q_ r E9) ub) (B5 E9)/\AQu h=TN):=by
 obtain⟨r,hr,e1,e2⟩:=jB.mp hh;show SI r hr e1 e2 ?_
 ·unfold kW;show AJc;have:=z6u (L:=aw) (h:=h);show gK (q_ fun r=> AOw) _ _=_;rw[this];cases q:ANm find? fun r=>AXZ with
  | none=>
   have:=List.find?_eq_none.mp q r (bx.mpr ⟨hr,e1⟩);simp [e2] at this
  | some s=>
   have s1:=bx.mp (List.mem_of_find?_eq_some q);have s2:N_=h:=AN (List.find?_some q)
   rw[ya9 u s1.1 hr ((s1.2).trans e1.symm) (s2.trans e2.symm)];rfl
 ·have:=Yn u hr;show XG e1 e2;exact this
theorem Kg(OF)(u:EW)(w:Str):cY AQK (mw yW)=aA OG (oB TN)/ Α WS:=by
 unfold cY;rw[O3,yax]
 congr 1
 show ő;have:=Yn u lP;show Ap ALv;rw[this]
theorem z1t(AyH){w:Str}(ne:Ħ):AMO (2^104) A0n:=by
 have hp:=List.length_pos_iff.mpr ne;have h12:=L.wk w;have:=AAv (zu4 (fun r:Rw=>E9) (B:=2^100) (l:=aw)) (Nat.le_of_lt (L.mm r lP));rw[<- YD];refine z0p hp h12 (zM this (zM Ath χ))
theorem z2s(OF)(u:EW)(L:OO)(A_F):AMO (2^105) (AQu h - AzL):=by
 obtain⟨r,hr,e1,e2,_,ey⟩:=z15 u hh;rw[ey,Kg u];have ne:Ħ:=Ξ (by
  have:=bx.mpr ⟨hr,e1⟩;show Ap z;show DT)
 exact((z9q (B:=2^104) (Als Nat.le_of_lt L.mm)).sub (z1t L ne)).mono χ
theorem z6f(AX U5):MM zod:=by
 obtain⟨rows,ws,h0,rfl,u,L,⟨W1,W2⟩,h⟩:=h;show NV;have pw:∀n,128<=n ->200* AU0<2^n:=fun n hn=>(AnK (ASo (200* AU0<2^128)) hn)
 let wh:=Afr AHJ
 have Kh:∀w∈wh,w∈ws/\xj:=fun w hw=>⟨ASJ hw,of_decide_eq_true (zA.mp hw).2⟩
 let f:D1:=DF (AQu h0 - AzL)
 unfold zod;dsimp only [aG,bw,cC,cV,cB,cT,gR,qd,fW,cH,gU,dF,nP,aq,aj,cZ,dM,dN,dh,aU,dW,cN,aV,cg,hName,d8,aW,d9,iD,gW,aB,cU,ig,eZ,dw,eY,bT,eO,cI,gF,n6,oZ,mZ,qe,qg,gO,jN,nQ,cM,wI,nG,n8,jO,qj,ql,bH,iG,dY,iH,iI,List.length,List.set_cons_zero,List.set_cons_succ,List.getElem?_cons_zero,List.getElem?_cons_succ,dB,jP,nR,o8,mK,mL,mU,iJ,cR,bW,gY,nJ,nT,o9,fZ,m5,bM,bY,oW,qm,ou,iK,iM,iL,cG,fu,iu,cQ,List.map,List.append,List.cons_append,List.nil_append];refine Hm rows ws h0 ?_;show II (wh.map (Hj rows));refine Ho (Hj rows) (AG w (qD (f w))) AX1 ?_
 ·obtain⟨r,hr,e1,e2,lk,ey⟩:=z15 u AnN;refine⟨_,_,.inr h0,AAa,AKL,rfl,lk,Ĭ,rows,w,rfl,L,W2 w (Kh w hw).1,?_⟩
  show SI (DE E9) _ (MG J5) ?_ (Pz (z1t L (W2 w (Kh w hw).1)) Ajp χ)
  ·exact Mr (Als oV L.mm) χ
  ·rw[<- Kg u,<- ey];exact hp
 ·have gs:∀k,GZ (200* AU0) (gZ ((wh.map f).take k)):=fun k=>by
   refine(z1h ALh).mono (Nat.mul_le_mul_right _ (zM AgF (show BE wh.map f<=200 by show AeP (zM AD_ W1))))
   obtain⟨w,hw,rfl⟩:=zB.mp (List.mem_of_mem_take hq);exact z2s u L AnN
  refine⟨wh.map f,Ģ,ALh,dE (Pz (gs k) Alu χ),?_⟩
  ·show ku w hw hq;exact Pz (z2s u L AnN) Ajp χ
  ·have:gZ (wh.map f)=Aay h0:=by
    rw[YC];show aA (ws.filter fun w=>AHJ) f=_;rw[Fg];unfold lQ;exact LA w (by by_cases q:xj<;>simp [q,f])
   rw[this];exact h
theorem YF(G_){B:Nat}{f:CC}:ş (GZ B (f a)) (GZ (l.length*B) (aA l f))
 | [],_=>Aht AUJ
 | D4,h=>by
  refine((h a zV).add (YF (EH AvF))).mono ?_;show Ahu;omega
theorem Vl(B:Nat):GZ B 0:=Aht F7
theorem yaw{rows:BA}{ws:ο}(W:ACP)(h:Str):GZ AUz (jx Me h):=by
 unfold jx;rw[Hh];refine(YF (B:=27720) Agj).mono (Nat.mul_le_mul_right _ W.1);split
 ·have:=z9q (t:=1) (B:=1) χ
  show Ap Nat.one_mul;exact this
 ·exact Vl _
theorem z78(OF){ws:ο}(L:OO)(W:ACP)(h o:Str):AMO 400 (fP Me h o):=by
 unfold fP;have g1:GZ AUz (AC (h=o) (ARI h) 0):=by
  split
  ·exact yaw W h
  ·exact Vl _
 have g2:GZ AUz (aA Me fun s=>(IC AFX AUZ)):=by
  rw[Hh];refine(YF (B:=27720) AVE).mono (Nat.mul_le_mul_right _ W.1);split
  ·have:=z0p (t:=1) (B:=1) (Ac6 W.2) (FP L (W.2 w hw)).2 χ
   show Ap Nat.one_mul;exact this
  ·exact Vl _
 exact(g1.sub g2).mono χ
theorem yb4{rows:BA}{ws:ο}(u:EW)(L:OO)(W:ACP)(h:Str):GZ (200* AU0) A8O:=by
 unfold lQ;refine(YF (B:=2^105*27720) Agj).mono (Nat.mul_le_mul_right _ W.1);split
 ·show GW;exact z2s u L q
 ·exact Vl _
theorem YG{α β:Type}[AG7 α](g:AS_)(l:AI):l.map g=KE l.length (C3 (AHw g l.getD)):=by
 show UI
 ·simp
 ·show wS;show As8;have hi:i<l.length:=AN h1
  show AJa W_;rfl
theorem z65(x:D)(xs:Β):cutD AEt ij none=xs:=by
 show AFN;simp
theorem zlr(AX U6):Hn zfn 5:=by
 obtain⟨rows,ws,m,rfl,S,L,W,ne,m12,h⟩:=h;show NV;obtain⟨h0,hs,em⟩:∃h0 hs,m=zn:=by
  cases m with
  | nil=>show ADq ne
  | cons a b=>exact F9 a b
 have hn:m.length=hs.length+1:=AKd
 have gs:∀i,m.getD B2 default=hs.getD i default:=ET AKd
 have ct:AXQ m.map D.str ij=hs.map D.str:=AE em (z65 _ _)
 let A:=nM rows ws m
 show A0R;rw[ct];refine Ho D.str (Re AjI) (af h hh ⟨rows,ws,m,h,rfl,L,W,hp⟩) ?_;show A0R;rw[ct];refine Ho D.str (Re AX7) (af h hh ⟨rows,ws,h,rfl,S.u,L,W,hp⟩) ?_;have ec:∀h,jx Me h=DE (BE ws.filter (DF Adc)):=DZ (by
  unfold jx;rw[Hh];have:=J8 (α:=Str) 1 (l:=Afr Adc);show XG Fg Rat.mul_one;refine Eq.trans ?_ this;exact Arz zI)
 show GI zeb [ALs,AqV,OE (AWK AjI),OE (AWK AX7),υ];show AT0 m.map;refine Ho D.str (Re A4K) (rL h hh) ?_
 ·show SI rows ws h rfl Ĭ
  rw[ec,J5] at hp;show EU;exact hp
 unfold zer;dsimp only [aG,bw,cC,cV,cB,cT,gR,qd,fW,cH,gU,dF,nP,aq,aj,cZ,dM,dN,dh,aU,dW,cN,aV,cg,hName,d8,aW,d9,iD,gW,aB,cU,ig,eZ,dw,eY,bT,eO,cI,gF,n6,oZ,mZ,qe,qg,gO,jN,nQ,cM,wI,nG,n8,jO,qj,ql,bH,iG,dY,iH,iI,List.length,List.set_cons_zero,List.set_cons_succ,List.getElem?_cons_zero,List.getElem?_cons_succ,dB,jP,nR,o8,mK,mL,mU,iJ,cR,bW,gY,nJ,nT,o9,fZ,m5,bM,bY,oW,qm,ou,iK,iM,iL,cG,fu,iu,cQ,List.map,List.append,List.cons_append,List.nil_append];have l1:hs.length<=1000:=τ
 show SI AfI AhD Ĭ AfI AhD
 have Vm:İ m.length (oF m.length (A i)= .lst (Í o A1Q)):=NC (by
  unfold oF;rw[YG (AG o A1Q) m];show ALJ congrArg D.lst AkK;show qD (Anq i j)=_;unfold nM;rw[bP List.mem_range.mp hj])
 have idx:∀j,j<m.length ->m.idxOf AXk=j:=fun j hj=>(QY List.getD_eq_getElem?_getD ASp (S.nm.idxOf_getElem j hj))
 have conv:∀(X:OU) i,AiN (ADe*X j) (eG m.length (C3 (ADe*X (m.idxOf AXk)))):=fun X i=>J6 fun j hj=>(MG (idx j hj))
 refine⟨m.length,A,⟨?_,m12,Iy i j hi hj⟩,fun y k hk y1 hy=> ?_,ψ X hX hsz⟩
 ·have t1:Fj m.length m.length A= AtV (.lst (Í h A4K)) AjI:=by
   unfold Fj;rw[hn,List.range_succ_eq_map,List.map_cons,List.map_map,<- hn,Vm 0 ξ]
   rw[YG (Re (D.lst (m.map fun o=>(AP8 h)))) hs];refine congrArg D.lst ?_;show A8=A8;refine List.cons_eq_cons.mpr (FY (List.map_congr_left AkL));have hi' :=List.mem_range.mp hi;show oF m.length (A B2)=_;rw[Vm B2 ξ]
   show ALJ congrArg D.lst (AM o _);rw[Ω ξ,gs]
  have t2:oF m.length (xw (A i m.length))= AtV (ci 0 1) AX7:=by
   unfold oF;rw[hn,List.range_succ_eq_map,List.map_cons,List.map_map,<- hn];rw[YG (Re AX7) hs];have a0:A 0 m.length=DE 0:=by
    show AqE 0=_;unfold nM;rw[AXi,BU];rfl
   refine congrArg D.lst ?_;show qD (A 0 m.length)::_=A8;rw[a0,J5];refine List.cons_eq_cons.mpr (FY (List.map_congr_left AkL));show qD (Anq B2 m.length)=_;unfold nM;rw[AXi,UO,gs]
  rw[t1,t2]
  rfl
 ·show Yr (Anq i j);unfold nM;split
  ·show Azt (IV (yaw W _)) 23 (IV (z78 L W _ _)) 24
  ·show Azt (IV (Vl 0)) 1 (IV (yb4 S.u L W _)) 128
 ·have z:=S.null (Re (y (m.idxOf h))) (N9 hi (AFG (hy i hi) conv)) (m.getD k default) (Yo hk)
  rw[idx k hk,y1] at z;exact AS8 z
 ·have a:=S.ans (Re (X (m.idxOf h))) (N9 hi (AFG (hX i hi) conv))
  have e:oF m.length X= .lst (Í h Aty):=by
   unfold oF;rw[YG (Re Aty) m];exact congrArg D.lst (List.map_congr_left fun j hj=>by rw[idx j (List.mem_range.mp hj)])
  rw[e];show AoF hsz;exact h _ a.1 a.2 ⟨d,d0,bd,fun g hg=>hd _ (List.idxOf_lt_length_of_mem hg)⟩
theorem yc1(ms:HP):toD (BV At8)= MZ ms.map gl:=AKT toD M5
theorem J9.sys(AbY)(G:AQ7)(u:EW)(A2c):(o5 BBo)/\∀ws:ο,ws.Nodup ->(∀w,w∈ws↔∃r∈AMn,Â) ->uc i3 ws m:=by
 show Ahg;have cl:AeT:=fun r hr hh h hk=>by
  show b0 S hS (F.to r hr);show Ays;have h1:Τ∈f:=sub _ (ADw e (gC.mpr Av_));have h2:h∈f:=sub _ (ADw e hk);rw[Yh p.dj hm hf hh h1];exact h2
 show B6 cl (fun ws nw hw=>⟨u.M m,nw,NM ((hw _).mpr Aiy),AyF,NM Ake,AM h hh,ψ C hC hx⟩)
 ·show AU S hS hs (p.co h).mp ⟨m,hm,hh⟩;show AZO;obtain⟨r',hr',_,e2⟩:=AMW h hs;exact⟨r',lE.mpr ⟨hr',AE e2 hh⟩,e2⟩
 ·have key:=p.min (AG x (x∈m ->C x)) (fun S hS hx y hy ym=> ?_) m hm (by
   obtain⟨x,h1,h2⟩:=hx;exact⟨x,h1,C4 h2⟩)
  ·exact AEQ (key x hx hx)
  ·show AZO;show Ays;have fm:m=f:=Yh p.dj hm hf ym (sub y hy);have Vn:∀z∈S,z∈m:=fun z hz=>(AE fm (sub z hz))
   have same:∀z,z∈S↔z∈kW i3 Ν:=Ξ (by
    rw[jB];constructor
    ·intro hz;obtain⟨r',h1,h2,h3⟩:=AMW z hz;exact sT r' (lE.mpr ⟨h1,AE h3 (Vn z hz)⟩) h3
    ·rintro⟨r',h1,h2,h3⟩;exact(e z).mpr (gC.mpr (sT r' (lE.mp h1).1 h3)))
   obtain⟨x,hx1,hx2⟩:=hx;obtain⟨r',h1,h2,h3⟩:=jB.mp ((same x).mp hx1);exact hC Ν (ADw hw ⟨r',h1,h2⟩) ⟨x,(same x).mp hx1,hx2 (Vn x hx1)⟩ y ((same y).mp hy)
theorem ygf(OF){m:ο}{w:Str}:dD i3 w=ANm filter (IG ARr):=by
 unfold dD ofM;rw[List.filter_filter,List.filter_filter];exact BEf r (Bool.and_comm _ _)
theorem yex{rows:BA}{m:ο}{w:Str}(h:Pw mv m):dD i3 w=aw:=by
 rw[ygf];refine List.filter_eq_self.mpr (NM (decide_eq_true (h _ ?_)));exact jB.mpr ⟨r,lP,ALv,rfl⟩
theorem yij{rows:BA}{m:ο}{h:Str}(hm:h∈m):qC i3 h=AXP:=by
 unfold qC ofM;rw[List.filter_filter];refine List.filter_congr (AM r _);show AWT
 ·simp [q,hm]
 ·simp [q]
theorem yi2(OF){m:ο}{x:D1}(cl:AeT){h:Str}(hm:h∈m)(e:xP i3 x h):ACQ:=by
 unfold xP at e⊢;rw[yij hm] at e;rw[<- e];show ő;show AXX;rw[yex (cl r hr'.1 (B4 hr'.2 hm))]
theorem z8u(OF){x y:D1}{h:Str}(e:∀r∈AXP,∀s∈dD rows Ν,x N_=y N_)(q:ACQ):xP rows y h:=by
 unfold xP at q⊢;rw[<- q];show ő;show AXX;have e1:=e r hr r (bx.mpr (nv hr'.1));rw[e1];have e2:DV (dD rows Ν) s (AaL (y N_)) (aA (dD rows Ν) fun s=>(AaL (x N_))):=lu fun s hs=>(MG (e r hr s hs))
 rw[e2]
theorem LB.M(OF)(L:OO)(m:ο):LB (ofM rows m):=by
 show DB (zM AD_ L.few) (NM (L.mm r (lE.mp hr).1)) (DF ?_);rw[ygf];exact zM AD_ (L.wk w)
theorem yar(A6L):ps=ws.map (DF AcM):=by
 show UI
 ·show AeP B.len.symm
 ·show wS;have hw:i<ws.length:=AE B.len h1
  rw[List.getElem_map];exact B.ex u i WV LN (zW hw) (zW h1)
theorem yeo(p:ο×Β):toD (wu p)= .dic ((AK).map .inr) p.2:=by
 unfold wu toD;rw[M5]
structure Gm (rows:BA) (m:ο) (x:D1):Prop where
 ev:br ACQ
 em:AXc
 sz:Apd
theorem Gm.congr{rows:BA}{m:ο}{x y:D1}(cl:AeT)(g:Gm rows m x)(e:br (x h=y h)):Gm rows m y:=by
 show uC (AV' (z8u (fun r hr s hs=>e _ ?_) (g.ev h hh))) (by show AoF g.sz;exact⟨d,d0,bd,AV' (A7 (e h hh) (hd h hh))⟩)
 ·show AXX;have hs' :=bx.mp hs;exact cl r hr'.1 (B4 hr'.2 hh) _ (jB.mpr (ñ s hs'.1 hs'.2))
 ·have:=g.em;unfold Mw at this⊢;show jp;exact ALb (e _ Ake).symm
theorem zzu{hs:ο}{x y:D1}(e:AKh (x h=y h)):gh hs x=gh hs y:=by
 unfold gh;rw[List.map_congr_left (g:=DZ (qD (y h))) fun h hh=>by rw[e h hh]]
theorem zx3{hs:ο}{h:Str}{x:D1}(n:h∉hs):T.dic (jg Ġ ub) (Nn (fL Ġ (AWK AAo) ub (qD (x h))).map)=gh (hs++ [h]) x:=by
 rw[znv];unfold mC fL gh;rw[Ω n,Kf,decide_eq_false n,UC];simp
theorem PB{α:Type}{l:AI}{i:Nat}(h:i<l.length):l.take (BQ)=l.take i++ [l[i]]:=ATQ si
theorem J9.hand(A6M){m:ο}(hm:m∈ms){x:Str}(hx:x∈m):APa x:=by
 show Ahg;show AU S hS hs (p.co x).mp ⟨m,hm,hx⟩;show AZO;obtain⟨r',hr',_,e2⟩:=AMW x hs;exact⟨r',hr',e2⟩
theorem zy4(AX U7):Ah8 zn2 6:=by
 obtain⟨rows,U,rfl,u,L,hU,hr,h⟩:=h;show NV;have few:=L.few;intro as;show zi5 K c (FN Q) [BS,p_ AFn,υ,υ,υ,υ] SZ;refine⟨rows,U,rfl,τ,τ,hr,AM ms G⟩
 simp only [yc1];show Ahg;have nd:ms.flatten.Nodup:=zkr p.dj fun f hf=>M4 (G.sr f hf);show SU (∃(as:AO) (x:D1) (y2 y3 y4 y5:Slot),(∀m∈ms.take i,Gm rows m x)/\Γ= AWy y2 y3) ⟨as,r8,_,_,_,_,Abn m hm hm,rfl⟩
 ·rintro i d _ hi ⟨as,x,y2,y3,y4,y5,hg,rfl⟩;show On ms.length (Oy SH)
  show eh;cases hi;have hm:ADG∈ms:=yU hi';have apart:∀h∈ADG,h∉ AAX:=fun h hh z=>by
   have:=nd;show AtA (Adi ms) this;refine this.2.2 h z h ?_ rfl;refine List.mem_flatten.mpr ⟨ADG,?_,hh⟩;show ArT;exact zV
  have cl:=(G.sys u hm).1;have tk:ms.take (BQ)=ms.take i++ [ADG]:=PB hi';have fl:AwV=AAX++ADG:=by rw[tk,List.flatten_append];simp
  generalize em:ADG=m at*;have sub:∀z∈m,z∈U:=fun z hz=>A_v
  have ndm:m.Nodup:=AyF;have m12:m.length<=12:=zM (Dl ndm sub) hU;show ZE zh2 (AWy ALs y3);show II (rows.map Ah);refine Yy Ah Ah (oB ARr) (rL r hr) ?_
  ·refine EG Abi (Hy (j:=1) rfl) (z12 m) ?_;show O_ (AC false _ (inD (HE Τ) (m.map WO)));rw[zug];show EZ am
   ·show AFq Ğ
   ·show AFq ĝ
  show DC AMn rfl (zM AD_ ξ) Axc
  have ep:=yar B (u.M m);have ex:lK (ps.map wu)=ws.map (Hj (ofM rows m)):=by
   rw[YB,ep,List.map_map];exact List.map_congr_left fun w _=>yeo _
  show Fh k6 (lK (ps.map wu)) (by simp only [toD];rfl)
  rw[ex];have W:xQ i3 ws:=⟨zM B.lw (L.M m).few,fun w hw z=>by
   show AU r h1 h2 (B.wm w).mp hw;have:=AjH;show Ap z;show DT⟩
  show ZE zge (AWy ALs AiR);refine⟨AMn,ws,m,rfl,(G.sys u hm).2 ws B.nd B.wm,L.M m,W,p.ne m hm,m12,Iy xm ev sm sz⟩
  let x' :D1:=Ξ (if z∈m then xm z else x z)
  have ex1:∀z∈m,x' z=xm z:=fun z hz=>(AZ hz);have ex0:∀z∈ AAX,x' z=x z:=fun z hz=>(Ω (i4 (apart z q hz)));have gm:Gm rows m x' :=Gm.congr cl ⟨AUx (yi2 cl hz (ev z hz)),sm,sz⟩ (AUx (ex1 z hz).symm);have gms:∀f∈ms.take (BQ),Gm rows f x' :=fun f hf=>by
   rw[tk] at hf;show Anc
   ·exact Gm.congr (G.sys u (List.mem_of_mem_take hf)).1 (hg f hf) (AUx (ex0 z (List.mem_flatten.mpr ⟨f,hf,hz⟩)).symm)
   ·show Rs hf;exact gm
  have ez:kY (m.map D.str) (m.map (DZ (qD (xm h))))=m.map (DZ (RF AQB AfO)):=by
   unfold kY;show UI
   ·simp
   ·intro j h1 h2;simp only [List.getElem_zipWith,List.getElem_map];rw[ex1 _ (List.getElem_mem _)]
  show nZ (kY (m.map D.str) (Í h (qD (xm h)))) (d9 2 (h_ (B7 4) 5)) (zh5 K c) _ _ (AWy ALs AiR);rw[ez];have fll:(ms.take i).flatten.length+m.length<=1000:=by
   have h1:(AwV).Nodup:=by
    show AtA (List.take_append_drop B2 ms) nd;exact nd.1
   have:=Dl h1 (U:=U) fun z hz=>by
    show Aq5 hzf hz;obtain⟨r,g1,g2⟩:=G.hand (List.mem_of_mem_take hf) hzf;rw[<- g2];exact hr r g1
   show XG fl List.length_append;omega
  show Fh (fun j Γ=>∃(as:AO) (y4 y5:Slot),Γ= [BS,p_ (gh AMk x'),ALs,AiR,y4,y5]) ⟨as,y4,y5,?_⟩ ?_
  ·rw[List.take_zero,List.append_nil,zzu fun z hz=>ex0 z hz]
  ·rintro j d _ hj ⟨as,z4,z5,rfl⟩;have hj' :j<m.length:=Oy (ID hj)
   show AGz (VM hj') hj;cases hj;have nn:m[j]∉ AAX++m.take j:=Ξ (by
    show JS (zQ.mp z)
    ·exact apart _ (yU hj') z
    ·show AMj ndm;show b0 q hq (List.mem_iff_getElem.mp z);rw[List.length_take] at hq;rw[List.getElem_take] at e;exact key q j ξ hj' ξ e)
   refine⟨rfl,rfl,F9 as _,.inr m[j],as,_,(AMk).map fun h=>AfO,rfl,rfl,?_,?_⟩
   ·show ACh List.length_append List.length_take;omega
   ·show Fh as (IU m[j]) (.pu (qD (x' m[j])));show [Slot.pu (bh rows),Slot.tr as (T.dic (jg ((AMk).map .inr) (CA m[j])) (Nn (fL ((AMk).map .inr) ((AMk).map fun h=>AfO) (CA m[j]) (qD (x' m[j]))).map)),_,_,_,_]=_;rw[zx3 nn,List.append_assoc,<- PB hj']
  ·rintro _ ⟨as,z4,z5,rfl⟩;rw[List.length_map,List.take_length,<- fl];exact⟨as,x',_,_,_,_,gms,rfl⟩
 ·rintro _ ⟨as,x,y2,y3,y4,y5,hg,rfl⟩;rw[List.length_map,List.take_length] at hg⊢;exact h ms x ⟨G,AoO ev,AoO em,AoO sz⟩
theorem Bw{n:Nat}(i j:Int):vY n tq (B5 j):=by cases n<;>simp [vY]
theorem zty(AX U8):Hn Yt 5:=by
 obtain⟨a,b,d,e,n,rfl,he,h⟩:=h;show GI Yt [A4 a,A4 b,A4 d,A4 e,kB];unfold Yt;dsimp only [aG,bw,cC,cV,cB,cT,gR,qd,fW,cH,gU,dF,nP,aq,aj,cZ,dM,dN,dh,aU,dW,cN,aV,cg,hName,d8,aW,d9,iD,gW,aB,cU,ig,eZ,dw,eY,bT,eO,cI,gF,n6,oZ,mZ,qe,qg,gO,jN,nQ,cM,wI,nG,n8,jO,qj,ql,bH,iG,dY,iH,iI,List.length,List.set_cons_zero,List.set_cons_succ,List.getElem?_cons_zero,List.getElem?_cons_succ,dB,jP,nR,o8,mK,mL,mU,iJ,cR,bW,gY,nJ,nT,o9,fZ,m5,bM,bY,oW,qm,ou,iK,iM,iL,cG,fu,iu,cQ,List.map,List.append,List.cons_append,List.nil_append];show ğ;split
 ·exact É (h _)
 ·unfold zhf;dsimp only [aG,bw,cC,cV,cB,cT,gR,qd,fW,cH,gU,dF,nP,aq,aj,cZ,dM,dN,dh,aU,dW,cN,aV,cg,hName,d8,aW,d9,iD,gW,aB,cU,ig,eZ,dw,eY,bT,eO,cI,gF,n6,oZ,mZ,qe,qg,gO,jN,nQ,cM,wI,nG,n8,jO,qj,ql,bH,iG,dY,iH,iI,List.length,List.set_cons_zero,List.set_cons_succ,List.getElem?_cons_zero,List.getElem?_cons_succ,dB,jP,nR,o8,mK,mL,mU,iJ,cR,bW,gY,nJ,nT,o9,fZ,m5,bM,bY,oW,qm,ou,iK,iM,iL,cG,fu,iu,cQ,List.map,List.append,List.cons_append,List.nil_append];show ğ;split
  ·show BB he pb;cases kO (B5 d) (B5 (b.fmod e)) with
   | true=>exact h true
   | false=>exact⟨he,pb,h _⟩
  ·unfold zhg;dsimp only [aG,bw,cC,cV,cB,cT,gR,qd,fW,cH,gU,dF,nP,aq,aj,cZ,dM,dN,dh,aU,dW,cN,aV,cg,hName,d8,aW,d9,iD,gW,aB,cU,ig,eZ,dw,eY,bT,eO,cI,gF,n6,oZ,mZ,qe,qg,gO,jN,nQ,cM,wI,nG,n8,jO,qj,ql,bH,iG,dY,iH,iI,List.length,List.set_cons_zero,List.set_cons_succ,List.getElem?_cons_zero,List.getElem?_cons_succ,dB,jP,nR,o8,mK,mL,mU,iJ,cR,bW,gY,nJ,nT,o9,fZ,m5,bM,bY,oW,qm,ou,iK,iM,iL,cG,fu,iu,cQ,List.map,List.append,List.cons_append,List.nil_append];show ğ;split
   ·show Fh AB AB pb
    cases kO (B5 (b.fmod 2)) (B5 (d.fmod 2)) with
    | true=>exact É (h _)
    | false=>exact h false
   ·exact h true
theorem Kl:AjW= [97,98,99,100,101,102,103,104,105,106,107,108,109,110,111,112,113,114,115,116,117,118,119,120,121,122]:=tS
theorem M7:BE Str.ofString "abcdefghijklmnopqrstuvwxyz"=26:=by
 show BBj cps.size=26;rw[<- Array.length_toList,Kl];rfl
def Hq(b:Bool):Int:=IC b 1
theorem Km{i:Int}{k:Nat}(h:Aiv)(hk:k<=9000:=by decide):AfT:=zM (oV h) hk
theorem ydo(AxV):AXQ rs.map Ah (BO Cc)=AH rs.drop k Ah:=by
 show AFN;show BDS;rw[UO,Int.toNat_natCast,BDj,<- List.map_drop,<- List.map_take,List.take_of_length_le (by rw[List.length_drop];omega)]
theorem yet(AxV):cutD (rs.map Ah) none (some Cc)=AH rs.take k Ah:=by
 show AFN;show BDS;rw[UO,Int.toNat_natCast,BDj,List.drop_zero,Nat.sub_zero,<- List.map_take]
theorem yah(G_){f:ADl}{xs:AI}{k:Nat}(h:k<xs.length):tF xs.map f Cc (f xs[k]):=AxW
theorem Vo{k:Nat}(h:k<26):ρ (nF AjW Cc) (97+k):=by
 refine Hy ?_;rw[Kl];have:∀k:Fin 26,DA [97,98,99,100,101,102,103,104,105,106,107,108,109,110,111,112,113,114,115,116,117,118,119,120,121,122] k.1 (97+k.1):=AB
 exact this ⟨k,h⟩
theorem Vp{i:Int}(h:0<=i/\i<26):Ã AjW (97+i.toNat):=by
 have e:i=CY i.toNat:=τ
 have:=Vo (k:=i.toNat) ξ
 rw[<- e] at this;exact this
def txt(AlC):Str:=ARX D8 f
theorem z8p(AlC):txt n f++ (⟨#[f n]⟩:Str)=txt IE f:=by
 show(⟨WF D8 f++ #[f n]⟩:Str)=ARX sj f
 congr 1
 show ACi List.range_succ;simp
theorem ybg{n m:Nat}{f g:WA}(h:txt n f=txt m g):n=m/\∀j,j<n ->f j=g j:=by
 have e:D8 f=AIf g:=by
  have:=congrArg (fun s:Str=>s.cps.toList) h
  simpa [txt] using this
 have l:n=m:=AN (uv List.length)
 subst l;show YE rfl j hj;have:=uv (AG l l[j]?)
 simpa [hj] using this
theorem ycw(AlC):MI txt n f=n:=by
 show(D8 f).toArray.size=n;simp
theorem z32{α:Type}{g:GH α}{m:Nat}(h:Avk (g i=g j)):js AIf g:=by
 refine Ym (R:=Ź (a≠b)) List.nodup_range (Am2 (n (h a b (List.mem_range.mp ha) (List.mem_range.mp hb) e)))
theorem zwb(AX O9):Hn Ys 10:=by
 show Bn n m hm h h;show š 1000
 let L:Str:=ARP "abcdefghijklmnopqrstuvwxyz"
 have main:∀sz:Nat,1<=sz/\sz<=8 ->GI ze8 [kB,kC,ui,t9,υ,υ,υ,υ,υ,υ]:=by
  intro sz hsz;unfold ze8;dsimp only [aG,bw,cC,cV,cB,cT,gR,qd,fW,cH,gU,dF,nP,aq,aj,cZ,dM,dN,dh,aU,dW,cN,aV,cg,hName,d8,aW,d9,iD,gW,aB,cU,ig,eZ,dw,eY,bT,eO,cI,gF,n6,oZ,mZ,qe,qg,gO,jN,nQ,cM,wI,nG,n8,jO,qj,ql,bH,iG,dY,iH,iI,List.length,List.set_cons_zero,List.set_cons_succ,List.getElem?_cons_zero,List.getElem?_cons_succ,dB,jP,nR,o8,mK,mL,mU,iJ,cR,bW,gY,nJ,nT,o9,fZ,m5,bM,bY,oW,qm,ou,iK,iM,iL,cG,fu,iu,cQ,List.map,List.append,List.cons_append,List.nil_append];show BB (AlN 5) τ
  show AU at_ ea hat (Kj Pj (n.fdiv 24) n sz) ξ
  rw[ea]
  let one:Bool:=A2a
  let num:dk:=C3 ((n.fdiv 24*48271+ RE* RE*69621+ RE*7).fmod 2147483647)
  let f:AGb Nat:=fun k j=>97+ A3u
  let ln:WA:=dE Aln
  have Oo:∀k,k<20 ->ln k<=28:=fun k hk=>by
   show Aln<=28;split<;>omega
  let nm:GH Str:=dE (txt (ln k) (f k))
  have inj:Avk (nm i=nm j):=fun i j hi hj e=>by
   show Cn e1 e2 ybg e;have e1' :sz+i* AbK=sz+j* AbK:=e1;by_cases o:AaX
   ·rw[AZ o] at e1';omega
   ·have e3:=e2 at_ (AQI (at_<sz+_))
    have e3' :97+ AxG K_=97+ AxG RE:=e3;rw[decide_eq_true rfl] at e3';have ob:one=false:=AN o
    rw[ob] at e3';have l1:=AFk (num at_+ K_*Alq) 26 χ
    have l2:=AFk (num at_+ RE*Alq) 26 χ
    have b1:Alq=1:=rfl;rw[b1,Int.mul_one] at l1 l2;rw[b1,Int.mul_one,Int.mul_one] at e3';rw[AdS χ] at e3' l1 l2
    rw[AdS χ] at e3'
    omega
  unfold zhy;dsimp only [aG,bw,cC,cV,cB,cT,gR,qd,fW,cH,gU,dF,nP,aq,aj,cZ,dM,dN,dh,aU,dW,cN,aV,cg,hName,d8,aW,d9,iD,gW,aB,cU,ig,eZ,dw,eY,bT,eO,cI,gF,n6,oZ,mZ,qe,qg,gO,jN,nQ,cM,wI,nG,n8,jO,qj,ql,bH,iG,dY,iH,iI,List.length,List.set_cons_zero,List.set_cons_succ,List.getElem?_cons_zero,List.getElem?_cons_succ,dB,jP,nR,o8,mK,mL,mU,iJ,cR,bW,gY,nJ,nT,o9,fZ,m5,bM,bY,oW,qm,ou,iK,iM,iL,cG,fu,iu,cQ,List.map,List.append,List.cons_append,List.nil_append];show CI G1;unfold zhz;refine AWt k (∃(x1 x2 x3 x4:Slot),Γ= [kB,kC,ui,t9,Ċ,ť,x1,x2,x3,x4]) ⟨_,_,_,_,rfl⟩
  ·rintro k _ hk ⟨x1,x2,x3,x4,rfl⟩;have abH:k<20:=τ
   show ZE zeo [kB,kC,ui,t9,Ċ,ť,A4 AEl,x2,x3,x4];rw[Int.zero_add];unfold zeo;dsimp only [aG,bw,cC,cV,cB,cT,gR,qd,fW,cH,gU,dF,nP,aq,aj,cZ,dM,dN,dh,aU,dW,cN,aV,cg,hName,d8,aW,d9,iD,gW,aB,cU,ig,eZ,dw,eY,bT,eO,cI,gF,n6,oZ,mZ,qe,qg,gO,jN,nQ,cM,wI,nG,n8,jO,qj,ql,bH,iG,dY,iH,iI,List.length,List.set_cons_zero,List.set_cons_succ,List.getElem?_cons_zero,List.getElem?_cons_succ,dB,jP,nR,o8,mK,mL,mU,iJ,cR,bW,gY,nJ,nT,o9,fZ,m5,bM,bY,oW,qm,ou,iK,iM,iL,cG,fu,iu,cQ,List.map,List.append,List.cons_append,List.nil_append];unfold zfr;dsimp only [aG,bw,cC,cV,cB,cT,gR,qd,fW,cH,gU,dF,nP,aq,aj,cZ,dM,dN,dh,aU,dW,cN,aV,cg,hName,d8,aW,d9,iD,gW,aB,cU,ig,eZ,dw,eY,bT,eO,cI,gF,n6,oZ,mZ,qe,qg,gO,jN,nQ,cM,wI,nG,n8,jO,qj,ql,bH,iG,dY,iH,iI,List.length,List.set_cons_zero,List.set_cons_succ,List.getElem?_cons_zero,List.getElem?_cons_succ,dB,jP,nR,o8,mK,mL,mU,iJ,cR,bW,gY,nJ,nT,o9,fZ,m5,bM,bY,oW,qm,ou,iK,iM,iL,cG,fu,iu,cQ,List.map,List.append,List.cons_append,List.nil_append];show BB (AGv (AKG 3)) pb
   dsimp only [aG,bw,cC,cV,cB,cT,gR,qd,fW,cH,gU,dF,nP,aq,aj,cZ,dM,dN,dh,aU,dW,cN,aV,cg,hName,d8,aW,d9,iD,gW,aB,cU,ig,eZ,dw,eY,bT,eO,cI,gF,n6,oZ,mZ,qe,qg,gO,jN,nQ,cM,wI,nG,n8,jO,qj,ql,bH,iG,dY,iH,iI,List.length,List.set_cons_zero,List.set_cons_succ,List.getElem?_cons_zero,List.getElem?_cons_succ,dB,jP,nR,o8,mK,mL,mU,iJ,cR,bW,gY,nJ,nT,o9,fZ,m5,bM,bY,oW,qm,ou,iK,iM,iL,cG,fu,iu,cQ,List.map,List.append,List.cons_append,List.nil_append];rw[IK];have hb:(AC (A2 A2a) Qb 0)=CY Awf:=by
    show(AC AaX Qb 0)=_;split<;>rfl
   rw[hb];show CI (Amu 5)
   have hr:AF sz+ Cc* CY Awf=CY (ln k):=by
    show _=CY Aln;rw[Int.natCast_add,Int.natCast_mul]
   rw[hr];have adV:=Oo k abH;refine BBS (fun j Γ=>∃x3 x4,Γ= [kB,kC,ui,t9,Ċ,ť,ĉ,AnR,x3,x4]) (Is _)
   ·rintro j _ hj ⟨y3,y4,rfl⟩;have adW:j<28:=τ
    show ZE zef [kB,kC,ui,t9,Ċ,ť,ĉ,AnR,A4 (0+ RE),y4];rw[Int.zero_add];have bj:dU RE<=64:=AIP 5 ξ
    unfold zef;dsimp only [aG,bw,cC,cV,cB,cT,gR,qd,fW,cH,gU,dF,nP,aq,aj,cZ,dM,dN,dh,aU,dW,cN,aV,cg,hName,d8,aW,d9,iD,gW,aB,cU,ig,eZ,dw,eY,bT,eO,cI,gF,n6,oZ,mZ,qe,qg,gO,jN,nQ,cM,wI,nG,n8,jO,qj,ql,bH,iG,dY,iH,iI,List.length,List.set_cons_zero,List.set_cons_succ,List.getElem?_cons_zero,List.getElem?_cons_succ,dB,jP,nR,o8,mK,mL,mU,iJ,cR,bW,gY,nJ,nT,o9,fZ,m5,bM,bY,oW,qm,ou,iK,iM,iL,cG,fu,iu,cQ,List.map,List.append,List.cons_append,List.nil_append];refine⟨AlN 5,AFP,.inl bj,AFP,.inl bj,AB,?_⟩
    show ZE zdd [kB,kC,ui,t9,Ċ,ť,ĉ,AnR,A4 j,AkM];unfold zdd;dsimp only [aG,bw,cC,cV,cB,cT,gR,qd,fW,cH,gU,dF,nP,aq,aj,cZ,dM,dN,dh,aU,dW,cN,aV,cg,hName,d8,aW,d9,iD,gW,aB,cU,ig,eZ,dw,eY,bT,eO,cI,gF,n6,oZ,mZ,qe,qg,gO,jN,nQ,cM,wI,nG,n8,jO,qj,ql,bH,iG,dY,iH,iI,List.length,List.set_cons_zero,List.set_cons_succ,List.getElem?_cons_zero,List.getElem?_cons_succ,dB,jP,nR,o8,mK,mL,mU,iJ,cR,bW,gY,nJ,nT,o9,fZ,m5,bM,bY,oW,qm,ou,iK,iM,iL,cG,fu,iu,cQ,List.map,List.append,List.cons_append,List.nil_append];show ğ;have step:∀t:Bool,t=(ω (RE=AHh)&& ! one) ->vX Cc (Hq t)/\ AKG 26/\∃ch:Nat,Υ L.length/\ρ (nF L.cps.toList ((num j+ Cc*Hq t).fmod 26)) ch/\ Υ (MI txt j ABZ+ Ps Atn)/\∃z3 z4,[Slot.pu (B5 n),kC,ui,t9,Ċ,ť,ĉ,IU (txt j (f k)++ Atn),A4 j,AkM]= [kB,kC,ui,t9,Ċ,ť,ĉ,IU (txt Ü ABZ),z3,z4]:=fun t et=>by
     have hch:=Vp (AFk (num j+ Cc*Hq t) 26 χ)
     refine⟨Amu 5,AB,_,by rw[Mo L.length 26 M7];omega,hch,by rw[ycw];show Υ (j+1);omega,A4 j,AkM,?_⟩
     subst et;rw[AKy (97+ A3u) (f k j),z8p]
    rw[IK];show OM RE AHh
    ·show ą q;rw[Ğ] at step;show BB AB pb
     rw[IK];exact step _ rfl
    ·show Ą q;rw[ĝ] at step;exact step false rfl
   ·rintro _ ⟨y3,y4,rfl⟩;rw[Int.toNat_natCast];refine⟨CO,by show ACh List.length_map List.length_range;omega,ĉ,IU (txt (ln k) ABZ),y3,y4,?_⟩
    rw[List.range_succ,List.map_append,List.map_append]
    rfl
  ·rintro _ ⟨x1,x2,x3,x4,rfl⟩;rw[Int.toNat_natCast];exact h _ Μ (z32 inj)
 show GI Ys [kB,kC,υ,υ,υ,υ,υ,υ,υ,υ];unfold Ys;dsimp only [aG,bw,cC,cV,cB,cT,gR,qd,fW,cH,gU,dF,nP,aq,aj,cZ,dM,dN,dh,aU,dW,cN,aV,cg,hName,d8,aW,d9,iD,gW,aB,cU,ig,eZ,dw,eY,bT,eO,cI,gF,n6,oZ,mZ,qe,qg,gO,jN,nQ,cM,wI,nG,n8,jO,qj,ql,bH,iG,dY,iH,iI,List.length,List.set_cons_zero,List.set_cons_succ,List.getElem?_cons_zero,List.getElem?_cons_succ,dB,jP,nR,o8,mK,mL,mU,iJ,cR,bW,gY,nJ,nT,o9,fZ,m5,bM,bY,oW,qm,ou,iK,iM,iL,cG,fu,iu,cQ,List.map,List.append,List.cons_append,List.nil_append];unfold zh4;dsimp only [aG,bw,cC,cV,cB,cT,gR,qd,fW,cH,gU,dF,nP,aq,aj,cZ,dM,dN,dh,aU,dW,cN,aV,cg,hName,d8,aW,d9,iD,gW,aB,cU,ig,eZ,dw,eY,bT,eO,cI,gF,n6,oZ,mZ,qe,qg,gO,jN,nQ,cM,wI,nG,n8,jO,qj,ql,bH,iG,dY,iH,iI,List.length,List.set_cons_zero,List.set_cons_succ,List.getElem?_cons_zero,List.getElem?_cons_succ,dB,jP,nR,o8,mK,mL,mU,iJ,cR,bW,gY,nJ,nT,o9,fZ,m5,bM,bY,oW,qm,ou,iK,iM,iL,cG,fu,iu,cQ,List.map,List.append,List.cons_append,List.nil_append];show BB (AlN 2) AB
 show AU t8 e8 h8 (Kj Pj (n.fdiv 3) n 8) χ
 rw[show(n.fdiv 3).fmod 8=AF t8 from e8];unfold zh0;dsimp only [aG,bw,cC,cV,cB,cT,gR,qd,fW,cH,gU,dF,nP,aq,aj,cZ,dM,dN,dh,aU,dW,cN,aV,cg,hName,d8,aW,d9,iD,gW,aB,cU,ig,eZ,dw,eY,bT,eO,cI,gF,n6,oZ,mZ,qe,qg,gO,jN,nQ,cM,wI,nG,n8,jO,qj,ql,bH,iG,dY,iH,iI,List.length,List.set_cons_zero,List.set_cons_succ,List.getElem?_cons_zero,List.getElem?_cons_succ,dB,jP,nR,o8,mK,mL,mU,iJ,cR,bW,gY,nJ,nT,o9,fZ,m5,bM,bY,oW,qm,ou,iK,iM,iL,cG,fu,iu,cQ,List.map,List.append,List.cons_append,List.nil_append];show BB AB pb
 split
 ·exact main 1 ξ
 ·have:=main (1+t8) ξ
  show Ap Int.natCast_add;exact this
theorem ybh{a b:BA}(p:a.Perm b)(u:Uq b):Uq a:=(List.Perm.pairwise_iff (R:=fun(a b:Rw)=>A7z) (fun h z=>h ⟨(z.1).symm,(z.2).symm⟩) p).mpr u
theorem zzt(AX U9):Hn Yu 12:=by
 obtain⟨ns,hands,works,rfl,hl,h1,h5,h8,h⟩:=h;show š 1000
 let S:D:= r9
 have main:∀(way most:Int),0<most ->most<=10^12 ->GI zf7 [Ee,ACx,ACy,AJ6,AJ7,υ,υ,υ,υ,υ,υ,υ]:=by
  intro way most hm0 hm1;have Vq:most≠0:=τ
  unfold zf7;dsimp only [aG,bw,cC,cV,cB,cT,gR,qd,fW,cH,gU,dF,nP,aq,aj,cZ,dM,dN,dh,aU,dW,cN,aV,cg,hName,d8,aW,d9,iD,gW,aB,cU,ig,eZ,dw,eY,bT,eO,cI,gF,n6,oZ,mZ,qe,qg,gO,jN,nQ,cM,wI,nG,n8,jO,qj,ql,bH,iG,dY,iH,iI,List.length,List.set_cons_zero,List.set_cons_succ,List.getElem?_cons_zero,List.getElem?_cons_succ,dB,jP,nR,o8,mK,mL,mU,iJ,cR,bW,gY,nJ,nT,o9,fZ,m5,bM,bY,oW,qm,ou,iK,iM,iL,cG,fu,iu,cQ,List.map,List.append,List.cons_append,List.nil_append];refine⟨ns,4,rfl,hl,τ,_,works,rfl,τ,ψ nms hnm nnd⟩
  unfold zi4;dsimp only [aG,bw,cC,cV,cB,cT,gR,qd,fW,cH,gU,dF,nP,aq,aj,cZ,dM,dN,dh,aU,dW,cN,aV,cg,hName,d8,aW,d9,iD,gW,aB,cU,ig,eZ,dw,eY,bT,eO,cI,gF,n6,oZ,mZ,qe,qg,gO,jN,nQ,cM,wI,nG,n8,jO,qj,ql,bH,iG,dY,iH,iI,List.length,List.set_cons_zero,List.set_cons_succ,List.getElem?_cons_zero,List.getElem?_cons_succ,dB,jP,nR,o8,mK,mL,mU,iJ,cR,bW,gY,nJ,nT,o9,fZ,m5,bM,bY,oW,qm,ou,iK,iM,iL,cG,fu,iu,cQ,List.map,List.append,List.cons_append,List.nil_append];refine⟨ns,5,rfl,hl,τ,_,hands,rfl,τ,ψ IW hpp pnd⟩
  unfold zis;dsimp only [aG,bw,cC,cV,cB,cT,gR,qd,fW,cH,gU,dF,nP,aq,aj,cZ,dM,dN,dh,aU,dW,cN,aV,cg,hName,d8,aW,d9,iD,gW,aB,cU,ig,eZ,dw,eY,bT,eO,cI,gF,n6,oZ,mZ,qe,qg,gO,jN,nQ,cM,wI,nG,n8,jO,qj,ql,bH,iG,dY,iH,iI,List.length,List.set_cons_zero,List.set_cons_succ,List.getElem?_cons_zero,List.getElem?_cons_succ,dB,jP,nR,o8,mK,mL,mU,iJ,cR,bW,gY,nJ,nT,o9,fZ,m5,bM,bY,oW,qm,ou,iK,iM,iL,cG,fu,iu,cQ,List.map,List.append,List.cons_append,List.nil_append];show CI G1;unfold ziu;refine AWt w (∃(rows:BA) (x8 x9 x10:Slot),yA (w*hands)/\ (o5 (Τ∈IW))/\ (EW/\ Abx/\DS (∃v,v<w/\Azg))/\Γ= [Ee,ACx,ACy,AJ6,AJ7,AU5,AU6,ATM,x8,x9,x10,υ]) ⟨[],_,_,_,An,Aod,⟨List.Pairwise.nil,Aod,Aod⟩,rfl⟩
  ·rintro w _ hw ⟨rows,x8,x9,x10,hrl,Ko,⟨uq,mk,wv⟩,rfl⟩;have hw8:w<works:=τ
   have Kh:w*hands<=8*5:=Nat.mul_le_mul ξ h5
   show ZE zfc [Ee,ACx,ACy,AJ6,AJ7,AU5,AU6,ATM,A4 (0+ ARk),x9,x10,υ];rw[Int.zero_add];unfold zfc;refine AWt q (∃(rows:BA) (x9 x10:Slot),yA (w*hands+q)/\ (o5 (Τ∈IW))/\ (EW/\ Abx/\DS (∃v,Azg/\ (v<w\/v=w/\∃o,o<q/\DA IW o Τ)))/\Γ= [Ee,ACx,ACy,AJ6,AJ7,AU5,AU6,ATM,A4 ARk,x9,x10,υ]) ⟨rows,_,_,hrl,Ko,Aid (NM (by show OH h1 h2 (wv r hr);exact⟨v,h2,.inl h1⟩)),rfl⟩
   ·rintro q _ hq ⟨rows,x9,x10,hrl,Ko,⟨uq,mk,wv⟩,rfl⟩;have GR:q<hands:=τ
    show ZE ze3 [Ee,ACx,ACy,AJ6,AJ7,AU5,AU6,ATM,A4 ARk,A4 (0+ AF q),x10,υ];rw[Int.zero_add];unfold ze3;dsimp only [aG,bw,cC,cV,cB,cT,gR,qd,fW,cH,gU,dF,nP,aq,aj,cZ,dM,dN,dh,aU,dW,cN,aV,cg,hName,d8,aW,d9,iD,gW,aB,cU,ig,eZ,dw,eY,bT,eO,cI,gF,n6,oZ,mZ,qe,qg,gO,jN,nQ,cM,wI,nG,n8,jO,qj,ql,bH,iG,dY,iH,iI,List.length,List.set_cons_zero,List.set_cons_succ,List.getElem?_cons_zero,List.getElem?_cons_succ,dB,jP,nR,o8,mK,mL,mU,iJ,cR,bW,gY,nJ,nT,o9,fZ,m5,bM,bY,oW,qm,ou,iK,iM,iL,cG,fu,iu,cQ,List.map,List.append,List.cons_append,List.nil_append];refine⟨Amu 4,ns,6+w*hands+q,?_,hl,τ,?_⟩
    ·rw[Int.natCast_add,Int.natCast_add,Int.natCast_mul];rfl
    generalize mz ns (6+w*hands+q)=cv;unfold zgc;dsimp only [aG,bw,cC,cV,cB,cT,gR,qd,fW,cH,gU,dF,nP,aq,aj,cZ,dM,dN,dh,aU,dW,cN,aV,cg,hName,d8,aW,d9,iD,gW,aB,cU,ig,eZ,dw,eY,bT,eO,cI,gF,n6,oZ,mZ,qe,qg,gO,jN,nQ,cM,wI,nG,n8,jO,qj,ql,bH,iG,dY,iH,iI,List.length,List.set_cons_zero,List.set_cons_succ,List.getElem?_cons_zero,List.getElem?_cons_succ,dB,jP,nR,o8,mK,mL,mU,iJ,cR,bW,gY,nJ,nT,o9,fZ,m5,bM,bY,oW,qm,ou,iK,iM,iL,cG,fu,iu,cQ,List.map,List.append,List.cons_append,List.nil_append];refine⟨way,ARk,AF q,AF hands,cv,rfl,τ,Jn t⟩
    cases t with
    | false=>exact⟨rows,_,_,τ,Ko,Aid (NM (by show OH h1 h2 (wv r hr);exact⟨v,h1,A8L⟩)),rfl⟩
    | true=>
     refine⟨CO,_,yah ξ,_,yah ξ,É (Km (k:=4) χ),Vq,?_⟩
     refine⟨gL (aE 3),Ĉ,rows++ [(nms[w],IW[q],(cv.fdiv 12).fmod most)],_,_,ACw List.length_append List.length_singleton,ALr,⟨?_,ALr,ALr⟩,GV List.map_append⟩
     ·show N3 hr hr hr
      ·exact Ko r hr
      ·show Rs hr;exact yU _
     ·refine List.pairwise_append.mpr ⟨uq,BDn,A5' z⟩;rw[BCH] at z;show OH h1 h2 (wv a ha);rw[z.1] at h1;show Cn hv ev zT.mp h1;have evw:v=w:=Yz nnd hv ξ ev
      rcases h2 with h2 | ⟨_,o,ho,h3⟩
      ·omega
      ·rw[z.2] at h3;show Cn hv' ev' zT.mp h3;have:=Yz pnd hv' ξ ev'
       omega
     ·show N3 hr hr hr
      ·exact mk r hr
      ·show Rs hr;have l:=AFk (cv.fdiv 12) most hm0;show((cv.fdiv 12).fmod most).natAbs<2^40;omega
     ·show N3 hr hr hr
      ·show ArX h1 A8L
      ·show Rs hr;exact⟨w,zW _,.inr ⟨rfl,q,τ,zW _⟩⟩
   ·rintro _ ⟨rows,x9,x10,hrl,Ko,⟨uq,mk,wv⟩,rfl⟩;refine⟨rows,_,_,_,?_,Ko,Aid ALr,rfl⟩
    ·rw[Nat.succ_mul];omega
    ·show ArX (by rcases h2 with h2 | h2<;>omega) h1
  ·rintro _ ⟨rows,x8,x9,x10,hrl,Ko,⟨uq,mk,wv⟩,rfl⟩;have Kh:works*hands<=8*5:=Nat.mul_le_mul h8 h5;have adX:rows.length<=40:=zM hrl (BH Kh)
   dsimp only;unfold zj5;dsimp only [aG,bw,cC,cV,cB,cT,gR,qd,fW,cH,gU,dF,nP,aq,aj,cZ,dM,dN,dh,aU,dW,cN,aV,cg,hName,d8,aW,d9,iD,gW,aB,cU,ig,eZ,dw,eY,bT,eO,cI,gF,n6,oZ,mZ,qe,qg,gO,jN,nQ,cM,wI,nG,n8,jO,qj,ql,bH,iG,dY,iH,iI,List.length,List.set_cons_zero,List.set_cons_succ,List.getElem?_cons_zero,List.getElem?_cons_succ,dB,jP,nR,o8,mK,mL,mU,iJ,cR,bW,gY,nJ,nT,o9,fZ,m5,bM,bY,oW,qm,ou,iK,iM,iL,cG,fu,iu,cQ,List.map,List.append,List.cons_append,List.nil_append];refine⟨ns,3,rfl,hl,τ,É (Km (k:=3) χ),trivial,?_,?_⟩
   ·show EU;omega
   obtain⟨t,et,ht⟩:=Kj Pj ((mz ns 3).fdiv 4) n BDc (Nat.succ_pos _);rw[show zt rows.map Ah+1=CY BDc by show EU;rfl,et]
   unfold zjq;dsimp only [aG,bw,cC,cV,cB,cT,gR,qd,fW,cH,gU,dF,nP,aq,aj,cZ,dM,dN,dh,aU,dW,cN,aV,cg,hName,d8,aW,d9,iD,gW,aB,cU,ig,eZ,dw,eY,bT,eO,cI,gF,n6,oZ,mZ,qe,qg,gO,jN,nQ,cM,wI,nG,n8,jO,qj,ql,bH,iG,dY,iH,iI,List.length,List.set_cons_zero,List.set_cons_succ,List.getElem?_cons_zero,List.getElem?_cons_succ,dB,jP,nR,o8,mK,mL,mU,iJ,cR,bW,gY,nJ,nT,o9,fZ,m5,bM,bY,oW,qm,ou,iK,iM,iL,cG,fu,iu,cQ,List.map,List.append,List.cons_append,List.nil_append];rw[ydo rows ξ,yet rows ξ]
   show CI (by show Agh List.length_drop List.length_take;omega)
   rw[<- List.map_append];have pm:(Afl++Afk).Perm rows:=fw (List.perm_append_comm (l₁:=Afl) (l₂:=Afk)) List.take_append_drop
   refine h (Afl++Afk) IW (by show Ac' List.length_drop List.length_take;omega) ξ (fun r hr=>(Av6 Ko)) (ybh pm uq) (NM (Av6 mk))
 show GI Yu [Ee,ACx,ACy,υ,υ,υ,υ,υ,υ,υ,υ,υ];unfold Yu;dsimp only [aG,bw,cC,cV,cB,cT,gR,qd,fW,cH,gU,dF,nP,aq,aj,cZ,dM,dN,dh,aU,dW,cN,aV,cg,hName,d8,aW,d9,iD,gW,aB,cU,ig,eZ,dw,eY,bT,eO,cI,gF,n6,oZ,mZ,qe,qg,gO,jN,nQ,cM,wI,nG,n8,jO,qj,ql,bH,iG,dY,iH,iI,List.length,List.set_cons_zero,List.set_cons_succ,List.getElem?_cons_zero,List.getElem?_cons_succ,dB,jP,nR,o8,mK,mL,mU,iJ,cR,bW,gY,nJ,nT,o9,fZ,m5,bM,bY,oW,qm,ou,iK,iM,iL,cG,fu,iu,cQ,List.map,List.append,List.cons_append,List.nil_append];refine⟨ns,2,rfl,hl,τ,AB,?_⟩
 unfold zi0;dsimp only [aG,bw,cC,cV,cB,cT,gR,qd,fW,cH,gU,dF,nP,aq,aj,cZ,dM,dN,dh,aU,dW,cN,aV,cg,hName,d8,aW,d9,iD,gW,aB,cU,ig,eZ,dw,eY,bT,eO,cI,gF,n6,oZ,mZ,qe,qg,gO,jN,nQ,cM,wI,nG,n8,jO,qj,ql,bH,iG,dY,iH,iI,List.length,List.set_cons_zero,List.set_cons_succ,List.getElem?_cons_zero,List.getElem?_cons_succ,dB,jP,nR,o8,mK,mL,mU,iJ,cR,bW,gY,nJ,nT,o9,fZ,m5,bM,bY,oW,qm,ou,iK,iM,iL,cG,fu,iu,cQ,List.map,List.append,List.cons_append,List.nil_append];refine⟨Aor 12,gL (aE 4),ns,3,rfl,hl,τ,AB,?_⟩
 show AU t et ht (Kj Pj (mz ns 3) n 4) χ
 rw[AKy (AF 4) (CY 4),et]
 match t,ht with
 | 0,_=>show AZR
 | 1,_=>show AZR
 | 2,_=>show AZR
 | 3,_=>show AZR
theorem zsd(AX Va):MM zhw:=by
 show ALO i j;show BB (fun m Γ=>∃a b:Int,Γ= [A4 a,A4 b]/\0<=a/\0<=b/\m=b.natAbs/\AWg Aam) ⟨_,ANP,A0z,rfl,BDW,BDW,rfl,?_⟩
 ·have e1:ANP=AF i.natAbs:=by split<;>omega
  have e2:A0z=AF j.natAbs:=by split<;>omega
  rw[e1,e2];rfl
 rintro m _ ⟨a,b,rfl,ha,hb,rfl,hg⟩;show O_ (ω (0<b));by_cases hz:0<b
 ·show uk hz
  have h0:x5:=τ
  refine⟨h0,_,ze5 h0,b,a.fmod b,rfl,hb,?_,rfl,FF zyi hg⟩
  rw[AdS hb];exact Int.emod_nonneg _ h0
 ·show Ĕ hz
  have:b=0:=τ
  show XY;rw[Int.gcd_zero_right] at hg;show Q (B5 a);have e:a=ASc:=τ
  rw[e];exact h
theorem FQ{x:Str ->D}{h:Str}:∀{hs:ο},gK Ġ (hs.map x) ub=Ac_ kR (some (x h))
 | []=>rfl
 | g::hs=>by
  show Ahv;unfold gK;show OM g h
  ·rw[AZ (by rw[q]),QU if_pos q List.mem_cons_self,q]
  ·rw[D_ (Ξ (q (by injection z))),FQ (hs:=hs)]
   by_cases p:kR
   ·rw[AZ p,BFO if_pos p]
   ·rw[Ω p,Ω (Ξ (by
     show JS AId
     ·exact q z.symm
     ·exact p z))]
theorem zxl(hs:ο):A_B:=Ģ
def FT(x:D1)(B:Int)(h:Str):Int:=(x h).num*B.fdiv AVq
theorem zu5{x:D1}{B:Int}{h:Str}(d:AVq∣B):Α (FT x B h)=x h* Α B:=by
 have e:=J2 d;obtain⟨n1,n2⟩:=z5q (x h);show ASs e' (Α B) (AVq* AF (B.fdiv AVq)) e.symm
 unfold FT;rw[Rat.intCast_mul,n1,e']
 grind
theorem z76{B d:Int}(h:d∣B)(h0:ē):(B.fdiv d).natAbs<=B.natAbs:=by
 have e:=AwW h;show ASO;rw[<- e];exact BGE
theorem z36{ws:ο}{f g:Str ->D}{w:Str}(e:∀v∈ws,v≠w ->f v=g v):fL (ws.map Kb) (ws.map f) AKN (g w)=(mC ws w).map g:=by
 unfold fL mC;rw[Kf];show EZ (w∈ws)
 ·rw[Ğ,BU,E6];clear q;induction ws with
  | nil=>rfl
  | cons v ws ih=>
   rw[List.map_cons,List.map_cons,List.map_cons,List.zipWith_cons_cons,ih fun u hu=>(ASd e u hu)]
   congr 1
   by_cases p:v=w
   ·rw[AZ (by rw[p]),p]
   ·show AV (Ξ (p (by injection z)))
    exact e v zV p
 ·rw[ĝ,UC,JI,List.map_append]
  congr 1
  exact List.map_congr_left fun v hv=>e v hv (č q hv)
def Ai(ws:ο)(f:ASQ):T:= .dic iN (AH ws.map AVI ACg)
theorem z5u(ws:ο)(f:ASQ):toD (Ai ws f)= .dic iN (ws.map AVI):=by
 unfold Ai toD;rw[M5]
theorem z4n{ws:ο}{f g:ASQ}{w:Str}(e:∀v∈ws,v≠w ->f v=g v):T.dic (jg iN AKN) (Nn (fL iN (P3 ws.map w (f w)) AKN (B5 (g w))).map)=Ai (mC ws w) g:=f_ znv (z36 (f:=AVI) (g:=DF (.int (g w))) fun v hv n=>(MG (e v hv n)))
def nO(G_)(l:AI)(f:ADm):Int:=Ai9
theorem znr{α:Type}(l:AI)(a:α)(f:ADm):nO (l++ [a]) f=nO l f+f a:=by
 unfold nO;rw[List.map_append,List.sum_append];simp
theorem znt(G_)(l:AI)(f:ADm):Α (nO l f)=BGk:=YD f l
theorem zxh(AYd):qC AEM w=ZU qC++ (AC (Τ=w) [r] []):=by
 unfold qC;rw[List.filter_append]
 congr 1
 show ACa (Τ=w)
theorem z7p(OF){w:Str}(h:¬(APa w)):qC rows w= []:=F_ qC (List.filter_eq_nil_iff.mpr fun r hr z=>Aw8)
structure Met (rows:BA) (k:Aia) (ws:ο):Prop where
 nd:ws.Nodup
 mem:∀w,w∈ws↔WH (k r=w)
 len:Aqf
theorem Met.nil(k:Aia):Met [] k []:=⟨List.nodup_nil,A5v (by(cases hr)),GB⟩
theorem Met.add(OF){k:Aia}{ws:ο}(M:Met rows k ws)(r:Rw):Met AEM k (mC ws (k r)):=by
 show DB (zp2 M.nd) (DF ?_) (zM zx5 (by show Ajx;exact Nat.add_le_add_right M.len 1))
 rw[zyb,M.mem];constructor
 ·show AgZ s hs e rfl ⟨s,zN _ hs,e⟩ (F9 r An)
 ·show ø s hs;show N3 hs hs hs
  ·show B3 ⟨s,hs,e⟩
  ·rw[List.mem_singleton.mp hs] at e;exact .inr e.symm
theorem z9z{ws:ο}{f:ASQ}{w:Str}(z:w∉ws ->f w=0):(gK iN (P3 ws.map w (f w)) AKN).getD tm= .int (f w):=by
 rw[FQ (x:=AVI)];show EZ (w∈ws)
 ·show DU q;rfl
 ·rw[Ω q,z q];rfl
theorem uQ.sz{N:Nat}{d:Int}{q:Rat}(h:AL1)(d0:ē)(bd:dU d<=N):Sz N q:=by
 show D' t rfl bt;exact zs1 d0 bt bd
theorem uQ.up{M N:Nat}{d:Int}{q:Rat}(h:uQ M d q)(l:M<=N):AL1:=by
 show D' t e bt;exact⟨t,e,zM bt l⟩
theorem uQ.add{N:Nat}{d:Int}{p q:Rat}(h1:uQ N d p)(h2:AL1):uQ (N+1) d (p+q):=by
 show ON t bt h1;show ON u bu h2;show BB (t+u) (by rw[Rat.intCast_add,Rat.div_def,Rat.div_def,Rat.div_def,Rat.add_mul])
 have:=WT t u;omega
theorem uQ.sum{N:Nat}{d:Int}:Awh AL1 (uQ (N+qs.length) d (gZ qs))
 | [],_=>⟨0,by show UK=DE 0/_;rw[Rat.div_def];show UK=0*_;rw[Rat.zero_mul],G1⟩
 | AVb,h=>by
  have h1:=uQ.sum (qs:=qs) (P_ AlQ);exact((h q zV).up (Nat.le_add_right _ _)).add h1
theorem uQ.less{N:Nat}{d m:Int}{q:Rat}(h:AL1)(d0:ē)(bd:dU d<=N)(hm:m.natAbs<2^100):uQ (N+101) d (Α m - q):=by
 show D' t rfl bt;show BB (m*d - t) ?_
 ·show SE dz (Α d) (ATx d0)
  rw[Rat.intCast_sub,Rat.intCast_mul,Rat.div_def,Rat.div_def,Rat.sub_eq_add_neg,Rat.sub_eq_add_neg,Rat.add_mul,Rat.mul_assoc,ARi dz,Rat.mul_one,Rat.neg_mul]
 ·have:=zki (m*d) t;have:=Bl m d;have:=oV hm;omega
theorem Lean.mem(A8I){r:Rw}(hr:r∈rows):Τ∈ms.flatten:=by
 show Ahh;show b0 T hT (F.to r hr);show AU f hf hx (p.co Τ).mpr ⟨T,hT,ADw e (gC.mpr Av_)⟩;exact List.mem_flatten.mpr ⟨f,hf,hx⟩
theorem J9.small(A6M){U:ο}{n:Nat}(hU:U.length<=n)(hr:AKY)(A2c):m.length<=n:=
 zM (Dl (M4 (G.sr m hm)) (AUx A_v)) hU
theorem Lean.lv(Aoj)(L:OO){U:ο}(hU:ŋ)(hr:AKY){w:Str}(ne:Ħ):AVH:=by
 obtain⟨r0,l0,e0⟩:∃r0 l0,dD rows w=r0::l0:=by
  cases e:aw with
  | nil=>show Lm e ne
  | cons a b=>exact F9 a b
 have h0:r0∈rows/\r0.1=w:=QU bx.mp e0 zV
 obtain⟨m,hm,hx⟩:=Aif h0.1;have cl:=Ar9 r0 h0.1 hx;show AFi Vn (∀r∈aw,am) (cl _ (jB.mpr (ñ r lP (FF ALv h0.2))))
 show AoF (G.sz m hm);have n4:=G.g.small hU hr hm;have bd:dU d<=736:=zM bd BEU
 have hd:br (uQ 736 d (x h)):=fun h hh=>(hd h hh).up (by unfold Iu;omega)
 have lv:∀q∈Dm x OG,uQ 837 d q:=fun q hq=>by
  show ku r hr hq;exact(hd _ (Vn r hr)).less d0 bd (L.mm r lP)
 have ln:(Dm x (dD rows w)).length<=12:=by unfold Dm;show EU;exact ATY
 have sm:∀qs:AW,qs.length<=12 ->(∀q∈qs,uQ 837 d q) ->Sz 849 (gZ qs):=fun qs h1 h2=>((uQ.sum h2).up ξ).sz d0 ξ
 refine⟨ne,ATY,NM (L.mm r lP),NM (((hd _ (Vn r hr)).sz d0 bd).up χ),fun q hq=>((lv q hq).sz d0 ξ).up χ,dE ((sm _ AgF fun q hq=>lv q (List.mem_of_mem_take hq)).up (Abj (849<=4000))),?_⟩
 have l0:AF WS≠0:=ACw e0 List.length_cons
 show SE l1 (DE WS) (ATx l0)
 refine(z0o (sm _ ln lv) (Kj Mr (AF WS) n 4 (oV ?_) χ) l1).up χ
 have:=ATY;omega
theorem yaj(AYw):Bt x L=aA L AO5/ Α L.length:=by
 unfold Bt Dm;rw[YC]
 rfl
theorem Lean.evr(A2s):DS (xP rows x Τ):=NM (by
 obtain⟨m,hm,hx⟩:=Aif hr;exact G.ev m hm _ hx)
theorem Lean.near(A8I)(u:EW){M:Rat}(M0:0<=M)(hM:DS Aco)(n:yA 49){U:ο}(hU:ŋ)(hr:AKY):DS (Ab (64*M) (x Τ)):=fun r hr' =>by
 obtain⟨m,hm,hx⟩:=Aif hr';show Ahh;have h:=zzx (rows:=rows) (x:=x) (B:=16*M) (m:=m) (M4 (G.g.sr m hm)) (fun r hr s hs e=>z1j G.evr M0 hM n hr hs e) NF (ψ C hC hx) (fun h hh=>G.g.hand hm hh) (fun r hr hx s hs e=>Ar9 r hr hx _ (jB.mpr (ñ s hs e.symm))) (G.em m hm) hx
 ·have l4:OL m.length<=OL 4:=RY (G.g.small hU hr hm)
  have l4' :ARp<=4:=l4;have:0<=(4 - ARp)* (16*M):=Rat.mul_nonneg NF NF
  have:=h.1;have:=h.2;constructor<;>grind
 ·refine p.min C (fun S hS hx b hb=> ?_) m hm hx;obtain⟨a,ha,ca⟩:=hx;show AZO;obtain⟨r1,h1,h2,h3⟩:=AMW a ha;obtain⟨r2,g1,g2,g3⟩:=AMW b hb;rw[<- g3];exact hC r1 h1 r2 g1 (h2.trans g2.symm) (B4 h3 ca)
theorem Lean.worth(Aoj){M:Rat}(M0:0<=M)(A4Z){U:ο}(hU:ŋ)(hr:AKY)(w:Str):Ab (65*M) APJ:=by
 rw[yaj];refine yee (HQ r hr') NF
 have h1:=G.near u M0 hM n hU hr r Afq;have h2:=hM r Afq;have:=h1.1;have:=h1.2;have:=h2.1;have:=h2.2;constructor<;>grind
theorem yea(AX Pa):dy zqu:=by
 obtain⟨qs,g,rfl,ne,hl,z4,hs,h⟩:=h;have np:d7≠Fl:=by show PF
 show Axy qs.length ne;show SB d7;show AV np;show O_ (ω (Au8<1));rw[D_ AhD]
 show CI (A0 vY)
 rw[zuk];show O_ (ω (d7=d7));show DU Μ
 show SI qs rfl hl z4 hs;show AV ne;exact h
theorem fJ.look{c:Cls}{S:fJ}{b:tw}:∃fs xs,AFT= .obj c.ak fs xs/\AE_ "kept_leanings" S.leans/\AE_ "marks" S.marks/\AE_ "sheets" S.sheets/\AE_ "scale" S.scale/\AE_ "rule" S.rule/\AE_ "gap" S.gap/\ ATr "must_have"/\ ATr "leaning"/\ ATr "mark"/\ ATr "grade":=by
 cases b with
 | none=>exact⟨_,_,rfl,rfl,rfl,rfl,rfl,rfl,rfl,AB,AB,AB,AB⟩
 | some d=>exact⟨_,_,rfl,rfl,rfl,rfl,rfl,rfl,rfl,AB,AB,AB,AB⟩
theorem zkk(AX Iv):MM zc2:=by
 obtain⟨S,b,hand,ks,ys,rfl,hk,hq⟩:=h;obtain⟨fs,xs,e,h1,_⟩:=AMf;rw[e];unfold zc2 aU xM kZ cV aH;exact⟨rfl,S.leans,h1,ks,ys,hk,χ,.inr hand,rfl,hq⟩
theorem ybd{ks:Be}{ys:Β}{k:Key}{d:D}(h:ρ (gK ks ys k) d):AFI:=by
 induction ks generalizing ys with
 | nil=>cases h
 | cons a r ih=>
  cases ys with
  | nil=>cases h
  | cons y ys=>
   show A_ gK;unfold mV;show OM a k
   ·simp [q]
   ·simp only [q,if_false,Bool.false_eq_true] at h;have:=ih h;unfold mV at this;simp [this]
theorem zh9(AX Vb):MM zcd:=by
 obtain⟨S,b,work,ks,ys,rfl,hk,hw,hq⟩:=h;obtain⟨fs,xs,e,_,h1,_⟩:=AMf;rw[e];unfold zcd cN cT cB kZ cV aH;refine⟨rfl,S.marks,h1,ks,ys,.inr work,hk,rfl,?_⟩;rw[hw];exact hq
theorem zom(AX Iw):MM zej:=by
 obtain⟨S,b,work,ks,ys,d,rfl,hk,hl,hq⟩:=h;obtain⟨fs,xs,e,_,h1,_,_,_,_,nm,_⟩:=AMf;rw[e];have hh:mV ks ASW=true:=ybd hl;unfold zej zfs aG dh jf aU cB kZ cV aH aj aq;refine⟨rfl,nm,S,b,work,ks,ys,se,hk,hh,?_⟩
 exact⟨rfl,S.marks,h1,ks,ys,.inr work,d,hk,rfl,hl,hq⟩
theorem zn9(AX Vc):MM zdw:=by
 obtain⟨S,work,ks,ys,d,rfl,hk,hl,zd,hq⟩:=h;unfold zdw aU aB jf kZ cV aH aj aq;exact⟨rfl,.lst [],rfl,rfl,AB,S,AJ_,work,ks,ys,_,rfl,hk,hl,[],d,rfl,EH (by cases hb),zd,hq⟩
theorem z6q(L:BA):pR AVy (L.map AS')=L.map (IG (.tup AuB)):=ALD pR List.zipWith_map List.zipWith_self
theorem zj2(AX Vd):YN zem:=by
 obtain⟨S,b,work,L,hs,x,g,ps,rfl,e1,e2,e3,zg,e4,hh,O,C,hq⟩:=h;show NV;obtain⟨fs,xs,e,h1,h2,h3,h4,h5,h6,_,nl,_⟩:=AMf;show II (pR AVy AsL);rw[z6q];refine Ho (fun r:Rw=>D.tup AuB) (oB Anp) (af r hr (Ix rfl ?_)) ?_
 ·show CI Ĭ
  show UH "leaning" Iv Au (L5 Θ) [kT,kD,AMb] _ _;rw[e];refine⟨rfl,nl,S,b,Τ,hs.map Kb,hs.map fun h=>AAo,se,GV e1,?_⟩
  rw[FQ (x:=ADY),if_pos (hh r hr)];exact⟨TN,N1,GV J5,Mr (Als oV O.mm) χ,O.sx r hr,hp⟩
 show GI zdu [AMb,IU work,.pu (Iz L),OE (L.map fun r=>Anp)];rw[e];have el:(L.map fun r=>Anp)=(Dm x L).map qD:=AUW Dm List.map_map
 have ll:MI Dm x L=L.length:=by unfold Dm;show EU
 show Axy L.length O.ne;have few:=O.few;rw[el];show Fh rfl S.scale h4;rw[e4];refine⟨rfl,AB,rfl,S.rule,h5,rfl,S.gap,h6,?_⟩
 rw[e2,e3];refine⟨Dm x L,qD g,rfl,Ξ (by rw[z] at ll;exact absurd ll i_),τ,fun q hq=>(O.sl q hq).up χ,O.ss,?_⟩
 rw[ll];exact⟨ps,Bt x L,rfl,C.len,C.gd,C.sz,O.sm,hq⟩
theorem zns(AX Pb):Hn zdy 1:=by
 obtain⟨S,ws,v,rfl,em,nd,l64,zv,hq⟩:=h;show NV;obtain⟨fs,xs,e,_,h2,_,_,_,_,_,_,n1,n2⟩:=BBL AJ_;show GI zdy [.pu (fJ.d c S AR6)];rw[e];refine⟨rfl,S.marks,h2,ws,AMQ,AKd,nd,l64,ψ ms pm _⟩
 show AT0 ms.map;refine Ho D.str (AG w A5o) AX1 (hq ms pm);have hw' :=pm.mem_iff.mp hw;have lk:ρ (gK iN Alf AKN) (qD (v w)):=AIl ASi (AZ hw')
 refine⟨rfl,n1,S,_,w,k6,AMQ,_,se,AKd,lk,rfl,n2,S,w,k6,AMQ,v w,se,AKd,lk,zv w hw',?_⟩
 exact⟨gL (aE 3),hp⟩
theorem zsi(AX Ve):Hn zi2 7:=by
 obtain⟨S,b,rows,hs,ws,x,v,rfl,e1,e2,hl,sz,h⟩:=h;show NV;obtain⟨fs,xs,e,h1,h2,_,_,_,_,_,nl,nm,_⟩:=AMf;show nZ BBQ _ (zdx K c) _ _ [AMb,BS,A4 1,υ,υ,υ,υ];show SU (∃(μ:Int) (y3 y4 y5 y6:Slot),Γ= [AMb,BS,A4 μ,y3,y4,y5,y6]/\0<μ/\dU μ<=8000*i+1/\∀r∈AeJ,ź x Τ∣μ/\ ź v Ν∣μ) ⟨1,_,_,_,_,rfl,AB,AB,A3K⟩
 ·rintro i d _ hi ⟨μ,y3,y4,y5,y6,rfl,hμ,bμ,hd⟩;show On rows.length (Oy SH)
  show eh;cases hi;have hm:TH∈rows:=yU hi';have snoc:=PB hi';generalize TH=r at hm snoc⊢;obtain⟨⟨r1,r2⟩,r3,r4⟩:=sz r hm;show SB rfl;show ZE zdx [AMb,BS,A4 μ,uj,kT,kD,y6];rw[e];refine⟨rfl,nl,S,b,Τ,hs.map Kb,hs.map fun h=>AAo,se,GV e1,?_⟩
  rw[FQ (x:=ADY),AZ r1];refine⟨rfl,nm,S,b,Ν,k6,AMQ,_,se,GV e2,AIl ASi (AZ r3),?_⟩
  show CI Ĭ
  show nZ ((ANL).map qD) (B7 6) (zgf K c) _ _ [AkD fs xs,BS,A4 μ,uj,kT,kD,y6];show Fh (fun j Γ=>∃(μ' :Int) (y6:Slot),Γ= [AkD fs xs,BS,A4 μ',uj,kT,kD,y6]/\0<μ' /\dU μ' <=8000*i+1+4000*j/\μ∣μ' /\∀q∈ (ANL).take j,X0∣μ') ⟨μ,_,rfl,hμ,τ,Int.dvd_refl _,A3K⟩ ?_
  ·rintro j d _ hj ⟨μ',y6,rfl,hμ',bμ',dd,hd'⟩;have hj' :j< Ps ANL:=Oy (ID hj)
   show AGz (VM hj') hj;cases hj;have hj2:j<2:=hj';have Kp :=PB hj';have zi:dU (AF (ANL[j]).den)<=4000:=by
    match j,hj' with
    | 0,_=>exact r2.2
    | 1,_=>exact r4.2
   generalize ANL[j]=q at Kp zi⊢;have dp:IJ<q.den:=Fr q.den_pos
   obtain⟨g0,p1,p2,p3,p4,p5⟩:=zyj hμ' dp;have b4:=AU4 p4;have b5:=AU4 p5;have bm:=Bl μ' (Int.fdiv q.den (Int.gcd μ' q.den));refine⟨_,at1,_,at1,μ',q.den,rfl,yB g0,AK_,_,_,rfl,p1,τ,Int.dvd_trans dd p2,AM s hh⟩
   rw[Kp] at hh;show N3 hh hh hh
   ·exact Int.dvd_trans (hd' s hh) p2
   ·show Rs hh;exact p3
  ·rintro _ ⟨μ',y6,rfl,hμ',bμ',dd,hd'⟩;refine⟨μ',_,_,_,_,rfl,hμ',zM bμ' (AQI (8000*i+1+4000*2<=_)),AM s hh⟩
   rw[snoc] at hh;show N3 hh hh hh
   ·exact⟨Int.dvd_trans (hd s hh).1 dd,Int.dvd_trans (hd s hh).2 dd⟩
   ·show Rs hh;exact⟨hd' _ Μ,hd' _ Μ⟩
 ·rintro _ ⟨μ,y3,y4,y5,y6,rfl,hμ,bμ,hd⟩;rw[List.length_map,List.take_length] at hd;show AG9 bμ;exact h μ hμ hd ξ
theorem z4r(AYz):D.dik Ġ (lK (AH hs.map ADY ACg))=AUU:=GV M5
theorem YH{α:Type}(f:α ->T):A1U m9 (fun a=>gB (f a))
 | []=>AJx m9
 | D4=>by show ART m9 (YH f l);rfl
theorem ztq(AYz):gB (gh hs x)=AUU:=by
 unfold gh gB;rw[List.map_map,YH];show D.dik _ (AWK (gB (.leaf (qD (x h)))))=_;unfold gB jJ;rfl
theorem yem(A6L):gB AbX= .dik iN (ws.map ASj):=by
 unfold gB;rw[YH,yar B u,List.map_map];refine congrArg _ (List.map_congr_left Agj);show gB (wu AcM)=_;unfold wu gB Iz kW;rw[YH,List.map_map,List.map_map];show D.dik _ (q_ fun r=>gB (.leaf (B5 E9)))=_;unfold gB;rfl
theorem iW.dn(c:Cls)(S:iW)(b:tw):gB (iW.t c S b)=fJ.d c S.pl b:=by
 cases b<;>simp only [iW.t,iW.ts,fJ.d,iW.pl,fJ.xs,gB,m9,List.cons_append,List.nil_append]
theorem z96{α:Type}(f:CC):Ò (gb (l.map fun a=>qD (f a)))
 | []=>Atu
 | D4=>F_ gb ⟨AzQ,z96 f l⟩
theorem zwz:∀l:ο,gb (l.map D.str)
 | []=>Atu
 | D4=>by
  show ACj;unfold gb;exact⟨A0 jw,zwz l⟩
theorem ycl(AEs):jw (qD q):=AzQ
theorem z9t:A5I (v6 ->AiU ->AkO ->Sz 4000 (vC ps x))
 | [],x,_,_,_=>⟨AGv (dU 0<=_),AGv (dU 1<=_)⟩
 | [p],x,_,hz,_=>XB (hz p Μ).2
 | AVc,x,hg,hz,zx=>by
  have zl:=hz l Μ
  have zr:=hz r Μ
  have sb:KM (v9 l r x):=by
   have hn:AMH≠0:=ASr hg.1.1
   have s4:=ya1 (Oz zx zl.1) (Oz zr.2 zl.2);exact(yhy zl.2 (z0o s4 (Oz zr.1 zl.1) hn)).up χ
  have ih:=z9t (ps:=r::t) (x:=x) hg.2 (fun p hp=>hz p (zU _ hp)) zx;unfold vC
  repeat' split
  all_goals first | exact (zl.2).up χ | exact sb | exact ih
theorem abI{n:Nat}(h:n<=60):uW (0,60) E5=true:=ALD uW BEa BEa
theorem z8v{qs:AW}(h:qs.length<=60):qF qs ng=true/\Ft qs ng= [sg]:=by
 obtain⟨_,hn⟩:=zum qs;have g:IJ∈Acq gk (ng:GU).reverse (ng:GU).length:=by
  refine qZ.mpr ⟨Ke qs,sg,ATp,?_⟩;rw[Int.sub_zero];exact abI h
 show CI (F_ qF (List.contains_iff_mem.mpr g))
 show [AyV]=_;rw[Mo AyV sg (yg5 hn g)]
theorem z3p{K:W.Frag}{c:Cls}{a:Addr}{bs:AO}{t ds Q Ex}(h:Kd c t ds Q Ex):Yv K c AaB (startM 8 AbJ ds) AN7:=by
 obtain⟨rows,U,g,ps,rfl,rfl,uq,L,hU,hr,hl,C,zg,h⟩:=h;show NV;have line:aE 1000:=τ
 let Z:Ο T T HP (D1) iW:=fun sh mk ms x=>(AwO mk)
 show l' Yv [AMJ [] [],BS,SC,SS,MQ,ST,υ,υ];refine⟨_,_,_,rfl,AB,AB,AB,?_⟩
 show l' zdm [AMJ ["rule"] [AKc],BS,SC,SS,MQ,ST,υ,υ];refine⟨_,_,_,rfl,AB,AB,AB,?_⟩
 show l' zdi [AMJ ["rule","gap"] [AKc,AXb],BS,SC,SS,MQ,ST,υ,υ];refine⟨rfl,_,ACv,ps,rfl,A0l,?_⟩
 rw[A5X];refine⟨_,_,_,rfl,AB,AB,AB,?_⟩
 show l' zdk [AMJ ["rule","gap","scale"] [AKc,AXb,AnY],BS,SC,SS,MQ,ST,υ,υ];refine⟨rows,U,rfl,uq,L,τ,hr,ψ ms x G⟩
 refine⟨_,_,_,rfl,AB,AB,AB,?_⟩
 rw[z4r];show l' zdq [AMJ ["rule","gap","scale","kept_leanings"] [AKc,AXb,AnY,A0I],BS,SC,SS,MQ,ST,υ,υ];show DC rows rfl τ (ψ Kq ps0 B)
 refine⟨_,_,_,rfl,AB,AB,AB,Jn cs⟩
 show l' zdh [nK (bs++cs) (.ob c.ak ["rule","gap","scale","kept_leanings","sheets"] [AKc,AXb,AnY,A0I,.dic Aed (ps0.map wu)]),BS,SC,SS,MQ,ST,υ,υ];refine⟨_,_,_,rfl,AB,AB,AB,Jn cs'⟩
 generalize esh:T.dic Aed (ps0.map wu)=sh;have dsh:gB sh= .dik Aed (Kq.map ASj):=A7 esh (yem B uq)
 show l' zdr [AJU AFn,BS,SC,SS,MQ,ST,υ,υ];have lw:=B.lw;have zl:∀mk,jH [AJU mk,BS,SC,SS,MQ,ST,υ,υ]= [.pu (fJ.d c (Z sh mk ms x).pl none),BS,SC,SS,MQ,ST,υ,υ]:=fun mk=>(Adh iW.dn)
 refine⟨rfl,gB sh,rfl,Kq,Kq.map fun w=>Aa3,GV dsh,B.nd,τ,fun ws pm _=>(EJ (zwz ws))⟩
 have nd:ws.Nodup:=pm.nodup_iff.mpr B.nd;have wm:∀w,AV3:=DF (pm.mem_iff.trans (B.wm w));have lv:∀w∈ws,AVH:=fun w hw=>G.lv uq L hU hr (Ξ (by
  show AU r h1 h2 (wm w).mp hw;have:=AjH;show Ap z;show DT))
 have wl:ws.length<=40:=ABQ pm.length_eq
 let v:D1:=DF AlP
 show SU (∃(y6:Slot),Γ= [AJU AZJ,BS,SC,SS,MQ,ST,y6,υ]) CO
 ·show AMe y6;show On ws.length (Oy SH)
  show eh;cases hi;have tk:=PB hi';have hw:WV∈ws:=yU hi';have fresh:WV∉ws.take i:=Ξ (by
   have:=nd;rw[<- Adi ws,List.nodup_append] at this;refine this.2.2 _ z WV ?_ rfl;show ArT;exact zV)
  generalize WV=w at tk hw fresh⊢;show ZE zc5 [AJU AZJ,BS,SC,SS,MQ,ST,IU w,υ];refine⟨rfl,AB,rfl,gB sh,rfl,Kq.map Kb,Kq.map (ASj),ARz,Aa3,GV dsh,rfl,AIl ASj (bP pm.mem_iff.mp hw),?_⟩
  refine⟨(Z sh AZJ ms x).pl,none,w,aw,ms.flatten,x,g,ps,?_,rfl,rfl,rfl,zg,rfl,fun r hr' =>G.mem Afq,lv w hw,C,ycl _,?_⟩
  ·show [gB (iW.t c (Z sh AZJ ms x) none),_,_]=_;rw[iW.dn]
  refine⟨ARz,_,_,_,AtQ Kb,AtQ fun w=>AGy,rfl,rfl,rfl,APN List.length_take,?_⟩
  show CI (IU w);rw[tk,<- zx3 fresh]
  rfl
 ·show ACm y6;show BFW;show l' zdp [A2U,BS,SC,SS,MQ,ST,y6,υ];refine⟨rfl,gB (gh ws v),rfl,k6,AMQ,GV ztq,z96 v ws,?_⟩
  show l' zdj [A2U,BS,SC,SS,MQ,ST,y6,OE Alf];have eq:Alf=AH ws.map v qD:=Ģ
  have zq:∀q∈Ahq,AN3:=fun q hq=>by
   show ku w hw hq;exact z9t C.gd C.sz (lv w hw).sm
  have ln:Atk<=60:=Ĉ
  show Cn g1 g2 z8v ln;rw[eq];refine⟨Ahq,ng,rfl,τ,zq,AB,C4 ?_,Ξ (BAl g1)⟩
  rw[g2];refine⟨Ahq,[Atk],rfl,τ,zq,Nat.zero_lt_one,fun n hn=>(ADs hn GB),?_⟩
  refine⟨_,_,_,rfl,AB,AB,AB,_,_,rfl,?_⟩
  exact A7M G nd wm lv
theorem yek{F:Rat}(F0:0<F){x:Rat}(h:Ab F x):vC [(-F,-F),(F,F)] x=x:=by
 have h1:=h.1;have h2:=h.2;unfold vC;dsimp only;by_cases a:x<F
 ·show DU a;by_cases b: -F<x
  ·show DU b;unfold v9;dsimp only;have n0:F - -F≠0:=F7
   rw[Rat.div_def,Rat.mul_assoc,ARi n0,Rat.mul_one]
   grind
  ·show AV b;grind
 ·show AV a;unfold vC
  grind
theorem Vr{F:Int}(F0:0<F)(bF:dU F<=300):FJ tN:=by
 have p:UK< Nl:=RY F0
 have z1:Sz 300 Nl:=Mr bF χ
 have z2:Sz 300 (-Nl):=fw (Kj Mr (-F) n 300 (B4 z3q bF) χ) Rat.intCast_neg
 show DB (Nat.lt_succ_self 1) ⟨⟨BFY,BFY⟩,trivial⟩ ALh
 show N2 hq hq
 ·exact⟨z2,z2⟩
 ·show Rs hq;exact⟨z1,z1⟩
theorem Lean.sum0(A2s):AV7:=by
 show Ahh;have key:∀ks:HP,ks.Pairwise (Ź (∀z∈a,z∉b)) ->(∀m∈ks,AXc) ->Aax (rows.filter fun r=>Aqm):=by
  intro ks;induction ks with
  | nil=>exact E4 _ (GV (Mo (BGj (ω (Τ∈ ([]:HP).flatten))) [] (At9 r)))
  | cons m ks ih=>
   intro dj em;show AdB dj;have h1:=ih dj.2 fun m hm=>em m (zU _ hm);have h2:=em m zV;unfold Mw ofM at h2;rw[Fg] at h1 h2⊢;have e:DV rows r (Da (ω (Τ∈ (m::ks).flatten)) N1 0) (ACO ((AC (A2 ARr) N1 0)+Da Aqm N1 0)):=LA r (by
    rw[List.flatten_cons];show EZ am
    ·have q2:Τ∉ks.flatten:=Ξ (by
      obtain⟨f,hf,z⟩:=List.mem_flatten.mp z;exact dj.1 f hf _ q z)
     rw[AK6 (List.mem_append_left _ q),AK6 q,AR3 q2,Rat.add_zero]
    ·by_cases q2:Τ∈ks.flatten
     ·rw[AK6 (List.mem_append_right _ q2),AR3 q,AK6 q2,Rat.zero_add]
     ·rw[D_ (Ξ ((List.mem_append.mp (of_decide_eq_true z)).elim q q2)),AR3 q,AR3 q2,Rat.add_zero])
   rw[e,Mv,h1,h2,Rat.add_zero]
 have:=key ms p.dj G.em
 rwa [AAv List.filter_eq_self.mpr (decide_eq_true (G.mem hr))] at this
theorem yhl(Aoj)(mk:DS Aav)(n:AI3){U:ο}(hU:ŋ)(hr:AKY){F:Int}(f1:Aj0)(w:Str):vC tN APJ=Bt x OG:=by
 have fq:DE (AF 10^20)<=Nl:=RY f1
 have fq' :Α 100000000000000000000<=Nl:=fq;have h:=G.worth u (M:=1099511627776) χ (HQ r hr) ξ hU hr w
 ·refine yek NF (EJ ?_)
  ·have:=h.1;grind
  ·have:=h.2;grind
 ·have:=mk r hr;have l1:E9<=1099511627776:=τ
  have l2: BDQ<=E9:=τ
  have q1:DE E9<=DE 1099511627776:=Rat.intCast_le_intCast.mpr l1;have q2:DE BDQ<=DE E9:=Rat.intCast_le_intCast.mpr l2;exact⟨q2,q1⟩
theorem z73(D9){c:Cls}{Q:t6}{Ex:Db XV}{S:D}{rows:BA}{U:ο}{F:Int}{ms:HP}{x:D1}{ws:ο}{sh:T}{a:Addr}{as:AO}{n:Nat}{ns:Φ}(hl:ASt)(uq:EW)(L:OO)(b1:AI3)(b2:ŋ)(b3:DS (Τ∈U))(mk:DS Aav)(F0:0<F)(f1:Aj0)(C:FJ tN)(G:AAw)(nd:ws.Nodup)(wm:∀w,AV3)(lv:∀w∈ws,AVH)(h:Q ASX):
  GI zrl [Ee,BS,ML,.pu (jd c tN),nK as (iW.t c ⟨ABR,qD 0,jd c tN,APm,sh,gh ws Az7⟩ AR6),υ,υ,υ,υ,υ,υ,υ,υ,υ,υ]:=by
 show NV;obtain⟨v,hv⟩:∃v:D1,v=Az7:=CO;rw[<- hv];have vw:∀w,v w=Bt x OG:=DF (AE hv (yhl G uq mk b1 b2 b3 f1 w))
 have zv:∀w∈ws,Sz 4000 (v w):=fun w hw=>(AE vw ((lv w hw).sm.up χ))
 show AFi hw AeS ((wm _).mpr Aiy);show AFi zx (DS Al9) ((lv _ (hw r hr)).sx r (bx.mpr (nv hr)));generalize jd c tN=sc;obtain⟨Z,hZ⟩:∃Z:iW,Z=Ar6 sc:=CO;have zl:Z.leans=APm:=by rw[hZ]
 have zm:gB Z.marks=jJ ws v:=AE hZ (ztq ws v)
 rw[<- hZ];have dn:=iW.dn c Z (some nE);obtain⟨X,hX⟩:∃X,X=iW.t c Z (some nE):=CO;rw[<- hX];have dX:gB X= .obj c.ak AXU Atq:=AE hX dn
 refine⟨Z.pl,AJ_,rows,ms.flatten,ws,x,v,by show [gB X,_]=_;rw[dX];rfl,zl,zm,b1,NM ⟨⟨G.mem hr,zx r hr⟩,hw r hr,zv _ (hw r hr)⟩,fun B B0 dv bB=>(EJ trivial)⟩
 intro a6;show GI zx8 [Ee,BS,ML,Rl,U1,X9,.tr a6 AFn,υ,υ,υ,υ,υ,υ,υ,υ];intro a7;show GI zxn [Ee,BS,ML,Rl,U1,X9,.tr a6 AFn,.tr a7 AFn,A4 0,υ,υ,υ,υ,υ,υ]
 let od:Rw ->Int:=IG A8j
 let ow:BA ->Str ->Int:=fun l w=>nO (dD l w) od
 let oh:BA ->Str ->Int:=fun l w=>nO (qC l w) od
 let ll:BA ->Int:=fun l=>nO l (IG AcP)
 have part:∀{q:Rat},AN3 ->X0∣B ->(X0≠0/\dU X0<=9000)/\vX q.num (B.fdiv X0):=fun{q} z d=>by
  have dp:=q.den_pos;show B6 ⟨τ,zM z.2 χ⟩ (iE ?_)
  have:=Di (z76 d ξ)
  have:=z.1;omega
 show AFi odq (DS (Α (od r)=Α B*NX)) (by
  have d:=dv r hr;show DE A8j=_;rw[Rat.intCast_sub,Rat.intCast_sub,Rat.intCast_mul,zu5 d.1,zu5 d.2,vw,yaj];unfold fH
  grind)
 have lend:∀(l:Rc),jH (Ee:: BS:: ML:: Rl:: U1::l)= Ee:: BS:: ML:: Rl:: AkD AXU Atq::jH l:=fun l=>(Adh dX)
 show SU (∃(a6 a7:AO) (wk hk:ο) (y9 y10 y11 y12 y13 y14:Slot),Met (rows.take i) (·.1) wk/\Met (rows.take i) (·.2.1) hk/\Γ= [Ee,BS,ML,Rl,U1,X9,.tr a6 (Ai wk (Ah3 ow)),.tr a7 (Ai hk (Ah3 oh)),A4 (Ah3 ll),y9,y10,y11,y12,y13,y14]) ⟨a6,a7,[],[],_,_,_,_,_,_,Met.nil _,Met.nil _,rfl⟩
 ·rintro i d _ hi ⟨a6,a7,wk,hk,y9,y10,y11,y12,y13,y14,M,N,rfl⟩;show On rows.length (Oy SH)
  show eh;cases hi;have tk:=PB hi';have hr:TH∈rows:=yU hi';generalize TH=r at hr tk⊢;have lt:Atl<=40:=BGH
  generalize AeJ=l at M N lt tk⊢;have hd:=dv r hr;obtain⟨p1,p2⟩:=part (zx r hr) hd.1;obtain⟨p3,p4⟩:=part (zv _ (hw r hr)) hd.2;have mB:vX E9 B:= iE (APS (oV (L.mm r hr)))
  have wl:wk.length<=40:=zM M.len lt;have hl2:hk.length<=40:=zM N.len lt;show SB rfl;show UH "leaning" Iv EL (L5 þ) (jH [Ee,BS,ML,Rl,U1,X9,An1,AZE,AYE,uj,kT,kD,y12,y13,y14]) _ _;rw[lend];refine⟨rfl,AB,Z.pl,AJ_,Τ,ms.flatten.map Kb,ms.flatten.map fun h=>AAo,rfl,by show xK Z.leans=_;rw[zl];rfl,?_⟩
  rw[FQ (x:=ADY),bP G.mem hr];show CI (ycl _);show UH "mark" Iw EL (L5 jv) (jH [Ee,BS,ML,Rl,U1,X9,An1,AZE,AYE,uj,kT,kD,.pu (qD (x Τ)),y13,y14]) _ _;rw[lend];refine⟨rfl,AB,Z.pl,AJ_,Ν,k6,ws.map (ASi),qD (v Ν),rfl,by show xK (gB Z.marks)=_;rw[zm];rfl,AIl ASi (if_pos (hw r hr)),ycl _,?_⟩
  refine⟨_,at0,_,at1,p1,p2,?_⟩;refine⟨mB,_,at0,_,at1,p3,p4,?_⟩;show ZE zmz [Ee,BS,ML,Rl,U1,X9,An1,AZE,AYE,uj,kT,kD,Aoy,AmB,Ale];show SI _ _ (GV z5u) (.inr Ν) rfl
  rw[z9z (i4 (by
   show nO (dD l Ν) _=0;rw[zw4 (ABw q (ADw M.mem))];rfl))]
  refine⟨trivial,F9 a6 _,.inr Ν,a6,wk.map Kb,wk.map fun w=> .int (ow l w),rfl,rfl,Ĉ,?_⟩
  have es:ow l Ν+od r=ow v_ Ν:=by
   show _=nO (dD v_ Ν) _;rw[Vj,BU,znr]
  have esv:∀u∈wk,u≠Ν ->ow l u=ow v_ u:=fun u _ n=>by
   show nO (dD l u) _=nO (dD v_ u) _;rw[Vj,At',List.append_nil]
  have et:oh l Τ+od r=oh v_ Τ:=by
   show _=nO (qC v_ Τ) _;rw[zxh,BU,znr]
  have etv:∀u∈hk,u≠Τ ->oh l u=oh v_ u:=fun u _ n=>by
   show nO (qC l u) _=nO (qC v_ u) _;rw[zxh,At',List.append_nil]
  show ZE zm5 [Ee,BS,ML,Rl,U1,X9,.tr a6 (T.dic (jg AbF (CA Ν)) (Nn (fL AbF (P3 wk.map w (ow l w)) (CA Ν) (B5 (ow l Ν+od r))).map)),AZE,AYE,uj,kT,kD,Aoy,AmB,Ale];rw[es,z4n esv];show SI _ _ (GV z5u) AOw rfl
  rw[z9z (i4 (by
   show nO (qC l Τ) _=0;rw[z7p (ABw q (ADw N.mem))];rfl))]
  refine⟨trivial,F9 a7 _,AOw,a7,hk.map Kb,hk.map fun w=> .int (oh l w),rfl,rfl,Ĉ,?_⟩
  refine⟨a6,a7,mC wk Ν,mC hk Τ,uj,kT,kD,Aoy,AmB,Ale,AE tk (M.add r),AE tk (N.add r),?_⟩
  rw[tk,<- z4n (w:=Τ) etv,<- et,Mo (ll (l++ [r])) (ll l+AcP) (znr l r _)]
  rfl
 ·rintro _ ⟨a6,a7,wk,hk,y9,y10,y11,y12,y13,y14,M,N,rfl⟩;rw[List.length_map,List.take_length] at M N⊢;have z6:∀w,ow rows w=0:=DF (by
   have e:Α (ZU ow)=Α B*aA OG (fH rows x):=by
    show Α (nO OG od)=_;rw[znt,<- Bs];exact ALb (odq r lP)
   show Ae4 zt2
   exact_mod_cast e)
  have z7:∀w∈hk,oh rows w=0:=fun w hw=>by
   have e:Α (ZU oh)=Α B*aA AeR (fH rows x):=by
    show Α (nO AeR od)=_;rw[znt,<- Bs];exact ALb (odq r (iU.mp hr).1)
   show AU r hr q (N.mem w).mp hw;have ev:=G.evr r hr;rw[Mo Τ w q] at ev;show Ae4 (show aA AeR AQ_=0 from ev)
   exact_mod_cast e
  have z8:ll rows=0:=by
   have e:Α (ll rows)=Α B*ACO N1:=by
    show Α (nO rows _)=_;rw[znt,<- Bs];exact ALb (by rw[zu5 (dv r hr).1];grind)
   show Ae4 G.sum0
   exact_mod_cast e
  show GI zyt [Ee,BS,ML,Rl,U1,X9,.tr a6 (Ai wk (ow rows)),AsP,AXL,y9,y10,y11,y12,y13,y14];refine FL a6 _ ?_;rw[M5];show nZ (AH wk.map AQ2 eN) (B7 9) (zsx K c) _ _ _;rw[zxl];show SU (∃y9:Slot,Γ= [Ee,BS,ML,Rl,U1,X9,AoR,AsP,AXL,y9,y10,y11,y12,y13,y14]) CO
  ·show AMe y9;show On wk.length (Oy SH)
   show eh;cases hi;have hm:wk[i]∈wk:=yU hi';generalize wk[i]=w at hm⊢;refine⟨_,_,ARz,.int AbD,rfl,rfl,Awz AbD,?_⟩
   rw[z6 w];show ğ;rw[IK];exact CO
  ·show ACm y9;refine FL a7 _ ?_;rw[M5];show nZ (AH hk.map AQ2 eN) Ad_ (zs2 K c) _ _ _;rw[zxl];show SU (∃y10:Slot,Γ= [Ee,BS,ML,Rl,U1,X9,AoR,A2p,AXL,y9,y10,y11,y12,y13,y14]) CO
   ·show AMe y10;show On hk.length (Oy SH)
    show eh;cases hi;have hm:hk[i]∈hk:=yU hi';generalize hk[i]=w at hm⊢;refine⟨_,_,ARz,.int Abl,rfl,rfl,Awz Abl,?_⟩
    rw[z7 w hm];show ğ;rw[IK];exact CO
   ·show ACm y10;show cH Aqs A'Q (jH [Ee,BS,ML,Rl,U1,X9,AoR,A2p,AXL,y9,y10,y11,y12,y13,y14]) _ _;rw[lend,z8];show ğ;rw[IK];refine⟨rfl,AB,Z.pl,ws,v,rfl,by show gB Z.marks=_;exact zm,nd,?_,zv,AM ms' pm⟩
    ·have:=Dl nd (U:=rows.map (·.1)) fun w hw=>by
      show AU r hr e (wm w).mp hw;exact zB.mpr ⟨r,hr,e⟩
     show Ap List.length_map;omega
    ·refine EG _ _ pb ?_;have e:ms'.length=wk.length:=by
      refine Nat.le_antisymm (Dl (pm.nodup_iff.mpr nd) AVE) (Dl M.nd AVE)
      ·exact(M.mem w).mpr ((wm w).mp (pm.mem_iff.mp hw))
      ·exact pm.mem_iff.mpr ((wm w).mpr ((M.mem w).mp hw))
     show Agh e IK;simp only [decide_true];exact⟨trivial,h⟩
theorem yi6(AX Yq):Hn Vf 15:=by
 show L7 ns rfl hl h;show NV
 let S:D:= r9
 have main:A9X ŋ (GI zyk [Ee,BS,υ,υ,υ,υ,υ,υ,υ,υ,υ,υ,υ,υ,υ]):=by
  intro rows U b1 b2 b3 uq mk;have wk:∀w,WS<=4:=DF (by
   have:=Dl (zrw uq w) fun y hy=>by
    obtain⟨r,hr,_,e⟩:=jB.mp hy;rw[<- e];exact b3 r hr
   show Ap O3;omega)
  have L:OO:=⟨τ,NM (AnK (mk r hr) χ),DF (Fr (wk w))⟩
  refine⟨Aor 20,ns,40,rfl,hl,τ,Aor 20,Abj (AF 10^ ABY≠0),?_⟩
  obtain⟨F,eF,f1,f2⟩:∃F:Int,F=10^ ABY+ AzY/\Aj0/\F<2^70:=by
   have:=AFk (mz ns 40) (10^ ABY) χ
   show Fh _ rfl ?_
   ·show A7Z
   ·show A7Z
  show GI zq4 [Ee,BS,A4 (10^ ABY+ AzY),υ,υ,υ,υ,υ,υ,υ,υ,υ,υ,υ,υ];rw[<- eF];have bF:dU F<=300:=AIP 70 ξ
  have F0:0<F:=τ
  let ps:EK:= tN
  have C:FJ ps:=Vr F0 bF;have n2:ANx:=τ
  have eps:D.lst [RF AwF AwF,RF (ci F 1) (ci F 1)]= Akj:=by
   show _=D.lst [RF (qD (-Nl)) (qD (-Nl)),RF (qD Nl) (qD Nl)];rw[show(-Nl)=DE (AF (0 - F)) by rw[Int.zero_sub,Rat.intCast_neg],J5,J5]
  unfold zq4;dsimp only [aG,bw,cC,cV,cB,cT,gR,qd,fW,cH,gU,dF,nP,aq,aj,cZ,dM,dN,dh,aU,dW,cN,aV,cg,hName,d8,aW,d9,iD,gW,aB,cU,ig,eZ,dw,eY,bT,eO,cI,gF,n6,oZ,mZ,qe,qg,gO,jN,nQ,cM,wI,nG,n8,jO,qj,ql,bH,iG,dY,iH,iI,List.length,List.set_cons_zero,List.set_cons_succ,List.getElem?_cons_zero,List.getElem?_cons_succ,dB,jP,nR,o8,mK,mL,mU,iJ,cR,bW,gY,nJ,nT,o9,fZ,m5,bM,bY,oW,qm,ou,iK,iM,iL,cG,fu,iu,cQ,List.map,List.append,List.cons_append,List.nil_append];refine⟨n2,n2,n2,n2,n2,n2,n2,?_⟩;rw[eps];show Fh ps rfl A0l
  rw[A5X];show GI zxq [Ee,BS,ML,MQ,υ,υ,υ,υ,υ,υ,υ,υ,υ,υ,υ];have n1:aE 1:=τ
  refine⟨n2,n2,n1,rows,U,0,ps,rfl,rfl,uq,L,b2,b3,b1,C,É AB,fun ms x ws sh G nd wm lv=> ?_⟩
  let v:D1:=DF AlP
  let Z:iW:=Ar6 AJC
  show YE ⟨fun d z=>AJp,fun k z=>AJp⟩ a as
  show GI zrl [Ee,BS,ML,MQ,nK as (iW.t c Z AR6),υ,υ,υ,υ,υ,υ,υ,υ,υ,υ];exact z73 hl uq L b1 b2 b3 mk F0 f1 C G nd wm lv h
 show GI Vf [Ee,υ,υ,υ,υ,υ,υ,υ,υ,υ,υ,υ,υ,υ,υ];unfold Vf;dsimp only [aG,bw,cC,cV,cB,cT,gR,qd,fW,cH,gU,dF,nP,aq,aj,cZ,dM,dN,dh,aU,dW,cN,aV,cg,hName,d8,aW,d9,iD,gW,aB,cU,ig,eZ,dw,eY,bT,eO,cI,gF,n6,oZ,mZ,qe,qg,gO,jN,nQ,cM,wI,nG,n8,jO,qj,ql,bH,iG,dY,iH,iI,List.length,List.set_cons_zero,List.set_cons_succ,List.getElem?_cons_zero,List.getElem?_cons_succ,dB,jP,nR,o8,mK,mL,mU,iJ,cR,bW,gY,nJ,nT,o9,fZ,m5,bM,bY,oW,qm,ou,iK,iM,iL,cG,fu,iu,cQ,List.map,List.append,List.cons_append,List.nil_append];show AU t4 e4 h4 (Kj Pj (mz ns 0) n 4) χ
 show AU t7 e7 h7 (Kj Pj (mz ns 1) n 7) χ
 refine⟨ns,0,rfl,hl,τ,AB,ns,1,rfl,hl,τ,AB,ns,1+t4,t7,?_,hl,τ,τ,τ,fun rows U c1 c2 c3 cu ck=> ?_⟩
 ·rw[show AcN 0 4=AF t4 from e4,show AcN 1 7=AF t7 from e7,Int.natCast_add];rfl
 ·exact main rows U c1 ξ c3 cu ck
#print L3
local macro_rules | `(#[$x])=> `(by exact $x)
local macro_rules | `(#[$x,_])=> `(fun _ _ _ _ _ _=>by exact $x)
local macro_rules | `(tactic| symm_saturate)=> `(tactic| exact⟨rfl,by decide+kernel,by decide+kernel,by decide+kernel,rfl,by decide+kernel⟩)
local macro_rules | `(tactic| trivial)=> `(tactic| first | exact Or.inl rfl | exact Or.inr (Or.inl rfl) | exact Or.inr (Or.inr rfl) | exact Or.inr rfl)
namespace Lw
open PySem PySem.Spec PyProof.Rows L2 L3
seal QE QF QT QW QA QS vf QG Rr QI RJ Ld QIg QO QR QRA QN QRN
theorem cO(AlK){e:Env}(hr:fC k (A.deeper e)):(A.deeper e).units+21<cLine:=Fr hr.units
theorem lR{us:Ζ}{n:Nat}(h:us.length=n+1):∃a r,us=a::r/\r.length=n:=by
 cases us with
 | nil=>cases h
 | cons a r=>exact IB a r (Nat.succ.inj h)
theorem len1{us:Ζ}(h:us.length=1):∃a0,us= [a0]:=by
 show AGT;show N0 (List.eq_nil_of_length_eq_zero h0);exact nv a0
theorem len2{us:Ζ}(h:us.length=2):∃a0 a1,us= [a0,a1]:=by
 show AGT;show ANa;show N0 (List.eq_nil_of_length_eq_zero h1);exact F9 a0 a1
theorem xR{us:Ζ}(h:us.length=3):∃a0 a1 a2,us= [a0,a1,a2]:=by
 show AGT;show ANa;show AZZ;show N0 (List.eq_nil_of_length_eq_zero h2);exact ñ a0 a1 a2
theorem abJ{us:Ζ}(h:us.length=4):∃a0 a1 a2 a3,us= [a0,a1,a2,a3]:=by
 show AGT;show ANa;show AZZ;show Ao_;show Aix h3;exact⟨a0,a1,a2,a3,rfl⟩
theorem abK{us:Ζ}(h:us.length=5):∃a0 a1 a2 a3 a4,us= [a0,a1,a2,a3,a4]:=by
 show AGT;show ANa;show AZZ;show Ao_;show AAG a4 u4 h4 h3;show Aix h4;exact⟨a0,a1,a2,a3,a4,rfl⟩
theorem abL{us:Ζ}(h:us.length=6):∃a0 a1 a2 a3 a4 a5,us= [a0,a1,a2,a3,a4,a5]:=by
 show AGT;show ANa;show AZZ;show Ao_;show AAG a4 u4 h4 h3;show AAG a5 u5 h5 h4;show Aix h5;exact⟨a0,a1,a2,a3,a4,a5,rfl⟩
section
variable(P:Program)(w:World)(K:W.Frag)(mg:CD)(base:Heap)(c:Cls)
abbrev YJ:Prop:=A6X
abbrev zik:Prop:=A_d
abbrev Vs:Prop:=Aw9
abbrev zni:Prop:=A1u
abbrev PJ:Prop:=A'g
abbrev Vt:Prop:=A2R
abbrev zo7:Prop:=Aw_
abbrev PL:Prop:=A6r
abbrev ze7:Prop:=A6Z
abbrev zlj:Prop:=A6a
abbrev zpq:Prop:=A5h
abbrev zvr:Prop:=AvV
abbrev zqq:Prop:=A1x
abbrev zrd:Prop:=AvW
abbrev zii:Prop:=A2T
abbrev z2y:Prop:=AvY
abbrev Vu:Prop:=A6v
abbrev zen:Prop:=A6U
abbrev zve:Prop:=A1y
abbrev zcl:Prop:=A6w
abbrev zc0:Prop:=A6f
abbrev YK:Prop:=A6d
abbrev zuo:Prop:=A7k
abbrev zck:Prop:=A'M
abbrev PN:Prop:=A2G
abbrev zfx:Prop:=A6e
abbrev zdz:Prop:=A6x
#where
section
variable{P:Program}{w:World}{K:W.Frag}{mg:CD}{base:Heap}{f:Addr}{fd:FuncData}{cdv:Value}{A:Around}{outer:EX}{s:Shared}{H:Hp}{E:XK}{F0:Hp}(c:Cls)
theorem qG:GT ["_law_cell_here","_law_many","_law_letters","_law_size","_law_at","_law_names_here","_law_k","_law_name","_law_j","_law_number"] "_law_cell_here" "_law_many" YS:=AQ
theorem zth(F:AJ "_law_names" "_law_names" YS)(hm:A5 "_law_names")(gj:A6 "range")(Bx:A6 "int"):A6W:=
 BM qG zv6 (fun cdv A outer s H E hr F0=>(AY Ys (by
  have nd:=qG.nd;show As cO;exact(cL (FV 2 #[GQ])
   #[cL (Q_ 3 wL aZ (qc AiB))
   #[cL #[uP (NU o4 Af5 aZ)
   (CL (ALj 3))
   GA]
   #[cL (Q_ 4 sI AiB EN)
   #[cL (Agl 5)
   #[cL #[Ru rfl rfl gj (ś Ι) (LO 6)
   #[cL (FV 7 #[GQ])
   #[cL #[Ru rfl rfl gj (ś (A8U EN (Ň Af5 aZ))) (LO 8)
   #[cL (Q_ 9 sI (cf (cf (PU pG AiB) (PU pG (VY j_ j_))) (PU pG j_)) aZ)
   (CL (Q_ 7 wL j' (Na A9 (qc (A8U ā (Rq (Ň j_ G0) (N5 (Cg AKv Af5 aZ aT))))))))]]
   (AKJ (AZL 5) (ś j'))]]]
   (vE 5)]]]]])) zwb)) (fun _ _ _ _ _ _ us hl=>Cl)
theorem rP:GT ["_law_script","_law_k","_law_number"] "_law_script" "_law_k" YT:=AQ
theorem zv3(F:AJ "_law_cell" "_law_cell" YT)(hm:A5 "_law_cell")(aY:AOb):A6X:=
 BM rP zzq (fun cdv A outer s H E hr F0=>(AY zn5 (by
  have nd:=rP.nd;show As cO;exact(cL #[uP (NU ARt Ι Ķ)
   (EV #[fV Ψ Ι fE])
   GA]
   #[cL (Q_ 2 wL BGY aZ)
   #[cL #[uP (NU ACt Ķ aZ)
   (CL (Q_ 2 sI (cf (PU pG (Na Ψ (ADM BGY Ķ))) (PU pG Ι)) aZ))
   GA]
   (EV #[dg (At sI) (VY A9 A9) aZ])]])) z0c)) (fun _ _ _ _ _ _ us hl=>Cl)
theorem pI:E2 Ac3 Ac3 YW:=AQ
theorem zrf(F:AJ "_law_marked" "_law_marked" YW)(hm:A5 "_law_marked"):A3G:=
 BM pI zsu (fun cdv A outer s H E hr F0=>(AY Yt (by
  have nd:=pI.nd;show As cO;exact(cL #[uP (NU o4 Ψ aZ)
   (EV #[Cg ACt (qc G0) aZ aT])
   GA]
   #[cL #[uP (NU o4 Ψ aZ)
   (EV #[yif (Ň A9 (ADM Ι EN)) (N5 (Ň A9 (ADM (PU wL Ι) EN)))])
   GA]
   #[cL #[uP (NU o4 Ψ aZ)
   (EV #[Rq (Ň (qc Ι) (qc A9)) (N5 (Cg ACt (qc G0) aZ aT))])
   GA]
   AhC]])) zty)) (fun _ _ _ _ _ _ us hl=>by obtain⟨_,_,_,_,_,rfl⟩:=abK hl;exact rfl)
theorem rQ:E2 ["_law_script","_law_hands","_law_works","_law_way","_law_most","_law_names_here","_law_people","_law_rows_here","_law_w","_law_h","_law_cell_here","_law_turn"] ["_law_script","_law_hands","_law_works"] YX:=AQ
theorem zvf(F:AJ "_law_rows" "_law_rows" YX)(hm:A5 "_law_rows")(lF:A6W)(bJ:AS YJ)(mW:A3G)(gj:A6 "range")(aY:A6 "len"):A_d:=
 BM rQ zz7 (fun cdv A outer s H E hr F0=>(AY Yu (by
  have nd:=rQ.nd;show As cO;exact(cL (Q_ 3 sI ABt aZ)
   #[cL (FV 4 #[fV (je #[yI (ASF aZ aZ aZ Akk)]) Af6 fE])
   #[cL (d4 5 lF ABt A9)
   #[cL (d4 6 lF ABt Ι)
   #[cL (Agl 7)
   #[cL #[Ru rfl rfl gj (ś A9) (LO 8)
   (CL #[Ru rfl rfl gj (ś Ι) (LO 9)
   #[cL (d4 10 bJ Ψ (cf (cf aZ (VY j_ Ι)) ā))
   (CL #[uP #[DN (AG4 mW (aD EN (ASF j_ ā Ι AJt)))]
   (AKJ (AZL 7) #[aD (vg (ABG (Na Ā j_) (Na i8 ā) (ADM (PU Ck AJt) G0))) aQ])
   GA])]])]
   #[cL (Q_ 11 sI (PU Ck ABt) (PU wL (Xi (AnG (pj j')))))
   (EV #[je #[Ob (je #[JC j' (Ia (qv 11)) HY]) (je #[JC j' HY (Ia (qv 11))])]])]]]]]])) zzt)) (fun _ _ _ _ _ _ us hl=>wp)
theorem xU:ANc YZ:=AQ
theorem z6y(F:AJ "under" "under" YZ)(hm:A5 "under"):Aw9:=
 BM xU yd3 (fun cdv A outer s H E hr F0=>(AY zw5 (by
  have nd:=xU.nd;show As cO;exact(cX (Nd #[Cg ARt l_ AuN aT]))) ybq)) (fun _ _ _ _ _ _ us hl=>Cl)
theorem vI:GT ķ "left" "right" Y0:=AQ
theorem z1m(F:AJ "climbs" "climbs" Y0)(hm:A5 "climbs")(eU:AS Vs):A6p:=
 BM vI z7j (fun cdv A outer s H E hr F0=>(AY ztd (by
  have nd:=vI.nd;show As cO;exact(cX (Nd #[Rq (FH eU VZ oQ) (N5 (ygv (FH eU oQ VZ)))]))) z9o)) (fun _ _ _ _ _ _ us hl=>Cl)
theorem rR:E2 ["points"] ["points"] VN:=AQ
theorem zuh(F:AJ "is_scale" "is_scale" VN)(hm:A5 "is_scale")(ud:A6p)(FW:A6 "all")(aY:A6 "len")(ji:A6 "zip"):A1u:=
 BM rR zz3 (fun cdv A outer s H E hr F0=>(AY znw (by
  have nd:=rR.nd;show As cO;exact(AGi cX iC (Rq (Cg ACt Ķ aZ aT) (N5 (rO (AKl yil) rfl FW boot_all (H_ (yn (AGQ (KP vo ķ ķ) (IH ["points"] ķ [] VN ķ) (AFa Oe ji (HC Ψ Ak0)) ķ ķ (AjC ud))))))))) zz1)) (fun _ _ _ _ _ _ us hl=>SW)
theorem lG:AH_ Abq "points" Qd:=AQ
theorem zkm(F:AJ "__init__" "Scale.__init__" Qd)(j6:AS zni)(A9f):PY base Nc 4 f fd Abq (tQ K c.Scale "points" (MJ c)):=by
 have nd:=lG.nd;refine ye1 F rfl lG bL aK rfl (Or.inl rfl) (Sb ydf) fun cdv A outer s H E hr F0=> ?_;show ANh "Scale.__init__" Qd
 exact⟨rfl,zfq K c,zee K c,AH4 (uP #[NZ (DN (Z' j6 AKX))]
 (ANf jT jT)
 GA),
 AH4 (zq9 (At yci) rfl qH boot_tuple (aD Ι aQ)),fun a ds Q Ex h=>yec h⟩
theorem zk1(F:AJ "__init__" "Scale.__init__" Qd)(M:Mk K c.Scale f)(hm:nX "Scale" c.Scale)(j6:AS zni)(A9f):A'g:=
 ⟨f,fd,zkm c F j6 qH jT bL aK,M,hm,F.binds fun _ _ _ _ _ _ us hl=>Cl⟩
theorem BJ:GT ["group","hands"] "group" "hands" VP:=AQ
theorem yc7(F:AJ "meet" "meet" VP)(hm:A5 "meet")(vJ:A6 "any"):A6Y:=
 BM BJ yhz (fun cdv A outer s H E hr F0=>(AY z1q (by
  have nd:=BJ.nd;show As cO;exact(AGi cX iC (rO (AKl yfj) rfl vJ boot_any (aD (AEd "hand" AfU (ATL Ahy [0] VP AfU) Ι AfU (Cg (At Lh) Ψ Ι û)) aQ)))) ygx)) (fun _ _ _ _ _ _ us hl=>Cl)
theorem vK:GT A9a "found" "hands" VR:=AQ
theorem z52(F:AJ "joined" "joined" VR)(hm:A5 "joined")(wz:A6Y)(cA:A6 "list")(Ayf):A6q:=
 BM vK z8q (fun cdv A outer s H E hr F0=>(AY zs3 (by
  have nd:=vK.nd;show As cO;exact(cL (ĸ (AiD "group" Ahy (by show IH A9a ["group"] [1] VR ["group","hands"];symm_saturate) rfl #[qQ (uV Ψ)] #[Po Ahy,_] #[Anj (FH wz Ψ Ι),_] #[qv 0,_]))
   #[cL (mo K6 3 (Anx (At Xc) Ι))
   #[cL #[DP rfl AKj (LO 4)
   (CL #[uP #[DN (Ó wz G0 Ι)]
   (AKJ (Oa (i:=3) (At z46) PySem.F.slot_list_extend PySem.F.type_list_extend rfl) (ś G0))
   GA])]
   (EV #[je #[Ob A9 (je (mM (je #[z6s rfl rfl cD rfl vL (aD EN aQ)])))]])]])) z55)) (fun _ _ _ _ _ _ us hl=>Cl)
theorem uf:Afs ["rows","sheets","work","hand","mark"] Y4:=AQ
theorem zy7(F:AJ "by_work" "by_work" Y4)(hm:A5 "by_work"):A2R:=
 AeM uf z0t (fun cdv A outer s H E hr F0=>(AY zpa (by
  have nd:=uf.nd;show As cO;exact(cL (AXW 1)
   #[cL #[DP rfl AKj (Apm 2 3 4)
   #[cL #[uP #[ygs (i:=1) (hu1 hu) AS9 rfl EO]
   (AKJ (Kj yfx 1 j 2 AEr rfl EO rfl) #[Oj])
   GA]
   (CL #[Kj yh2 1 j 2 (l:=3) AEr rfl EO rfl EO rfl EO #[qv 4]])]]
   A4O])) z0r)) (fun _ _ _ _ _ _ us hl=>SW)
theorem vM:Afs ["rows","found","sheet"] Y5:=AQ
theorem z5e(F:AJ "groups" "groups" Y5)(hm:A5 "groups")(ug:A6q)(dH:AS Vt)(cD:A6 "sorted")(cA:A6 "list"):A2S:=
 AeM vM z8a (fun cdv A outer s H E hr F0=>(AY zsk (by
  have nd:=vM.nd;show As cO;exact(cL (FV 1 #[je #[yI aQ]])
   #[cL #[Lb rfl #[z5a (VO zqc dH Q1)] (LO 2)
   (CL (d4 1 ug Ι (je (Anx (AKl ycs) A9))))]
   (CL #[zwd #[yh8 #[z9f (At (yf5 hu)) rfl cD boot_sorted (H_ Ι)]]])])) z7k)) (fun _ _ _ _ _ _ us hl=>SW)
theorem uh:GT ["one","other","rest"] "one" "other" Y6:=AQ
theorem zzj(F:AJ "divisor" "divisor" Y6)(hm:A5 "divisor")(um:A6 "abs"):Aw_:=
 BM uh z18 (fun cdv A outer s H E hr F0=>(AY zpw (by
  have nd:=uh.nd;show As cO;exact(cL #[zxr (NU AKv Ι aZ)
   #[cL (Q_ 2 sI Ψ Ι)
   #[cL (FV 0 AKk)
   (CL (FV 1 AS9))]]]
   (EV A4i))) z3m)) (fun _ _ _ _ _ _ us hl=>Cl)
theorem qI:E2 ["row","multiple","part"] ["row"] V0:=AQ
theorem zt8(F:AJ "whole_row" "whole_row" V0)(hm:A5 "whole_row")(jU:AS zo7):A6T:=
 BM qI zvo (fun cdv A outer s H E hr F0=>(AY zli (by
  have nd:=qI.nd;show As cO;exact(cL (ALj 1)
   (Do (cL #[DP rfl AKj (LO 2)
   (CL (Ak3 1 Ι (PP A9) (FH jU Ι (PP A9))))]
   (AWb (AHP "part" Aqi (IH ["row","multiple","part"] ["part"] [1] V0 ["part","multiple"]) Ψ Aqi (dg (At pG) VZ (ZO Ck Ι VZ)))))))) zuj)) (fun _ _ _ _ _ _ us hl=>SW)
theorem uo:E2 ARL ARL V1:=AQ
theorem z0a(F:AJ "without" "without" V1)(hm:A5 "without")(ji:A6 "zip"):A3H:=
 BM uo z5c (fun cdv A outer s H E hr F0=>(AY zo8 (by
  have nd:=uo.nd;show As cO;exact(ADR (Ç (AGQ (KP vo Aqj AZo) (IH ARL Aqj [0,1,2,3] V1 AZo) (AFa Oe ji (HC Ψ Ι)) AZo AZo (dg (At Ck) (á (VY (Na EN G0) Ψ) (VY ArW Ι)) Ā))))) z5v)) (fun _ _ _ _ _ _ us hl=>by obtain⟨_,_,_,_,rfl⟩:=abJ hl;exact rfl)
theorem ur:A2d "ahead" "lead" "ahead" V2:=AQ
theorem zz9(F:AJ "cleared" "cleared" V2)(hm:A5 "cleared")(rF:A3H)(eV:A6 "enumerate"):A_e:=
 BM ur z13 (fun cdv A outer s H E hr F0=>(AY zp1 (by
  have nd:=ur.nd;show As cO;exact(cL (FV 3 #[fV Ψ Ι fE])
   (AWb (AGQ (KP vo BGB AZc) (IH ["table","place","ahead","lead"] BGB [1,2,3] V2 AZc) (AFa zg4 eV Q1) AZc AZc (WQ (AjR A9) Ι (Z' rF (ASF Ι G0 A9 EN))))))) z1e)) (fun _ _ _ _ _ _ us hl=>wp)
theorem rW:GT ["top","bottom","common"] "top" "bottom" Y7:=AQ
theorem zv2(F:AJ "fraction" "fraction" Y7)(hm:A5 "fraction")(jU:AS zo7)(jQ:xo "NoFraction" c.fO c.fO):A6r:=
 BM rW zz5 (fun cdv A outer s H E hr F0=>(AY zoh (by
  have nd:=rW.nd;show As cO;exact(cL #[uP (NU o4 Ι aZ)
   (ANf jQ jQ)
   GA]
   #[cL (d4 2 jU Ψ Ι)
   #[cL #[uP (NU ARt Ι aZ)
   (CL (FV 2 #[DW (qv 2)]))
   GA]
   (EV #[vg (HC (ZO Ck Ψ A9) (ZO Ck Ι A9))])]])) zy8)) (fun _ _ _ _ _ _ us hl=>Cl)
theorem qJ:A2d "spot" "other" "spot" Y8:=AQ
theorem zub(F:AJ "exchanged" "exchanged" Y8)(hm:A5 "exchanged")(cA:A6 "list"):A'S:=
 BM qJ zv1 (fun cdv A outer s H E hr F0=>(AY zlh (by
  have nd:=qJ.nd;show As cO;exact(cL (mo K6 3 A8H)
   #[cL (A6V AKk A9)
   #[cL (A6V AS9 Ι)
   (vE 3)]])) zvc)) (fun _ _ _ _ _ _ us hl=>wp)
theorem FZ:GT ["table","place","spot"] "table" "place" Y9:=AQ
theorem yf9(F:AJ "led" "led" Y9)(hm:A5 "led")(oG:A'S)(gj:A6 "range")(aY:AOb)(mX:xo "NoAnswer" c.ju c.ju):A6s:=
 BM FZ yi4 (fun cdv A outer s H E hr F0=>(AY z93 (by
  have nd:=FZ.nd;show As cO;exact(cL #[ye0 rfl rfl gj #[aD Ι (aD Ķ aQ)] (LO 2)
   (CL #[uP (NU AKv (Na (Na Ψ A9) Ι) aZ)
   (EV (AS7 oG Ψ Ι A9))
   GA])]
   (ANf mX mX))) yid)) (fun _ _ _ _ _ _ us hl=>Cl)
theorem vN:GT ApI "rows" "rights" Qe:=AQ
theorem z5l(F:AJ "solved" "solved" Qe)(hm:A5 "solved")(oH:A6T)(rG:A_e)(bC:AS PL)(Ga:A6s)(gj:A6 "range")(aY:A6 "len")(ji:A6 "zip")(eV:A6 "enumerate"):A6c:=
 BM vN z9j (fun cdv A outer s H E hr F0=>(AY ztz (by
  have nd:=vN.nd;show As cO;exact(cL (ĸ (AGQ (KP (AIT 2) AEU AEU) (IH ApI AEU [] Qe AEU) (AFa Oe ji (HC Ψ Ι)) AEU AEU (AG4 oH (H_ (je #[Ob Ψ (je (mM Ι))])))))
   (Do (cL (ALj 3)
   (Do (cL #[Ru rfl rfl gj #[aD (rO (At yJ) rfl aY boot_len (H_ A9)) aQ] (LO 4)
   #[cL (FV 2 (AS7 rG (FH Ga A9 G0) G0 EN))
   (CL (FV 3 #[fV ArW G0 fE]))]]
   (AWb (AGQ (KP vo AEw AEw) (IH ApI AEw [] Qe AEw) (AFa zg4 eV (H_ A9)) AEw AEw (Ó bC AVn (Na Ι Ψ)))))))))) z7i)) (fun _ _ _ _ _ _ us hl=>Cl)
theorem oJ:Axn V3:=AQ
theorem zov(F:AJ "sheets_with" "sheets_with" V3)(hm:A5 "sheets_with"):A6Z:=
 BM oJ zrh (fun cdv A outer s H E hr F0=>(AY zh1 (by
  have nd:=oJ.nd;show As cO;exact(ADR (Ç (KP vo ["sheet"] AW9 (by show A7o V3;symm_saturate) rfl #[qQ (uV Ι)] #[Po AW9,_] #[JB (yfk (hu1 hu) Ι Ψ û),_] #[qv 0,_])))) zre)) (fun _ _ _ _ _ _ us hl=>Cl)
theorem qK:GT ["step","bound"] "step" "bound" Za:=AQ
theorem zsg(F:AJ "is_within" "is_within" Za)(hm:A5 "is_within"):A6a:=
 BM qK zvd (fun cdv A outer s H E hr F0=>(AY zle (by
  have nd:=qK.nd;show As cO;exact(cX (Nd #[z8h (At Rx) (At Rx) oQ Ψ oQ]))) zvq)) (fun _ _ _ _ _ _ us hl=>Cl)
theorem uw:E2 AQl AQl Qf:=AQ
theorem zzs(F:AJ "reached" "reached" Qf)(hm:A5 "reached")(iB:AS zlj)(vJ:A6 "any"):A5h:=
 BM uw z4q (fun cdv A outer s H E hr F0=>(AY zpu (by
  have nd:=uw.nd;show As cO;exact(ADR (Ç (KP vo ["end"] AUv (by show IH AQl ["end"] [1,2] Qf AUv;symm_saturate) rfl #[qQ (uV Ψ)] #[Po AUv,_] #[JB (DN (rO (AKl yfj) rfl vJ boot_any (aD (AEd "start" Akz (fY AUv _ ["start"] [0,2] (z6t _ (bI Qf)) Akz) Ι Akz (Ó iB (á Ι Ψ) A9)) aQ))),_] #[qv 0,_])))) z20)) (fun _ _ _ _ _ _ us hl=>wp)
theorem BK:ANc Zb:=AQ
theorem ydn(F:AJ "plus" "plus" Zb)(hm:A5 "plus")(bC:AS PL):AvV:=
 BM BK yf1 (fun cdv A outer s H E hr F0=>(AY z2i (by
  have nd:=BK.nd;show As cO;exact(cX (Nd (TK bC (cf l_ (VY oQ VZ)) l_)))) yfh)) (fun _ _ _ _ _ _ us hl=>Cl)
theorem xV:E2 ["some","reached","part"] ["some"] Zc:=AQ
theorem z6n(F:AJ "total" "total" Zc)(hm:A5 "total")(mD:AS zpq)(mY:AS zvr):A1x:=
 BM xV ydv (fun cdv A outer s H E hr F0=>(AY zxi (by
  have nd:=xV.nd;show As cO;exact(cL (FV 1 #[vg (HC aZ aZ)])
   #[cL #[DP rfl AKj (LO 2)
   (CL (d4 1 mY Ι A9))]
   (vE 1)])) yca)) (fun _ _ _ _ _ _ us hl=>SW)
theorem xW:E2 A9Z BCM V4:=AQ
theorem z8m(F:AJ "share" "share" V4)(hm:A5 "share")(cj:AS ze7)(jR:AS zqq)(mY:AS zvr)(aY:A6 "len"):A5i:=
 BM xW yby (fun cdv A outer s H E hr F0=>(AY zw7 (by
  have nd:=xW.nd;show As cO;exact(cL (d4 3 cj Ι (FH cj Ψ A9))
   (Do (cL (Do (jo (i:=4) nd rfl EO (Do (Z' jR (H_ (AEd "sheet" Ac7 (IH A9Z ["sheet"] [] V4 Ac7) EN Ac7 (vg (HC AHv Ark))))))))
   (EV #[WQ (AjR Ι) (FH mY (y8 (pj EN)) G0) G0]))))) ydg)) (fun _ _ _ _ _ _ us hl=>wp)
theorem vO:E2 ç ç V5:=AQ
theorem z2c(F:AJ "shares" "shares" V5)(hm:A5 "shares")(wA:A5i):A5j:=
 BM vO z6p (fun cdv A outer s H E hr F0=>(AY zsn (by
  have nd:=vO.nd;show As cO;exact(ADR (Ç (AHP "other" Am9 (IH ç ["other"] [0,2] V5 Am9) Ι Am9 (AG4 wA (ABG Ι Ψ A9)))))) z7c)) (fun _ _ _ _ _ _ us hl=>wp)
theorem xX:ANc Zd:=AQ
theorem z7e(F:AJ "minus" "minus" Zd)(hm:A5 "minus")(bC:AS PL):AvW:=
 BM xX ybt (fun cdv A outer s H E hr F0=>(AY zxe (by
  have nd:=xX.nd;show As cO;exact(cX (Nd (TK bC (á l_ AuN) l_)))) yen)) (fun _ _ _ _ _ _ us hl=>Cl)
theorem qL:E2 ["sheet"] ["sheet"] Ze:=AQ
theorem ztj(F:AJ "mean_mark" "mean_mark" Ze)(hm:A5 "mean_mark")(bC:AS PL)(Gb:A6 "sum")(aY:A6 "len"):A1v:=
 BM qL zvn (fun cdv A outer s H E hr F0=>(AY zlg (by
  have nd:=qL.nd;show As cO;exact(cX (Nd (TK bC (yed rfl rfl Gb Ψ) Ark)))) zu7)) (fun _ _ _ _ _ _ us hl=>SW)
theorem vP:Axn V6:=AQ
theorem z0z(F:AJ "excess" "excess" V6)(hm:A5 "excess")(jR:AS zqq)(iY:AS zrd)(oK:A1v)(cj:AS ze7):A8P:=
 BM vP z7l (fun cdv A outer s H E hr F0=>(AY zod (by
  have nd:=vP.nd;show As cO;exact(AGi cX iC (Z' jR (H_ (AEd "sheet" AW9 (A7o V6) (FH cj Ψ Ι) AW9 (Ó iY (y8 (AYt Ψ Ι)) (Z' oK Q1))))))) z6f)) (fun _ _ _ _ _ _ us hl=>Cl)
theorem lH:GT AZe "hands" "sheets" Nk:=AQ
theorem zkz(F:AJ "group_leanings" "group_leanings" Nk)(hm:A5 "group_leanings")(uz:A6c)(uD:A5j)(uE:A8P)(cj:AS ze7)(aY:A6 "len"):A8Q:=
 BM lH zll (fun cdv A outer s H E hr F0=>(AY zfn (by
  have nd:=lH.nd;show As cO;exact(cL (ĸ (AiD "hand" ç (by show ATL AZe [0,1] Nk ç;symm_saturate) rfl #[qQ (uV Ak0)] #[Po ç,_] #[vm,_] #[AG4 uD (ABG Ψ Ι A9),_]))
   (Do (cL (ĸ (KP (AIT 3) ["hand"] sK (by show ATL AZe [1] Nk sK;symm_saturate) rfl #[qQ (uV Ak0)] #[Po sK,_] #[vm,_] #[AjC uE,_]))
   (Do (cL (ĸ (KP (AIT 4) ["hand"] sK (by show ATL AZe [1] Nk sK;symm_saturate) rfl #[qQ (uV Ψ)] #[Po sK,_] #[vm,_] #[vg (HC (pj (FH cj Ψ Ι)) aZ),_]))
   (EV (TK uz (je #[Ob (je (mM G0)) A9]) (je #[Ob (je (mM AUD)) EN]))))))))) zlr)) (fun _ _ _ _ _ _ us hl=>Cl)
theorem rY:Afs A_z V7:=AQ
theorem zuz(F:AJ "leanings" "leanings" V7)(hm:A5 "leanings")(uF:A2S)(jm:A8Q)(dH:AS Vt)(cA:A6 "list")(ji:A6 "zip"):A2T:=
 AeM rY zzr (fun cdv A outer s H E hr F0=>(AY zn2 (by
  have nd:=rY.nd;show As cO;exact(cL (AXW 1)
   (Do (cL (Do (DP rfl (VO fK uF.fn Q1) (LO 2)
   (Do (cL (Do (AsN (AN1 je (zwq rfl rfl cA (Z' dH.fn (H_ (yn (KP vo ["row"] AqI (by show IH A_z ["row"] [2] V7 ["row","hands"];symm_saturate) rfl #[qQ (uV Ψ)] #[Po AqI,_] #[JB (tM (At Lh) VZ Ι û),_] #[qv 0,_]))))))))
   (CL #[Lb rfl (AoK A9 (FH jm A9 EN)) (AYK 4 5)
   (CL #[zsc (i:=1) AEr rfl EO #[qv 4] #[qv 5]])])))))
   A4O)))) zy4)) (fun _ _ _ _ _ _ us hl=>SW)
theorem xY:ANc Zf:=AQ
theorem z57(F:AJ "times" "times" Zf)(hm:A5 "times")(bC:AS PL):AvX:=
 BM xY yct (fun cdv A outer s H E hr F0=>(AY zyq (by
  have nd:=xY.nd;show As cO;exact(cX (Nd (TK bC l_ l_)))) ybi)) (fun _ _ _ _ _ _ us hl=>Cl)
theorem BL:ANc Zg:=AQ
theorem ybl(F:AJ "over" "over" Zg)(hm:A5 "over")(bC:AS PL):AvY:=
 BM BL yf0 (fun cdv A outer s H E hr F0=>(AY z3v (by
  have nd:=BL.nd;show As cO;exact(cX (Nd (TK bC l_ l_)))) yfi)) (fun _ _ _ _ _ _ us hl=>Cl)
theorem uG:E2 ["left","right","x","part"] ["left","right","x"] Zh:=AQ
theorem zzi(F:AJ "between" "between" Zh)(hm:A5 "between")(wB:AvX)(mY:AS zvr)(iY:AS zrd)(rH:AS z2y):A'T:=
 BM uG z2q (fun cdv A outer s H E hr F0=>(AY zpm (by
  have nd:=uG.nd;show As cO;exact(cL (d4 3 wB (FH iY A9 VZ) A0L)
   (EV (TK mY VZ (FH rH EN A0L))))) z0s)) (fun _ _ _ _ _ _ us hl=>wp)
theorem nj:AH_ ["self","x","left","right"] "x" Zi:=AQ
theorem zml(F:AJ "scaled" "Scale.scaled" Zi)(M:Meth K c.Scale "scaled" f)(eU:AS Vs)(rJ:A'T)(ji:A6 "zip")(bL:AHo)(aK:aN K c.Scale "points"):A_D:=
 ŧ nj zo6 (fun cdv A outer s H E hr F0=>(AY zg2 (by
  have nd:=nj.nd;show As cO;exact(cL #[uP #[NZ (DN (FH eU (PP (PP AMz)) Ι))]
   (EV #[fV (PP AMz) aZ fE])
   GA]
   #[cL #[Lb rfl (AoK AMz (z1k AMz APg HY)) (AYK 2 3)
   (CL #[uP #[DN (Ó eU Ι (PP EN))]
   (EV (AS7 rJ A9 EN Ι))
   GA])]
   (EV #[fV (Na AMz AHv) aZ fE])])) zos)) (fun _ _ _ _ _ _ us hl=>Cl)
theorem j7:AH_ (ů "hand") "hand" Zj:=AQ
theorem zjp(F:AJ "leaning" "Sitting.leaning" Zj)(M:AEp "leaning")(au:ph)(aL:PV "kept_leanings"):A6v:=
 ŧ j7 zj7 (fun cdv A outer s H E hr F0=>(AY zc2 (by
  have nd:=j7.nd;show As cO;exact(cX (Nd #[zvx AEr (rX aL) Ι AUD AmG]))) zkk)) (fun _ _ _ _ _ _ us hl=>Cl)
theorem nq:E2 ["rule"] ["rule"] Zk:=AQ
theorem zm9(F:AJ "least_number" "least_number" Zk)(hm:A5 "least_number"):A6U:=
 BM nq zou (fun cdv A outer s H E hr F0=>(AY zgs (by
  have nd:=nq.nd;show As cO;exact(cX (Nd #[WQ (AjR GQ) aZ aZ]))) zo0)) (fun _ _ _ _ _ _ us hl=>SW)
theorem BP:E2 ["some"] ["some"] Zm:=AQ
theorem ycd(F:AJ "mean" "mean" Zm)(hm:A5 "mean")(rH:AS z2y)(jR:AS zqq)(aY:A6 "len"):A1y:=
 BM BP yfw (fun cdv A outer s H E hr F0=>(AY z2k (by
  have nd:=BP.nd;show As cO;exact(cX (Nd (TK rH (Z' jR Q1) (y8 Ķ))))) ygi)) (fun _ _ _ _ _ _ us hl=>SW)
theorem xZ:E2 AJQ AJQ Jl:=AQ
theorem ya6(hr:AHU 5 (xS "worth" (bI Jl)))(Ap6):vf (gi (gQ Nc P w K mg base AJQ "worth" (bI Jl) f cdv A)) F0 H (wJ Jl) (zqu K c):=by
 have nd:=xZ.nd;show ANh "worth" Jl
 exact(cL #[uP (NU ARt (pj Ι) (Z' dO Q1))
 (ANf rZ rZ)
 GA]
 #[cL #[uP (NU o4 Ψ GQ)
 (EV (VO fK pY AKX))
 GA]
 #[cL #[z5g]
 (CL #[z5g])]])
theorem z9l{f:Addr}{fd:FuncData}{tE:Addr}(A8v)(Ap6):PY base Nc 6 f fd AJQ (pN K (Pa c)):=
 aa3 F xZ (Sb yey) fun cdv A outer s H E hr F0=>(AY zqu (ya6 c hr dO pY aY rZ) yea)
theorem z7a(AYQ){tE:Addr}{Mi:JP}{dn:Nat}{Mj:í}(A8v)(hT:ρ (K.lookup tE) (ApL (List.toArray [Χ])))(hm:A5 "worth")(Ap6):A9n:=by
 have FO:=BAO z9l P c F dO pY aY rZ;have kp:=F.kp;obtain⟨oc,od,kV,doc,pm,an,cdv,ct,osl,e0,lk,hcd⟩:=F.ex;subst e0;refine⟨f,_,FO,hm,kp,A4Q,A4Q⟩
 ·match us,hl with | [_,_,_],_=>exact BindsTo.of_defaults rfl (X _ _ hT) rfl rfl rfl
 ·have hl2:us.length=2:=AN hl
  match us,hl2 with | [_,_],_=>exact BindsTo.of_defaults rfl (X _ _ hT) rfl rfl rfl
theorem jK:E2 A3_ ["self","work","sheet"] V8:=AQ
theorem zid(F:AJ "reckoned" "Sitting.reckoned" V8)(M:AEp "reckoned")(j8:A_D)(iY:AS zrd)(aO:AS Vu)(wC:A9n)(bL:AHo)(au:ph)(bA:PV "scale")(bK:PV "rule")(bQ:PV "gap"):A6w:=
 ŧ jK zj6 (fun cdv A outer s H E hr F0=>(AY zem (by
  have nd:=jK.nd;show As cO;exact(cL (ĸ (AGQ (KP (AIT 3) BFU AXr) (IH A3_ BFU [0] V8 AXr) (qQ (z59 A9)) AXr AXr (Ó iY (y8 Ι) (wx aO A9 Ψ))))
   (CL #[GS ydk F0 (AH4 (cX (Nd #[Ei j8 bL ZI (rX bA) (H_ (z9i wC ZI rfl (ABG (rX bK) EN (rX bQ))))])))]))) zj2)) (fun _ _ _ _ _ _ us hl=>wp)
theorem vQ:E2 A1l ["some"] V9:=AQ
theorem z11(F:AJ "rising" "rising" V9)(hm:A5 "rising")(eU:AS Vs)(aY:A6 "len"):A1z:=
 BM vQ z6j (fun cdv A outer s H E hr F0=>(AY zud (by
  have nd:=vQ.nd;show As cO;exact(cL (Agl 1)
   (Do (cL (Do (DP rfl AKj (LO 2)
   (Do (cL (Do (AsN (Do (Xi (AnG (pj (yn (KP vo ["other"] As3 (by show IH A1l ["other"] [2] V9 ["other","part"];symm_saturate) rfl #[qQ (uV Ι)] #[Po As3,_] #[Anj (FH eU Ι Ψ),_] #[qv 0,_]))))))))
   (AKJ (Oa (i:=1) (At z1d) PySem.F.slot_list_insert PySem.F.type_list_insert rfl) #[aD EN (aD A9 aQ)])))))
   (vE 1))))) z7m)) (fun _ _ _ _ _ _ us hl=>SW)
theorem j9:GT ["marks","counts","order"] "marks" "counts" Wa:=AQ
theorem zjs(F:AJ "borders" "borders" Wa)(hm:A5 "borders_borders")(uH:A1z):A6f:=
 BM j9 zk3 (fun cdv A outer s H E hr F0=>(AY zex (by
  have nd:=j9.nd;show As cO;exact(cL (FV 2 (VO fK uH Q1))
   (AWb (AHP "count" As6 (IH ["marks","counts","order"] ["count"] [2] Wa ["count","order"]) (je #[JC Ι HY (Ia (DW aZ))]) As6 (WQ (tM ACt Ψ aZ aT) (Na Ι (DW Ψ)) yap))))) zk5)) (fun _ _ _ _ _ _ us hl=>Cl)
theorem yc:Ait ["some","bounds","lists","bound"] Zn:=AQ
theorem z61(F:AJ "reach" "reach" Zn)(hm:A5 "reach")(mD:AS zpq):A6d:=
 BM yc ycr (fun cdv A outer s H E hr F0=>(AY zx7 (by
  have nd:=yc.nd;show As cO;exact(cL (mo K6 2 (mM (je (mM aZ))))
   #[cL #[DP rfl AKk (LO 3)
   (CL #[AZL 2 EO (ś (Z' mD (ABG Ψ (yf8 (i:=2) rfl EO AHv fE) EN)))])]
   (vE 2)])) ycf)) (fun _ _ _ _ _ _ us hl=>Cl)
theorem kh:AH_ AQP "reach" Nm:=AQ
theorem zi9(Awn)(A't):PY base Nc 4 f fd AQP (Sy K c.fj "reach" (O7 c)):=by
 have nd:=kh.nd;refine z87 F rfl kh jV iZ jy.1 fU rfl (Or.inl rfl) (Sb z9e) χ fun cdv A outer s H E hr F0=> ?_
 show ANh "Barred.__init__" Nm
 exact⟨rfl,rfl,CO,zev K c,AH4 (AEd "counts" Ac8 (IH AQP ["counts"] [] Nm Ac8) Ι Ac8 (je A8H)),fun a ds Q Ex h=>z72 h⟩
theorem zjk(Awn)(M:ANq (AA c.fj) "__init__" EQ/\AIw)(hm:nX "Barred" c.fj)(A't):A'h:=
 ⟨f,fd,zi9 c F jV iZ jr cA jy fU,M.1,M.2,jV,hm,F.binds fun _ _ _ _ _ _ us hl=>Cl⟩
theorem oM:GT ["least","marks"] "least" "marks" Wb:=AQ
theorem zow(F:AJ "number_from" "number_from" Wb)(hm:A5 "number_from")(eU:AS Vs)(aY:A6 "len"):A6t:=
 BM oM zra (fun cdv A outer s H E hr F0=>(AY zh3 (by
  have nd:=oM.nd;show As cO;exact(AGi cX iC (pj (yn (KP vo ["mark"] Aqh (by show AI7 ["least","marks"] "mark" Wb "mark" "least";symm_saturate) rfl #[qQ (uV Ι)] #[Po Aqh,_] #[Anj (FH eU Ψ Ι),_] #[qv 0,_]))))) zry)) (fun _ _ _ _ _ _ us hl=>Cl)
theorem BR:E2 ["marks"] ["marks"] Wc:=AQ
theorem ydu(F:AJ "ends" "ends" Wc)(hm:A5 "ends")(lU:A6t)(Ayf):A1w:=
 BM BR ygd (fun cdv A outer s H E hr F0=>(AY z4e (by
  have nd:=BR.nd;show As cO;exact(ADR (Ç (yb5 rfl rfl cD rfl vL (aD (yn (Ob (je (mM aZ)) (AEd "mark" Aqg (AI7 ["marks"] "mark" Wc "mark" "marks") Ψ Aqg (AjC lU)))) aQ))))) yhi)) (fun _ _ _ _ _ _ us hl=>SW)
theorem nu:Ait AyC Wd:=AQ
theorem zmp(F:AJ "rests_behind" "rests_behind" Wd)(hm:A5 "rests_behind")(jr:AS YK)(cA:A6 "list")(kj:A6 "reversed"):A3X:=
 BM nu zon (fun cdv A outer s H E hr F0=>(AY zgu (by
  have nd:=nu.nd;show As cO;exact(cL (ĸ (AiD "end" As5 (by show AI7 AyC "end" Wd "end" "some";symm_saturate) rfl #[AFa zvg kj Q1] #[Po As5,_] #[vm,_] #[dg (At G3) AVn Ψ,_]))
   #[cL (d4 3 jr A9 (je #[z3h rfl rfl cA rfl kj (aD Ι aQ)]))
   (EV #[je #[JC (je #[z3h rfl rfl cA rfl kj (aD EN aQ)]) APg HY]])])) zo5)) (fun _ _ _ _ _ _ us hl=>Cl)
theorem mF:Ait Apy Qg:=AQ
theorem zls(F:AJ "greatest_cuts" "greatest_cuts" Qg)(hm:A5 "greatest_cuts")(kE:A3X)(iB:AS zlj)(ji:A6 "zip")(Ge:A6 "max"):A3Y:=
 BM mF zno (fun cdv A outer s H E hr F0=>(AY zgd (by
  have nd:=mF.nd;show As cO;exact(cL (mo K6 2 (mM aZ))
   (Do (cL (Do (Lb rfl (AoK Ι (FH kE Ψ Ι)) (AYK 3 4)
   (Do (cL (Do (KP (z6o (i:=5) nd rfl rfl) ["end"] Aky (by show IH Apy ["end"] [2,3] Qg Aky;symm_saturate) rfl (AnG (qQ (uV Ψ))) #[Po Aky,_] #[JB (DN (FH iB (á Ψ AVn) A9)),_] #[qv 0,_]))
   (AN1 cX (AZL 2 EO (Do (H_ (rO (AKl yf2) rfl Ge boot_max (aD (yn (KP vo ["end"] Am_ (by show IH Apy ["end"] [0,4] Qg Am_;symm_saturate) rfl #[qQ (uV Ā)] #[Po Am_,_] #[JB (tM (At Lh) (á AVn Ψ) A9 û),_] #[qv 0,_])) aQ))))))))))
   (EV #[je #[JC A9 APg HY]]))))) znm)) (fun _ _ _ _ _ _ us hl=>Cl)
theorem BX:GT ["marks","bounds","some","lists"] "marks" "bounds" Zo:=AQ
theorem yep(F:AJ "cuts" "cuts" Zo)(hm:A5 "cuts")(jc:A'h)(Aj:A1w)(jr:AS YK)(jC:A3Y)(aY:A6 "len"):A7k:=
 BM BX ygc (fun cdv A outer s H E hr F0=>(AY z3u (by
  have nd:=BX.nd;show As cO;exact(cL (FV 2 (VO fK Aj Q1))
   #[cL (d4 3 jr A9 Ι)
   #[cL #[uP #[tM (At yi8) Ķ (Na EN AHv) û]
   (CL #[z2p rfl jc ZI rfl (H_ EN)])
   GA]
   (EV (TK jC A9 Ι))]])) ygb)) (fun _ _ _ _ _ _ us hl=>Cl)
theorem jL:E2 ["self","rows","rule","gap","scale","bounds","work","dealt"] Ac4 Jm:=AQ
theorem zj0{f:Addr}{cdv:Value}(AvR){s:Shared}{H H1:Hp}{E:XK}{F0:Hp}(c:Cls)(hr:AHU 8 (xS "Sitting.__init__" (bI Jm)))(Ap_):vf (gi (gQ Nc P w K mg base ["self","rows","rule","gap","scale","bounds","work","dealt"] "Sitting.__init__" (bI Jm) f cdv A)) F0 H1 (wJ Jm) (Yv K c):=by
 have nd:=jL.nd;show ANh "Sitting.__init__" Jm
 exact(cL (AMD bK AS9)
 #[cL (AMD bQ #[qv 3])
 #[cL (AMD bA (A0H (Anx (At Xc) (wY bL aK G0))))
 #[cL (AMD aL #[yb7 (VO zqc iw AKX)])
 #[cL (BGc bG (VO zqc dH AKX))
 #[cL (BGc aJ #[Oj])
 #[cL #[DP rfl #[je (Ú zyp (zym rfl rfl cD (H_ (rX bG))))] (LO 6)
 (CL #[Kj z7d 0 j 6 (hu1 hu) au aJ (Ú Tz (Ei bU au ZI Ψ (HC i8 (AYt (rX bG) i8)))) rfl EO rfl EO])]
 #[cL (FV 7 #[je (Ú zyp (zwq rfl rfl cA AUN))])
 (CL (AMD aM (TK cF j' (FH pZ j' Ā))))]]]]]]])
theorem zim(Awo)(Ap_):PY base Nc 9 f fd Ac4 (vq K (Kd c)):=
 abd F jL (ww _ h (z2o h)) fun cdv A outer s H E hr F0 H0=>⟨Yv K c,BAJ (zj0 c hr aP iw),fun a bs t ds Q Ex h=>z3p h⟩
theorem zic(Awo)(M:Mk K c.ak f)(hm:nX "Sitting" c.ak)(Ap_):A'M:=
 ⟨⟨f,fd,BAJ (zim c F aP iw),M,hm,F.binds fun _ _ _ _ _ _ us hl=>by obtain⟨_,_,_,_,_,_,rfl⟩:=abL hl;exact rfl⟩,ek z5m⟩
theorem jz:Alm Zq:=AQ
theorem zhu(F:AJ "must_have" "Sitting.must_have" Zq)(M:AEp "must_have")(qM:xo "NoWork" c.qT c.qT)(AmS):A1':=
 ŧ jz zih (fun cdv A outer s H E hr F0=>(AY zcd (by
  have nd:=jz.nd;show As cO;exact(cX #[uP #[z02 (hu1 hu) Ι AUN û]
   (ANf qM qM)
   GA])) zh9)) (fun _ _ _ _ _ _ us hl=>Cl)
theorem nA:Alm Zr:=AQ
theorem zm4(F:AJ "mark" "Sitting.mark" Zr)(M:AEp "mark")(gP:A1')(AmS):A2G:=
 ŧ nA zo4 (fun cdv A outer s H E hr F0=>(AY zej (by
  have nd:=nA.nd;show As cO;exact(cL #[yb2 #[Ei gP au ZI Ψ AKX]]
   (EV #[Tq (hu1 hu) AUN Ι]))) zom)) (fun _ _ _ _ _ _ us hl=>Cl)
theorem oN:GT ["_law_one","_law_other"] "_law_one" "_law_other" Zt:=AQ
theorem zoy(F:AJ "_law_divisor" "_law_divisor" Zt)(hm:A5 "_law_divisor")(um:A6 "abs"):A6b:=
 BM oN zr8 (fun cdv A outer s H E hr F0=>(AY zhw (by
  have nd:=oN.nd;show As cO;exact(cL (FV 0 A4i)
   #[cL (FV 1 #[rO (At yd2) rfl um boot_abs (H_ Ι)])
   #[cL #[zxr (NU ACt Ι aZ)
   (CL #[Kj yh3 0 j 1 rfl nd rfl rfl χ rfl rfl (HC Ι (ADM Ψ Ι)) rfl])]
   (vE 0)]])) zsd)) (fun _ _ _ _ _ _ us hl=>Cl)
theorem pJ:GT ["_law_sitting","_law_rows_here","_law_bottom_here","_law_work","_law_hand","_law_mark","_law_one"] "_law_sitting" "_law_rows_here" Zu:=AQ
theorem zsa(F:AJ "_law_bottom" "_law_bottom" Zu)(hm:A5 "_law_bottom")(BBu)(lV:A6b)(au:ph):A6e:=
 BM pJ ztv (fun cdv A outer s H E hr F0=>(AY zi2 (by
  have nd:=pJ.nd;show As cO;exact(cL (ALj 2)
   #[cL #[DP rfl AKk (Apm 3 4 5)
   (CL #[DP rfl #[je #[yI (HC (wx aO Ψ G0) (wx aR Ψ EN))]] (LO 6)
   (CL (Ak3 2 A9 (PP i8) (FH lV A9 (PP i8))))])]
   (vE 2)])) zsi)) (fun _ _ _ _ _ _ us hl=>Cl)
theorem mG:GT ["some","mark","place","border"] "some" "mark" Zv:=AQ
theorem zln(F:AJ "grade" "grade" Zv)(hm:A5 "grade_borders")(eU:AS Vs)(eV:A6 "enumerate")(aY:A6 "len"):A6u:=
 BM mG znu (fun cdv A outer s H E hr F0=>(AY zgb (by
  have nd:=mG.nd;show As cO;exact(cL #[Lb rfl #[zg4 rfl rfl eV Q1] (AYK 2 3)
   (CL #[uP #[aaI (yhn (tM (At yig) EN yap aT) (yc4 (NZ (DN (FH eU Ι EN)))))]
   (vE 2)
   GA])]
   (EV #[rO (At yJ) rfl aY boot_len Q1]))) zn3)) (fun _ _ _ _ _ _ us hl=>Cl)
theorem mH:Alm Zw:=AQ
theorem zlk(F:AJ "grade" "Sitting.grade" Zw)(M:AEp "grade")(jD:A6u)(aR:AS PN)(au:ph)(aM:PV "kept_borders"):A2H:=
 ŧ mH zog (fun cdv A outer s H E hr F0=>(AY zdw (by
  have nd:=mH.nd;show As cO;exact(cX (Nd (TK jD (rX aM) (wx aR Ψ Ι))))) zn9)) (fun _ _ _ _ _ _ us hl=>Cl)
theorem mJ:E2 ["self"] ["self"] Wf:=AQ
theorem zlm(F:AJ "table" "Sitting.table" Wf)(M:AEp "table")(aR:AS PN)(jE:A2H)(cD:A6 "sorted")(AmS):A6x:=
 ŧ mJ zmg (fun cdv A outer s H E hr F0=>(AY zdy (by
  have nd:=mJ.nd;show As cO;exact(ADR (Ç (AHP "work" As4 (AI7 ["self"] "work" Wf "work" "self") (je #[zym rfl rfl cD (H_ AUN)]) As4 (vg (aD Ψ (HC (wx aR Ι Ψ) (wx jE Ι Ψ)))))))) zns)) (fun _ _ _ _ _ _ us hl=>SW)
theorem Gf:E2 ["_law_script","_law_rows_here","_law_far","_law_scale","_law_sitting","_law_low_here","_law_works","_law_hands","_law_leans","_law_work","_law_hand","_law_mark","_law_lean","_law_one","_law_odd"] ["_law_script"] wO:=AQ
theorem yiq(hr:AHU 10 (xS "law" (bI wO)))(Ap'):vf (gi (gQ Nc P w K mg base ["_law_script","_law_rows_here","_law_far","_law_scale","_law_sitting","_law_low_here","_law_works","_law_hands","_law_leans","_law_work","_law_hand","_law_mark","_law_lean","_law_one","_law_odd"] "law" (bI wO) f cdv A)) F0 H (wJ wO) (Vf K c):=by
 have nd:=Gf.nd;show ANh "law" wO
 exact(cL (FV 1 (AS7 iy Ψ (cf aZ Af6) Af6))
 #[cL (Q_ 2 wL Akk (ADM ABt Akk))
 #[cL (FV 3 (A0H #[yI (HC (Auh AvP AvP) (Auh A9 A9))]))
 #[cL (mo yd7 4 (VO ya7 bV (aD Ι (ASF GQ AUD EN (je (mM AUD))))))
 #[cL (AeK 5 (FH fQ G0 Ι))
 #[cL (AXW 6)
 #[cL (AXW 7)
 #[cL (ALj 8)
 #[cL #[DP rfl AKk (Apm 9 10 11)
 #[cL (AeK 12 (wx aO G0 AJt))
 #[cL (AeK 13 (wx aR G0 ā))
 #[cL (Ak3 12 (PP ARj) Ā (PP ARj))
 #[cL (Q_ 14 G3 (á (VY (qv 11) Ā) ARj) (VY BER (ZO Ck Ā BER)))
 #[cL #[zsc (i:=6) AEr rfl EO #[qv 9] (Ú Xi (cf (zvx (hu1 hu) i8 ā aZ AmG) (qv 14)))]
 #[cL #[zsc (i:=7) AEr rfl EO #[qv 10] (Ú Xi (cf (zvx (hu1 hu) j' AJt aZ AmG) (qv 14)))]
 (CL (Q_ 8 wL j_ ARj))]]]]]]]
 #[cL #[z51 6 #[Lb rfl #[z0w (qv 6)] (LO 9)
 (CL #[uP (NU AKv (AYt i8 ā) aZ)
 AhC
 GA])]]
 #[cL #[z51 7 #[Lb rfl #[z0w (qv 7)] (LO 10)
 (CL #[uP (NU AKv (AYt j' AJt) aZ)
 AhC
 GA])]]
 (EV (Ú Tz (Rq (Ň j_ aZ) (N5 (Ň (pj (z8w c7 au ZI G0)) (AZz z3g i8))))))]]]]]]]]]])
theorem z90(F:AJ "law" "law" wO)(Ap'):PY base Nc 11 f fd BDN (pN K (Yq c)):=
 jA F Gf (Sb yiw) fun cdv A outer s H E hr F0=>(AY Vf (Ap9 (yiq c hr iy aP)) yi6)
theorem yja(F:AJ "law" "law" wO)(hm:A5 "law")(Ap'):Co "law" 11 ["_law_script"] Yq:=
 AZt (Ap9 (z90 c F iy aP)) (fun _ _ _ _ _ _ us hl=>SW)
#where
theorem ygq{l:W.OpenLaw}{w:World}{K:W.Frag}{h:Heap}{mg:CD}{fa:Addr}(O:ANZ)(X:MH)(G:AIM h.Ns)(hfa:nX "law" fa):
 ∃fd:FuncData,(AQ4 v Value (BindsTo s fd (D7 [v]) [("_law_script",v)]))/\∀base:Heap,AfY ->Agx ->A5b base (gD l.prog w) 11 fa fd BDN (pN K W6):=by
 show Cn B L Prod.mk.inj O;show Cn L M Prod.mk.inj L;show Κ CP 0;show Κ wD 1;show Κ Ak 2;show Κ Vv 3;show Κ yd 4;show Κ Gg 5;show Κ Ja 6;show Κ CQ 7;show Κ Gh 8;show Κ Gi 9;show Κ Gj 10;show Κ Gk 11;show Κ Gn 12;show Κ Gp 13;show Κ Gq 14;show Κ Al 15;show Κ Am 16;show Κ Ao 17;show Κ Aq 18;show Κ Ar 19;show Κ Av 20;show Κ aK 21;show Κ aL 22;show Κ bA 23;show Κ bK 24;show Κ bQ 25;show Κ fU 26;show Κ bG 27;show Κ aJ 28;show Κ aM 29;show Κ Aw 30;show Κ yg 31;show Κ yh 32;show Κ yj 33;show Κ yq 34;show Κ yr 35;show Κ yt 36;show Κ yu 37;show Κ uI 38;show Κ uJ 39;show Κ uK 40;show Κ a7 41;show Κ n7 42;show Κ a35 43;show Κ n35 44;show Κ a36 45;show Κ n36 46;show Κ a40 47;show Κ n40 48;show Κ a44 49;show Κ n44 50;show Κ a50 51;show Κ n50 52;show Κ a51 53;show Κ n51 54;show Κ a52 55;show Κ n52 56;show Κ a56 57;show Κ n56 58;show Κ a57 59;show Κ n57 60;show Κ a42 61;show Κ a55 62;show Κ CT 63;show Κ wF 64;show Κ Ax 65;show Κ Vw 66;show Κ yw 67;show Κ Gs 68;show Κ Jb 69;show Κ Vx 70;show Κ Vy 71;show Κ Vz 72;show Κ VB 73;show Κ Jc 74;show Κ VD 75;show Κ M8 76;show Κ Gu 77;show Κ VF 78;show Κ VG 79;show Κ yx 80;show Κ VH 81;show Κ Ay 82;show Κ VJ 83
 let c:Cls:={jq:=lm "NoScale",fO:=lm "NoFraction",ju:=lm "NoAnswer",G4:=lm "Few",fG:=lm "HallError",qT:=lm "NoWork",Scale:=lm "Scale",ak:=lm "Sitting",fj:=lm "Barred"}
 have bL:AHo:=⟨Gi,Gj,Gk,Gn⟩;have au:ph:=⟨Al,Am,Ao,Aq⟩;show AGF jT "NoScale" c.jq c.jq CP CT;show AGF jQ "NoFraction" c.fO c.fO wD wF;show AGF mX "NoAnswer" c.ju c.ju Ak Ax;show AGF rZ "Few" c.G4 c.G4 Vv Vw;show AGF jy "HallError" c.fG c.fG yd yw;show AGF qM "NoWork" c.qT c.qT Gg Gs;have jV:qw K c.fj:=⟨Aw,⟨yg,yh,yj,yq,yr⟩,yt,yu⟩;have iZ:Ep K c.fG:=⟨uI,uJ,L3.isV_of uK⟩;show NW gj "range" Jb;show NW Bx "int" Vx;show NW aY "len" Vy;show NW FW "all" Vz;show NW ji "zip" VB;show NW qH "tuple" Jc;show NW vJ "any" VD;show NW cA "list" M8;show NW cD "sorted" Gu;show NW vL "set" VF;show NW um "abs" VG;show NW eV "enumerate" yx;show NW Gb "sum" VH;show NW kj "reversed" Ay;show NW Ge "max" VJ;show BD l0;show BC f0 fd0 a0 yC l0;show BD l1;show BC f1 fd1 a1 Az l1;show BD l2;show BC f2 fd2 a2 wG l2;show BD l3;show BC f3 fd3 a3 Ba l3;show BD l4;show BC f4 fd4 a4 Jd l4;show BD l5;show BC f5 fd5 a5 Gv l5;show BD l6;show BC f6 fd6 a6 Bb l6;show BD l8;show BC f8 fd8 a8 M9 l8;show BD l9;show BC f9 fd9 a9 Gw l9;show BD l10;show BC f10 adY a10 CV l10;show BD l11;show BC f11 adZ a11 Gx l11;show BD l12;show BC f12 ad0 a12 CW l12;show BD l13;show BC f13 ad1 a13 yD l13;show BD l14;show BC f14 ad2 a14 CZ l14;show BD l15;show BC f15 ad3 a15 Dc l15;show BD l16;show BC f16 ad4 a16 Bc l16;show BD l17;show BC f17 ad5 a17 yE l17;show BD l18;show BC f18 ad6 a18 VL l18;show BD l19;show BC f19 ad7 a19 Gy l19;show BD l20;show BC f20 ad8 a20 uZ l20;show BD l21;show BC f21 ad9 a21 yF l21;show BD l22;show BC f22 aea a22 Dd l22;show BD l23;show BC f23 aeb a23 Nf l23;show BD l24;show BC f24 aec a24 Je l24;show BD l25;show BC f25 aed a25 Jf l25;show BD l26;show BC f26 aee a26 Gz l26;show BD l27;show BC f27 aef a27 Jg l27;show BD l28;show BC f28 aeg a28 yG l28;show BD l29;show BC f29 aeh a29 GC l29;show BD l30;show BC f30 aei a30 rK l30;show BD l31;show BC f31 aej a31 Bf l31;show BD l32;show BC f32 aek a32 Jh l32;show BD l33;show BC f33 ael a33 Ng l33;show BD l34;show BC f34 aem a34 Df l34;show BD l37;show BC f37 aen a37 uL l37;show BD l38;show BC f38 aeo a38 Nh l38;show BD l41;show BC f41 aep a41 GD l41;show BD l43;show BC f43 aer a43 Ji l43;show BD l45;show BC f45 aes a45 u6 l45;show BD l46;show BC f46 aeu a46 Ni l46;show BD l47;show BC f47 aev a47 uM l47;show BD l48;show BC f48 aew a48 sZ l48;show BD l49;show BC f49 aex a49 Nj l49;show BD l53;show BC f53 aey a53 u9 l53;show BD l54;show BC f54 aez a54 wH l54;show BD l58;show BC f58 abM a58 Kr l58;show SY l7;show UP fd7 rM l7;show SY l35;show UP aeA oO l35;show SY l36;show UP aeB lJ l36;show SY l39;obtain⟨f39,_,_,_,_,_,a39,Jj,abN⟩:=Hd.funM_at l39;show SY l40;show UP aeC kJ l40;show SY l42;show UP aeD qN l42;show SY l44;show UP aeE qO l44;show SY l50;show UP aeF qb l50;show SY l51;show UP aeG jM l51;show SY l52;show UP aeH oR l52;show SY l55;show UP aeI tu l55;show SY l56;show UP aeJ nC l56;show SY l57;show UP aeK nD l57;have e:=hfa.symm.trans (mt a58);cases e;show DB abM (Hd.start_binds Kr (fun _ _ _ _ _ _ _=>rfl)) (ψ base kb nb);have lF:=ŝ zth yC a0 gj Bx;have bJ:=Ch zv3 Az a1 aY;show AGC mW zrf wG a2;have iy:=Ch zvf Ba a3 lF bJ mW gj aY;show AGC eU z6y Jd a4;have ud:=Ch z1m Gv a5 eU;have j6:=Ch zuh Bb a6 ud FW aY ji;have aP:=AOZ zk1 c rM ⟨Gp,AHI a7,n7,Gq⟩ (mt (AAi Ja)) j6 qH jT bL aK;have wz:=Ch yc7 M9 a8 vJ;have ug:=Ch z52 Gw a9 wz cA cD vL;show AGC dH zy7 CV a10;have uF:=Ch z5e Gx a11 ug dH cD cA;have jU:=Ch zzj CW a12 um;have oH:=Ch zt8 yD a13 jU;have rF:=Ch z0a CZ a14 ji;have rG:=ŝ zz9 Dc a15 rF eV;have bC:=ŝ zv2 Bc a16 jU jQ;have oG:=Ch zub yE a17 cA;have Ga:=Ch yf9 VL a18 oG gj aY mX;have uz:=Ch z5l Gy a19 oH rG bC Ga gj aY ji eV;show AGC cj zov uZ a20;show AGC iB zsg yF a21;have mD:=ŝ zzs Dd a22 iB vJ;have mY:=Ch ydn Nf a23 bC;have jR:=ŝ z6n Je a24 mD mY;have wA:=Ch z8m Jf a25 cj jR mY aY;have uD:=Ch z2c Gz a26 wA;have iY:=Ch z7e Jg a27 bC;have oK:=Ch ztj yG a28 bC Gb aY;have uE:=Ch z0z GC a29 jR iY oK cj
 have jm:=Ch zkz rK a30 uz uD uE cj aY;have iw:=Ch zuz Bf a31 uF jm dH cA ji;have wB:=Ch z57 Jh a32 bC;have rH:=Ch ybl Ng a33 bC;have rJ:=Ch zzi Df a34 wB mY iY rH;have j8:=AEy zml oO a35 n35 oO.kp eU rJ ji bL aK;have aO:=AOZ zjp c lJ ⟨AHI a36,n36,lJ.kp⟩ au aL;show AGC dO zm9 uL a37;have pY:=Ch ycd Nh a38 rH jR aY;have wC:=ũ z7a c Jj abN (mt a39) dO pY aY rZ;have bU:=AEy zid kJ a40 n40 kJ.kp j8 iY aO wC bL au bA bK bQ;have uH:=ŝ z11 GD a41 eU aY;have cF:=Ch zjs qN (AAi a42) uH;have jr:=Ch z61 Ji a43 mD;have jc:=ũ zjk c qO ⟨AHI a44,n44⟩ (mt (AAi Gh)) jV iZ jr cA jy fU;have lU:=ŝ zow u6 a45 eU aY;have Aj:=Ch ydu Ni a46 lU cD vL;have kE:=Ch zmp uM a47 jr cA kj;have jC:=Ch zls sZ a48 kE iB ji Ge;have pZ:=Ch yep Nj a49 jc Aj jr jC aY;have bV:=AOZ zic c qb ⟨Ar,AHI a50,n50,Av⟩ (mt (AAi CQ)) aP iw dH bU cF pZ cD cA au bL bK bQ bA aL bG aJ aM aK;have gP:=AEy zhu jM a51 n51 jM.kp qM au aJ;have aR:=AEy zm4 oR a52 n52 oR.kp gP au aJ;have lV:=Ch zoy u9 a53 um;have fQ:=Ch zsa wH a54 aO aR lV au;have jD:=Ch zln tu (AAi a55) eU eV aY;have jE:=AEy zlk nC a56 n56 nC.kp jD aR au aM;have c7:=AEy zlm nD a57 n57 nD.kp aR jE cD au aJ;exact Ap9 (ũ z90 c Kr iy aP)
theorem hd_wit:lw.row.toRowW.promised:=by w_witness2
theorem hd_w:W.WalkO vw loose BDv (fun w h=>∃K:W.Frag,MH/\ANZ) lw.row.toRowW (Hd.recOf wO) [] (fun f vs=>PySem.call f vs):=
 Hd.walk_ex (n:=63) (k:=11) (x:= "_law_script") (CX:=DF (gD lw.prog w)) (sp:=fun K=>pN K W6) (Fx:=fun w K=>ANZ) rfl χ hd_z ⟨rfl,AB,AB⟩ (AkT) (fun w K mg fa h O X G hm=>ygq O X G (hd_n ▸ hm)) (fun K H a ns hl hO hS=>z4s hl hS) (AiY z (z9d z))
#print Lw
end
theorem PySem.Challenge.cw_hall_k92_whole_mean_is_even_holds : PySem.Challenge.rw_hall_k92_whole_mean_is_even.Holds :=
 Hd.holds Lw.hd_said (Hd.left Lw.hd_e Lw.hd_f Lw.hd_A Lw.hd_B Lw.hd_C Lw.hd_D) Lw.hd_d Lw.hd_p Lw.hd_k Lw.hd_ok Lw.hd_bare Lw.hd_wit rfl Lw.hd_w
